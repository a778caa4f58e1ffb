/-
  Texts laid together: TaskPlain RunTellP RunSaid TaskRefDo TaskRefLease TaskLease RunLease RunRefLease RunCancel RunCancelBad RunRefCancel.
-/
import Derived.Test.YtdpljpjbomhccaaRtF
import Derived.Maps.RangeWalk
namespace Go.Proofs.Ytdpljpjbomhccaa.Plain
open Go.RowKit
set_option linter.unusedVariables false
def leaseE (s : StP) (now k : Int) : Int := if 1 ≤ k ∧ k ≤ 1099511627776 then (if s.i = 1 ∧ s.d ≤ untF now [] then 0 else 192) else 1
def leaseT (le : Int) (s : StP) (now k : Int) : StP := if leaseE s now k = 0 then ⟨2, wrap64 (s.t + 1), untF now [le], k, s.r⟩ else zeroT
end Go.Proofs.Ytdpljpjbomhccaa.Plain
namespace Go.Proofs.Ytdpljpjbomhccaa
open Go.RowKit Plain
set_option linter.unusedVariables false
def dueAt (ss : List StP) (u : Int) : Option Nat := ss.findIdx? fun s => decide (s.i = 1 ∧ s.d ≤ u)
theorem idx_none {α : Type} {p : α → Bool} {l : List α} (h : l.findIdx? p = none) {i : Nat} {s : α} (hs : l[i]? = some s) : p s = false := by
 rw [List.findIdx?_eq_none_iff] at h
 exact h s (List.mem_of_getElem? hs)
theorem held_none {ss : List StP} {k : Int} (h : heldAt ss k = none) {i : Nat} {s : StP} (hs : ss[i]? = some s) (h2 : s.i = 2) : s.k ≠ k := fun e => by
 have := idx_none h hs
 rw [decide_eq_true ⟨h2, e⟩] at this
 cases this
def leaseRE (zs : List StP) (now k : Int) : Int := if (1 ≤ k ∧ k ≤ 1099511627776) ∧ heldAt zs k = none then (if dueAt zs (untF now []) = none then 192 else 0) else 1
def leaseRP (zs : List StP) (now k : Int) : Int := if leaseRE zs now k = 0 then ((dueAt zs (untF now [])).getD 0 : Nat) else 0
def leaseAt (ts : List TaskP) (zs : List StP) (now k : Int) (i : Nat) : List StP :=
 match zs[i]?, ts[i]? with
 | some s, some t => zs.set i (leaseT t.lease s now k)
 | _, _ => zs
def leaseRZ (ts : List TaskP) (zs : List StP) (now k : Int) : List StP := match dueAt zs (untF now []) with | none => zs | some i => leaseAt ts zs now k i
def LeaseU (w : World) (E p : Int) (ky nm : ByteArray) (is : Int) (fs : List TaskP) (zs : List StP) (e : Ending) (w' : World) : Prop :=
 ∃ xk xn xa xm xc xi xs xq xsc xt xz, e = .returned (.tuple #[.agg #[.string xk, .string xn, .slice xa xm xc, .int .i64 xi, .slice xs xq xsc], .int .i64 p, .int .i64 E]) ∧ XR w' xa xm xc xs xq xsc xt xz ∧
  (E = 0 → ky = xk ∧ nm = xn ∧ is = xi ∧ plainT xt = fs ∧ zs = xz) ∧
  (E ≠ 0 → ⟨#[]⟩ = xk ∧ ⟨#[]⟩ = xn ∧ none = xa ∧ 0 = xm ∧ 0 = xc ∧ 0 = xi ∧ none = xs ∧ 0 = xq ∧ 0 = xsc ∧ [] = xt ∧ [] = xz) ∧ Below w.heap.size w w'
theorem leaseU_zero {w w' : World} {E : Int} (hE : E ≠ 0) {ky nm : ByteArray} {is : Int} {fs : List TaskP} {zs : List StP} {e : Ending} (h : e = .returned (.tuple #[.agg #[.string ⟨#[]⟩, .string ⟨#[]⟩, .slice none 0 0, .int .i64 0, .slice none 0 0], .int .i64 0, .int .i64 E]) ∧ Below w.heap.size w w') : LeaseU w E 0 ky nm is fs zs e w' :=
 ⟨_, _, _, _, _, _, _, _, _, [], [], h.1, ⟨isT_nil _ _ _ (Nat.zero_le _), rfl, isZ_nil _ _ _ (Nat.zero_le _), rfl⟩, fun e => absurd e hE, fun _ => ⟨rfl, rfl, rfl, rfl, rfl, rfl, rfl, rfl, rfl, rfl, rfl⟩, h.2⟩
theorem LeaseU.said {w w' : World} {E p : Int} {ky nm : ByteArray} {is : Int} {fs : List TaskP} {zs : List StP} {e : Ending} (h : LeaseU w E p ky nm is fs zs e w') : ∃ xk xn xa xm xc xi xz xq xl, e = .returned (.tuple #[.agg #[.string xk, .string xn, .slice xa xm xc, .int .i64 xi, .slice xz xq xl], .int .i64 p, .int .i64 E]) ∧ Said w' E ky nm is fs zs xk xn xa xm xc xi xz xq xl ∧ Below w.heap.size w w' := by
 obtain ⟨xk, xn, xa, xm, xc, xi, xs, xq, xsc, xt, xz, h1, h2, h3, h4, h5⟩ := h
 exact ⟨_, _, _, _, _, _, _, _, _, h1, ⟨xt, xz, h2, h3, h4⟩, h5⟩
theorem refUntD_any (now x : Int) (W : World) (z : Nat) (hz : z = W.heap.size) (hnow : now ≤ 9223372036854775807) :
  Calls Try.prog 88 #[.int .i64 now, .slice (some ⟨z, 0, none⟩) 1 1] (W.alloc (.cells #[.int .i64 x] 3)).drew fun e w' => e = .returned (.int .i64 (untF now [x])) ∧ (W.alloc (.cells #[.int .i64 x] 3)).drew = w' :=
 refUntZ_any now x W.drew z hz hnow
set_option maxRecDepth 20000 in
set_option maxHeartbeats 2000000 in
theorem refLeaseT_any (ta : Option Addr) (tl tc : Nat) (tr wt le : Int) (i t d k : Int) (r : ByteArray) (now x : Int) (w : World) (hnow : now ≤ 9223372036854775807) :
  Calls Try.prog 54 #[.agg #[.slice ta tl tc, .int .i64 tr, .int .i64 wt, .int .i64 le], .agg #[.int .i64 i, .int .i64 t, .int .i64 d, .int .i64 k, .string r], .int .i64 now, .int .i64 x] w fun e w' => e = .returned (.tuple #[vT (leaseT le ⟨i, t, d, k, r⟩ now x), .int .i64 (leaseE ⟨i, t, d, k, r⟩ now x)]) ∧ Below w.heap.size w w' := by
 have c2 := fun W => refTime_any now W hnow
 have q0 := (box_second w i t d k r ta tl tc tr wt le).1 0 _ rfl
 have q2 := (box_second w i t d k r ta tl tc tr wt le).1 2 _ rfl
 by_cases hx : 1 ≤ x ∧ x ≤ 1099511627776
 ·
  obtain ⟨hx0, hx1⟩ := id hx
  by_cases h : i = 1
  ·
   subst h
   have cU := fun W z hz => refUntD_any now le W z hz hnow
   by_cases ho : d ≤ untF now []
   ·
    have e0 : leaseE ⟨1, t, d, k, r⟩ now x = 0 := by unfold leaseE; rw [if_pos hx, if_pos ⟨rfl, ho⟩]
    rw [show leaseT le ⟨1, t, d, k, r⟩ now x = ⟨2, wrap64 (t + 1), untF now [le], x, r⟩ from if_pos e0, e0]
    generalize untF now [le] = u at *
    generalize untF now [] = n0 at *
    have ho' : (n0 < d) = False := eq_false (by omega)
    clear ho e0 hx
    go_enter Try.func54, Try.ntmps54
    go_wp2
    go_region_held3 (fun V => V.cell? ⟨w.heap.size + 1, 0, none⟩ = some (.int .i64 1) ∧ V.cell? ⟨w.heap.size + 1, 2, none⟩ = some (.int .i64 d)) (exact ⟨q0, q2⟩) (first
     | (go_at_call 53; refine (c2 _).mono ?_; rintro e w' ⟨rfl, rfl⟩))
    go_wp2_with (first
     | (go_at_call 88; refine (cU _ _ (by simp)).mono ?_; rintro e w' ⟨rfl, rfl⟩))
    exact bodyPost_ret (v := .tuple #[.agg #[.int .i64 2, .int .i64 (wrap64 (t + 1)), .int .i64 u, .int .i64 x, .string r], .int .i64 0]) (by simp [results, Try.results54, go_sem]) rfl ⟨rfl, (bel4 _ _ _ _ _).drew⟩
   ·
    have e0 : leaseE ⟨1, t, d, k, r⟩ now x = 192 := by unfold leaseE; rw [if_pos hx, if_neg (fun hh => ho hh.2)]
    rw [show leaseT le ⟨1, t, d, k, r⟩ now x = zeroT from if_neg (by rw [e0]; decide), e0]
    generalize untF now [] = n0 at *
    have ho' : (n0 < d) = True := eq_true (by omega)
    clear ho e0 hx cU
    go_enter Try.func54, Try.ntmps54
    go_wp2
    go_region_held3 (fun V => V.cell? ⟨w.heap.size + 1, 0, none⟩ = some (.int .i64 1) ∧ V.cell? ⟨w.heap.size + 1, 2, none⟩ = some (.int .i64 d)) (exact ⟨q0, q2⟩) (first
     | (go_at_call 53; refine (c2 _).mono ?_; rintro e w' ⟨rfl, rfl⟩))
    go_wp2
    exact bodyPost_ret (v := .tuple #[.agg #[.int .i64 0, .int .i64 0, .int .i64 0, .int .i64 0, .string ⟨#[]⟩], .int .i64 192]) (by simp [results, Try.results54, go_sem]) rfl ⟨rfl, (bel3 _ _ _ _).drew⟩
  ·
   have e0 : leaseE ⟨i, t, d, k, r⟩ now x = 192 := by unfold leaseE; rw [if_pos hx, if_neg (fun hh => h hh.1)]
   rw [show leaseT le ⟨i, t, d, k, r⟩ now x = zeroT from if_neg (by rw [e0]; decide), e0]
   have h' : (i != 1) = true := by simpa using h
   clear e0 hx
   go_enter Try.func54, Try.ntmps54
   go_wp2
   go_region
   go_wp2
   exact bodyPost_ret (v := .tuple #[.agg #[.int .i64 0, .int .i64 0, .int .i64 0, .int .i64 0, .string ⟨#[]⟩], .int .i64 192]) (by simp [results, Try.results54, go_sem]) rfl ⟨rfl, (bel3 _ _ _ _).drew⟩
 ·
  have e0 : leaseE ⟨i, t, d, k, r⟩ now x = 1 := if_neg hx
  rw [show leaseT le ⟨i, t, d, k, r⟩ now x = zeroT from if_neg (by rw [e0]; decide), e0]
  clear e0
  by_cases hx0 : x < 1
  ·
   clear hx
   go_enter Try.func54, Try.ntmps54
   go_wp2
   exact bodyPost_ret (v := .tuple #[.agg #[.int .i64 0, .int .i64 0, .int .i64 0, .int .i64 0, .string ⟨#[]⟩], .int .i64 1]) (by simp [results, Try.results54, go_sem]) rfl ⟨rfl, bel3 _ _ _ _⟩
  ·
   have hx1 : 1099511627776 < x := by omega
   clear hx
   go_enter Try.func54, Try.ntmps54
   go_wp2
   exact bodyPost_ret (v := .tuple #[.agg #[.int .i64 0, .int .i64 0, .int .i64 0, .int .i64 0, .string ⟨#[]⟩], .int .i64 1]) (by simp [results, Try.results54, go_sem]) rfl ⟨rfl, bel3 _ _ _ _⟩
theorem untD_any (now x : Int) (W : World) (z : Nat) (hz : z = W.heap.size) :
  Calls Try.prog 79 #[.int .i64 now, .slice (some ⟨z, 0, none⟩) 1 1] (W.alloc (.cells #[.int .i64 x] 3)).drew fun e w' => e = .returned (.int .i64 (untF now [x])) ∧ (W.alloc (.cells #[.int .i64 x] 3)).drew = w' :=
 untZ_any now x W.drew z hz
set_option maxRecDepth 20000 in
set_option maxHeartbeats 2000000 in
theorem leaseT_any (ta : Option Addr) (tl tc : Nat) (tr wt le : Int) (i t d k : Int) (r : ByteArray) (now x : Int) (w : World) :
  Calls Try.prog 51 #[.agg #[.slice ta tl tc, .int .i64 tr, .int .i64 wt, .int .i64 le], .agg #[.int .i64 i, .int .i64 t, .int .i64 d, .int .i64 k, .string r], .int .i64 now, .int .i64 x] w fun e w' => e = .returned (.tuple #[vT (leaseT le ⟨i, t, d, k, r⟩ now x), .int .i64 (leaseE ⟨i, t, d, k, r⟩ now x)]) ∧ Below w.heap.size w w' := by
 have c1 := isTokenT_any x
 by_cases hx : 1 ≤ x ∧ x ≤ 1099511627776
 ·
  rw [show tokB x = true from decide_eq_true hx] at c1
  by_cases h : i = 1
  ·
   subst h
   have c2 := isOverT_any 1 t d k r now
   have cU := fun W z hz => untD_any now le W z hz
   by_cases ho : d ≤ untF now []
   ·
    have e0 : leaseE ⟨1, t, d, k, r⟩ now x = 0 := by unfold leaseE; rw [if_pos hx, if_pos ⟨rfl, ho⟩]
    rw [show leaseT le ⟨1, t, d, k, r⟩ now x = ⟨2, wrap64 (t + 1), untF now [le], x, r⟩ from if_pos e0, e0]
    rw [decide_eq_true ho] at c2
    generalize untF now [le] = u at *
    clear ho e0
    go_enter Try.func51, Try.ntmps51
    go_wp2_with (first
     | (go_at_call 86; refine (c1 _).mono ?_; rintro e w' ⟨rfl, rfl⟩)
     | (go_at_call 80; refine (c2 _).mono ?_; rintro e w' ⟨rfl, rfl⟩)
     | (go_at_call 79; refine (cU _ _ (by simp)).mono ?_; rintro e w' ⟨rfl, rfl⟩))
    exact bodyPost_ret (v := .tuple #[.agg #[.int .i64 2, .int .i64 (wrap64 (t + 1)), .int .i64 u, .int .i64 x, .string r], .int .i64 0]) (by simp [results, Try.results51, go_sem]) rfl ⟨rfl, ((bel4 _ _ _ _ _).alloc (by simp; omega) _).drew⟩
   ·
    have e0 : leaseE ⟨1, t, d, k, r⟩ now x = 192 := by unfold leaseE; rw [if_pos hx, if_neg (fun hh => ho hh.2)]
    rw [show leaseT le ⟨1, t, d, k, r⟩ now x = zeroT from if_neg (by rw [e0]; decide), e0]
    rw [decide_eq_false ho] at c2
    clear ho e0
    go_enter Try.func51, Try.ntmps51
    go_wp2_with (first
     | (go_at_call 86; refine (c1 _).mono ?_; rintro e w' ⟨rfl, rfl⟩)
     | (go_at_call 80; refine (c2 _).mono ?_; rintro e w' ⟨rfl, rfl⟩)
     | (go_at_call 79; refine (cU _ _ (by simp)).mono ?_; rintro e w' ⟨rfl, rfl⟩))
    exact bodyPost_ret (v := .tuple #[.agg #[.int .i64 0, .int .i64 0, .int .i64 0, .int .i64 0, .string ⟨#[]⟩], .int .i64 192]) (by simp [results, Try.results51, go_sem]) rfl ⟨rfl, (bel4 _ _ _ _ _).drew⟩
  ·
   have e0 : leaseE ⟨i, t, d, k, r⟩ now x = 192 := by unfold leaseE; rw [if_pos hx, if_neg (fun hh => h hh.1)]
   rw [show leaseT le ⟨i, t, d, k, r⟩ now x = zeroT from if_neg (by rw [e0]; decide), e0]
   have h' : (i != 1) = true := by simpa using h
   clear e0
   go_enter Try.func51, Try.ntmps51
   go_wp2_with (first
    | (go_at_call 86; refine (c1 _).mono ?_; rintro e w' ⟨rfl, rfl⟩)
    | (go_at_call 80; refine (c2 _).mono ?_; rintro e w' ⟨rfl, rfl⟩)
    | (go_at_call 79; refine (cU _ _ (by simp)).mono ?_; rintro e w' ⟨rfl, rfl⟩))
   exact bodyPost_ret (v := .tuple #[.agg #[.int .i64 0, .int .i64 0, .int .i64 0, .int .i64 0, .string ⟨#[]⟩], .int .i64 192]) (by simp [results, Try.results51, go_sem]) rfl ⟨rfl, bel3 _ _ _ _⟩
 ·
  have e0 : leaseE ⟨i, t, d, k, r⟩ now x = 1 := if_neg hx
  rw [show tokB x = false from decide_eq_false hx] at c1
  rw [show leaseT le ⟨i, t, d, k, r⟩ now x = zeroT from if_neg (by rw [e0]; decide), e0]
  clear e0
  go_enter Try.func51, Try.ntmps51
  go_wp2_with (first
   | (go_at_call 86; refine (c1 _).mono ?_; rintro e w' ⟨rfl, rfl⟩)
   | (go_at_call 80; refine (c2 _).mono ?_; rintro e w' ⟨rfl, rfl⟩)
   | (go_at_call 79; refine (cU _ _ (by simp)).mono ?_; rintro e w' ⟨rfl, rfl⟩))
  exact bodyPost_ret (v := .tuple #[.agg #[.int .i64 0, .int .i64 0, .int .i64 0, .int .i64 0, .string ⟨#[]⟩], .int .i64 1]) (by simp [results, Try.results51, go_sem]) rfl ⟨rfl, bel3 _ _ _ _⟩
end Go.Proofs.Ytdpljpjbomhccaa
namespace Go.Proofs.Ytdpljpjbomhccaa
open Go.RowKit Go.Shelf Plain Anylast
set_option linter.unusedVariables false
attribute [local go_sem] Oper.semAt_some
theorem hideQI {F : Fence} {n : Nat} {P : Program} {c : Code} {Q : Exit → Act → World → Prop} {a : Act} {w : World} (h : ∀ Q' : Exit → Act → World → Prop, (∀ e a w, Q e a w → Q' e a w) → c.wpIn F n P Q' a w) : c.wpIn F n P Q a w := h Q fun _ _ _ q => q
def boxes6 (w : World) (ky nm : ByteArray) (ta : Option Addr) (tn tc : Nat) (is : Int) (sa : Option Addr) (n sc : Nat) (now k : Int) : World :=
 (((((w.alloc (.cells #[.string ky, .string nm, .slice ta tn tc, .int .i64 is, .slice sa n sc] 27)).alloc (.cells #[.int .i64 now] 3)).alloc (.cells #[.int .i64 k] 3)).alloc (.cells #[.string ⟨#[]⟩, .string ⟨#[]⟩, .slice none 0 0, .int .i64 0, .slice none 0 0] 27)).alloc (.cells #[.int .i64 0] 3)).alloc (.cells #[.int .i64 0] 29)
structure Boxes6 (W : World) (z0 z1 z2 z3 z4 z5 : Nat) (l : List Value) (now k : Int) : Prop where
 box : BoxL W z0 l
 now : BoxL W z1 [.int .i64 now]
 tok : BoxL W z2 [.int .i64 k]
 res : BoxL W z3 [.string ⟨#[]⟩, .string ⟨#[]⟩, .slice none 0 0, .int .i64 0, .slice none 0 0]
 at_ : BoxL W z4 [.int .i64 0]
 err : BoxL W z5 [.int .i64 0]
theorem Boxes6.below {W V : World} {z0 z1 z2 z3 z4 z5 : Nat} {l : List Value} {now k : Int} (h : Boxes6 W z0 z1 z2 z3 z4 z5 l now k) (hb : Below W.heap.size W V) : Boxes6 V z0 z1 z2 z3 z4 z5 l now k :=
 ⟨h.box.below hb, h.now.below hb, h.tok.below hb, h.res.below hb, h.at_.below hb, h.err.below hb⟩
theorem Boxes6.set {W V : World} {z0 z1 z2 z3 z4 z5 : Nat} {l l' : List Value} {now k : Int} (h : Boxes6 W z0 z1 z2 z3 z4 z5 l now k) (t : Turns (fun k => k = z0) W V) (b : BoxL V z0 l') (h1 : z1 ≠ z0) (h2 : z2 ≠ z0) (h3 : z3 ≠ z0) (h4 : z4 ≠ z0) (h5 : z5 ≠ z0) : Boxes6 V z0 z1 z2 z3 z4 z5 l' now k :=
 ⟨b, boxL_turns h.now t h1, boxL_turns h.tok t h2, boxL_turns h.res t h3, boxL_turns h.at_ t h4, boxL_turns h.err t h5⟩
theorem Boxes6.turns {P : Nat → Prop} {W V : World} {z0 z1 z2 z3 z4 z5 : Nat} {l : List Value} {now k : Int} (h : Boxes6 W z0 z1 z2 z3 z4 z5 l now k) (t : Turns P W V) (h0 : ¬ P z0) (h1 : ¬ P z1) (h2 : ¬ P z2) (h3 : ¬ P z3) (h4 : ¬ P z4) (h5 : ¬ P z5) : Boxes6 V z0 z1 z2 z3 z4 z5 l now k :=
 ⟨boxL_turns h.box t h0, boxL_turns h.now t h1, boxL_turns h.tok t h2, boxL_turns h.res t h3, boxL_turns h.at_ t h4, boxL_turns h.err t h5⟩
theorem boxes6_is (w : World) (ky nm : ByteArray) (ta : Option Addr) (tn tc : Nat) (is : Int) (sa : Option Addr) (n sc : Nat) (now k : Int) :
  Below w.heap.size w (boxes6 w ky nm ta tn tc is sa n sc now k) ∧ (boxes6 w ky nm ta tn tc is sa n sc now k).heap.size = w.heap.size + 6 ∧ Boxes6 (boxes6 w ky nm ta tn tc is sa n sc now k) w.heap.size (w.heap.size + 1) (w.heap.size + 1 + 1) (w.heap.size + 1 + 1 + 1) (w.heap.size + 1 + 1 + 1 + 1) (w.heap.size + 1 + 1 + 1 + 1 + 1) [.string ky, .string nm, .slice ta tn tc, .int .i64 is, .slice sa n sc] now k := by
 unfold boxes6
 refine ⟨((bel4 w _ _ _ _).alloc (by simp; omega) _).alloc (by simp; omega) _, by simp, ?_, ?_, ?_, ?_, ?_, ?_⟩
 ·
  exact (((((boxL_new w [.string ky, .string nm, .slice ta tn tc, .int .i64 is, .slice sa n sc] _ rfl).alloc _).alloc _).alloc _).alloc _).alloc _
 ·
  exact ((((boxL_new _ [.int .i64 now] _ (by simp)).alloc _).alloc _).alloc _).alloc _
 ·
  exact (((boxL_new _ [.int .i64 k] _ (by simp)).alloc _).alloc _).alloc _
 ·
  exact ((boxL_new _ [.string ⟨#[]⟩, .string ⟨#[]⟩, .slice none 0 0, .int .i64 0, .slice none 0 0] _ (by simp)).alloc _).alloc _
 ·
  exact (boxL_new _ [.int .i64 0] _ (by simp)).alloc _
 ·
  exact boxL_new _ [.int .i64 0] _ (by simp)
theorem fin3 {Z : World} {z3 z4 z5 : Nat} {u0 u1 u2 u3 u4 ua ue : Value} (b : BoxL Z z3 [u0, u1, u2, u3, u4]) (b4 : BoxL Z z4 [ua]) (b5 : BoxL Z z5 [ue]) (h34 : z3 ≠ z4) (h35 : z3 ≠ z5) (h45 : z4 ≠ z5) (v0 v1 v2 v3 v4 va ve : Value) :
  BoxL (((((((Z.setCell ⟨z3, 0, none⟩ (v0)).setCell ⟨z3, 1, none⟩ (v1)).setCell ⟨z3, 2, none⟩ (v2)).setCell ⟨z3, 3, none⟩ (v3)).setCell ⟨z3, 4, none⟩ (v4)).setCell ⟨z4, 0, none⟩ va).setCell ⟨z5, 0, none⟩ ve) z3 [v0, v1, v2, v3, v4] ∧
  BoxL (((((((Z.setCell ⟨z3, 0, none⟩ (v0)).setCell ⟨z3, 1, none⟩ (v1)).setCell ⟨z3, 2, none⟩ (v2)).setCell ⟨z3, 3, none⟩ (v3)).setCell ⟨z3, 4, none⟩ (v4)).setCell ⟨z4, 0, none⟩ va).setCell ⟨z5, 0, none⟩ ve) z4 [va] ∧
  BoxL (((((((Z.setCell ⟨z3, 0, none⟩ (v0)).setCell ⟨z3, 1, none⟩ (v1)).setCell ⟨z3, 2, none⟩ (v2)).setCell ⟨z3, 3, none⟩ (v3)).setCell ⟨z3, 4, none⟩ (v4)).setCell ⟨z4, 0, none⟩ va).setCell ⟨z5, 0, none⟩ ve) z5 [ve] ∧
  Turns (fun k => k = z3 ∨ k = z4 ∨ k = z5) Z (((((((Z.setCell ⟨z3, 0, none⟩ (v0)).setCell ⟨z3, 1, none⟩ (v1)).setCell ⟨z3, 2, none⟩ (v2)).setCell ⟨z3, 3, none⟩ (v3)).setCell ⟨z3, 4, none⟩ (v4)).setCell ⟨z4, 0, none⟩ va).setCell ⟨z5, 0, none⟩ ve) := by
 have t1 := turns_set5 Z z3 v0 v1 v2 v3 v4
 have c1 := boxL_set5 b v0 v1 v2 v3 v4
 have c4 := boxL_turns b4 t1 (show ¬ z4 = z3 from h34.symm)
 have c5 := boxL_turns b5 t1 (show ¬ z5 = z3 from h35.symm)
 refine ⟨(c1.off h34).off h35, (c4.set 0 va).off h45, (c5.off h45.symm).set 0 ve, ?_⟩
 exact ((t1.mono fun k hk => .inl hk).setCell (p := ⟨z4, 0, none⟩) (.inr (.inl rfl)) _).setCell (p := ⟨z5, 0, none⟩) (.inr (.inr rfl)) _
set_option maxRecDepth 20000 in
set_option maxHeartbeats 1000000 in
theorem leaseBad_any (ky nm : ByteArray) (ta : Option Addr) (tn tc : Nat) (is : Int) (sa : Option Addr) (n sc : Nat) (tv : List TaskV) (ss : List StP) (now k : Int) (w : World) (hky : ky.size ≤ maxLen) (hT : IsT w ta tc tv) (htn : tn = tv.length) (hZ : IsZ w sa sc ss) (hn : n = ss.length) (hno : runB ky nm (plainT tv) ss is = false) (js : Int) (zs : List StP) :
  Calls Try.prog 19 #[.agg #[.string ky, .string nm, .slice ta tn tc, .int .i64 is, .slice sa n sc], .int .i64 now, .int .i64 k] w fun e w' => LeaseU w 1 0 ky nm js (plainT tv) zs e w' := by
 obtain ⟨W0, hW0⟩ : ∃ W0, W0 = boxes6 w ky nm ta tn tc is sa n sc now k := ⟨_, rfl⟩
 obtain ⟨hB0, hs0, B0⟩ := boxes6_is w ky nm ta tn tc is sa n sc now k
 rw [← hW0] at hB0 hs0 B0
 unfold boxes6 at hW0
 have cS := settleBad_any ky nm ta tn tc is sa n sc tv ss now W0 hky (hT.below hB0) htn (hZ.below hB0) hn hno
 clear hT htn hZ hn hno
 refine (callsIn_wide (n := 3)).1 ?_
 refine callsIn_of_wp_marks Try.func19 rfl trivial ?_ rfl
 simp only [Try.ntmps19, List.size_toArray, List.length_cons, List.length_nil, Nat.reduceAdd, Nat.reduceSub, Array.replicate_succ, Array.replicate_zero, List.push_toArray, List.append_toArray, List.nil_append, List.cons_append]
 refine wpIn_seq_k (fun K hK => ?_); have HK : Shut _ := hK; clear hK; refine wpIn_wide.2 ?_
 go_wp2
 refine HK.out _ _ ?_; clear HK K
 rw [← hW0]
 clear hW0
 obtain ⟨z0, hz0⟩ : ∃ z, z = w.heap.size := ⟨_, rfl⟩
 obtain ⟨z1, hz1⟩ : ∃ z, z = z0 + 1 := ⟨_, rfl⟩
 obtain ⟨z2, hz2⟩ : ∃ z, z = z1 + 1 := ⟨_, rfl⟩
 obtain ⟨z3, hz3⟩ : ∃ z, z = z2 + 1 := ⟨_, rfl⟩
 obtain ⟨z4, hz4⟩ : ∃ z, z = z3 + 1 := ⟨_, rfl⟩
 obtain ⟨z5, hz5⟩ : ∃ z, z = z4 + 1 := ⟨_, rfl⟩
 rw [← hz0, ← hz1, ← hz2, ← hz3, ← hz4, ← hz5] at B0 ⊢
 have HZZ : Hid (z0 = w.heap.size ∧ z1 = z0 + 1 ∧ z2 = z1 + 1 ∧ z3 = z2 + 1 ∧ z4 = z3 + 1 ∧ z5 = z4 + 1) := ⟨hz0, hz1, hz2, hz3, hz4, hz5⟩
 clear hz0 hz1 hz2 hz3 hz4 hz5
 have f0 := B0.box.1 0 _ rfl; have f1 := B0.box.1 1 _ rfl; have f2 := B0.box.1 2 _ rfl; have f3 := B0.box.1 3 _ rfl; have f4 := B0.box.1 4 _ rfl
 have n0 := B0.now.1 0 _ rfl
 refine wpIn_seq_k (fun K hK => ?_); have HK : Shut _ := hK; clear hK; refine wpIn_wide.2 ?_
 go_wp2_with (go_at_call 14; refine cS.mono ?_; rintro e w1 ⟨rfl, hb⟩; have B1 := B0.below hb; have hB1 := Below.tr hB0 hb; have v0 := B1.box.1 0 _ rfl; have v1 := B1.box.1 1 _ rfl; have v2 := B1.box.1 2 _ rfl; have v3 := B1.box.1 3 _ rfl; have v4 := B1.box.1 4 _ rfl; have d0 := B1.box.2 0 (by simp); have d1 := B1.box.2 1 (by simp); have d2 := B1.box.2 2 (by simp); have d3 := B1.box.2 3 (by simp); have d4 := B1.box.2 4 (by simp))
 refine HK.out _ _ ?_; clear HK K
 obtain ⟨Z, hZ9⟩ : ∃ Z, Z = (((((w1.setCell ⟨z0, 0, none⟩ (.string ⟨#[]⟩)).setCell ⟨z0, 1, none⟩ (.string ⟨#[]⟩)).setCell ⟨z0, 2, none⟩ (.slice none 0 0)).setCell ⟨z0, 3, none⟩ (.int .i64 0)).setCell ⟨z0, 4, none⟩ (.slice none 0 0)) := ⟨_, rfl⟩
 have TZ : Turns (fun k => k = z0) w1 Z := by rw [hZ9]; exact turns_set5 _ _ _ _ _ _ _
 have bZ : BoxL Z z0 [.string ⟨#[]⟩, .string ⟨#[]⟩, .slice none 0 0, .int .i64 0, .slice none 0 0] := by rw [hZ9]; exact boxL_set5 B1.box _ _ _ _ _
 have BZ := by have := HZZ.out; exact B1.set TZ bZ (by omega) (by omega) (by omega) (by omega) (by omega)
 have hBZ := Below.turns hB1 TZ (fun k hk => by have := HZZ.out; omega)
 rw [← hZ9]
 clear f0 f1 f2 f3 f4 n0 v0 v1 v2 v3 v4 d0 d1 d2 d3 d4 hZ9 bZ
 have p0 := BZ.box.1 0 _ rfl; have p1 := BZ.box.1 1 _ rfl; have p2 := BZ.box.1 2 _ rfl; have p3 := BZ.box.1 3 _ rfl; have p4 := BZ.box.1 4 _ rfl
 have y0 := BZ.res.1 0 _ rfl; have y1 := BZ.res.1 1 _ rfl; have y2 := BZ.res.1 2 _ rfl; have y3 := BZ.res.1 3 _ rfl; have y4 := BZ.res.1 4 _ rfl
 have s0 := BZ.res.2 0 (by simp); have s1 := BZ.res.2 1 (by simp); have s2 := BZ.res.2 2 (by simp); have s3 := BZ.res.2 3 (by simp); have s4 := BZ.res.2 4 (by simp)
 have y5 := BZ.at_.1 0 _ rfl
 have y6 := BZ.err.1 0 _ rfl
 have s5 := BZ.at_.2 0 (by simp)
 have s6 := BZ.err.2 0 (by simp)
 have e1 : ¬ z3 = z4 := by have := HZZ.out; omega
 have e2 : ¬ z4 = z3 := by have := HZZ.out; omega
 have e3 : ¬ z3 = z5 := by have := HZZ.out; omega
 have e4 : ¬ z5 = z3 := by have := HZZ.out; omega
 have e5 : ¬ z4 = z5 := by have := HZZ.out; omega
 have e6 : ¬ z5 = z4 := by have := HZZ.out; omega
 refine wpIn_seq_k (fun K hK => ?_); have HK : Shut _ := hK; clear hK; refine wpIn_wide.2 ?_
 refine hideQ (fun Q9 hQ9 => ?_); have HQ9 : Shut _ := hQ9; clear hQ9
 go_wp2
 obtain ⟨Z2, hZ2⟩ : ∃ Z2, Z2 = ((((((Z.setCell ⟨z3, 0, none⟩ (.string ⟨#[]⟩)).setCell ⟨z3, 1, none⟩ (.string ⟨#[]⟩)).setCell ⟨z3, 2, none⟩ (.slice none 0 0)).setCell ⟨z3, 3, none⟩ (.int .i64 0)).setCell ⟨z3, 4, none⟩ (.slice none 0 0)).setCell ⟨z4, 0, none⟩ (.int .i64 0)).setCell ⟨z5, 0, none⟩ (.int .i64 1) := ⟨_, rfl⟩
 obtain ⟨b3, b4, b5, T2⟩ := fin3 BZ.res BZ.at_ BZ.err e1 e3 e5 (.string ⟨#[]⟩) (.string ⟨#[]⟩) (.slice none 0 0) (.int .i64 0) (.slice none 0 0) (.int .i64 0) (.int .i64 1)
 rw [← hZ2] at b3 b4 b5 T2
 rw [← hZ2]
 clear hZ2
 have hB2 := Below.turns hBZ T2 (fun k hk => by have := HZZ.out; omega)
 refine HQ9.out _ _ _ ?_
 have r0 := b3.1 0 _ rfl; have r1 := b3.1 1 _ rfl; have r2 := b3.1 2 _ rfl; have r3 := b3.1 3 _ rfl; have r4 := b3.1 4 _ rfl
 have r5 := b4.1 0 _ rfl
 have r6 := b5.1 0 _ rfl
 exact ⟨.tuple #[.agg #[.string ⟨#[]⟩, .string ⟨#[]⟩, .slice none 0 0, .int .i64 0, .slice none 0 0], .int .i64 0, .int .i64 1], by simp [results, Try.results19, go_sem, r0, r1, r2, r3, r4, r5, r6], leaseU_zero (by decide) ⟨rfl, hB2⟩⟩
set_option maxRecDepth 20000 in
set_option maxHeartbeats 1000000 in
theorem leaseArg_any (ky nm : ByteArray) (ta : Option Addr) (tn tc : Nat) (is : Int) (sa : Option Addr) (n sc : Nat) (tv : List TaskV) (ss : List StP) (now k : Int) (w : World) (hk : wfJ k) (hT : IsT w ta tc tv) (htn : tn = tv.length) (hZ : IsZ w sa sc ss) (hn : n = ss.length) (hOk : RunOk ky nm (plainT tv) ss is) (hE : ¬ ((1 ≤ k ∧ k ≤ 1099511627776) ∧ heldAt (settleS (plainT tv) (untF now []) (ss, is)).1 k = none)) (js : Int) (ys : List StP) :
  Calls Try.prog 19 #[.agg #[.string ky, .string nm, .slice ta tn tc, .int .i64 is, .slice sa n sc], .int .i64 now, .int .i64 k] w fun e w' => LeaseU w 1 0 ky nm js (plainT tv) ys e w' := by
 obtain ⟨W0, hW0⟩ : ∃ W0, W0 = boxes6 w ky nm ta tn tc is sa n sc now k := ⟨_, rfl⟩
 obtain ⟨hB0, hs0, B0⟩ := boxes6_is w ky nm ta tn tc is sa n sc now k
 rw [← hW0] at hB0 hs0 B0
 unfold boxes6 at hW0
 have cS := settle_any ky nm ta tn tc is sa n sc tv ss now W0 (hT.below hB0) htn (hZ.below hB0) hn hOk
 unfold SettledC at cS
 have hR9 := settle_right (tries_one hOk.dag) (u := untF now []) (x := (ss, is)) hOk.st
 generalize settleS (plainT tv) (untF now []) (ss, is) = SS at *
 obtain ⟨zs, zi⟩ := SS
 dsimp only at cS hR9 hE ⊢
 have HR : Hid (RightS (plainT tv) zs zi) := hR9
 have HE : Hid _ := hE
 clear hT htn hZ hn hOk hR9 hE
 refine (callsIn_wide (n := 3)).1 ?_
 refine callsIn_of_wp_marks Try.func19 rfl trivial ?_ rfl
 simp only [Try.ntmps19, List.size_toArray, List.length_cons, List.length_nil, Nat.reduceAdd, Nat.reduceSub, Array.replicate_succ, Array.replicate_zero, List.push_toArray, List.append_toArray, List.nil_append, List.cons_append]
 refine wpIn_seq_k (fun K hK => ?_); have HK : Shut _ := hK; clear hK; refine wpIn_wide.2 ?_
 go_wp2
 refine HK.out _ _ ?_; clear HK K
 rw [← hW0]
 clear hW0
 obtain ⟨z0, hz0⟩ : ∃ z, z = w.heap.size := ⟨_, rfl⟩
 obtain ⟨z1, hz1⟩ : ∃ z, z = z0 + 1 := ⟨_, rfl⟩
 obtain ⟨z2, hz2⟩ : ∃ z, z = z1 + 1 := ⟨_, rfl⟩
 obtain ⟨z3, hz3⟩ : ∃ z, z = z2 + 1 := ⟨_, rfl⟩
 obtain ⟨z4, hz4⟩ : ∃ z, z = z3 + 1 := ⟨_, rfl⟩
 obtain ⟨z5, hz5⟩ : ∃ z, z = z4 + 1 := ⟨_, rfl⟩
 rw [← hz0, ← hz1, ← hz2, ← hz3, ← hz4, ← hz5] at B0 ⊢
 have HZZ : Hid (z0 = w.heap.size ∧ z1 = z0 + 1 ∧ z2 = z1 + 1 ∧ z3 = z2 + 1 ∧ z4 = z3 + 1 ∧ z5 = z4 + 1) := ⟨hz0, hz1, hz2, hz3, hz4, hz5⟩
 clear hz0 hz1 hz2 hz3 hz4 hz5
 have f0 := B0.box.1 0 _ rfl; have f1 := B0.box.1 1 _ rfl; have f2 := B0.box.1 2 _ rfl; have f3 := B0.box.1 3 _ rfl; have f4 := B0.box.1 4 _ rfl
 have n0 := B0.now.1 0 _ rfl
 refine wpIn_seq_k (fun K hK => ?_); have HK : Shut _ := hK; clear hK; refine wpIn_wide.2 ?_
 go_wp2_with (go_at_call 14; refine cS.mono ?_; rintro e w1 ⟨g, h, m, cap, capS, tw, rfl, htw, hO, hb⟩; have B1 := B0.below hb; have hB1 := Below.tr hB0 hb; have HTW : Hid (plainT tw = plainT tv) := htw; clear htw; have v0 := B1.box.1 0 _ rfl; have v1 := B1.box.1 1 _ rfl; have v2 := B1.box.1 2 _ rfl; have v3 := B1.box.1 3 _ rfl; have v4 := B1.box.1 4 _ rfl; have d0 := B1.box.2 0 (by simp); have d1 := B1.box.2 1 (by simp); have d2 := B1.box.2 2 (by simp); have d3 := B1.box.2 3 (by simp); have d4 := B1.box.2 4 (by simp))
 refine HK.out _ _ ?_; clear HK K
 obtain ⟨Z, hZ9⟩ : ∃ Z, Z = (((((w1.setCell ⟨z0, 0, none⟩ (.string ky)).setCell ⟨z0, 1, none⟩ (.string nm)).setCell ⟨z0, 2, none⟩ (.slice (some ⟨g, 0, none⟩) m cap)).setCell ⟨z0, 3, none⟩ (.int .i64 zi)).setCell ⟨z0, 4, none⟩ (.slice (some ⟨h, 0, none⟩) m capS)) := ⟨_, rfl⟩
 have TZ : Turns (fun k => k = z0) w1 Z := by rw [hZ9]; exact turns_set5 _ _ _ _ _ _ _
 have bZ : BoxL Z z0 [.string ky, .string nm, .slice (some ⟨g, 0, none⟩) m cap, .int .i64 zi, .slice (some ⟨h, 0, none⟩) m capS] := by rw [hZ9]; exact boxL_set5 B1.box _ _ _ _ _
 have BZ := by have := HZZ.out; exact B1.set TZ bZ (by omega) (by omega) (by omega) (by omega) (by omega)
 have hBZ := Below.turns hB1 TZ (fun k hk => by have := HZZ.out; omega)
 rw [← hZ9]
 clear f0 f1 f2 f3 f4 n0 v0 v1 v2 v3 v4 d0 d1 d2 d3 d4 hZ9 bZ
 have OZ := hO.turns TZ (fun k hk => by have := HZZ.out; omega)
 have cT : ∀ V, Below Z.heap.size Z V → Calls Try.prog 49 #[.slice (some ⟨h, 0, none⟩) m capS] V fun e w' => ∃ b, e = .returned (.map (some b)) ∧ IsTok w' b (candL [2] zs) ∧ Below V.heap.size V w' := fun V hV => tokens_any _ _ _ zs V (OZ.row.isZ.below hV) OZ.hn fun s hs => by
  obtain ⟨i, hi⟩ := List.mem_iff_getElem?.1 hs
  obtain ⟨t, ht⟩ := HR.out.task hi
  have := (right_held (HR.out.each i s t hi ht).right).1
  exact wfJ_of (by omega)
 obtain ⟨D0, hD0⟩ : ∃ D, D = Z.drew := ⟨_, rfl⟩
 have hBD : Below Z.heap.size Z D0 := by rw [hD0]; exact (Below.refl _ _).drew
 have BD := BZ.below hBD
 have q4 := BD.box.1 4 _ rfl
 have q2 := BD.tok.1 0 _ rfl
 refine wpIn_seq_k (fun K hK => ?_); have HK : Shut _ := hK; clear hK; refine wpIn_wide.2 ?_
 go_wp2
 refine HK.out _ _ ?_; clear HK K
 refine wpIn_seq_k (fun K hK => ?_); have HK : Shut _ := hK; clear hK; refine wpIn_wide.2 ?_
 refine hideQ (fun Q9 hQ9 => ?_); have HQ9 : Shut _ := hQ9; clear hQ9
 refine wp_seq_k (fun K hK => ?_); have HK : Shut _ := hK; clear hK
 refine wp_region_noPanic ?_
 refine wp_region_held_drew (S := fun V => V.cell? ⟨z0, 4, none⟩ = some (.slice (some ⟨h, 0, none⟩) m capS) ∧ V.cell? ⟨z2, 0, none⟩ = some (.int .i64 k)) (by kernel_rfl) (by rw [← hD0]; exact ⟨q4, q2⟩) (fun hHeld => ?_)
 rw [← hD0] at hHeld ⊢
 clear hD0
 refine take_at (i := 0) (v := ?_) rfl (by kernel_rfl) (by kernel_rfl) (by kernel_rfl) (fun _ _ _ h => h) (Or.inl ⟨by rfl, ?_⟩) (by assumption) ?_
 rotate_left 1
 ·
  (intro w hSw; (try dsimp only at hSw); go_simp; (try with_reducible rfl))
 try go_frame
 refine take_at (i := 1) (v := ?_) rfl (by kernel_rfl) (by kernel_rfl) (by kernel_rfl) (fun _ _ _ h => h) (Or.inl ⟨by rfl, ?_⟩) (by assumption) ?_
 rotate_left 1
 ·
  (intro w hSw; (try dsimp only at hSw); go_simp; (try with_reducible rfl))
 try go_frame
 refine take_at (i := 3) (v := ?_) rfl (by kernel_rfl) (by kernel_rfl) (by kernel_rfl) (fun _ _ _ h => h) (Or.inl ⟨by rfl, ?_⟩) (by assumption) ?_
 rotate_left 1
 ·
  (intro w hSw; (try dsimp only at hSw); go_simp; (try with_reducible rfl))
 try go_frame
 refine wpAnyH_ready (rs := [2]) (by kernel_rfl) (by simp) ?_
 refine cons_at (i := 2) rfl (fun K hK => ?_) AllReadyH.nil
 go_simp
 (go_at_call 49; refine (cT _ hBD).mono ?_; rintro e w2 ⟨b, rfl, ht, hb2⟩; have B2 := BD.below hb2; have hBT := Below.tr hBD hb2; have hlook := ht.look (x := k) hk; rw [tokF_held (right_apart HR.out)] at hlook; obtain ⟨HA, hHA⟩ : ∃ a, a = heldAt zs k := ⟨_, rfl⟩; rw [← hHA] at hlook; have HHA : Hid (HA = heldAt zs k) := hHA; clear hHA ht; have q4 := B2.box.1 4 _ rfl; have q2 := B2.tok.1 0 _ rfl)
 refine hK.out _ _ ⟨q4, q2⟩ (fun hHeld => ?_)
 clear hK K
 refine wpAnyH_ready (rs := [4]) (by kernel_rfl) (by simp) ?_
 refine cons_at (i := 4) rfl (fun K hK => ?_) AllReadyH.nil
 go_simp
 refine hK.out _ _ ⟨q4, q2⟩ (fun hHeld => ?_)
 clear hK K
 refine take_at (i := 5) (v := ?_) rfl (by kernel_rfl) (by kernel_rfl) (by kernel_rfl) (fun _ _ _ h => h) (Or.inl ⟨by rfl, ?_⟩) (by assumption) ?_
 rotate_left 1
 ·
  (intro w hSw; (try dsimp only at hSw); go_simp; (try with_reducible rfl))
 try go_frame
 refine take_at (i := 6) (v := ?_) rfl (by kernel_rfl) (by kernel_rfl) (by kernel_rfl) (fun _ _ _ h => h) (Or.inl ⟨by rfl, ?_⟩) (by assumption) ?_
 rotate_left 1
 ·
  (intro w hSw; (try dsimp only at hSw); go_simp; (try with_reducible rfl))
 try go_frame
 refine take_at (i := 7) (v := ?_) rfl (by kernel_rfl) (by kernel_rfl) (by kernel_rfl) (fun _ _ _ h => h) (Or.inl ⟨by rfl, ?_⟩) (by assumption) ?_
 rotate_left 1
 ·
  (intro w hSw; (try dsimp only at hSw); go_simp; (try with_reducible rfl))
 try go_frame
 refine take_at (i := 8) (v := ?_) rfl (by kernel_rfl) (by kernel_rfl) (by kernel_rfl) (fun _ _ _ h => h) (Or.inl ⟨by rfl, ?_⟩) (by assumption) ?_
 rotate_left 1
 ·
  (intro w hSw; (try dsimp only at hSw); go_simp; (try with_reducible rfl))
 try go_frame
 refine take_at (i := 9) (v := ?_) rfl (by kernel_rfl) (by kernel_rfl) (by kernel_rfl) (fun _ _ _ h => h) (Or.inl ⟨by rfl, ?_⟩) (by assumption) ?_
 rotate_left 1
 ·
  (intro w hSw; (try dsimp only at hSw); go_simp; (try with_reducible rfl))
 try go_frame
 refine wpAnyH_done (by kernel_rfl) ?_ _
 refine NoPanic.normal ?_
 refine HK.out _ _ ?_; clear HK K
 clear hlook hHeld
 have BZ := B2
 have hBZ2 : Below w.heap.size w w2 := Below.tr hBZ hBT
 clear hBZ
 have hBZ := hBZ2
 have p0 := BZ.box.1 0 _ rfl; have p1 := BZ.box.1 1 _ rfl; have p2 := BZ.box.1 2 _ rfl; have p3 := BZ.box.1 3 _ rfl; have p4 := BZ.box.1 4 _ rfl
 have y0 := BZ.res.1 0 _ rfl; have y1 := BZ.res.1 1 _ rfl; have y2 := BZ.res.1 2 _ rfl; have y3 := BZ.res.1 3 _ rfl; have y4 := BZ.res.1 4 _ rfl
 have s0 := BZ.res.2 0 (by simp); have s1 := BZ.res.2 1 (by simp); have s2 := BZ.res.2 2 (by simp); have s3 := BZ.res.2 3 (by simp); have s4 := BZ.res.2 4 (by simp)
 have y5 := BZ.at_.1 0 _ rfl
 have y6 := BZ.err.1 0 _ rfl
 have s5 := BZ.at_.2 0 (by simp)
 have s6 := BZ.err.2 0 (by simp)
 have e1 : ¬ z3 = z4 := by have := HZZ.out; omega
 have e2 : ¬ z4 = z3 := by have := HZZ.out; omega
 have e3 : ¬ z3 = z5 := by have := HZZ.out; omega
 have e4 : ¬ z5 = z3 := by have := HZZ.out; omega
 have e5 : ¬ z4 = z5 := by have := HZZ.out; omega
 have e6 : ¬ z5 = z4 := by have := HZZ.out; omega
 cases HA with
 | some i =>
  clear HK
  go_wp2
  obtain ⟨Z2, hZ2⟩ : ∃ Z2, Z2 = ((((((w2.setCell ⟨z3, 0, none⟩ (.string ⟨#[]⟩)).setCell ⟨z3, 1, none⟩ (.string ⟨#[]⟩)).setCell ⟨z3, 2, none⟩ (.slice none 0 0)).setCell ⟨z3, 3, none⟩ (.int .i64 0)).setCell ⟨z3, 4, none⟩ (.slice none 0 0)).setCell ⟨z4, 0, none⟩ (.int .i64 0)).setCell ⟨z5, 0, none⟩ (.int .i64 1) := ⟨_, rfl⟩
  obtain ⟨b3, b4, b5, T2⟩ := fin3 BZ.res BZ.at_ BZ.err e1 e3 e5 (.string ⟨#[]⟩) (.string ⟨#[]⟩) (.slice none 0 0) (.int .i64 0) (.slice none 0 0) (.int .i64 0) (.int .i64 1)
  rw [← hZ2] at b3 b4 b5 T2
  rw [← hZ2]
  clear hZ2
  have hB2 := Below.turns hBZ T2 (fun k hk => by have := HZZ.out; omega)
  refine HQ9.out _ _ _ ?_
  have r0 := b3.1 0 _ rfl; have r1 := b3.1 1 _ rfl; have r2 := b3.1 2 _ rfl; have r3 := b3.1 3 _ rfl; have r4 := b3.1 4 _ rfl
  have r5 := b4.1 0 _ rfl
  have r6 := b5.1 0 _ rfl
  exact ⟨.tuple #[.agg #[.string ⟨#[]⟩, .string ⟨#[]⟩, .slice none 0 0, .int .i64 0, .slice none 0 0], .int .i64 0, .int .i64 1], by simp [results, Try.results19, go_sem, r0, r1, r2, r3, r4, r5, r6], leaseU_zero (by decide) ⟨rfl, hB2⟩⟩
 | none =>
  have hno := HE.out
  rw [← HHA.out] at hno
  by_cases h1 : k < 1
  ·
   clear HK
   go_wp2
   obtain ⟨Z2, hZ2⟩ : ∃ Z2, Z2 = ((((((w2.setCell ⟨z3, 0, none⟩ (.string ⟨#[]⟩)).setCell ⟨z3, 1, none⟩ (.string ⟨#[]⟩)).setCell ⟨z3, 2, none⟩ (.slice none 0 0)).setCell ⟨z3, 3, none⟩ (.int .i64 0)).setCell ⟨z3, 4, none⟩ (.slice none 0 0)).setCell ⟨z4, 0, none⟩ (.int .i64 0)).setCell ⟨z5, 0, none⟩ (.int .i64 1) := ⟨_, rfl⟩
   obtain ⟨b3, b4, b5, T2⟩ := fin3 BZ.res BZ.at_ BZ.err e1 e3 e5 (.string ⟨#[]⟩) (.string ⟨#[]⟩) (.slice none 0 0) (.int .i64 0) (.slice none 0 0) (.int .i64 0) (.int .i64 1)
   rw [← hZ2] at b3 b4 b5 T2
   rw [← hZ2]
   clear hZ2
   have hB2 := Below.turns hBZ T2 (fun k hk => by have := HZZ.out; omega)
   refine HQ9.out _ _ _ ?_
   have r0 := b3.1 0 _ rfl; have r1 := b3.1 1 _ rfl; have r2 := b3.1 2 _ rfl; have r3 := b3.1 3 _ rfl; have r4 := b3.1 4 _ rfl
   have r5 := b4.1 0 _ rfl
   have r6 := b5.1 0 _ rfl
   exact ⟨.tuple #[.agg #[.string ⟨#[]⟩, .string ⟨#[]⟩, .slice none 0 0, .int .i64 0, .slice none 0 0], .int .i64 0, .int .i64 1], by simp [results, Try.results19, go_sem, r0, r1, r2, r3, r4, r5, r6], leaseU_zero (by decide) ⟨rfl, hB2⟩⟩
  ·
   have h2 : 1099511627776 < k := by
    apply Classical.byContradiction
    intro h2
    exact hno ⟨by omega, rfl⟩
   clear HK hno
   go_wp2
   obtain ⟨Z2, hZ2⟩ : ∃ Z2, Z2 = ((((((w2.setCell ⟨z3, 0, none⟩ (.string ⟨#[]⟩)).setCell ⟨z3, 1, none⟩ (.string ⟨#[]⟩)).setCell ⟨z3, 2, none⟩ (.slice none 0 0)).setCell ⟨z3, 3, none⟩ (.int .i64 0)).setCell ⟨z3, 4, none⟩ (.slice none 0 0)).setCell ⟨z4, 0, none⟩ (.int .i64 0)).setCell ⟨z5, 0, none⟩ (.int .i64 1) := ⟨_, rfl⟩
   obtain ⟨b3, b4, b5, T2⟩ := fin3 BZ.res BZ.at_ BZ.err e1 e3 e5 (.string ⟨#[]⟩) (.string ⟨#[]⟩) (.slice none 0 0) (.int .i64 0) (.slice none 0 0) (.int .i64 0) (.int .i64 1)
   rw [← hZ2] at b3 b4 b5 T2
   rw [← hZ2]
   clear hZ2
   have hB2 := Below.turns hBZ T2 (fun k hk => by have := HZZ.out; omega)
   refine HQ9.out _ _ _ ?_
   have r0 := b3.1 0 _ rfl; have r1 := b3.1 1 _ rfl; have r2 := b3.1 2 _ rfl; have r3 := b3.1 3 _ rfl; have r4 := b3.1 4 _ rfl
   have r5 := b4.1 0 _ rfl
   have r6 := b5.1 0 _ rfl
   exact ⟨.tuple #[.agg #[.string ⟨#[]⟩, .string ⟨#[]⟩, .slice none 0 0, .int .i64 0, .slice none 0 0], .int .i64 0, .int .i64 1], by simp [results, Try.results19, go_sem, r0, r1, r2, r3, r4, r5, r6], leaseU_zero (by decide) ⟨rfl, hB2⟩⟩
theorem mem_candTo {ks : List Int} {ss : List StP} {j k : Nat} {v : StP} (hv : ss[j]? = some v) (h : v.i ∈ ks) (hj : j < k) : (j, v) ∈ candTo ks ss k := by
 unfold candTo
 rw [List.mem_map]
 exact ⟨j, List.mem_filter.2 ⟨List.mem_range.2 hj, by rw [hv]; simpa using h⟩, by rw [hv]; rfl⟩
theorem keeps_set5 (B : Nat) (V : World) (z : Nat) (p0 p1 p2 p3 p4 : Nat) (u0 u1 u2 u3 u4 : Value) : KeepsFrom B V (((((V.setCell ⟨z, p0, none⟩ u0).setCell ⟨z, p1, none⟩ u1).setCell ⟨z, p2, none⟩ u2).setCell ⟨z, p3, none⟩ u3).setCell ⟨z, p4, none⟩ u4) :=
 ((((keeps_set _ _ _ _).trans (keeps_set _ _ _ _)).trans (keeps_set _ _ _ _)).trans (keeps_set _ _ _ _)).trans (keeps_set _ _ _ _)
theorem range_states {n : Nat} {w : World} {g : Operand} {ps : Array Tmp} {assign body : Code} {Q : Exit → Act → World → Prop} {a : Act} {gf : Nat} {lb : Array Value} {C : List (Nat × StP)} {Good : List (Nat × StP) → World → Prop} (U : Act → Nat × StP → Nat → Act)
  (hg : a.eval g = .func (.func gf) #[] lb) (eg : ∀ args w, (callFunc gf args).run Try.prog w = .ok (.enter gf args) w) (hC : Hands (n - 1) gf lb encZ C Good w) (hps : ∀ x, (encZ x).size = ps.size)
  (I : List (Nat × StP) → World → Prop) (Ix : Code → List (Nat × StP) → World → Prop) (hI : OwnFrom w.heap.size I) (hIx : ∀ c, OwnFrom w.heap.size (Ix c)) (hG : ∀ pre V, I pre V → Good pre V) (h0 : I [] w)
  (hassign : ∀ (l : Nat) (pre : List (Nat × StP)) (x : Nat × StP) (V : World) (K : Act → World → Prop), I pre V → pre ++ [x] <+: C → (∀ a' V' bx, KeepsFrom w.heap.size V V' → I pre V' → w.heap.size ≤ bx → BoxL V' bx [.int .i64 x.2.i, .int .i64 x.2.t, .int .i64 x.2.d, .int .i64 x.2.k, .string x.2.r] → a' = U a x bx → K a' V') →
   assign.wpIn (Fence.wide.inRound l) (n - 1 - 1) Try.prog (Exit.then K (fun _ _ _ => False)) { tmps := (ps.zip (encZ x)).foldl (fun t (p, v) => t.setIfInBounds p v) a.tmps, defers := [] } V)
  (hbody : ∀ (l : Nat) (pre : List (Nat × StP)) (x : Nat × StP) (bx : Nat) (V : World), I pre V → w.heap.size ≤ bx → BoxL V bx [.int .i64 x.2.i, .int .i64 x.2.t, .int .i64 x.2.d, .int .i64 x.2.k, .string x.2.r] → pre ++ [x] <+: C → body.wpIn (Fence.wide.inRound l) (n - 1 - 1) Try.prog (ownPostG w.heap.size (fun _ _ => True) I Ix (pre ++ [x]) V) (U a x bx) V)
  (hdone : ∀ (D : Nat) (V : World), w.heap.size ≤ D → I C V → V.heap[D]? = some (.deferred (some [])) → Q .normal { a with defers := { target := .collected D, args := #[] } :: a.defers } V)
  (hstop : ∀ (D : Nat) (c : Code) (pre : List (Nat × StP)) (V : World), w.heap.size ≤ D → pre <+: C → Ix c pre V → V.heap[D]? = some (.deferred (some [])) → c.wpIn Fence.wide n Try.prog Q { a with defers := { target := .collected D, args := #[] } :: a.defers } V) :
  (Code.rangeFunc g ps assign body).wpIn Fence.wide n Try.prog Q a w :=
 range_known hg eg hC hps I Ix hI hIx hG h0 (fun x a' V => ∃ bx, w.heap.size ≤ bx ∧ BoxL V bx [.int .i64 x.2.i, .int .i64 x.2.t, .int .i64 x.2.d, .int .i64 x.2.k, .string x.2.r] ∧ a' = U a x bx)
  (fun x a' s V V' row hs hg hr => by
   obtain ⟨bx, h1, h2, h3⟩ := hs
   exact ⟨bx, h1, boxL_kept h2 hg (fun r e => (hr r e).2), h3⟩)
  (fun l pre x V K hi hp hK => hassign l pre x V K hi hp fun a' V' bx h1 h2 h3 h4 h5 => hK a' V' h1 h2 ⟨bx, h3, h4, h5⟩)
  (fun l pre x a' V hi hx hp => by
   obtain ⟨bx, h1, h2, rfl⟩ := hx
   exact hbody l pre x bx V hi h1 h2 hp)
  hdone hstop
theorem OwnRun.renew {P : Nat → Prop} {W V : World} {B g h n cap capS : Nat} {tv : List TaskV} {ss ss' : List StP} (r : OwnRun W B g h n cap capS tv ss) (t : Turns P W V) (hP : ∀ k, P k → k < B ∨ k = h ∨ W.heap.size ≤ k) (hR : RowZ V h 0 capS ss') (hl : ss'.length = ss.length) : OwnRun V B g h n cap capS tv ss' := by
 have hg := r.hg
 have hgh := r.hgh
 have hlt := r.row.lt
 refine ⟨r.hT.kept t (fun h0 x hx hp => ?_) (fun u hu h0 x hx hp => ?_), hR, r.deep, r.hgh, r.hg, r.htn, by rw [hl]; exact r.hn⟩
 ·
  cases hx; have := hP _ hp; simp only at this; omega
 ·
  have h1 := hP _ hp
  have h2 := r.deep u hu x hx
  have h3 := (r.hT.2.2.1 u hu).lies h0 x hx
  omega
def Fin1 (W1 V : World) (z3 z4 z5 h g m cap capS : Nat) (tw : List TaskV) (ky nm : ByteArray) (zi : Int) (zs : List StP) (now k : Int) : Prop :=
 ∃ ix : Nat, dueAt zs (untF now []) = some ix ∧ BoxL V z3 [.string ky, .string nm, .slice (some ⟨g, 0, none⟩) m cap, .int .i64 zi, .slice (some ⟨h, 0, none⟩) m capS] ∧ BoxL V z4 [.int .i64 ix] ∧ BoxL V z5 [.int .i64 0] ∧
  RowZ V h 0 capS (leaseAt (plainT tw) zs now k ix) ∧ Turns (fun k => k = z3 ∨ k = z4 ∨ k = z5 ∨ k = h ∨ W1.heap.size ≤ k) W1 V
theorem Fin1.grown {W1 V V' : World} {z3 z4 z5 h g m cap capS : Nat} {tw : List TaskV} {ky nm : ByteArray} {zi : Int} {zs : List StP} {now k : Int} (f : Fin1 W1 V z3 z4 z5 h g m cap capS tw ky nm zi zs now k) (t : Turns (fun k => W1.heap.size ≤ k) V V') (hz : z3 < W1.heap.size ∧ z4 < W1.heap.size ∧ z5 < W1.heap.size) (hB : h < W1.heap.size) : Fin1 W1 V' z3 z4 z5 h g m cap capS tw ky nm zi zs now k := by
 obtain ⟨ix, h1, b3, b4, b5, O, T⟩ := f
 refine ⟨ix, h1, boxL_turns b3 t (by omega), boxL_turns b4 t (by omega), boxL_turns b5 t (by omega), O.turns t (by omega), T.trans (t.mono fun k hk => .inr (.inr (.inr (.inr hk))))⟩
theorem round_held {P : Program} {ops : Array Oper} {Q : Exit → Act → World → Prop} {K : Act → World → Prop} {l n id : Nat} {a : Act} {w : World} (hm : P.follows .mixedOrders = true) (hc : calm ops = true) (S : World → Prop) (hS : S w.drew)
  (h : S w.drew → wpAnyH P .any ops (Exit.then K fun _ _ _ => False) S ops.size (Array.replicate ops.size false) a w.drew) : (Code.region id ops true).wpIn (Fence.wide.inRound l) n P (Exit.then K Q) a w :=
 wpIn_mono (region_round hm hc (by rintro ⟨_, _, h⟩; exact h) (wpAny_of_held _ _ _ _ (h hS))) fun e a w h => by cases e <;> first | exact h | exact h.elim
set_option maxRecDepth 20000 in
set_option maxHeartbeats 2000000 in
theorem leaseGo_any (ky nm : ByteArray) (ta : Option Addr) (tn tc : Nat) (is : Int) (sa : Option Addr) (n sc : Nat) (tv : List TaskV) (ss : List StP) (now k : Int) (w : World) (hk : wfJ k) (hT : IsT w ta tc tv) (htn : tn = tv.length) (hZ : IsZ w sa sc ss) (hn : n = ss.length) (hOk : RunOk ky nm (plainT tv) ss is) (hk1 : 1 ≤ k) (hk2 : k ≤ 1099511627776) (hE : heldAt (settleS (plainT tv) (untF now []) (ss, is)).1 k = none) :
  Calls Try.prog 19 #[.agg #[.string ky, .string nm, .slice ta tn tc, .int .i64 is, .slice sa n sc], .int .i64 now, .int .i64 k] w fun e w' => LeaseU w (leaseRE (settleS (plainT tv) (untF now []) (ss, is)).1 now k) (leaseRP (settleS (plainT tv) (untF now []) (ss, is)).1 now k) ky nm (settleS (plainT tv) (untF now []) (ss, is)).2 (plainT tv) (leaseRZ (plainT tv) (settleS (plainT tv) (untF now []) (ss, is)).1 now k) e w' := by
 obtain ⟨W0, hW0⟩ : ∃ W0, W0 = boxes6 w ky nm ta tn tc is sa n sc now k := ⟨_, rfl⟩
 obtain ⟨hB0, hs0, B0⟩ := boxes6_is w ky nm ta tn tc is sa n sc now k
 rw [← hW0] at hB0 hs0 B0
 unfold boxes6 at hW0
 have cS := settle_any ky nm ta tn tc is sa n sc tv ss now W0 (hT.below hB0) htn (hZ.below hB0) hn hOk
 unfold SettledC at cS
 have hR9 := settle_right (tries_one hOk.dag) (u := untF now []) (x := (ss, is)) hOk.st
 generalize settleS (plainT tv) (untF now []) (ss, is) = SS at *
 obtain ⟨zs, zi⟩ := SS
 dsimp only at cS hR9 hE ⊢
 have HR : Hid (RightS (plainT tv) zs zi) := hR9
 have HE : Hid _ := hE
 clear hT htn hZ hn hOk hR9 hE
 refine (callsIn_wide (n := 3)).1 ?_
 refine callsIn_of_wp_marks Try.func19 rfl trivial ?_ rfl
 simp only [Try.ntmps19, List.size_toArray, List.length_cons, List.length_nil, Nat.reduceAdd, Nat.reduceSub, Array.replicate_succ, Array.replicate_zero, List.push_toArray, List.append_toArray, List.nil_append, List.cons_append]
 refine wpIn_seq_k (fun K hK => ?_); have HK : Shut _ := hK; clear hK; refine wpIn_wide.2 ?_
 go_wp2
 refine HK.out _ _ ?_; clear HK K
 rw [← hW0]
 clear hW0
 obtain ⟨z0, hz0⟩ : ∃ z, z = w.heap.size := ⟨_, rfl⟩
 obtain ⟨z1, hz1⟩ : ∃ z, z = z0 + 1 := ⟨_, rfl⟩
 obtain ⟨z2, hz2⟩ : ∃ z, z = z1 + 1 := ⟨_, rfl⟩
 obtain ⟨z3, hz3⟩ : ∃ z, z = z2 + 1 := ⟨_, rfl⟩
 obtain ⟨z4, hz4⟩ : ∃ z, z = z3 + 1 := ⟨_, rfl⟩
 obtain ⟨z5, hz5⟩ : ∃ z, z = z4 + 1 := ⟨_, rfl⟩
 rw [← hz0, ← hz1, ← hz2, ← hz3, ← hz4, ← hz5] at B0 ⊢
 have HZZ : Hid (z0 = w.heap.size ∧ z1 = z0 + 1 ∧ z2 = z1 + 1 ∧ z3 = z2 + 1 ∧ z4 = z3 + 1 ∧ z5 = z4 + 1) := ⟨hz0, hz1, hz2, hz3, hz4, hz5⟩
 clear hz0 hz1 hz2 hz3 hz4 hz5
 have f0 := B0.box.1 0 _ rfl; have f1 := B0.box.1 1 _ rfl; have f2 := B0.box.1 2 _ rfl; have f3 := B0.box.1 3 _ rfl; have f4 := B0.box.1 4 _ rfl
 have n0 := B0.now.1 0 _ rfl
 refine wpIn_seq_k (fun K hK => ?_); have HK : Shut _ := hK; clear hK; refine wpIn_wide.2 ?_
 go_wp2_with (go_at_call 14; refine cS.mono ?_; rintro e w1 ⟨g, h, m, cap, capS, tw, rfl, htw, hO, hb⟩; have B1 := B0.below hb; have hB1 := Below.tr hB0 hb; have HTW : Hid (plainT tw = plainT tv) := htw; clear htw; have v0 := B1.box.1 0 _ rfl; have v1 := B1.box.1 1 _ rfl; have v2 := B1.box.1 2 _ rfl; have v3 := B1.box.1 3 _ rfl; have v4 := B1.box.1 4 _ rfl; have d0 := B1.box.2 0 (by simp); have d1 := B1.box.2 1 (by simp); have d2 := B1.box.2 2 (by simp); have d3 := B1.box.2 3 (by simp); have d4 := B1.box.2 4 (by simp))
 refine HK.out _ _ ?_; clear HK K
 obtain ⟨Z, hZ9⟩ : ∃ Z, Z = (((((w1.setCell ⟨z0, 0, none⟩ (.string ky)).setCell ⟨z0, 1, none⟩ (.string nm)).setCell ⟨z0, 2, none⟩ (.slice (some ⟨g, 0, none⟩) m cap)).setCell ⟨z0, 3, none⟩ (.int .i64 zi)).setCell ⟨z0, 4, none⟩ (.slice (some ⟨h, 0, none⟩) m capS)) := ⟨_, rfl⟩
 have TZ : Turns (fun k => k = z0) w1 Z := by rw [hZ9]; exact turns_set5 _ _ _ _ _ _ _
 have bZ : BoxL Z z0 [.string ky, .string nm, .slice (some ⟨g, 0, none⟩) m cap, .int .i64 zi, .slice (some ⟨h, 0, none⟩) m capS] := by rw [hZ9]; exact boxL_set5 B1.box _ _ _ _ _
 have BZ := by have := HZZ.out; exact B1.set TZ bZ (by omega) (by omega) (by omega) (by omega) (by omega)
 have hBZ := Below.turns hB1 TZ (fun k hk => by have := HZZ.out; omega)
 rw [← hZ9]
 clear f0 f1 f2 f3 f4 n0 v0 v1 v2 v3 v4 d0 d1 d2 d3 d4 hZ9 bZ
 have OZ := hO.turns TZ (fun k hk => by have := HZZ.out; omega)
 have cT : ∀ V, Below Z.heap.size Z V → Calls Try.prog 49 #[.slice (some ⟨h, 0, none⟩) m capS] V fun e w' => ∃ b, e = .returned (.map (some b)) ∧ IsTok w' b (candL [2] zs) ∧ Below V.heap.size V w' := fun V hV => tokens_any _ _ _ zs V (OZ.row.isZ.below hV) OZ.hn fun s hs => by
  obtain ⟨i, hi⟩ := List.mem_iff_getElem?.1 hs
  obtain ⟨t, ht⟩ := HR.out.task hi
  have := (right_held (HR.out.each i s t hi ht).right).1
  exact wfJ_of (by omega)
 obtain ⟨D0, hD0⟩ : ∃ D, D = Z.drew := ⟨_, rfl⟩
 have hBD : Below Z.heap.size Z D0 := by rw [hD0]; exact (Below.refl _ _).drew
 have BD := BZ.below hBD
 have q4 := BD.box.1 4 _ rfl
 have q2 := BD.tok.1 0 _ rfl
 refine wpIn_seq_k (fun K hK => ?_); have HK : Shut _ := hK; clear hK; refine wpIn_wide.2 ?_
 go_wp2
 refine HK.out _ _ ?_; clear HK K
 refine wpIn_seq_k (fun K hK => ?_); have HK : Shut _ := hK; clear hK; refine wpIn_wide.2 ?_
 refine hideQ (fun Q9 hQ9 => ?_); have HQ9 : Shut _ := hQ9; clear hQ9
 refine wp_seq_k (fun K hK => ?_); have HK : Shut _ := hK; clear hK
 refine wp_region_noPanic ?_
 refine wp_region_held_drew (S := fun V => V.cell? ⟨z0, 4, none⟩ = some (.slice (some ⟨h, 0, none⟩) m capS) ∧ V.cell? ⟨z2, 0, none⟩ = some (.int .i64 k)) (by kernel_rfl) (by rw [← hD0]; exact ⟨q4, q2⟩) (fun hHeld => ?_)
 rw [← hD0] at hHeld ⊢
 clear hD0
 refine take_at (i := 0) (v := ?_) rfl (by kernel_rfl) (by kernel_rfl) (by kernel_rfl) (fun _ _ _ h => h) (Or.inl ⟨by rfl, ?_⟩) (by assumption) ?_
 rotate_left 1
 ·
  (intro w hSw; (try dsimp only at hSw); go_simp; (try with_reducible rfl))
 try go_frame
 refine take_at (i := 1) (v := ?_) rfl (by kernel_rfl) (by kernel_rfl) (by kernel_rfl) (fun _ _ _ h => h) (Or.inl ⟨by rfl, ?_⟩) (by assumption) ?_
 rotate_left 1
 ·
  (intro w hSw; (try dsimp only at hSw); go_simp; (try with_reducible rfl))
 try go_frame
 refine take_at (i := 3) (v := ?_) rfl (by kernel_rfl) (by kernel_rfl) (by kernel_rfl) (fun _ _ _ h => h) (Or.inl ⟨by rfl, ?_⟩) (by assumption) ?_
 rotate_left 1
 ·
  (intro w hSw; (try dsimp only at hSw); go_simp; (try with_reducible rfl))
 try go_frame
 refine wpAnyH_ready (rs := [2]) (by kernel_rfl) (by simp) ?_
 refine cons_at (i := 2) rfl (fun K hK => ?_) AllReadyH.nil
 go_simp
 (go_at_call 49; refine (cT _ hBD).mono ?_; rintro e w2 ⟨b, rfl, ht, hb2⟩; have B2 := BD.below hb2; have hBT := Below.tr hBD hb2; have hlook := ht.look (x := k) hk; rw [tokF_held (right_apart HR.out)] at hlook; obtain ⟨HA, hHA⟩ : ∃ a, a = heldAt zs k := ⟨_, rfl⟩; rw [← hHA] at hlook; have HHA : Hid (HA = heldAt zs k) := hHA; clear hHA ht; have q4 := B2.box.1 4 _ rfl; have q2 := B2.tok.1 0 _ rfl)
 refine hK.out _ _ ⟨q4, q2⟩ (fun hHeld => ?_)
 clear hK K
 refine wpAnyH_ready (rs := [4]) (by kernel_rfl) (by simp) ?_
 refine cons_at (i := 4) rfl (fun K hK => ?_) AllReadyH.nil
 go_simp
 refine hK.out _ _ ⟨q4, q2⟩ (fun hHeld => ?_)
 clear hK K
 refine take_at (i := 5) (v := ?_) rfl (by kernel_rfl) (by kernel_rfl) (by kernel_rfl) (fun _ _ _ h => h) (Or.inl ⟨by rfl, ?_⟩) (by assumption) ?_
 rotate_left 1
 ·
  (intro w hSw; (try dsimp only at hSw); go_simp; (try with_reducible rfl))
 try go_frame
 refine take_at (i := 6) (v := ?_) rfl (by kernel_rfl) (by kernel_rfl) (by kernel_rfl) (fun _ _ _ h => h) (Or.inl ⟨by rfl, ?_⟩) (by assumption) ?_
 rotate_left 1
 ·
  (intro w hSw; (try dsimp only at hSw); go_simp; (try with_reducible rfl))
 try go_frame
 refine take_at (i := 7) (v := ?_) rfl (by kernel_rfl) (by kernel_rfl) (by kernel_rfl) (fun _ _ _ h => h) (Or.inl ⟨by rfl, ?_⟩) (by assumption) ?_
 rotate_left 1
 ·
  (intro w hSw; (try dsimp only at hSw); go_simp; (try with_reducible rfl))
 try go_frame
 refine take_at (i := 8) (v := ?_) rfl (by kernel_rfl) (by kernel_rfl) (by kernel_rfl) (fun _ _ _ h => h) (Or.inl ⟨by rfl, ?_⟩) (by assumption) ?_
 rotate_left 1
 ·
  (intro w hSw; (try dsimp only at hSw); go_simp; (try with_reducible rfl))
 try go_frame
 refine take_at (i := 9) (v := ?_) rfl (by kernel_rfl) (by kernel_rfl) (by kernel_rfl) (fun _ _ _ h => h) (Or.inl ⟨by rfl, ?_⟩) (by assumption) ?_
 rotate_left 1
 ·
  (intro w hSw; (try dsimp only at hSw); go_simp; (try with_reducible rfl))
 try go_frame
 refine wpAnyH_done (by kernel_rfl) ?_ _
 refine NoPanic.normal ?_
 refine HK.out _ _ ?_; clear HK K
 clear hlook hHeld
 obtain rfl : HA = none := by rw [HHA.out]; exact HE.out
 have h1 : ¬ k < 1 := by omega
 have h2 : ¬ (1099511627776 : Int) < k := by omega
 go_wp2
 refine HQ9.out _ _ _ (HK.out _ _ ?_)
 clear HQ9 HK K h1 h2
 obtain ⟨W1, hW1⟩ : ∃ W1, W1 = ((w2.alloc (.cells #[.int .i64 1] 3)).alloc (.cells #[.slice (some ⟨h, 0, none⟩) m capS] 25)).alloc (.cells #[.slice (some ⟨w2.heap.size, 0, none⟩) 1 1] 48) := ⟨_, rfl⟩
 have hBW : Below w2.heap.size w2 W1 := by rw [hW1]; exact bel3 w2 _ _ _
 have hs1 : W1.heap.size = w2.heap.size + 3 := by rw [hW1]; simp
 have B3 := B2.below hBW
 have O3 := (OZ.below hBT).below hBW
 have L : LoopT W1 (w2.heap.size + 1) (w2.heap.size + 1 + 1) (some ⟨h, 0, none⟩) m capS (some ⟨w2.heap.size, 0, none⟩) 1 1 [1] zs := by
  refine ⟨?_, ?_, ?_, O3.row.isZ, O3.hn⟩
  ·
   rw [hW1]; exact cell_alloc (World.cell?_alloc_at _ _ _ _ (by simp)) _
  ·
   rw [hW1]; exact World.cell?_alloc_at _ _ _ _ (by simp)
  ·
   rw [hW1]; exact (isI_one w2 1).below (bel2 _ _ _)
 have hH := those1_hands (3 - 1) (by omega) (w2.heap.size + 1) (w2.heap.size + 1 + 1) (some ⟨h, 0, none⟩) m capS (some ⟨w2.heap.size, 0, none⟩) 1 1 [1] zs O3.hn rfl W1
 have hB3 : Below w.heap.size w W1 := Below.tr (Below.tr hBZ hBT) hBW
 have hlt : w2.heap.size ≤ W1.heap.size := by omega
 have hB0z : w.heap.size ≤ W0.heap.size := hB0.size
 have HHH : Hid (W0.heap.size ≤ g ∧ g < h ∧ h < w2.heap.size ∧ z5 < W0.heap.size) := ⟨O3.hg, O3.hgh, by have := (OZ.below hBT).row.lt; omega, by have := HZZ.out; omega⟩
 clear B0 B1 BZ BD B2 hO OZ TZ cS cT hBD hBT hb hb2 hBW hB0 hB1 hBZ
 gi_wp2_with (refine ⟨trivial, ?_⟩; gi_at_call 50; refine (thoseR_any _ _ _ _ _ _ _ _).mono ?_; rintro e w3 ⟨rfl, rfl⟩)
 rw [← hW1]
 clear hW1 q2 q4
 refine range_states (fun a x bx => { tmps := (((a.tmps.setIfInBounds 48 (.int .i64 x.1)).setIfInBounds 49 (.agg #[.int .i64 x.2.i, .int .i64 x.2.t, .int .i64 x.2.d, .int .i64 x.2.k, .string x.2.r])).setIfInBounds 12 (.int .i64 x.1)).setIfInBounds 13 (.pointer (some ⟨bx, 0, none⟩)), defers := [] }) rfl (enters_of Try.func84 (by kernel_rfl) rfl) hH (fun _ => rfl)
  (fun pre V => Turns (fun k => W1.heap.size ≤ k) W1 V ∧ ∀ y ∈ pre, ¬ y.2.d ≤ untF now [])
  (fun c _ V => c = Code.ret ∧ Fin1 W1 V z3 z4 z5 h g m cap capS tw ky nm zi zs now k)
  (ownFrom_turns fun s V V' hh t => ⟨hh.1.trans t, hh.2⟩)
  (fun c => ownFrom_turns fun s V V' hh t => ⟨hh.1, hh.2.grown t (by have := HZZ.out; have := HHH.out; omega) (by have := HZZ.out; have := HHH.out; omega)⟩)
  (fun pre V hh => L.good hh.1 (by omega) (by omega) (fun _ x hx => by cases hx; show ¬ (W1.heap.size ≤ w2.heap.size); omega) (fun _ x hx => by cases hx; show ¬ (W1.heap.size ≤ h); have := HHH.out; omega) pre)
  ⟨Turns.refl _ _, fun y hy => by cases hy⟩ ?assign ?body ?done ?stop
 case assign =>
  rintro l pre x V K hi hpre hK
  dsimp only [encZ]
  obtain ⟨x1, i, t, d, kk, r⟩ := x
  dsimp only at *
  gi_wp2
  exact hK _ _ _ (keeps_below ((Below.refl _ _).alloc (Nat.le_refl _) _)) ⟨hi.1.alloc _, hi.2⟩ hi.1.size (boxL_new V _ _ rfl) rfl
 case body =>
  rintro l pre ⟨x1, si, st, sd, sk, sr⟩ bx V ⟨t, hpd⟩ h1 bX hpre
  dsimp only at *
  simp only [List.setIfInBounds_toArray, List.set_cons_zero, List.set_cons_succ]
  obtain ⟨hx1, hx2, hpe⟩ := cand_next hpre
  obtain rfl : si = 1 := by simpa using hx2
  have BV := B3.turns t (by have := HZZ.out; have := HHH.out; omega) (by have := HZZ.out; have := HHH.out; omega) (by have := HZZ.out; have := HHH.out; omega) (by have := HZZ.out; have := HHH.out; omega) (by have := HZZ.out; have := HHH.out; omega) (by have := HZZ.out; have := HHH.out; omega)
  have OV := O3.renew t (fun k hk => .inr (.inr hk)) (O3.row.turns t (by have := HHH.out; omega)) rfl
  have hil : x1 < zs.length := (List.getElem?_eq_some_iff.1 hx1).1
  obtain ⟨tt, htt⟩ : ∃ tt, tw[x1]? = some tt := ⟨_, List.getElem?_eq_getElem (by rw [← OV.htn, OV.hn]; exact hil)⟩
  have hin : x1 < m := by rw [OV.hn]; exact hil
  have hin' : (x1 : Int) < m := by omega
  obtain ⟨y0, y1, y2, y3, -⟩ := OV.hT.at htt
  rw [Nat.zero_add] at y0 y1 y2 y3
  obtain ⟨XX, hXX⟩ : ∃ XX, XX = leaseT tt.le ⟨1, st, sd, sk, sr⟩ now k := ⟨_, rfl⟩
  obtain ⟨EE, hEE⟩ : ∃ EE, EE = leaseE ⟨1, st, sd, sk, sr⟩ now k := ⟨_, rfl⟩
  have hXt : XX.r.size ≤ maxLen := by
   rw [hXX]; unfold leaseT; split
   ·
    have hsr := O3.row.isZ.text hx1
    exact hsr
   ·
    exact Nat.zero_le _
  have cL := fun W => leaseT_any tt.a tt.ns.length tt.c tt.tr tt.wt tt.le 1 st sd sk sr now k W
  rw [← hXX, ← hEE] at cL
  have hAt : leaseAt (plainT tw) zs now k x1 = zs.set x1 XX := by
   unfold leaseAt; rw [hx1, plainT_get htt, hXX]; rfl
  obtain ⟨xi, xt, xd, xk, xr⟩ := XX
  dsimp only [vT] at cL hXt
  have HX : Hid (EE = leaseE ⟨1, st, sd, sk, sr⟩ now k ∧ leaseAt (plainT tw) zs now k x1 = zs.set x1 ⟨xi, xt, xd, xk, xr⟩) := ⟨hEE, hAt⟩
  clear hXX hEE hAt
  obtain ⟨ta', hta⟩ : ∃ a, a = tt.a := ⟨_, rfl⟩
  obtain ⟨tl, htl⟩ : ∃ a, a = tt.ns.length := ⟨_, rfl⟩
  obtain ⟨tcc, htcc⟩ : ∃ a, a = tt.c := ⟨_, rfl⟩
  obtain ⟨ttr, httr⟩ : ∃ a, a = tt.tr := ⟨_, rfl⟩
  obtain ⟨twt, htwt⟩ : ∃ a, a = tt.wt := ⟨_, rfl⟩
  obtain ⟨tle, htle⟩ : ∃ a, a = tt.le := ⟨_, rfl⟩
  rw [← hta, ← htl, ← htcc] at y0
  rw [← httr] at y1
  rw [← htwt] at y2
  rw [← htle] at y3
  rw [← hta, ← htl, ← htcc, ← httr, ← htwt, ← htle] at cL
  clear hta htl htcc httr htwt htle htt
  have HC : ∀ W, Below V.heap.size V W → W.cell? ⟨z0, 2, none⟩ = some (.slice (some ⟨g, 0, none⟩) m cap) ∧ (W.cell? ⟨g, x1 * 4, none⟩ = some (.slice ta' tl tcc) ∧ W.cell? ⟨g, x1 * 4 + 1, none⟩ = some (.int .i64 ttr) ∧ W.cell? ⟨g, x1 * 4 + 2, none⟩ = some (.int .i64 twt) ∧ W.cell? ⟨g, x1 * 4 + 3, none⟩ = some (.int .i64 tle)) ∧ (W.cell? ⟨bx, 0, none⟩ = some (.int .i64 1) ∧ W.cell? ⟨bx, 1, none⟩ = some (.int .i64 st) ∧ W.cell? ⟨bx, 2, none⟩ = some (.int .i64 sd) ∧ W.cell? ⟨bx, 3, none⟩ = some (.int .i64 sk) ∧ W.cell? ⟨bx, 4, none⟩ = some (.string sr)) ∧ W.cell? ⟨z1, 0, none⟩ = some (.int .i64 now) ∧ W.cell? ⟨z2, 0, none⟩ = some (.int .i64 k) := fun W hW =>
   ⟨(BV.below hW).box.1 2 _ rfl, ⟨cell_below hW y0, cell_below hW y1, cell_below hW y2, cell_below hW y3⟩, ⟨(bX.below hW).1 0 _ rfl, (bX.below hW).1 1 _ rfl, (bX.below hW).1 2 _ rfl, (bX.below hW).1 3 _ rfl, (bX.below hW).1 4 _ rfl⟩, (BV.below hW).now.1 0 _ rfl, (BV.below hW).tok.1 0 _ rfl⟩
  have hmc : m ≤ cap ∧ cap ≤ 9223372036854775807 := by have a1 := OV.hT.1; have a2 := OV.hT.2.1; rw [← OV.htn] at a1; exact ⟨a1, a2⟩
  obtain ⟨hmc1, hmc2⟩ := hmc
  clear y0 y1 y2 y3
  refine wpIn_block ?_
  refine wpIn_seq_k (fun K hK => ?_); have HK : Shut _ := hK; clear hK
  refine round_held (by kernel_rfl) (by kernel_rfl) (fun W => W.cell? ⟨z0, 2, none⟩ = some (.slice (some ⟨g, 0, none⟩) m cap) ∧ (W.cell? ⟨g, x1 * 4, none⟩ = some (.slice ta' tl tcc) ∧ W.cell? ⟨g, x1 * 4 + 1, none⟩ = some (.int .i64 ttr) ∧ W.cell? ⟨g, x1 * 4 + 2, none⟩ = some (.int .i64 twt) ∧ W.cell? ⟨g, x1 * 4 + 3, none⟩ = some (.int .i64 tle)) ∧ (W.cell? ⟨bx, 0, none⟩ = some (.int .i64 1) ∧ W.cell? ⟨bx, 1, none⟩ = some (.int .i64 st) ∧ W.cell? ⟨bx, 2, none⟩ = some (.int .i64 sd) ∧ W.cell? ⟨bx, 3, none⟩ = some (.int .i64 sk) ∧ W.cell? ⟨bx, 4, none⟩ = some (.string sr)) ∧ W.cell? ⟨z1, 0, none⟩ = some (.int .i64 now) ∧ W.cell? ⟨z2, 0, none⟩ = some (.int .i64 k)) (HC _ (Below.refl _ _).drew) (fun hHeld => ?_)
  obtain ⟨V0, hV0⟩ : ∃ V0, V0 = V.drew := ⟨_, rfl⟩
  have hbV : Below V.heap.size V V0 := by rw [hV0]; exact (Below.refl _ _).drew
  have hsV : V.heap.size ≤ V0.heap.size := hbV.size
  rw [← hV0] at hHeld ⊢
  clear hV0
  refine take_at (i := 0) (v := ?_) rfl (by kernel_rfl) (by kernel_rfl) (by kernel_rfl) (fun _ _ _ h => h) (Or.inl ⟨by rfl, ?_⟩) (by assumption) ?_
  rotate_left 1
  ·
   (intro w hSw; (try dsimp only at hSw); go_simp; (try with_reducible rfl))
  try go_frame
  refine take_at (i := 1) (v := ?_) rfl (by kernel_rfl) (by kernel_rfl) (by kernel_rfl) (fun _ _ _ h => h) (Or.inl ⟨by rfl, ?_⟩) (by assumption) ?_
  rotate_left 1
  ·
   (intro w hSw; (try dsimp only at hSw); go_simp; (try with_reducible rfl))
  try go_frame
  refine take_at (i := 2) (v := ?_) rfl (by kernel_rfl) (by kernel_rfl) (by kernel_rfl) (fun _ _ _ h => h) (Or.inl ⟨by rfl, ?_⟩) (by assumption) ?_
  rotate_left 1
  ·
   (intro w hSw; (try dsimp only at hSw); go_simp; (try with_reducible rfl))
  try go_frame
  refine take_at (i := 3) (v := ?_) rfl (by kernel_rfl) (by kernel_rfl) (by kernel_rfl) (fun _ _ _ h => h) (Or.inl ⟨by rfl, ?_⟩) (by assumption) ?_
  rotate_left 1
  ·
   (intro w hSw; (try dsimp only at hSw); go_simp; (try with_reducible rfl))
  try go_frame
  refine take_at (i := 4) (v := ?_) rfl (by kernel_rfl) (by kernel_rfl) (by kernel_rfl) (fun _ _ _ h => h) (Or.inl ⟨by rfl, ?_⟩) (by assumption) ?_
  rotate_left 1
  ·
   (intro w hSw; (try dsimp only at hSw); go_simp; (try with_reducible rfl))
  try go_frame
  refine take_at (i := 5) (v := ?_) rfl (by kernel_rfl) (by kernel_rfl) (by kernel_rfl) (fun _ _ _ h => h) (Or.inl ⟨by rfl, ?_⟩) (by assumption) ?_
  rotate_left 1
  ·
   (intro w hSw; (try dsimp only at hSw); go_simp; (try with_reducible rfl))
  try go_frame
  refine take_at (i := 6) (v := ?_) rfl (by kernel_rfl) (by kernel_rfl) (by kernel_rfl) (fun _ _ _ h => h) (Or.inl ⟨by rfl, ?_⟩) (by assumption) ?_
  rotate_left 1
  ·
   (intro w hSw; (try dsimp only at hSw); go_simp; (try with_reducible rfl))
  try go_frame
  refine take_at (i := 7) (v := ?_) rfl (by kernel_rfl) (by kernel_rfl) (by kernel_rfl) (fun _ _ _ h => h) (Or.inl ⟨by rfl, ?_⟩) (by assumption) ?_
  rotate_left 1
  ·
   (intro w hSw; (try dsimp only at hSw); go_simp; (try with_reducible rfl))
  try go_frame
  refine take_at (i := 8) (v := ?_) rfl (by kernel_rfl) (by kernel_rfl) (by kernel_rfl) (fun _ _ _ h => h) (Or.inl ⟨by rfl, ?_⟩) (by assumption) ?_
  rotate_left 1
  ·
   (intro w hSw; (try dsimp only at hSw); go_simp; (try with_reducible rfl))
  try go_frame
  refine wpAnyH_ready (rs := [9, 13]) (by kernel_rfl) (by simp) ?_
  refine cons_at (i := 9) rfl (fun K9 hK => ?_) (cons_at (i := 13) rfl (fun K9 hK => ?_) AllReadyH.nil)
  ·
   go_simp
   (go_at_call 51; refine (cL _).mono ?_; rintro e w4 ⟨rfl, hb4⟩)
   have hB4 := Below.tr hbV hb4
   refine hK.out _ _ (HC _ hB4) (fun hHeld => ?_)
   clear hK K9
   refine take_at (i := 10) (v := ?_) rfl (by kernel_rfl) (by kernel_rfl) (by kernel_rfl) (fun _ _ _ h => h) (Or.inl ⟨by rfl, ?_⟩) (by assumption) ?_
   rotate_left 1
   ·
    (intro w hSw; (try dsimp only at hSw); go_simp; (try with_reducible rfl))
   try go_frame
   refine take_at (i := 11) (v := ?_) rfl (by kernel_rfl) (by kernel_rfl) (by kernel_rfl) (fun _ _ _ h => h) (Or.inl ⟨by rfl, ?_⟩) (by assumption) ?_
   rotate_left 1
   ·
    (intro w hSw; (try dsimp only at hSw); go_simp; (try with_reducible rfl))
   try go_frame
   refine take_at (i := 12) (v := ?_) rfl (by kernel_rfl) (by kernel_rfl) (by kernel_rfl) (fun _ _ _ h => h) (Or.inl ⟨by rfl, ?_⟩) (by assumption) ?_
   rotate_left 1
   ·
    (intro w hSw; (try dsimp only at hSw); go_simp; (try with_reducible rfl))
   try go_frame
   refine wpAnyH_ready (rs := [13]) (by kernel_rfl) (by simp) ?_
   refine cons_at (i := 13) rfl (fun K hK => ?_) AllReadyH.nil
   go_simp
   obtain ⟨A, hA⟩ : ∃ A, A = w4.alloc (.cells #[.int .i64 0, .int .i64 0, .int .i64 0, .int .i64 0, .string ⟨#[]⟩] 52) := ⟨_, rfl⟩
   have hBA : Below V.heap.size V A := by rw [hA]; exact hB4.alloc hB4.size _
   have bA : BoxL A w4.heap.size [.int .i64 0, .int .i64 0, .int .i64 0, .int .i64 0, .string ⟨#[]⟩] := by rw [hA]; exact boxL_new w4 [.int .i64 0, .int .i64 0, .int .i64 0, .int .i64 0, .string ⟨#[]⟩] _ rfl
   rw [← hA]
   refine hK.out _ _ (HC _ hBA) (fun hHeld => ?_)
   clear hK K hA
   have hzV : V.heap.size ≤ w4.heap.size := hB4.size
   obtain ⟨Y, hY⟩ : ∃ Y, Y = (((((A.setCell ⟨w4.heap.size, 0, none⟩ (.int .i64 xi)).setCell ⟨w4.heap.size, 1, none⟩ (.int .i64 xt)).setCell ⟨w4.heap.size, 2, none⟩ (.int .i64 xd)).setCell ⟨w4.heap.size, 3, none⟩ (.int .i64 xk)).setCell ⟨w4.heap.size, 4, none⟩ (.string xr)) := ⟨_, rfl⟩
   have bY : BoxL Y w4.heap.size [.int .i64 xi, .int .i64 xt, .int .i64 xd, .int .i64 xk, .string xr] := by rw [hY]; exact boxL_set5 bA _ _ _ _ _
   have hBY : Below V.heap.size V Y := by rw [hY]; exact below_setT hBA (by omega) _ _ _ _ _
   have u0 := bA.1 0 _ rfl; have u1 := bA.1 1 _ rfl; have u2 := bA.1 2 _ rfl; have u3 := bA.1 3 _ rfl; have u4 := bA.1 4 _ rfl
   have v0 := bA.2 0 (by simp); have v1 := bA.2 1 (by simp); have v2 := bA.2 2 (by simp); have v3 := bA.2 3 (by simp); have v4 := bA.2 4 (by simp)
   refine wpAnyH_ready (rs := [14]) (by kernel_rfl) (by simp) ?_
   refine cons_at (i := 14) rfl (fun K hK => ?_) AllReadyH.nil
   go_simp
   rw [← hY]
   refine hK.out _ _ (HC _ hBY) (fun hHeld => ?_)
   clear hK K hY
   refine take_at (i := 15) (v := ?_) rfl (by kernel_rfl) (by kernel_rfl) (by kernel_rfl) (fun _ _ _ h => h) (Or.inl ⟨by rfl, ?_⟩) (by assumption) ?_
   rotate_left 1
   ·
    (intro w hSw; (try dsimp only at hSw); go_simp; (try with_reducible rfl))
   try go_frame
   refine wpAnyH_done (by kernel_rfl) ?_ _
   refine HK.out _ _ ?_
   clear HK K hHeld u0 u1 u2 u3 u4 v0 v1 v2 v3 v4 bA hBA
   generalize w4.heap.size = zz at *
   clear hB4 hb4
   have BY := BV.below hBY
   have OY := OV.below hBY
   clear BV OV bX hbV hsV HC cL
   by_cases hd : sd ≤ untF now []
   ·
    obtain rfl : EE = 0 := by rw [HX.out.1]; unfold leaseE; rw [if_pos ⟨hk1, hk2⟩, if_pos ⟨rfl, hd⟩]
    have hdue : Hid (dueAt zs (untF now []) = some x1) := idx_is hx1 (decide_eq_true ⟨rfl, hd⟩) fun j hj v hv => decide_eq_false fun hh => hpd (j, v) (by rw [hpe]; exact mem_candTo hv (by rw [hh.1]; simp) hj) hh.2
    clear hpd hpe hd hpre hx1 hx2
    refine wpIn_seq_k (fun K hK => ?_); have HK : Shut _ := hK; clear hK
    gi_wp2
    refine HK.out _ _ ?_
    clear HK K
    refine wpIn_cond (t := true) rfl ?_
    rw [if_pos rfl]
    refine wpIn_seq_k (fun K hK => ?_); have HK : Shut _ := hK; clear hK
    have q4 := BY.box.1 4 _ rfl
    have b0 := bY.1 0 _ rfl; have b1 := bY.1 1 _ rfl; have b2 := bY.1 2 _ rfl; have b3 := bY.1 3 _ rfl; have b4 := bY.1 4 _ rfl
    obtain ⟨r0, r1, r2, r3, r4⟩ := OY.row.frees hil
    have hcs : m ≤ capS ∧ capS ≤ 9223372036854775807 := by have a1 := OY.row.isZ.1; have a2 := OY.row.isZ.2.1; rw [← OY.hn] at a1; exact ⟨a1, a2⟩
    obtain ⟨hcs1, hcs2⟩ := hcs
    obtain ⟨o0, o1, o2, o3, o4⟩ := OY.row.at (List.getElem?_eq_getElem hil)
    rw [Nat.zero_add] at r0 r1 r2 r3 r4 o0 o1 o2 o3 o4
    gi_wp2
    obtain ⟨Y1, hY1⟩ : ∃ Y1, Y1 = put5 Y h (x1 * 5) ⟨xi, xt, xd, xk, xr⟩ := ⟨_, rfl⟩
    have RY1 := OY.row.put hil ⟨xi, xt, xd, xk, xr⟩ hXt
    rw [Nat.zero_add, ← hY1] at RY1
    have T1 : Turns (fun k => k = h) Y Y1 := by rw [hY1]; exact put5_turns _ _ _ _
    unfold put5 at hY1
    dsimp only at hY1
    have K1 : KeepsFrom W1.heap.size V Y1 := (keeps_below hBY).trans (by rw [hY1]; exact keeps_set5 _ _ _ _ _ _ _ _ _ _ _ _ _)
    rw [← hY1]
    refine HK.out _ _ ?_
    clear HK K hY1 q4 b0 b1 b2 b3 b4 r0 r1 r2 r3 r4 o0 o1 o2 o3 o4
    have BZ := BY.turns T1 (by have := HZZ.out; have := HHH.out; omega) (by have := HZZ.out; have := HHH.out; omega) (by have := HZZ.out; have := HHH.out; omega) (by have := HZZ.out; have := HHH.out; omega) (by have := HZZ.out; have := HHH.out; omega) (by have := HZZ.out; have := HHH.out; omega)
    clear BY OY
    have p0 := BZ.box.1 0 _ rfl; have p1 := BZ.box.1 1 _ rfl; have p2 := BZ.box.1 2 _ rfl; have p3 := BZ.box.1 3 _ rfl; have p4 := BZ.box.1 4 _ rfl
    have y0 := BZ.res.1 0 _ rfl; have y1 := BZ.res.1 1 _ rfl; have y2 := BZ.res.1 2 _ rfl; have y3 := BZ.res.1 3 _ rfl; have y4 := BZ.res.1 4 _ rfl
    have s0 := BZ.res.2 0 (by simp); have s1 := BZ.res.2 1 (by simp); have s2 := BZ.res.2 2 (by simp); have s3 := BZ.res.2 3 (by simp); have s4 := BZ.res.2 4 (by simp)
    have y5 := BZ.at_.1 0 _ rfl
    have y6 := BZ.err.1 0 _ rfl
    have s5 := BZ.at_.2 0 (by simp)
    have s6 := BZ.err.2 0 (by simp)
    have e1 : ¬ z3 = z4 := by have := HZZ.out; omega
    have e2 : ¬ z4 = z3 := by have := HZZ.out; omega
    have e3 : ¬ z3 = z5 := by have := HZZ.out; omega
    have e4 : ¬ z5 = z3 := by have := HZZ.out; omega
    have e5 : ¬ z4 = z5 := by have := HZZ.out; omega
    have e6 : ¬ z5 = z4 := by have := HZZ.out; omega
    refine wpIn_seq_k (fun K hK => ?_); have HK : Shut _ := hK; clear hK
    gi_wp2
    refine HK.out _ _ ?_
    clear HK K
    obtain ⟨Z2, hZ2⟩ : ∃ Z2, Z2 = ((((((Y1.setCell ⟨z3, 0, none⟩ (.string ky)).setCell ⟨z3, 1, none⟩ (.string nm)).setCell ⟨z3, 2, none⟩ (.slice (some ⟨g, 0, none⟩) m cap)).setCell ⟨z3, 3, none⟩ (.int .i64 zi)).setCell ⟨z3, 4, none⟩ (.slice (some ⟨h, 0, none⟩) m capS)).setCell ⟨z4, 0, none⟩ (.int .i64 x1)).setCell ⟨z5, 0, none⟩ (.int .i64 0) := ⟨_, rfl⟩
    obtain ⟨c3, c4, c5, T2⟩ := fin3 BZ.res BZ.at_ BZ.err e1 e3 e5 (.string ky) (.string nm) (.slice (some ⟨g, 0, none⟩) m cap) (.int .i64 zi) (.slice (some ⟨h, 0, none⟩) m capS) (.int .i64 x1) (.int .i64 0)
    rw [← hZ2] at c3 c4 c5 T2
    have K2 : KeepsFrom W1.heap.size V Z2 := K1.trans (by rw [hZ2]; exact ((keeps_set5 _ _ _ _ _ _ _ _ _ _ _ _ _).trans (keeps_set _ _ _ _)).trans (keeps_set _ _ _ _))
    rw [← hZ2]
    refine wpIn_ret ?_
    show _ ∧ _
    refine ⟨K2, rfl, x1, hdue.out, c3, c4, c5, ?_, ?_⟩
    ·
     rw [HX.out.2]; exact RY1.turns T2 (by have := HZZ.out; have := HHH.out; omega)
    ·
     have t1 : Turns (fun k => W1.heap.size ≤ k) V Y := Turns.of_below hBY
     exact (((t.trans t1).mono fun k hk => .inr (.inr (.inr (.inr hk)))).trans (T1.mono fun k hk => .inr (.inr (.inr (.inl hk))))).trans (T2.mono fun k hk => hk.elim .inl fun hk => hk.elim (fun h => .inr (.inl h)) fun h => .inr (.inr (.inl h)))
   ·
    obtain rfl : EE = 192 := by rw [HX.out.1]; unfold leaseE; rw [if_pos ⟨hk1, hk2⟩, if_neg (fun hh => hd hh.2)]
    refine hideQI (fun Q9 hQ9 => ?_); have HQ9 : Shut _ := hQ9; clear hQ9
    gi_wp2
    refine HQ9.out _ _ _ ?_
    refine ⟨keeps_below hBY, trivial, t.trans (Turns.of_below hBY), fun y hy => ?_⟩
    rcases List.mem_append.1 hy with hy | hy
    ·
     exact hpd y hy
    ·
     rw [List.mem_singleton] at hy
     subst hy
     exact hd
  ·
   go_simp
   obtain ⟨A, hA⟩ : ∃ A, A = V0.alloc (.cells #[.int .i64 0, .int .i64 0, .int .i64 0, .int .i64 0, .string ⟨#[]⟩] 52) := ⟨_, rfl⟩
   have hBA : Below V.heap.size V A := by rw [hA]; exact hbV.alloc hsV _
   have bA : BoxL A V0.heap.size [.int .i64 0, .int .i64 0, .int .i64 0, .int .i64 0, .string ⟨#[]⟩] := by rw [hA]; exact boxL_new V0 [.int .i64 0, .int .i64 0, .int .i64 0, .int .i64 0, .string ⟨#[]⟩] _ rfl
   rw [← hA]
   refine hK.out _ _ (HC _ hBA) (fun hHeld => ?_)
   clear hK K9 hA
   refine wpAnyH_ready (rs := [9]) (by kernel_rfl) (by simp) ?_
   refine cons_at (i := 9) rfl (fun K hK => ?_) AllReadyH.nil
   go_simp
   (go_at_call 51; refine (cL _).mono ?_; rintro e w4 ⟨rfl, hb4⟩)
   replace bA := bA.below hb4
   replace hBA := Below.tr hBA hb4
   clear hb4
   refine hK.out _ _ (HC _ hBA) (fun hHeld => ?_)
   clear hK K
   refine take_at (i := 10) (v := ?_) rfl (by kernel_rfl) (by kernel_rfl) (by kernel_rfl) (fun _ _ _ h => h) (Or.inl ⟨by rfl, ?_⟩) (by assumption) ?_
   rotate_left 1
   ·
    (intro w hSw; (try dsimp only at hSw); go_simp; (try with_reducible rfl))
   try go_frame
   refine take_at (i := 11) (v := ?_) rfl (by kernel_rfl) (by kernel_rfl) (by kernel_rfl) (fun _ _ _ h => h) (Or.inl ⟨by rfl, ?_⟩) (by assumption) ?_
   rotate_left 1
   ·
    (intro w hSw; (try dsimp only at hSw); go_simp; (try with_reducible rfl))
   try go_frame
   refine take_at (i := 12) (v := ?_) rfl (by kernel_rfl) (by kernel_rfl) (by kernel_rfl) (fun _ _ _ h => h) (Or.inl ⟨by rfl, ?_⟩) (by assumption) ?_
   rotate_left 1
   ·
    (intro w hSw; (try dsimp only at hSw); go_simp; (try with_reducible rfl))
   try go_frame
   generalize w4 = A at *
   have hzV : V.heap.size ≤ V0.heap.size := hsV
   obtain ⟨Y, hY⟩ : ∃ Y, Y = (((((A.setCell ⟨V0.heap.size, 0, none⟩ (.int .i64 xi)).setCell ⟨V0.heap.size, 1, none⟩ (.int .i64 xt)).setCell ⟨V0.heap.size, 2, none⟩ (.int .i64 xd)).setCell ⟨V0.heap.size, 3, none⟩ (.int .i64 xk)).setCell ⟨V0.heap.size, 4, none⟩ (.string xr)) := ⟨_, rfl⟩
   have bY : BoxL Y V0.heap.size [.int .i64 xi, .int .i64 xt, .int .i64 xd, .int .i64 xk, .string xr] := by rw [hY]; exact boxL_set5 bA _ _ _ _ _
   have hBY : Below V.heap.size V Y := by rw [hY]; exact below_setT hBA (by omega) _ _ _ _ _
   have u0 := bA.1 0 _ rfl; have u1 := bA.1 1 _ rfl; have u2 := bA.1 2 _ rfl; have u3 := bA.1 3 _ rfl; have u4 := bA.1 4 _ rfl
   have v0 := bA.2 0 (by simp); have v1 := bA.2 1 (by simp); have v2 := bA.2 2 (by simp); have v3 := bA.2 3 (by simp); have v4 := bA.2 4 (by simp)
   refine wpAnyH_ready (rs := [14]) (by kernel_rfl) (by simp) ?_
   refine cons_at (i := 14) rfl (fun K hK => ?_) AllReadyH.nil
   go_simp
   rw [← hY]
   refine hK.out _ _ (HC _ hBY) (fun hHeld => ?_)
   clear hK K hY
   refine take_at (i := 15) (v := ?_) rfl (by kernel_rfl) (by kernel_rfl) (by kernel_rfl) (fun _ _ _ h => h) (Or.inl ⟨by rfl, ?_⟩) (by assumption) ?_
   rotate_left 1
   ·
    (intro w hSw; (try dsimp only at hSw); go_simp; (try with_reducible rfl))
   try go_frame
   refine wpAnyH_done (by kernel_rfl) ?_ _
   refine HK.out _ _ ?_
   clear HK K hHeld u0 u1 u2 u3 u4 v0 v1 v2 v3 v4 bA hBA
   generalize V0.heap.size = zz at *
   have BY := BV.below hBY
   have OY := OV.below hBY
   clear BV OV bX hbV hsV HC cL
   by_cases hd : sd ≤ untF now []
   ·
    obtain rfl : EE = 0 := by rw [HX.out.1]; unfold leaseE; rw [if_pos ⟨hk1, hk2⟩, if_pos ⟨rfl, hd⟩]
    have hdue : Hid (dueAt zs (untF now []) = some x1) := idx_is hx1 (decide_eq_true ⟨rfl, hd⟩) fun j hj v hv => decide_eq_false fun hh => hpd (j, v) (by rw [hpe]; exact mem_candTo hv (by rw [hh.1]; simp) hj) hh.2
    clear hpd hpe hd hpre hx1 hx2
    refine wpIn_seq_k (fun K hK => ?_); have HK : Shut _ := hK; clear hK
    gi_wp2
    refine HK.out _ _ ?_
    clear HK K
    refine wpIn_cond (t := true) rfl ?_
    rw [if_pos rfl]
    refine wpIn_seq_k (fun K hK => ?_); have HK : Shut _ := hK; clear hK
    have q4 := BY.box.1 4 _ rfl
    have b0 := bY.1 0 _ rfl; have b1 := bY.1 1 _ rfl; have b2 := bY.1 2 _ rfl; have b3 := bY.1 3 _ rfl; have b4 := bY.1 4 _ rfl
    obtain ⟨r0, r1, r2, r3, r4⟩ := OY.row.frees hil
    have hcs : m ≤ capS ∧ capS ≤ 9223372036854775807 := by have a1 := OY.row.isZ.1; have a2 := OY.row.isZ.2.1; rw [← OY.hn] at a1; exact ⟨a1, a2⟩
    obtain ⟨hcs1, hcs2⟩ := hcs
    obtain ⟨o0, o1, o2, o3, o4⟩ := OY.row.at (List.getElem?_eq_getElem hil)
    rw [Nat.zero_add] at r0 r1 r2 r3 r4 o0 o1 o2 o3 o4
    gi_wp2
    obtain ⟨Y1, hY1⟩ : ∃ Y1, Y1 = put5 Y h (x1 * 5) ⟨xi, xt, xd, xk, xr⟩ := ⟨_, rfl⟩
    have RY1 := OY.row.put hil ⟨xi, xt, xd, xk, xr⟩ hXt
    rw [Nat.zero_add, ← hY1] at RY1
    have T1 : Turns (fun k => k = h) Y Y1 := by rw [hY1]; exact put5_turns _ _ _ _
    unfold put5 at hY1
    dsimp only at hY1
    have K1 : KeepsFrom W1.heap.size V Y1 := (keeps_below hBY).trans (by rw [hY1]; exact keeps_set5 _ _ _ _ _ _ _ _ _ _ _ _ _)
    rw [← hY1]
    refine HK.out _ _ ?_
    clear HK K hY1 q4 b0 b1 b2 b3 b4 r0 r1 r2 r3 r4 o0 o1 o2 o3 o4
    have BZ := BY.turns T1 (by have := HZZ.out; have := HHH.out; omega) (by have := HZZ.out; have := HHH.out; omega) (by have := HZZ.out; have := HHH.out; omega) (by have := HZZ.out; have := HHH.out; omega) (by have := HZZ.out; have := HHH.out; omega) (by have := HZZ.out; have := HHH.out; omega)
    clear BY OY
    have p0 := BZ.box.1 0 _ rfl; have p1 := BZ.box.1 1 _ rfl; have p2 := BZ.box.1 2 _ rfl; have p3 := BZ.box.1 3 _ rfl; have p4 := BZ.box.1 4 _ rfl
    have y0 := BZ.res.1 0 _ rfl; have y1 := BZ.res.1 1 _ rfl; have y2 := BZ.res.1 2 _ rfl; have y3 := BZ.res.1 3 _ rfl; have y4 := BZ.res.1 4 _ rfl
    have s0 := BZ.res.2 0 (by simp); have s1 := BZ.res.2 1 (by simp); have s2 := BZ.res.2 2 (by simp); have s3 := BZ.res.2 3 (by simp); have s4 := BZ.res.2 4 (by simp)
    have y5 := BZ.at_.1 0 _ rfl
    have y6 := BZ.err.1 0 _ rfl
    have s5 := BZ.at_.2 0 (by simp)
    have s6 := BZ.err.2 0 (by simp)
    have e1 : ¬ z3 = z4 := by have := HZZ.out; omega
    have e2 : ¬ z4 = z3 := by have := HZZ.out; omega
    have e3 : ¬ z3 = z5 := by have := HZZ.out; omega
    have e4 : ¬ z5 = z3 := by have := HZZ.out; omega
    have e5 : ¬ z4 = z5 := by have := HZZ.out; omega
    have e6 : ¬ z5 = z4 := by have := HZZ.out; omega
    refine wpIn_seq_k (fun K hK => ?_); have HK : Shut _ := hK; clear hK
    gi_wp2
    refine HK.out _ _ ?_
    clear HK K
    obtain ⟨Z2, hZ2⟩ : ∃ Z2, Z2 = ((((((Y1.setCell ⟨z3, 0, none⟩ (.string ky)).setCell ⟨z3, 1, none⟩ (.string nm)).setCell ⟨z3, 2, none⟩ (.slice (some ⟨g, 0, none⟩) m cap)).setCell ⟨z3, 3, none⟩ (.int .i64 zi)).setCell ⟨z3, 4, none⟩ (.slice (some ⟨h, 0, none⟩) m capS)).setCell ⟨z4, 0, none⟩ (.int .i64 x1)).setCell ⟨z5, 0, none⟩ (.int .i64 0) := ⟨_, rfl⟩
    obtain ⟨c3, c4, c5, T2⟩ := fin3 BZ.res BZ.at_ BZ.err e1 e3 e5 (.string ky) (.string nm) (.slice (some ⟨g, 0, none⟩) m cap) (.int .i64 zi) (.slice (some ⟨h, 0, none⟩) m capS) (.int .i64 x1) (.int .i64 0)
    rw [← hZ2] at c3 c4 c5 T2
    have K2 : KeepsFrom W1.heap.size V Z2 := K1.trans (by rw [hZ2]; exact ((keeps_set5 _ _ _ _ _ _ _ _ _ _ _ _ _).trans (keeps_set _ _ _ _)).trans (keeps_set _ _ _ _))
    rw [← hZ2]
    refine wpIn_ret ?_
    show _ ∧ _
    refine ⟨K2, rfl, x1, hdue.out, c3, c4, c5, ?_, ?_⟩
    ·
     rw [HX.out.2]; exact RY1.turns T2 (by have := HZZ.out; have := HHH.out; omega)
    ·
     have t1 : Turns (fun k => W1.heap.size ≤ k) V Y := Turns.of_below hBY
     exact (((t.trans t1).mono fun k hk => .inr (.inr (.inr (.inr hk)))).trans (T1.mono fun k hk => .inr (.inr (.inr (.inl hk))))).trans (T2.mono fun k hk => hk.elim .inl fun hk => hk.elim (fun h => .inr (.inl h)) fun h => .inr (.inr (.inl h)))
   ·
    obtain rfl : EE = 192 := by rw [HX.out.1]; unfold leaseE; rw [if_pos ⟨hk1, hk2⟩, if_neg (fun hh => hd hh.2)]
    refine hideQI (fun Q9 hQ9 => ?_); have HQ9 : Shut _ := hQ9; clear hQ9
    gi_wp2
    refine HQ9.out _ _ _ ?_
    refine ⟨keeps_below hBY, trivial, t.trans (Turns.of_below hBY), fun y hy => ?_⟩
    rcases List.mem_append.1 hy with hy | hy
    ·
     exact hpd y hy
    ·
     rw [List.mem_singleton] at hy
     subst hy
     exact hd
 case done =>
  rintro D V hD ⟨t, hpd⟩ hK
  have hno : dueAt zs (untF now []) = none := idx_no fun i v hv => decide_eq_false fun hh => hpd (i, v) (mem_candL hv (by rw [hh.1]; simp)) hh.2
  have HL : Hid (leaseRE zs now k = 192 ∧ leaseRP zs now k = 0) := by
   have e : leaseRE zs now k = 192 := by unfold leaseRE; rw [if_pos ⟨⟨hk1, hk2⟩, HE.out⟩, if_pos hno]
   exact ⟨e, by unfold leaseRP; rw [if_neg (by rw [e]; decide)]⟩
  have BZ := B3.turns t (by have := HZZ.out; have := HHH.out; omega) (by have := HZZ.out; have := HHH.out; omega) (by have := HZZ.out; have := HHH.out; omega) (by have := HZZ.out; have := HHH.out; omega) (by have := HZZ.out; have := HHH.out; omega) (by have := HZZ.out; have := HHH.out; omega)
  clear hpd hno hH L O3 B3
  have p0 := BZ.box.1 0 _ rfl; have p1 := BZ.box.1 1 _ rfl; have p2 := BZ.box.1 2 _ rfl; have p3 := BZ.box.1 3 _ rfl; have p4 := BZ.box.1 4 _ rfl
  have y0 := BZ.res.1 0 _ rfl; have y1 := BZ.res.1 1 _ rfl; have y2 := BZ.res.1 2 _ rfl; have y3 := BZ.res.1 3 _ rfl; have y4 := BZ.res.1 4 _ rfl
  have s0 := BZ.res.2 0 (by simp); have s1 := BZ.res.2 1 (by simp); have s2 := BZ.res.2 2 (by simp); have s3 := BZ.res.2 3 (by simp); have s4 := BZ.res.2 4 (by simp)
  have y5 := BZ.at_.1 0 _ rfl
  have y6 := BZ.err.1 0 _ rfl
  have s5 := BZ.at_.2 0 (by simp)
  have s6 := BZ.err.2 0 (by simp)
  have e1 : ¬ z3 = z4 := by have := HZZ.out; omega
  have e2 : ¬ z4 = z3 := by have := HZZ.out; omega
  have e3 : ¬ z3 = z5 := by have := HZZ.out; omega
  have e4 : ¬ z5 = z3 := by have := HZZ.out; omega
  have e5 : ¬ z4 = z5 := by have := HZZ.out; omega
  have e6 : ¬ z5 = z4 := by have := HZZ.out; omega
  gi_wp2
  obtain ⟨Z2, hZ2⟩ : ∃ Z2, Z2 = ((((((V.setCell ⟨z3, 0, none⟩ (.string ⟨#[]⟩)).setCell ⟨z3, 1, none⟩ (.string ⟨#[]⟩)).setCell ⟨z3, 2, none⟩ (.slice none 0 0)).setCell ⟨z3, 3, none⟩ (.int .i64 0)).setCell ⟨z3, 4, none⟩ (.slice none 0 0)).setCell ⟨z4, 0, none⟩ (.int .i64 0)).setCell ⟨z5, 0, none⟩ (.int .i64 192) := ⟨_, rfl⟩
  obtain ⟨c3, c4, c5, T2⟩ := fin3 BZ.res BZ.at_ BZ.err e1 e3 e5 (.string ⟨#[]⟩) (.string ⟨#[]⟩) (.slice none 0 0) (.int .i64 0) (.slice none 0 0) (.int .i64 0) (.int .i64 192)
  rw [← hZ2] at c3 c4 c5 T2
  rw [← hZ2]
  clear hZ2
  have KZ := heap_turns hK T2 (by have := HZZ.out; have := HHH.out; omega)
  have TP := turns_put Z2 D (.deferred none)
  refine ⟨by simp, .inl ⟨_, _, rfl, run_takeDeferred KZ, ?_⟩⟩
  have c3' := boxL_turns c3 TP (by have := HZZ.out; have := HHH.out; omega)
  have r0 := c3'.1 0 _ rfl; have r1 := c3'.1 1 _ rfl; have r2 := c3'.1 2 _ rfl; have r3 := c3'.1 3 _ rfl; have r4 := c3'.1 4 _ rfl
  have r5 := (boxL_turns c4 TP (by have := HZZ.out; have := HHH.out; omega)).1 0 _ rfl
  have r6 := (boxL_turns c5 TP (by have := HZZ.out; have := HHH.out; omega)).1 0 _ rfl
  rw [HL.out.1, HL.out.2]
  refine ⟨.tuple #[.agg #[.string ⟨#[]⟩, .string ⟨#[]⟩, .slice none 0 0, .int .i64 0, .slice none 0 0], .int .i64 0, .int .i64 192], by simp [results, Try.results19, go_sem, r0, r1, r2, r3, r4, r5, r6], leaseU_zero (by decide) ⟨rfl, ?_⟩⟩
  have hw : w.heap.size ≤ z3 := by have := HZZ.out; omega
  have t1 : Turns (fun k => w.heap.size ≤ k) W1 V := t.mono fun k hk => by have := hB3.size; omega
  have t2 : Turns (fun k => w.heap.size ≤ k) V Z2 := T2.mono fun k hk => by have := HZZ.out; omega
  have t3 : Turns (fun k => w.heap.size ≤ k) Z2 _ := TP.mono fun k hk => by have := hB3.size; omega
  exact Below.turns hB3 ((t1.trans t2).trans t3) (fun i hi => hi)
 case stop =>
  rintro D c pre V hD hpre ⟨rfl, ix, hdue, b3, b4, b5, RZ, T⟩ hK
  have HL : Hid (leaseRE zs now k = 0 ∧ leaseRP zs now k = ix ∧ leaseRZ (plainT tv) zs now k = leaseAt (plainT tw) zs now k ix) := by
   have e : leaseRE zs now k = 0 := by unfold leaseRE; rw [if_pos ⟨⟨hk1, hk2⟩, HE.out⟩, if_neg (by rw [hdue]; simp)]
   refine ⟨e, by unfold leaseRP; rw [if_pos e, hdue]; rfl, by unfold leaseRZ; rw [hdue, HTW.out]⟩
  have hll : (leaseAt (plainT tw) zs now k ix).length = zs.length := by unfold leaseAt; split <;> simp
  have O4 := O3.renew T (fun k hk => by have := HZZ.out; have := HHH.out; omega) RZ hll
  clear hH L B3
  gi_wp2
  have TP := turns_put V D (.deferred none)
  refine ⟨by simp, .inl ⟨_, _, rfl, run_takeDeferred hK, ?_⟩⟩
  have c3' := boxL_turns b3 TP (by have := HZZ.out; have := HHH.out; omega)
  have r0 := c3'.1 0 _ rfl; have r1 := c3'.1 1 _ rfl; have r2 := c3'.1 2 _ rfl; have r3 := c3'.1 3 _ rfl; have r4 := c3'.1 4 _ rfl
  have r5 := (boxL_turns b4 TP (by have := HZZ.out; have := HHH.out; omega)).1 0 _ rfl
  have r6 := (boxL_turns b5 TP (by have := HZZ.out; have := HHH.out; omega)).1 0 _ rfl
  have hBf : Below w.heap.size w (V.putObj D (.deferred none)) := by
   have t1 : Turns (fun k => w.heap.size ≤ k) W1 V := T.mono fun k hk => by have := HZZ.out; have := HHH.out; have := hB3.size; have := hB0z; omega
   have t2 : Turns (fun k => w.heap.size ≤ k) V _ := TP.mono fun k hk => by have := hB3.size; omega
   exact Below.turns hB3 (t1.trans t2) (fun i hi => hi)
  have T5 := T.trans (TP.mono (Q := fun k => k = z3 ∨ k = z4 ∨ k = z5 ∨ k = h ∨ W1.heap.size ≤ k) fun k hk => .inr (.inr (.inr (.inr (by omega)))))
  have O5 := O3.renew T5 (fun k hk => by have := HZZ.out; have := HHH.out; omega) (O4.row.turns TP (by have := HHH.out; omega)) hll
  rw [HL.out.1, HL.out.2.1, HL.out.2.2]
  exact ⟨.tuple #[.agg #[.string ky, .string nm, .slice (some ⟨g, 0, none⟩) m cap, .int .i64 zi, .slice (some ⟨h, 0, none⟩) m capS], .int .i64 ix, .int .i64 0], by simp [results, Try.results19, go_sem, r0, r1, r2, r3, r4, r5, r6], ky, nm, some ⟨g, 0, none⟩, m, cap, zi, some ⟨h, 0, none⟩, m, capS, tw, _, rfl, ⟨O5.hT, O5.htn, O5.row.isZ, O5.hn⟩, fun _ => ⟨rfl, rfl, rfl, HTW.out, rfl⟩, fun h => absurd rfl h, hBf⟩
theorem leaseU_any (ky nm : ByteArray) (ta : Option Addr) (tn tc : Nat) (is : Int) (sa : Option Addr) (n sc : Nat) (tv : List TaskV) (ss : List StP) (now k : Int) (w : World) (hky : ky.size ≤ maxLen) (hk : wfJ k) (hT : IsT w ta tc tv) (htn : tn = tv.length) (hZ : IsZ w sa sc ss) (hn : n = ss.length) (E p : Int)
  (hE : E = if runB ky nm (plainT tv) ss is = true then leaseRE (settleS (plainT tv) (untF now []) (ss, is)).1 now k else 1) (hp : p = if runB ky nm (plainT tv) ss is = true then leaseRP (settleS (plainT tv) (untF now []) (ss, is)).1 now k else 0) :
  Calls Try.prog 19 #[.agg #[.string ky, .string nm, .slice ta tn tc, .int .i64 is, .slice sa n sc], .int .i64 now, .int .i64 k] w fun e w' => LeaseU w E p ky nm (settleS (plainT tv) (untF now []) (ss, is)).2 (plainT tv) (leaseRZ (plainT tv) (settleS (plainT tv) (untF now []) (ss, is)).1 now k) e w' := by
 subst hE hp
 by_cases h : runB ky nm (plainT tv) ss is = true
 ·
  rw [if_pos h, if_pos h]
  by_cases h1 : (1 ≤ k ∧ k ≤ 1099511627776) ∧ heldAt (settleS (plainT tv) (untF now []) (ss, is)).1 k = none
  ·
   exact leaseGo_any ky nm ta tn tc is sa n sc tv ss now k w hk hT htn hZ hn (runB_iff.1 h) h1.1.1 h1.1.2 h1.2
  ·
   have e : leaseRE (settleS (plainT tv) (untF now []) (ss, is)).1 now k = 1 := if_neg h1
   have e2 : leaseRP (settleS (plainT tv) (untF now []) (ss, is)).1 now k = 0 := by unfold leaseRP; rw [e]; rfl
   rw [e, e2]
   exact leaseArg_any ky nm ta tn tc is sa n sc tv ss now k w hk hT htn hZ hn (runB_iff.1 h) h1 _ _
 ·
  rw [if_neg h, if_neg h]
  exact leaseBad_any ky nm ta tn tc is sa n sc tv ss now k w hky hT htn hZ hn (by simpa using h) _ _
end Go.Proofs.Ytdpljpjbomhccaa
namespace Go.Proofs.Ytdpljpjbomhccaa
open Go.RowKit Plain Anylast
set_option linter.unusedVariables false
set_option maxRecDepth 20000 in
set_option maxHeartbeats 2000000 in
theorem refLeaseArg_any (ky nm : ByteArray) (ta : Option Addr) (tn tc : Nat) (is : Int) (sa : Option Addr) (n sc : Nat) (tv : List TaskV) (ss : List StP) (now k : Int) (w : World) (hnow : now ≤ 9223372036854775807) (hT : IsT w ta tc tv) (htn : tn = tv.length) (hZ : IsZ w sa sc ss) (hn : n = ss.length) (hOk : RunOk ky nm (plainT tv) ss is) (hE : ¬ (1 ≤ k ∧ k ≤ 1099511627776)) (js : Int) (ys : List StP) :
  Calls Try.prog 21 #[.agg #[.string ky, .string nm, .slice ta tn tc, .int .i64 is, .slice sa n sc], .int .i64 now, .int .i64 k] w fun e w' => LeaseU w 1 0 ky nm js (plainT tv) ys e w' := by
 obtain ⟨W0, hW0⟩ : ∃ W0, W0 = (w.alloc (.cells #[.string ky, .string nm, .slice ta tn tc, .int .i64 is, .slice sa n sc] 27)).alloc (.cells #[.string ⟨#[]⟩, .string ⟨#[]⟩, .slice none 0 0, .int .i64 0, .slice none 0 0] 27) := ⟨_, rfl⟩
 have hB0 : Below w.heap.size w W0 := by rw [hW0]; exact bel2 w _ _
 have BX : BoxL W0 w.heap.size [.string ky, .string nm, .slice ta tn tc, .int .i64 is, .slice sa n sc] := by rw [hW0]; exact (boxL_new w [.string ky, .string nm, .slice ta tn tc, .int .i64 is, .slice sa n sc] _ rfl).alloc _
 have BY : BoxL W0 (w.heap.size + 1) [.string ⟨#[]⟩, .string ⟨#[]⟩, .slice none 0 0, .int .i64 0, .slice none 0 0] := by rw [hW0]; exact boxL_new _ [.string ⟨#[]⟩, .string ⟨#[]⟩, .slice none 0 0, .int .i64 0, .slice none 0 0] _ (by simp)
 have hs0 : W0.heap.size = w.heap.size + 2 := by rw [hW0]; simp
 have hnt : n = tn := by rw [hn, hOk.st.len, plainT_length, htn]
 obtain ⟨h10, h0, hin⟩ := inside_of htn hOk.dag
 have hSA : ∀ y, sa = some y → y.block < w.heap.size := fun y hy => hZ.lies (by omega) y hy
 have cS := refSettleF_any ky nm ta tn tc is sa n sc tv ss now W0 (hT.below hB0) htn (hZ.below hB0) hn hnow hOk
 have hR9 := settle_right (tries_one hOk.dag) (u := untF now []) (x := (ss, is)) hOk.st
 generalize settleS (plainT tv) (untF now []) (ss, is) = SS at *
 obtain ⟨zs, zi⟩ := SS
 dsimp only at cS hR9 hE ⊢
 have HR : Hid (RightS (plainT tv) zs zi) := hR9
 have HE : Hid _ := hE
 clear hE
 have HIN : Hid (∀ (i : Nat) t, tv[i]? = some t → ∀ x ∈ t.ns, 0 ≤ x ∧ x < tn) := hin
 have HTN : Hid (tn = tv.length ∧ n = tn ∧ tn ≤ 10 ∧ 0 < tn) := ⟨htn, hnt, h10, h0⟩
 have HT : Hid (IsT w ta tc tv) := hT
 have HSA : Hid (∀ y, sa = some y → y.block < w.heap.size) := hSA
 clear hT htn hZ hn hOk hR9 hnt h10 h0 hin hSA
 have f0 := BX.1 0 _ rfl; have f1 := BX.1 1 _ rfl; have f2 := BX.1 2 _ rfl; have f3 := BX.1 3 _ rfl; have f4 := BX.1 4 _ rfl
 go_enter Try.func21, Try.ntmps21
 refine wp_seq_k (fun K hK => ?_); have HK : Shut _ := hK; clear hK
 go_wp2
 refine HK.out _ _ ?_; clear HK K
 rw [← hW0]
 clear hW0
 obtain ⟨z0, hz0⟩ : ∃ z, z = w.heap.size := ⟨_, rfl⟩
 obtain ⟨z1, hz1⟩ : ∃ z, z = z0 + 1 := ⟨_, rfl⟩
 rw [← hz0] at BX BY
 rw [← hz0, ← hz1]
 rw [← hz1] at BY
 rw [← hz0] at f0 f1 f2 f3 f4
 have HZZ : Hid (z0 = w.heap.size ∧ z1 = z0 + 1 ∧ W0.heap.size = w.heap.size + 2) := ⟨hz0, hz1, hs0⟩
 clear hz0 hz1 hs0
 refine wp_seq_k (fun K hK => ?_); have HK : Shut _ := hK; clear hK
 go_wp2_with (go_at_call 18; refine cS.mono ?_; rintro e w1 ⟨a, c, rfl, hIZ, hnz, hfa, hb⟩; have BX1 := BX.below hb; have BY1 := BY.below hb; have hB1 := Below.tr hB0 hb; have HNZ : Hid (n = zs.length ∧ ∀ y, a = some y → y.block ≠ z0 ∧ y.block ≠ z1) := ⟨hnz, fun y hy => by have := HZZ.out; rcases hfa with e | e; (have := HSA.out y (by rw [← e]; exact hy); omega); (have := e y hy; omega)⟩; clear hnz hfa; have v0 := BX1.1 0 _ rfl; have v1 := BX1.1 1 _ rfl; have v2 := BX1.1 2 _ rfl; have v3 := BX1.1 3 _ rfl; have v4 := BX1.1 4 _ rfl; have d0 := BX1.2 0 (by simp); have d1 := BX1.2 1 (by simp); have d2 := BX1.2 2 (by simp); have d3 := BX1.2 3 (by simp); have d4 := BX1.2 4 (by simp))
 refine HK.out _ _ ?_; clear HK K
 obtain ⟨Z, hZ9⟩ : ∃ Z, Z = (((((w1.setCell ⟨z0, 0, none⟩ (.string ky)).setCell ⟨z0, 1, none⟩ (.string nm)).setCell ⟨z0, 2, none⟩ (.slice ta tn tc)).setCell ⟨z0, 3, none⟩ (.int .i64 zi)).setCell ⟨z0, 4, none⟩ (.slice a n c)) := ⟨_, rfl⟩
 have TZ : Turns (fun k => k = z0) w1 Z := by rw [hZ9]; exact turns_set5 _ _ _ _ _ _ _
 have BZ : BoxL Z z0 [.string ky, .string nm, .slice ta tn tc, .int .i64 zi, .slice a n c] := by rw [hZ9]; exact boxL_set5 BX1 _ _ _ _ _
 have BYZ := boxL_turns BY1 TZ (by have := HZZ.out; omega)
 have hBZ := Below.turns hB1 TZ (fun k hk => by have := HZZ.out; omega)
 have IZ := hIZ.turns TZ (fun y hy hk => (HNZ.out.2 y hy).1 hk)
 rw [← hZ9]
 clear f0 f1 f2 f3 f4 v0 v1 v2 v3 v4 d0 d1 d2 d3 d4 hZ9 hIZ
 have p0 := BZ.1 0 _ rfl; have p1 := BZ.1 1 _ rfl; have p2 := BZ.1 2 _ rfl; have p3 := BZ.1 3 _ rfl; have p4 := BZ.1 4 _ rfl
 have y0 := BYZ.1 0 _ rfl; have y1 := BYZ.1 1 _ rfl; have y2 := BYZ.1 2 _ rfl; have y3 := BYZ.1 3 _ rfl; have y4 := BYZ.1 4 _ rfl
 have s0 := BYZ.2 0 (by simp); have s1 := BYZ.2 1 (by simp); have s2 := BYZ.2 2 (by simp); have s3 := BYZ.2 3 (by simp); have s4 := BYZ.2 4 (by simp)
 have hE : ¬ (1 ≤ k ∧ k ≤ 1099511627776) := HE.out
 by_cases h1 : k < 1
 ·
  clear hE HE
  go_wp2
  obtain ⟨Z2, hZ2⟩ : ∃ Z2, Z2 = (((((Z.setCell ⟨z1, 0, none⟩ (.string ⟨#[]⟩)).setCell ⟨z1, 1, none⟩ (.string ⟨#[]⟩)).setCell ⟨z1, 2, none⟩ (.slice none 0 0)).setCell ⟨z1, 3, none⟩ (.int .i64 0)).setCell ⟨z1, 4, none⟩ (.slice none 0 0)) := ⟨_, rfl⟩
  have BZ2 : BoxL Z2 z1 [.string ⟨#[]⟩, .string ⟨#[]⟩, .slice none 0 0, .int .i64 0, .slice none 0 0] := by rw [hZ2]; exact boxL_set5 BYZ _ _ _ _ _
  have hBZ2 : Below w.heap.size w Z2 := by rw [hZ2]; exact below_setT hBZ (by have := HZZ.out; omega) _ _ _ _ _
  rw [← hZ2]
  clear hZ2
  have r0 := BZ2.1 0 _ rfl; have r1 := BZ2.1 1 _ rfl; have r2 := BZ2.1 2 _ rfl; have r3 := BZ2.1 3 _ rfl; have r4 := BZ2.1 4 _ rfl
  skip
  exact bodyPost_ret (v := .tuple #[.agg #[.string ⟨#[]⟩, .string ⟨#[]⟩, .slice none 0 0, .int .i64 0, .slice none 0 0], .int .i64 0, .int .i64 1]) (by simp [results, Try.results21, go_sem, r0, r1, r2, r3, r4]) rfl (leaseU_zero (by decide) ⟨rfl, hBZ2⟩)
 ·
  have h2 : 1099511627776 < k := by omega
  clear hE HE
  go_wp2
  obtain ⟨Z2, hZ2⟩ : ∃ Z2, Z2 = (((((Z.setCell ⟨z1, 0, none⟩ (.string ⟨#[]⟩)).setCell ⟨z1, 1, none⟩ (.string ⟨#[]⟩)).setCell ⟨z1, 2, none⟩ (.slice none 0 0)).setCell ⟨z1, 3, none⟩ (.int .i64 0)).setCell ⟨z1, 4, none⟩ (.slice none 0 0)) := ⟨_, rfl⟩
  have BZ2 : BoxL Z2 z1 [.string ⟨#[]⟩, .string ⟨#[]⟩, .slice none 0 0, .int .i64 0, .slice none 0 0] := by rw [hZ2]; exact boxL_set5 BYZ _ _ _ _ _
  have hBZ2 : Below w.heap.size w Z2 := by rw [hZ2]; exact below_setT hBZ (by have := HZZ.out; omega) _ _ _ _ _
  rw [← hZ2]
  clear hZ2
  have r0 := BZ2.1 0 _ rfl; have r1 := BZ2.1 1 _ rfl; have r2 := BZ2.1 2 _ rfl; have r3 := BZ2.1 3 _ rfl; have r4 := BZ2.1 4 _ rfl
  skip
  exact bodyPost_ret (v := .tuple #[.agg #[.string ⟨#[]⟩, .string ⟨#[]⟩, .slice none 0 0, .int .i64 0, .slice none 0 0], .int .i64 0, .int .i64 1]) (by simp [results, Try.results21, go_sem, r0, r1, r2, r3, r4]) rfl (leaseU_zero (by decide) ⟨rfl, hBZ2⟩)
set_option maxRecDepth 20000 in
set_option maxHeartbeats 2000000 in
theorem refLeaseHeld_any (ky nm : ByteArray) (ta : Option Addr) (tn tc : Nat) (is : Int) (sa : Option Addr) (n sc : Nat) (tv : List TaskV) (ss : List StP) (now k : Int) (w : World) (hnow : now ≤ 9223372036854775807) (hT : IsT w ta tc tv) (htn : tn = tv.length) (hZ : IsZ w sa sc ss) (hn : n = ss.length) (hOk : RunOk ky nm (plainT tv) ss is) (hk1 : 1 ≤ k) (hk2 : k ≤ 1099511627776) (hE : heldAt (settleS (plainT tv) (untF now []) (ss, is)).1 k ≠ none) (js : Int) (ys : List StP) :
  Calls Try.prog 21 #[.agg #[.string ky, .string nm, .slice ta tn tc, .int .i64 is, .slice sa n sc], .int .i64 now, .int .i64 k] w fun e w' => LeaseU w 1 0 ky nm js (plainT tv) ys e w' := by
 obtain ⟨W0, hW0⟩ : ∃ W0, W0 = (w.alloc (.cells #[.string ky, .string nm, .slice ta tn tc, .int .i64 is, .slice sa n sc] 27)).alloc (.cells #[.string ⟨#[]⟩, .string ⟨#[]⟩, .slice none 0 0, .int .i64 0, .slice none 0 0] 27) := ⟨_, rfl⟩
 have hB0 : Below w.heap.size w W0 := by rw [hW0]; exact bel2 w _ _
 have BX : BoxL W0 w.heap.size [.string ky, .string nm, .slice ta tn tc, .int .i64 is, .slice sa n sc] := by rw [hW0]; exact (boxL_new w [.string ky, .string nm, .slice ta tn tc, .int .i64 is, .slice sa n sc] _ rfl).alloc _
 have BY : BoxL W0 (w.heap.size + 1) [.string ⟨#[]⟩, .string ⟨#[]⟩, .slice none 0 0, .int .i64 0, .slice none 0 0] := by rw [hW0]; exact boxL_new _ [.string ⟨#[]⟩, .string ⟨#[]⟩, .slice none 0 0, .int .i64 0, .slice none 0 0] _ (by simp)
 have hs0 : W0.heap.size = w.heap.size + 2 := by rw [hW0]; simp
 have hnt : n = tn := by rw [hn, hOk.st.len, plainT_length, htn]
 obtain ⟨h10, h0, hin⟩ := inside_of htn hOk.dag
 have hSA : ∀ y, sa = some y → y.block < w.heap.size := fun y hy => hZ.lies (by omega) y hy
 have cS := refSettleF_any ky nm ta tn tc is sa n sc tv ss now W0 (hT.below hB0) htn (hZ.below hB0) hn hnow hOk
 have hR9 := settle_right (tries_one hOk.dag) (u := untF now []) (x := (ss, is)) hOk.st
 generalize settleS (plainT tv) (untF now []) (ss, is) = SS at *
 obtain ⟨zs, zi⟩ := SS
 dsimp only at cS hR9 hE ⊢
 have HR : Hid (RightS (plainT tv) zs zi) := hR9
 have HE : Hid _ := hE
 clear hE
 have HIN : Hid (∀ (i : Nat) t, tv[i]? = some t → ∀ x ∈ t.ns, 0 ≤ x ∧ x < tn) := hin
 have HTN : Hid (tn = tv.length ∧ n = tn ∧ tn ≤ 10 ∧ 0 < tn) := ⟨htn, hnt, h10, h0⟩
 have HT : Hid (IsT w ta tc tv) := hT
 have HSA : Hid (∀ y, sa = some y → y.block < w.heap.size) := hSA
 clear hT htn hZ hn hOk hR9 hnt h10 h0 hin hSA
 have f0 := BX.1 0 _ rfl; have f1 := BX.1 1 _ rfl; have f2 := BX.1 2 _ rfl; have f3 := BX.1 3 _ rfl; have f4 := BX.1 4 _ rfl
 go_enter Try.func21, Try.ntmps21
 refine wp_seq_k (fun K hK => ?_); have HK : Shut _ := hK; clear hK
 go_wp2
 refine HK.out _ _ ?_; clear HK K
 rw [← hW0]
 clear hW0
 obtain ⟨z0, hz0⟩ : ∃ z, z = w.heap.size := ⟨_, rfl⟩
 obtain ⟨z1, hz1⟩ : ∃ z, z = z0 + 1 := ⟨_, rfl⟩
 rw [← hz0] at BX BY
 rw [← hz0, ← hz1]
 rw [← hz1] at BY
 rw [← hz0] at f0 f1 f2 f3 f4
 have HZZ : Hid (z0 = w.heap.size ∧ z1 = z0 + 1 ∧ W0.heap.size = w.heap.size + 2) := ⟨hz0, hz1, hs0⟩
 clear hz0 hz1 hs0
 refine wp_seq_k (fun K hK => ?_); have HK : Shut _ := hK; clear hK
 go_wp2_with (go_at_call 18; refine cS.mono ?_; rintro e w1 ⟨a, c, rfl, hIZ, hnz, hfa, hb⟩; have BX1 := BX.below hb; have BY1 := BY.below hb; have hB1 := Below.tr hB0 hb; have HNZ : Hid (n = zs.length ∧ ∀ y, a = some y → y.block ≠ z0 ∧ y.block ≠ z1) := ⟨hnz, fun y hy => by have := HZZ.out; rcases hfa with e | e; (have := HSA.out y (by rw [← e]; exact hy); omega); (have := e y hy; omega)⟩; clear hnz hfa; have v0 := BX1.1 0 _ rfl; have v1 := BX1.1 1 _ rfl; have v2 := BX1.1 2 _ rfl; have v3 := BX1.1 3 _ rfl; have v4 := BX1.1 4 _ rfl; have d0 := BX1.2 0 (by simp); have d1 := BX1.2 1 (by simp); have d2 := BX1.2 2 (by simp); have d3 := BX1.2 3 (by simp); have d4 := BX1.2 4 (by simp))
 refine HK.out _ _ ?_; clear HK K
 obtain ⟨Z, hZ9⟩ : ∃ Z, Z = (((((w1.setCell ⟨z0, 0, none⟩ (.string ky)).setCell ⟨z0, 1, none⟩ (.string nm)).setCell ⟨z0, 2, none⟩ (.slice ta tn tc)).setCell ⟨z0, 3, none⟩ (.int .i64 zi)).setCell ⟨z0, 4, none⟩ (.slice a n c)) := ⟨_, rfl⟩
 have TZ : Turns (fun k => k = z0) w1 Z := by rw [hZ9]; exact turns_set5 _ _ _ _ _ _ _
 have BZ : BoxL Z z0 [.string ky, .string nm, .slice ta tn tc, .int .i64 zi, .slice a n c] := by rw [hZ9]; exact boxL_set5 BX1 _ _ _ _ _
 have BYZ := boxL_turns BY1 TZ (by have := HZZ.out; omega)
 have hBZ := Below.turns hB1 TZ (fun k hk => by have := HZZ.out; omega)
 have IZ := hIZ.turns TZ (fun y hy hk => (HNZ.out.2 y hy).1 hk)
 rw [← hZ9]
 clear f0 f1 f2 f3 f4 v0 v1 v2 v3 v4 d0 d1 d2 d3 d4 hZ9 hIZ
 have h1 : ¬ k < 1 := by omega
 have h2 : ¬ (1099511627776 : Int) < k := by omega
 have hnn : n ≤ 10 := by have := HTN.out; omega
 have hnc : n ≤ c ∧ c ≤ 9223372036854775807 := by have h1 := IZ.1; have h2 := IZ.2.1; rw [← HNZ.out.1] at h1; exact ⟨h1, h2⟩
 obtain ⟨hnc1, hnc2⟩ := hnc
 refine wp_seq_k (fun K hK => ?_); have HK : Shut _ := hK; clear hK
 go_wp2
 refine HK.out _ _ ?_; clear HK K
 clear h1 h2
 have p0 := BZ.1 0 _ rfl; have p1 := BZ.1 1 _ rfl; have p2 := BZ.1 2 _ rfl; have p3 := BZ.1 3 _ rfl; have p4 := BZ.1 4 _ rfl
 refine wp_seq_k (fun K hK => ?_); have HK : Shut _ := hK; clear hK
 refine hideQ (fun Q9 hQ9 => ?_); have HQ9 : Shut _ := hQ9; clear hQ9
 go_wp2
 clear p0 p1 p2 p3 p4
 have hB00 := Below.refl Z.heap.size Z
 have h00 : Hid (∀ (i : Nat) s, i < 0 → zs[i]? = some s → s.k ≠ k) := fun i s h => absurd h (Nat.not_lt_zero _)
 go_loopw [28] (fun v wr => ∃ j : Nat, j ≤ n ∧ v = .int .i64 j ∧ Hid (∀ (i : Nat) s, i < j → zs[i]? = some s → s.k ≠ k) ∧ Below Z.heap.size Z wr) (fun v _ => n - (intOf v).toNat)
 case atStart => exact ⟨0, by omega, rfl, h00, hB00⟩
 case round =>
  clear h00 hB00
  obtain ⟨j, hj, rfl, hh, hB⟩ := hrel
  by_cases hlt : j < n
  ·
   have hlt' : (j : Int) < n := by omega
   obtain ⟨x, hx⟩ : ∃ x, zs[j]? = some x := ⟨_, List.getElem?_eq_getElem (by rw [← HNZ.out.1]; exact hlt)⟩
   obtain ⟨b, o, rfl, -⟩ := IZ.some (by have := HNZ.out.1; omega)
   obtain ⟨g0, g1, g2, g3, g4⟩ := (IZ.below hB).at hx
   have hB2 : Below Z.heap.size Z (wr.alloc (.cells #[.int .i64 x.i, .int .i64 x.t, .int .i64 x.d, .int .i64 x.k, .string x.r] 52)) := hB.alloc hB.size _
   by_cases hk : x.k = k
   ·
    obtain ⟨xi, xt, xd, xk, xr⟩ := x
    dsimp only at hk
    subst hk
    obtain ⟨V, hV⟩ : ∃ V, V = wr.alloc (.cells #[.int .i64 xi, .int .i64 xt, .int .i64 xd, .int .i64 xk, .string xr] 52) := ⟨_, rfl⟩
    dsimp only at hB2
    rw [← hV] at hB2
    have bS : BoxL V wr.heap.size [.int .i64 xi, .int .i64 xt, .int .i64 xd, .int .i64 xk, .string xr] := by rw [hV]; exact boxL_new wr _ _ rfl
    have BYV := BYZ.below hB2
    have hBZV := Below.tr hBZ hB2
    clear BYZ hBZ
    have BYZ := BYV
    have hBZ := hBZV
    have y0 := BYZ.1 0 _ rfl; have y1 := BYZ.1 1 _ rfl; have y2 := BYZ.1 2 _ rfl; have y3 := BYZ.1 3 _ rfl; have y4 := BYZ.1 4 _ rfl
    have s0 := BYZ.2 0 (by simp); have s1 := BYZ.2 1 (by simp); have s2 := BYZ.2 2 (by simp); have s3 := BYZ.2 3 (by simp); have s4 := BYZ.2 4 (by simp)
    rw [hV] at y0 y1 y2 y3 y4 s0 s1 s2 s3 s4
    clear hx HK
    go_wp2
    rw [← hV]
    obtain ⟨Z2, hZ2⟩ : ∃ Z2, Z2 = (((((V.setCell ⟨z1, 0, none⟩ (.string ⟨#[]⟩)).setCell ⟨z1, 1, none⟩ (.string ⟨#[]⟩)).setCell ⟨z1, 2, none⟩ (.slice none 0 0)).setCell ⟨z1, 3, none⟩ (.int .i64 0)).setCell ⟨z1, 4, none⟩ (.slice none 0 0)) := ⟨_, rfl⟩
    have BZ2 : BoxL Z2 z1 [.string ⟨#[]⟩, .string ⟨#[]⟩, .slice none 0 0, .int .i64 0, .slice none 0 0] := by rw [hZ2]; exact boxL_set5 BYZ _ _ _ _ _
    have hBZ2 : Below w.heap.size w Z2 := by rw [hZ2]; exact below_setT hBZ (by have := HZZ.out; omega) _ _ _ _ _
    rw [← hZ2]
    clear hZ2
    have r0 := BZ2.1 0 _ rfl; have r1 := BZ2.1 1 _ rfl; have r2 := BZ2.1 2 _ rfl; have r3 := BZ2.1 3 _ rfl; have r4 := BZ2.1 4 _ rfl
    refine HQ9.out _ _ _ ?_
    exact bodyPost_ret (v := .tuple #[.agg #[.string ⟨#[]⟩, .string ⟨#[]⟩, .slice none 0 0, .int .i64 0, .slice none 0 0], .int .i64 0, .int .i64 1]) (by simp [results, Try.results21, go_sem, r0, r1, r2, r3, r4]) rfl (leaseU_zero (by decide) ⟨rfl, hBZ2⟩)
   ·
    have hk' : (x.k == k) = false := by simpa using hk
    have hT : Hid (∀ (i : Nat) s, i < j + 1 → zs[i]? = some s → s.k ≠ k) := fun i s hi hs => by
     rcases Nat.lt_or_ge i j with h | h
     ·
      exact hh.out i s h hs
     ·
      obtain rfl : i = j := by omega
      rw [hx] at hs; cases hs; exact hk
    obtain ⟨xi, xt, xd, xk, xr⟩ := x
    dsimp only at hk hk' hB2
    clear hx hk HK
    go_wp2
    go_roundw
    case rel => exact ⟨j + 1, by omega, by go_num, hT, hB2⟩
    case measure => simp [intOf]; omega
  ·
   obtain rfl : n = j := by omega
   exfalso
   obtain ⟨i, hi⟩ := Option.ne_none_iff_exists'.1 HE.out
   obtain ⟨s, hs, -, hsk⟩ := held_some hi
   exact hh.out i s (by rw [HNZ.out.1]; exact (List.getElem?_eq_some_iff.1 hs).1) hs hsk
set_option maxRecDepth 20000 in
set_option maxHeartbeats 4000000 in
theorem refLeaseGo_any (ky nm : ByteArray) (ta : Option Addr) (tn tc : Nat) (is : Int) (sa : Option Addr) (n sc : Nat) (tv : List TaskV) (ss : List StP) (now k : Int) (w : World) (hnow : now ≤ 9223372036854775807) (hT : IsT w ta tc tv) (htn : tn = tv.length) (hZ : IsZ w sa sc ss) (hn : n = ss.length) (hOk : RunOk ky nm (plainT tv) ss is) (hk1 : 1 ≤ k) (hk2 : k ≤ 1099511627776) (hE : heldAt (settleS (plainT tv) (untF now []) (ss, is)).1 k = none) :
  Calls Try.prog 21 #[.agg #[.string ky, .string nm, .slice ta tn tc, .int .i64 is, .slice sa n sc], .int .i64 now, .int .i64 k] w fun e w' => LeaseU w (leaseRE (settleS (plainT tv) (untF now []) (ss, is)).1 now k) (leaseRP (settleS (plainT tv) (untF now []) (ss, is)).1 now k) ky nm (settleS (plainT tv) (untF now []) (ss, is)).2 (plainT tv) (leaseRZ (plainT tv) (settleS (plainT tv) (untF now []) (ss, is)).1 now k) e w' := by
 have cU := fun W => refTime_any now W hnow
 have cU : ∀ W, Calls Try.prog 53 #[.int .i64 now] W fun e w' => e = .returned (.int .i64 (untF now [])) ∧ W = w' := cU
 obtain ⟨W0, hW0⟩ : ∃ W0, W0 = (w.alloc (.cells #[.string ky, .string nm, .slice ta tn tc, .int .i64 is, .slice sa n sc] 27)).alloc (.cells #[.string ⟨#[]⟩, .string ⟨#[]⟩, .slice none 0 0, .int .i64 0, .slice none 0 0] 27) := ⟨_, rfl⟩
 have hB0 : Below w.heap.size w W0 := by rw [hW0]; exact bel2 w _ _
 have BX : BoxL W0 w.heap.size [.string ky, .string nm, .slice ta tn tc, .int .i64 is, .slice sa n sc] := by rw [hW0]; exact (boxL_new w [.string ky, .string nm, .slice ta tn tc, .int .i64 is, .slice sa n sc] _ rfl).alloc _
 have BY : BoxL W0 (w.heap.size + 1) [.string ⟨#[]⟩, .string ⟨#[]⟩, .slice none 0 0, .int .i64 0, .slice none 0 0] := by rw [hW0]; exact boxL_new _ [.string ⟨#[]⟩, .string ⟨#[]⟩, .slice none 0 0, .int .i64 0, .slice none 0 0] _ (by simp)
 have hs0 : W0.heap.size = w.heap.size + 2 := by rw [hW0]; simp
 have hnt : n = tn := by rw [hn, hOk.st.len, plainT_length, htn]
 obtain ⟨h10, h0, hin⟩ := inside_of htn hOk.dag
 have hSA : ∀ y, sa = some y → y.block < w.heap.size := fun y hy => hZ.lies (by omega) y hy
 have cS := refSettleF_any ky nm ta tn tc is sa n sc tv ss now W0 (hT.below hB0) htn (hZ.below hB0) hn hnow hOk
 have hR9 := settle_right (tries_one hOk.dag) (u := untF now []) (x := (ss, is)) hOk.st
 generalize settleS (plainT tv) (untF now []) (ss, is) = SS at *
 obtain ⟨zs, zi⟩ := SS
 dsimp only at cS hR9 hE ⊢
 have HR : Hid (RightS (plainT tv) zs zi) := hR9
 have HE : Hid _ := hE
 clear hE
 have HIN : Hid (∀ (i : Nat) t, tv[i]? = some t → ∀ x ∈ t.ns, 0 ≤ x ∧ x < tn) := hin
 have HTN : Hid (tn = tv.length ∧ n = tn ∧ tn ≤ 10 ∧ 0 < tn) := ⟨htn, hnt, h10, h0⟩
 have HT : Hid (IsT w ta tc tv) := hT
 have HSA : Hid (∀ y, sa = some y → y.block < w.heap.size) := hSA
 clear hT htn hZ hn hOk hR9 hnt h10 h0 hin hSA
 have f0 := BX.1 0 _ rfl; have f1 := BX.1 1 _ rfl; have f2 := BX.1 2 _ rfl; have f3 := BX.1 3 _ rfl; have f4 := BX.1 4 _ rfl
 go_enter Try.func21, Try.ntmps21
 refine wp_seq_k (fun K hK => ?_); have HK : Shut _ := hK; clear hK
 go_wp2
 refine HK.out _ _ ?_; clear HK K
 rw [← hW0]
 clear hW0
 obtain ⟨z0, hz0⟩ : ∃ z, z = w.heap.size := ⟨_, rfl⟩
 obtain ⟨z1, hz1⟩ : ∃ z, z = z0 + 1 := ⟨_, rfl⟩
 rw [← hz0] at BX BY
 rw [← hz0, ← hz1]
 rw [← hz1] at BY
 rw [← hz0] at f0 f1 f2 f3 f4
 have HZZ : Hid (z0 = w.heap.size ∧ z1 = z0 + 1 ∧ W0.heap.size = w.heap.size + 2) := ⟨hz0, hz1, hs0⟩
 clear hz0 hz1 hs0
 refine wp_seq_k (fun K hK => ?_); have HK : Shut _ := hK; clear hK
 go_wp2_with (go_at_call 18; refine cS.mono ?_; rintro e w1 ⟨a, c, rfl, hIZ, hnz, hfa, hb⟩; have BX1 := BX.below hb; have BY1 := BY.below hb; have hB1 := Below.tr hB0 hb; have HNZ : Hid (n = zs.length ∧ ∀ y, a = some y → y.block ≠ z0 ∧ y.block ≠ z1) := ⟨hnz, fun y hy => by have := HZZ.out; rcases hfa with e | e; (have := HSA.out y (by rw [← e]; exact hy); omega); (have := e y hy; omega)⟩; clear hnz hfa; have v0 := BX1.1 0 _ rfl; have v1 := BX1.1 1 _ rfl; have v2 := BX1.1 2 _ rfl; have v3 := BX1.1 3 _ rfl; have v4 := BX1.1 4 _ rfl; have d0 := BX1.2 0 (by simp); have d1 := BX1.2 1 (by simp); have d2 := BX1.2 2 (by simp); have d3 := BX1.2 3 (by simp); have d4 := BX1.2 4 (by simp))
 refine HK.out _ _ ?_; clear HK K
 obtain ⟨Z, hZ9⟩ : ∃ Z, Z = (((((w1.setCell ⟨z0, 0, none⟩ (.string ky)).setCell ⟨z0, 1, none⟩ (.string nm)).setCell ⟨z0, 2, none⟩ (.slice ta tn tc)).setCell ⟨z0, 3, none⟩ (.int .i64 zi)).setCell ⟨z0, 4, none⟩ (.slice a n c)) := ⟨_, rfl⟩
 have TZ : Turns (fun k => k = z0) w1 Z := by rw [hZ9]; exact turns_set5 _ _ _ _ _ _ _
 have BZ : BoxL Z z0 [.string ky, .string nm, .slice ta tn tc, .int .i64 zi, .slice a n c] := by rw [hZ9]; exact boxL_set5 BX1 _ _ _ _ _
 have BYZ := boxL_turns BY1 TZ (by have := HZZ.out; omega)
 have hBZ := Below.turns hB1 TZ (fun k hk => by have := HZZ.out; omega)
 have IZ := hIZ.turns TZ (fun y hy hk => (HNZ.out.2 y hy).1 hk)
 rw [← hZ9]
 clear f0 f1 f2 f3 f4 v0 v1 v2 v3 v4 d0 d1 d2 d3 d4 hZ9 hIZ
 have h1 : ¬ k < 1 := by omega
 have h2 : ¬ (1099511627776 : Int) < k := by omega
 have hnn : n ≤ 10 := by have := HTN.out; omega
 have hnc : n ≤ c ∧ c ≤ 9223372036854775807 := by have h1 := IZ.1; have h2 := IZ.2.1; rw [← HNZ.out.1] at h1; exact ⟨h1, h2⟩
 obtain ⟨hnc1, hnc2⟩ := hnc
 have HKK : Hid (1 ≤ k ∧ k ≤ 1099511627776) := ⟨hk1, hk2⟩
 have HNK : Hid (∀ (i : Nat) s, zs[i]? = some s → s.k ≠ k) := fun i s hs e => by
  obtain ⟨t, ht⟩ := HR.out.task hs
  have h3 := (right_held (HR.out.each i s t hs ht).right).2.1 (by omega)
  exact held_none HE.out hs h3 e
 refine wp_seq_k (fun K hK => ?_); have HK : Shut _ := hK; clear hK
 go_wp2
 refine HK.out _ _ ?_; clear HK K
 clear h1 h2 hk1 hk2
 have p0 := BZ.1 0 _ rfl; have p1 := BZ.1 1 _ rfl; have p2 := BZ.1 2 _ rfl; have p3 := BZ.1 3 _ rfl; have p4 := BZ.1 4 _ rfl
 refine wp_seq_k (fun K hK => ?_); have HK : Shut _ := hK; clear hK
 go_wp2
 clear p0 p1 p2 p3 p4
 have hB00 := Below.refl Z.heap.size Z
 go_loopw [28] (fun v wr => ∃ j : Nat, j ≤ n ∧ v = .int .i64 j ∧ Below Z.heap.size Z wr) (fun v _ => n - (intOf v).toNat)
 case atStart => exact ⟨0, by omega, rfl, hB00⟩
 case round =>
  clear hB00
  obtain ⟨j, hj, rfl, hB⟩ := hrel
  by_cases hlt : j < n
  ·
   have hlt' : (j : Int) < n := by omega
   obtain ⟨x, hx⟩ : ∃ x, zs[j]? = some x := ⟨_, List.getElem?_eq_getElem (by rw [← HNZ.out.1]; exact hlt)⟩
   obtain ⟨b, o, rfl, -⟩ := IZ.some (by have := HNZ.out.1; omega)
   obtain ⟨g0, g1, g2, g3, g4⟩ := (IZ.below hB).at hx
   have hB2 : Below Z.heap.size Z (wr.alloc (.cells #[.int .i64 x.i, .int .i64 x.t, .int .i64 x.d, .int .i64 x.k, .string x.r] 52)) := hB.alloc hB.size _
   have hk' : (x.k == k) = false := by simpa using HNK.out j x hx
   obtain ⟨xi, xt, xd, xk, xr⟩ := x
   dsimp only at hk' hB2
   clear hx HK
   go_wp2
   go_roundw
   case rel => exact ⟨j + 1, by omega, by go_num, hB2⟩
   case measure => simp [intOf]; omega
  ·
   obtain rfl : n = j := by omega
   have hx : ¬ (n : Int) < n := by omega
   go_wp2
   refine HK.out _ _ ?_
   clear HK
   replace BZ := BZ.below hB
   replace BYZ := BYZ.below hB
   replace IZ := IZ.below hB
   replace hBZ := Below.tr hBZ hB
   obtain ⟨V1, hV1⟩ : ∃ V1, V1 = wr := ⟨_, rfl⟩
   rw [← hV1] at BZ BYZ IZ hBZ ⊢
   clear hV1 hB TZ
   have p0 := BZ.1 0 _ rfl; have p1 := BZ.1 1 _ rfl; have p2 := BZ.1 2 _ rfl; have p3 := BZ.1 3 _ rfl; have p4 := BZ.1 4 _ rfl
   refine hideQ (fun Q9 hQ9 => ?_); have HQ9 : Shut _ := hQ9; clear hQ9
   refine wp_seq_k (fun K hK => ?_); have HK : Shut _ := hK; clear hK
   go_wp2
   clear p0 p1 p2 p3 p4
   have hB00 := Below.refl V1.heap.size V1
   have h00 : Hid (∀ (i : Nat) s, i < 0 → zs[i]? = some s → ¬ (s.i = 1 ∧ s.d ≤ untF now [])) := fun i s h => absurd h (Nat.not_lt_zero _)
   go_loopw [41] (fun v wr => ∃ j : Nat, j ≤ n ∧ v = .int .i64 j ∧ Hid (∀ (i : Nat) s, i < j → zs[i]? = some s → ¬ (s.i = 1 ∧ s.d ≤ untF now [])) ∧ Below V1.heap.size V1 wr) (fun v _ => n - (intOf v).toNat)
   case atStart => exact ⟨0, by omega, rfl, h00, hB00⟩
   case round =>
    clear h00 hB00
    obtain ⟨j, hj2, rfl, hh, hB⟩ := hrel
    by_cases hlt : j < n
    ·
     have hlt' : (j : Int) < n := by omega
     obtain ⟨x, hx⟩ : ∃ x, zs[j]? = some x := ⟨_, List.getElem?_eq_getElem (by rw [← HNZ.out.1]; exact hlt)⟩
     obtain ⟨b, o, rfl, -⟩ := IZ.some (by have := HNZ.out.1; omega)
     obtain ⟨g0, g1, g2, g3, g4⟩ := (IZ.below hB).at hx
     have HX : Hid (zs[j]? = some x) := hx
     obtain ⟨xi, xt, xd, xk, xr⟩ := x
     dsimp only at g0 g1 g2 g3 g4
     obtain ⟨z2, hz2⟩ : ∃ z2, z2 = wr.heap.size := ⟨_, rfl⟩
     have HZ2 : Hid (z2 = wr.heap.size) := hz2
     obtain ⟨V, hV⟩ : ∃ V, V = wr.alloc (.cells #[.int .i64 xi, .int .i64 xt, .int .i64 xd, .int .i64 xk, .string xr] 52) := ⟨_, rfl⟩
     have hB2 : Below V1.heap.size V1 V := by rw [hV]; exact hB.alloc hB.size _
     have bS : BoxL V z2 [.int .i64 xi, .int .i64 xt, .int .i64 xd, .int .i64 xk, .string xr] := by rw [hV]; exact boxL_new wr _ _ hz2
     have BXV := BZ.below hB2
     have hC3 : ∀ W, Below V.heap.size V W → W.cell? ⟨z0, 3, none⟩ = some (.int .i64 zi) ∧ W.cell? ⟨z2, 0, none⟩ = some (.int .i64 xi) ∧ W.cell? ⟨z2, 2, none⟩ = some (.int .i64 xd) := fun W hW => ⟨(BXV.below hW).1 3 _ rfl, (bS.below hW).1 0 _ rfl, (bS.below hW).1 2 _ rfl⟩
     have hT0 : ¬ (xi = 1 ∧ xd ≤ untF now []) → Hid (∀ (i : Nat) s, i < j + 1 → zs[i]? = some s → ¬ (s.i = 1 ∧ s.d ≤ untF now [])) := fun hno i s hi hs => by
      rcases Nat.lt_or_ge i j with h | h
      ·
       exact hh.out i s h hs
      ·
       obtain rfl : i = j := by omega
       rw [hx] at hs; cases hs; exact hno
     clear hx
     by_cases hz : zi = 0
     ·
      have i0 : (zi == 0) = true := by simpa using hz
      by_cases hx1 : xi = 1
      ·
       have i1 : (xi == 1) = true := by simpa using hx1
       by_cases hd : xd ≤ untF now []
       ·
        have i2 : decide (xd ≤ untF now []) = true := decide_eq_true hd
        have HD : Hid (zi = 0 ∧ xi = 1 ∧ xd ≤ untF now []) := ⟨hz, hx1, hd⟩
        clear hT0 hz hx1
        go_wp2
        rw [← hz2, ← hV]
        clear g0 g1 g2 g3 g4 hV hz2
        refine wp_region_noPanic ?_
        refine wp_region_held_drew (S := fun W => W.cell? ⟨z0, 3, none⟩ = some (.int .i64 zi) ∧ W.cell? ⟨z2, 0, none⟩ = some (.int .i64 xi) ∧ W.cell? ⟨z2, 2, none⟩ = some (.int .i64 xd)) (by kernel_rfl) (hC3 _ (Below.refl _ _).drew) (fun hHeld => ?_)
        refine take_at (i := 0) (v := ?_) rfl (by kernel_rfl) (by kernel_rfl) (by kernel_rfl) (fun _ _ _ h => h) (Or.inl ⟨by rfl, ?_⟩) (by assumption) ?_
        rotate_left 1
        ·
         (intro w hSw; (try dsimp only at hSw); go_simp; (try with_reducible rfl))
        try go_frame
        refine take_at (i := 1) (v := ?_) rfl (by kernel_rfl) (by kernel_rfl) (by kernel_rfl) (fun _ _ _ h => h) (Or.inl ⟨by rfl, ?_⟩) (by assumption) ?_
        rotate_left 1
        ·
         (intro w hSw; (try dsimp only at hSw); go_simp; (try with_reducible rfl))
        try go_frame
        refine take_at (i := 2) (v := ?_) rfl (by kernel_rfl) (by kernel_rfl) (by kernel_rfl) (fun _ _ _ h => h) (Or.inl ⟨by rfl, ?_⟩) (by assumption) ?_
        rotate_left 1
        ·
         (intro w hSw; (try dsimp only at hSw); go_simp; (try with_reducible rfl))
        try go_frame
        refine take_at (i := 3) (v := ?_) rfl (by kernel_rfl) (by kernel_rfl) (by kernel_rfl) (fun _ _ _ h => h) (Or.inl ⟨by rfl, ?_⟩) (by assumption) ?_
        rotate_left 1
        ·
         (intro w hSw; (try dsimp only at hSw); go_simp; (try with_reducible rfl))
        try go_frame
        refine take_at (i := 4) (v := ?_) rfl (by kernel_rfl) (by kernel_rfl) (by kernel_rfl) (fun _ _ _ h => h) (Or.inl ⟨by rfl, ?_⟩) (by assumption) ?_
        rotate_left 1
        ·
         (intro w hSw; (try dsimp only at hSw); go_simp; (try with_reducible rfl))
        try go_frame
        refine take_at (i := 5) (v := ?_) rfl (by kernel_rfl) (by kernel_rfl) (by kernel_rfl) (fun _ _ _ h => h) (Or.inl ⟨by rfl, ?_⟩) (by assumption) ?_
        rotate_left 1
        ·
         (intro w hSw; (try dsimp only at hSw); go_simp; (try with_reducible rfl))
        try go_frame
        refine take_at (i := 6) (v := ?_) rfl (by kernel_rfl) (by kernel_rfl) (by kernel_rfl) (fun _ _ _ h => h) (Or.inl ⟨by rfl, ?_⟩) (by assumption) ?_
        rotate_left 1
        ·
         (intro w hSw; (try dsimp only at hSw); go_simp; (try with_reducible rfl))
        try go_frame
        refine take_at (i := 7) (v := ?_) rfl (by kernel_rfl) (by kernel_rfl) (by kernel_rfl) (fun _ _ _ h => h) (Or.inl ⟨by rfl, ?_⟩) (by assumption) ?_
        rotate_left 1
        ·
         (intro w hSw; (try dsimp only at hSw); go_simp; (try with_reducible rfl))
        try go_frame
        refine take_at (i := 8) (v := ?_) rfl (by kernel_rfl) (by kernel_rfl) (by kernel_rfl) (fun _ _ _ h => h) (Or.inl ⟨by rfl, ?_⟩) (by assumption) ?_
        rotate_left 1
        ·
         (intro w hSw; (try dsimp only at hSw); go_simp; (try with_reducible rfl))
        try go_frame
        refine take_at (i := 9) (v := ?_) rfl (by kernel_rfl) (by kernel_rfl) (by kernel_rfl) (fun _ _ _ h => h) (Or.inl ⟨by rfl, ?_⟩) (by assumption) ?_
        rotate_left 1
        ·
         (intro w hSw; (try dsimp only at hSw); go_simp; (try with_reducible rfl))
        try go_frame
        refine take_at (i := 10) (v := ?_) rfl (by kernel_rfl) (by kernel_rfl) (by kernel_rfl) (fun _ _ _ h => h) (Or.inl ⟨by rfl, ?_⟩) (by assumption) ?_
        rotate_left 1
        ·
         (intro w hSw; (try dsimp only at hSw); go_simp; (try with_reducible rfl))
        try go_frame
        refine take_at (i := 11) (v := ?_) rfl (by kernel_rfl) (by kernel_rfl) (by kernel_rfl) (fun _ _ _ h => h) (Or.inl ⟨by rfl, ?_⟩) (by assumption) ?_
        rotate_left 1
        ·
         (intro w hSw; (try dsimp only at hSw); go_simp; (try with_reducible rfl))
        try go_frame
        refine wpAnyH_ready (rs := [12]) (by kernel_rfl) (by simp) ?_
        refine cons_at (i := 12) rfl (fun K hK => ?_) AllReadyH.nil
        go_simp
        refine (cU _).mono ?_
        rintro e w4 ⟨rfl, rfl⟩
        refine hK.out _ _ (hC3 _ (Below.refl _ _).drew) (fun hHeld => ?_)
        clear hK K
        refine take_at (i := 13) (v := ?_) rfl (by kernel_rfl) (by kernel_rfl) (by kernel_rfl) (fun _ _ _ h => h) (Or.inl ⟨by rfl, ?_⟩) (by assumption) ?_
        rotate_left 1
        ·
         (intro w hSw; (try dsimp only at hSw); go_simp; (try with_reducible rfl))
        try go_frame
        refine take_at (i := 14) (v := ?_) rfl (by kernel_rfl) (by kernel_rfl) (by kernel_rfl) (fun _ _ _ h => h) (Or.inl ⟨by rfl, ?_⟩) (by assumption) ?_
        rotate_left 1
        ·
         (intro w hSw; (try dsimp only at hSw); go_simp; (try with_reducible rfl))
        try go_frame
        refine wpAnyH_done (by kernel_rfl) ?_ _
        refine NoPanic.normal ?_
        obtain ⟨t, htt⟩ : ∃ tt, tv[j]? = some tt := ⟨_, List.getElem?_eq_getElem (by have := HTN.out; omega)⟩
        obtain ⟨V0, hV0⟩ : ∃ V0, V0 = V.drew.drew := ⟨_, rfl⟩
        have hbV : Below V.heap.size V V0 := by rw [hV0]; exact (Below.refl _ _).drew.drew
        have hsV : V.heap.size ≤ V0.heap.size := hbV.size
        have hBw := Below.tr hBZ hB2
        obtain ⟨tb, to, rfl, htbl⟩ := HT.out.some (by have := HTN.out; omega)
        obtain ⟨y0, y1, y2, y3, -⟩ := (HT.out.below hBw).at htt
        obtain ⟨X, hX⟩ : ∃ X, X = leaseT t.le ⟨xi, xt, xd, xk, xr⟩ now k := ⟨_, rfl⟩
        have hsr := IZ.text HX.out
        have hXt : X.r.size ≤ maxLen := by
         rw [hX]; unfold leaseT; split
         ·
          exact hsr
         ·
          exact Nat.zero_le _
        have cL := fun W => refLeaseT_any t.a t.ns.length t.c t.tr t.wt t.le xi xt xd xk xr now k W hnow
        have hE0 : leaseE ⟨xi, xt, xd, xk, xr⟩ now k = 0 := by unfold leaseE; rw [if_pos HKK.out, if_pos ⟨HD.out.2.1, HD.out.2.2⟩]
        rw [← hX, hE0] at cL
        have HL : Hid (leaseRE zs now k = 0 ∧ leaseRP zs now k = j ∧ leaseRZ (plainT tv) zs now k = zs.set j X) := by
         have hdue : dueAt zs (untF now []) = some j := idx_is HX.out (decide_eq_true ⟨HD.out.2.1, HD.out.2.2⟩) fun i hi v hv => decide_eq_false (hh.out i v hi hv)
         have e : leaseRE zs now k = 0 := by unfold leaseRE; rw [if_pos ⟨HKK.out, HE.out⟩, if_neg (by rw [hdue]; simp)]
         refine ⟨e, by unfold leaseRP; rw [if_pos e, hdue]; rfl, ?_⟩
         unfold leaseRZ; rw [hdue]
         show leaseAt _ _ _ _ _ = _
         unfold leaseAt; rw [HX.out, plainT_get htt, hX]; rfl
        clear hX hE0
        obtain ⟨ci, ct, cd, ck, cr⟩ := X
        dsimp only [vT] at cL hXt
        have htc : tn ≤ tc ∧ tc ≤ 9223372036854775807 := by have a1 := HT.out.1; have a2 := HT.out.2.1; rw [← HTN.out.1] at a1; exact ⟨a1, a2⟩
        obtain ⟨htc1, htc2⟩ := htc
        have hi2 : (j : Int) < tn := by have := HTN.out; omega
        obtain ⟨tta, hta⟩ : ∃ a, a = t.a := ⟨_, rfl⟩
        obtain ⟨tl, htl⟩ : ∃ a, a = t.ns.length := ⟨_, rfl⟩
        obtain ⟨tcc, htcc⟩ : ∃ a, a = t.c := ⟨_, rfl⟩
        obtain ⟨ttr, httr⟩ : ∃ a, a = t.tr := ⟨_, rfl⟩
        obtain ⟨twt, htwt⟩ : ∃ a, a = t.wt := ⟨_, rfl⟩
        obtain ⟨tle, htle⟩ : ∃ a, a = t.le := ⟨_, rfl⟩
        rw [← hta, ← htl, ← htcc] at y0
        rw [← httr] at y1
        rw [← htwt] at y2
        rw [← htle] at y3
        rw [← hta, ← htl, ← htcc, ← httr, ← htwt, ← htle] at cL
        clear hta htl htcc httr htwt htle htt
        have HC : ∀ W, Below V.heap.size V W → W.cell? ⟨z0, 2, none⟩ = some (.slice (some ⟨tb, to, none⟩) tn tc) ∧ (W.cell? ⟨tb, to + j * 4, none⟩ = some (.slice tta tl tcc) ∧ W.cell? ⟨tb, to + j * 4 + 1, none⟩ = some (.int .i64 ttr) ∧ W.cell? ⟨tb, to + j * 4 + 2, none⟩ = some (.int .i64 twt) ∧ W.cell? ⟨tb, to + j * 4 + 3, none⟩ = some (.int .i64 tle)) ∧ (W.cell? ⟨z2, 0, none⟩ = some (.int .i64 xi) ∧ W.cell? ⟨z2, 1, none⟩ = some (.int .i64 xt) ∧ W.cell? ⟨z2, 2, none⟩ = some (.int .i64 xd) ∧ W.cell? ⟨z2, 3, none⟩ = some (.int .i64 xk) ∧ W.cell? ⟨z2, 4, none⟩ = some (.string xr)) := fun W hW =>
         ⟨(BXV.below hW).1 2 _ rfl, ⟨cell_below hW y0, cell_below hW y1, cell_below hW y2, cell_below hW y3⟩, ⟨(bS.below hW).1 0 _ rfl, (bS.below hW).1 1 _ rfl, (bS.below hW).1 2 _ rfl, (bS.below hW).1 3 _ rfl, (bS.below hW).1 4 _ rfl⟩⟩
        clear y0 y1 y2 y3 hHeld hC3 i0 i1 i2 hd
        go_wp2
        refine wp_region_noPanic ?_
        refine wp_region_held_drew (S := fun W => W.cell? ⟨z0, 2, none⟩ = some (.slice (some ⟨tb, to, none⟩) tn tc) ∧ (W.cell? ⟨tb, to + j * 4, none⟩ = some (.slice tta tl tcc) ∧ W.cell? ⟨tb, to + j * 4 + 1, none⟩ = some (.int .i64 ttr) ∧ W.cell? ⟨tb, to + j * 4 + 2, none⟩ = some (.int .i64 twt) ∧ W.cell? ⟨tb, to + j * 4 + 3, none⟩ = some (.int .i64 tle)) ∧ (W.cell? ⟨z2, 0, none⟩ = some (.int .i64 xi) ∧ W.cell? ⟨z2, 1, none⟩ = some (.int .i64 xt) ∧ W.cell? ⟨z2, 2, none⟩ = some (.int .i64 xd) ∧ W.cell? ⟨z2, 3, none⟩ = some (.int .i64 xk) ∧ W.cell? ⟨z2, 4, none⟩ = some (.string xr))) (by kernel_rfl) (by rw [← hV0]; exact HC _ hbV) (fun hHeld => ?_)
        rw [← hV0] at hHeld ⊢
        clear hV0
        refine take_at (i := 0) (v := ?_) rfl (by kernel_rfl) (by kernel_rfl) (by kernel_rfl) (fun _ _ _ h => h) (Or.inl ⟨by rfl, ?_⟩) (by assumption) ?_
        rotate_left 1
        ·
         (intro w hSw; (try dsimp only at hSw); go_simp; (try with_reducible rfl))
        try go_frame
        refine take_at (i := 1) (v := ?_) rfl (by kernel_rfl) (by kernel_rfl) (by kernel_rfl) (fun _ _ _ h => h) (Or.inl ⟨by rfl, ?_⟩) (by assumption) ?_
        rotate_left 1
        ·
         (intro w hSw; (try dsimp only at hSw); go_simp; (try with_reducible rfl))
        try go_frame
        refine take_at (i := 2) (v := ?_) rfl (by kernel_rfl) (by kernel_rfl) (by kernel_rfl) (fun _ _ _ h => h) (Or.inl ⟨by rfl, ?_⟩) (by assumption) ?_
        rotate_left 1
        ·
         (intro w hSw; (try dsimp only at hSw); go_simp; (try with_reducible rfl))
        try go_frame
        refine take_at (i := 3) (v := ?_) rfl (by kernel_rfl) (by kernel_rfl) (by kernel_rfl) (fun _ _ _ h => h) (Or.inl ⟨by rfl, ?_⟩) (by assumption) ?_
        rotate_left 1
        ·
         (intro w hSw; (try dsimp only at hSw); go_simp; (try with_reducible rfl))
        try go_frame
        refine take_at (i := 4) (v := ?_) rfl (by kernel_rfl) (by kernel_rfl) (by kernel_rfl) (fun _ _ _ h => h) (Or.inl ⟨by rfl, ?_⟩) (by assumption) ?_
        rotate_left 1
        ·
         (intro w hSw; (try dsimp only at hSw); go_simp; (try with_reducible rfl))
        try go_frame
        refine take_at (i := 5) (v := ?_) rfl (by kernel_rfl) (by kernel_rfl) (by kernel_rfl) (fun _ _ _ h => h) (Or.inl ⟨by rfl, ?_⟩) (by assumption) ?_
        rotate_left 1
        ·
         (intro w hSw; (try dsimp only at hSw); go_simp; (try with_reducible rfl))
        try go_frame
        refine take_at (i := 6) (v := ?_) rfl (by kernel_rfl) (by kernel_rfl) (by kernel_rfl) (fun _ _ _ h => h) (Or.inl ⟨by rfl, ?_⟩) (by assumption) ?_
        rotate_left 1
        ·
         (intro w hSw; (try dsimp only at hSw); go_simp; (try with_reducible rfl))
        try go_frame
        refine take_at (i := 7) (v := ?_) rfl (by kernel_rfl) (by kernel_rfl) (by kernel_rfl) (fun _ _ _ h => h) (Or.inl ⟨by rfl, ?_⟩) (by assumption) ?_
        rotate_left 1
        ·
         (intro w hSw; (try dsimp only at hSw); go_simp; (try with_reducible rfl))
        try go_frame
        refine take_at (i := 8) (v := ?_) rfl (by kernel_rfl) (by kernel_rfl) (by kernel_rfl) (fun _ _ _ h => h) (Or.inl ⟨by rfl, ?_⟩) (by assumption) ?_
        rotate_left 1
        ·
         (intro w hSw; (try dsimp only at hSw); go_simp; (try with_reducible rfl))
        try go_frame
        refine wpAnyH_ready (rs := [9, 13]) (by kernel_rfl) (by simp) ?_
        refine cons_at (i := 9) rfl (fun K9 hK => ?_) (cons_at (i := 13) rfl (fun K9 hK => ?_) AllReadyH.nil)
        ·
         go_simp
         (go_at_call 54; refine (cL _).mono ?_; rintro e w4 ⟨rfl, hb4⟩)
         have hB4 := Below.tr hbV hb4
         refine hK.out _ _ (HC _ hB4) (fun hHeld => ?_)
         clear hK K9
         refine take_at (i := 10) (v := ?_) rfl (by kernel_rfl) (by kernel_rfl) (by kernel_rfl) (fun _ _ _ h => h) (Or.inl ⟨by rfl, ?_⟩) (by assumption) ?_
         rotate_left 1
         ·
          (intro w hSw; (try dsimp only at hSw); go_simp; (try with_reducible rfl))
         try go_frame
         refine take_at (i := 11) (v := ?_) rfl (by kernel_rfl) (by kernel_rfl) (by kernel_rfl) (fun _ _ _ h => h) (Or.inl ⟨by rfl, ?_⟩) (by assumption) ?_
         rotate_left 1
         ·
          (intro w hSw; (try dsimp only at hSw); go_simp; (try with_reducible rfl))
         try go_frame
         refine take_at (i := 12) (v := ?_) rfl (by kernel_rfl) (by kernel_rfl) (by kernel_rfl) (fun _ _ _ h => h) (Or.inl ⟨by rfl, ?_⟩) (by assumption) ?_
         rotate_left 1
         ·
          (intro w hSw; (try dsimp only at hSw); go_simp; (try with_reducible rfl))
         try go_frame
         refine wpAnyH_ready (rs := [13]) (by kernel_rfl) (by simp) ?_
         refine cons_at (i := 13) rfl (fun K hK => ?_) AllReadyH.nil
         go_simp
         obtain ⟨A, hA⟩ : ∃ A, A = w4.alloc (.cells #[.int .i64 0, .int .i64 0, .int .i64 0, .int .i64 0, .string ⟨#[]⟩] 52) := ⟨_, rfl⟩
         have hBA : Below V.heap.size V A := by rw [hA]; exact hB4.alloc hB4.size _
         have bA : BoxL A w4.heap.size [.int .i64 0, .int .i64 0, .int .i64 0, .int .i64 0, .string ⟨#[]⟩] := by rw [hA]; exact boxL_new w4 [.int .i64 0, .int .i64 0, .int .i64 0, .int .i64 0, .string ⟨#[]⟩] _ rfl
         rw [← hA]
         refine hK.out _ _ (HC _ hBA) (fun hHeld => ?_)
         clear hK K hA
         have hzV : V.heap.size ≤ w4.heap.size := hB4.size
         obtain ⟨Y2, hY⟩ : ∃ Y2, Y2 = (((((A.setCell ⟨w4.heap.size, 0, none⟩ (.int .i64 ci)).setCell ⟨w4.heap.size, 1, none⟩ (.int .i64 ct)).setCell ⟨w4.heap.size, 2, none⟩ (.int .i64 cd)).setCell ⟨w4.heap.size, 3, none⟩ (.int .i64 ck)).setCell ⟨w4.heap.size, 4, none⟩ (.string cr)) := ⟨_, rfl⟩
         have bY : BoxL Y2 w4.heap.size [.int .i64 ci, .int .i64 ct, .int .i64 cd, .int .i64 ck, .string cr] := by rw [hY]; exact boxL_set5 bA _ _ _ _ _
         have hBY : Below V.heap.size V Y2 := by rw [hY]; exact below_setT hBA (by omega) _ _ _ _ _
         have u0 := bA.1 0 _ rfl; have u1 := bA.1 1 _ rfl; have u2 := bA.1 2 _ rfl; have u3 := bA.1 3 _ rfl; have u4 := bA.1 4 _ rfl
         have v0 := bA.2 0 (by simp); have v1 := bA.2 1 (by simp); have v2 := bA.2 2 (by simp); have v3 := bA.2 3 (by simp); have v4 := bA.2 4 (by simp)
         refine wpAnyH_ready (rs := [14]) (by kernel_rfl) (by simp) ?_
         refine cons_at (i := 14) rfl (fun K hK => ?_) AllReadyH.nil
         go_simp
         rw [← hY]
         refine hK.out _ _ (HC _ hBY) (fun hHeld => ?_)
         clear hK K hY
         refine take_at (i := 15) (v := ?_) rfl (by kernel_rfl) (by kernel_rfl) (by kernel_rfl) (fun _ _ _ h => h) (Or.inl ⟨by rfl, ?_⟩) (by assumption) ?_
         rotate_left 1
         ·
          (intro w hSw; (try dsimp only at hSw); go_simp; (try with_reducible rfl))
         try go_frame
         refine wpAnyH_done (by kernel_rfl) ?_ _
         refine NoPanic.normal ?_
         clear hHeld u0 u1 u2 u3 u4 v0 v1 v2 v3 v4 bA hBA
         generalize w4.heap.size = zz at *
         clear hB4 hb4
         have BX3 := BXV.below hBY
         have BY3 := BYZ.below (Below.tr hB2 hBY)
         have IY3 := IZ.below (Below.tr hB2 hBY)
         have hB3 := Below.tr hBw hBY
         have cW := refWith_any ky nm (some ⟨tb, to, none⟩) tn tc zi (some ⟨b, o, none⟩) n c zs j ci ct cd ck cr Y2 IY3 HNZ.out.1 (by have := HTN.out; omega) hXt
         rw [setI_nat] at cW
         have hs' : (zs.set j ⟨ci, ct, cd, ck, cr⟩).length = zs.length := List.length_set ..
         obtain ⟨qs, hqs⟩ : ∃ qs, qs = zs.set j ⟨ci, ct, cd, ck, cr⟩ := ⟨_, rfl⟩
         rw [← hqs] at cW HL hs'
         clear hqs
         have HQL : Hid (n = qs.length) := by show _ = _; rw [hs']; exact HNZ.out.1
         have x0 := BX3.1 0 _ rfl; have x1 := BX3.1 1 _ rfl; have x2 := BX3.1 2 _ rfl; have x3 := BX3.1 3 _ rfl; have x4 := BX3.1 4 _ rfl
         have b0 := bY.1 0 _ rfl; have b1 := bY.1 1 _ rfl; have b2 := bY.1 2 _ rfl; have b3 := bY.1 3 _ rfl; have b4 := bY.1 4 _ rfl
         clear hs' cL HC
         go_wp2_with (go_at_call 47; refine cW.mono ?_; rintro e w5 ⟨a1, c1, rfl, hz1, hf1, hb5⟩; have BY5 := BY3.below hb5; have hB5 := Below.tr hB3 hb5; have H5 : Hid (IsZ w5 a1 c1 qs ∧ ∀ y, a1 = some y → y.block ≠ z1) := ⟨hz1, fun y hy => by have := hf1 y hy; have h7 := BY3.lt (by simp); omega⟩; clear x0 x1 x2 x3 x4 b0 b1 b2 b3 b4 hz1 hf1 hb5 cW; have y0 := BY5.1 0 _ rfl; have y1 := BY5.1 1 _ rfl; have y2 := BY5.1 2 _ rfl; have y3 := BY5.1 3 _ rfl; have y4 := BY5.1 4 _ rfl; have d0 := BY5.2 0 (by simp); have d1 := BY5.2 1 (by simp); have d2 := BY5.2 2 (by simp); have d3 := BY5.2 3 (by simp); have d4 := BY5.2 4 (by simp))
         obtain ⟨Z2, hZ2⟩ : ∃ Z2, Z2 = (((((w5.setCell ⟨z1, 0, none⟩ (.string ky)).setCell ⟨z1, 1, none⟩ (.string nm)).setCell ⟨z1, 2, none⟩ (.slice (some ⟨tb, to, none⟩) tn tc)).setCell ⟨z1, 3, none⟩ (.int .i64 zi)).setCell ⟨z1, 4, none⟩ (.slice a1 n c1)) := ⟨_, rfl⟩
         have T2 : Turns (fun k => k = z1) w5 Z2 := by rw [hZ2]; exact turns_set5 _ _ _ _ _ _ _
         have BZ2 : BoxL Z2 z1 [.string ky, .string nm, .slice (some ⟨tb, to, none⟩) tn tc, .int .i64 zi, .slice a1 n c1] := by rw [hZ2]; exact boxL_set5 BY5 _ _ _ _ _
         have hBZ2 := Below.turns hB5 T2 (fun k hk => by have := HZZ.out; omega)
         have IZ2 := H5.out.1.turns T2 (fun y hy hk => H5.out.2 y hy hk)
         rw [← hZ2]
         clear hZ2
         have r0 := BZ2.1 0 _ rfl; have r1 := BZ2.1 1 _ rfl; have r2 := BZ2.1 2 _ rfl; have r3 := BZ2.1 3 _ rfl; have r4 := BZ2.1 4 _ rfl
         refine HQ9.out _ _ _ ?_
         rw [HL.out.1, HL.out.2.1, HL.out.2.2]
         exact bodyPost_ret (v := .tuple #[.agg #[.string ky, .string nm, .slice (some ⟨tb, to, none⟩) tn tc, .int .i64 zi, .slice a1 n c1], .int .i64 j, .int .i64 0]) (by simp [results, Try.results21, go_sem, r0, r1, r2, r3, r4]) rfl ⟨ky, nm, _, _, _, _, _, _, _, tv, _, rfl, ⟨HT.out.below hBZ2, HTN.out.1, IZ2, HQL.out⟩, fun _ => ⟨rfl, rfl, rfl, rfl, rfl⟩, fun h => absurd rfl h, hBZ2⟩
        ·
         go_simp
         obtain ⟨A, hA⟩ : ∃ A, A = V0.alloc (.cells #[.int .i64 0, .int .i64 0, .int .i64 0, .int .i64 0, .string ⟨#[]⟩] 52) := ⟨_, rfl⟩
         have hBA : Below V.heap.size V A := by rw [hA]; exact hbV.alloc hsV _
         have bA : BoxL A V0.heap.size [.int .i64 0, .int .i64 0, .int .i64 0, .int .i64 0, .string ⟨#[]⟩] := by rw [hA]; exact boxL_new V0 [.int .i64 0, .int .i64 0, .int .i64 0, .int .i64 0, .string ⟨#[]⟩] _ rfl
         rw [← hA]
         refine hK.out _ _ (HC _ hBA) (fun hHeld => ?_)
         clear hK K9 hA
         refine wpAnyH_ready (rs := [9]) (by kernel_rfl) (by simp) ?_
         refine cons_at (i := 9) rfl (fun K hK => ?_) AllReadyH.nil
         go_simp
         (go_at_call 54; refine (cL _).mono ?_; rintro e w4 ⟨rfl, hb4⟩)
         replace bA := bA.below hb4
         replace hBA := Below.tr hBA hb4
         clear hb4
         refine hK.out _ _ (HC _ hBA) (fun hHeld => ?_)
         clear hK K
         refine take_at (i := 10) (v := ?_) rfl (by kernel_rfl) (by kernel_rfl) (by kernel_rfl) (fun _ _ _ h => h) (Or.inl ⟨by rfl, ?_⟩) (by assumption) ?_
         rotate_left 1
         ·
          (intro w hSw; (try dsimp only at hSw); go_simp; (try with_reducible rfl))
         try go_frame
         refine take_at (i := 11) (v := ?_) rfl (by kernel_rfl) (by kernel_rfl) (by kernel_rfl) (fun _ _ _ h => h) (Or.inl ⟨by rfl, ?_⟩) (by assumption) ?_
         rotate_left 1
         ·
          (intro w hSw; (try dsimp only at hSw); go_simp; (try with_reducible rfl))
         try go_frame
         refine take_at (i := 12) (v := ?_) rfl (by kernel_rfl) (by kernel_rfl) (by kernel_rfl) (fun _ _ _ h => h) (Or.inl ⟨by rfl, ?_⟩) (by assumption) ?_
         rotate_left 1
         ·
          (intro w hSw; (try dsimp only at hSw); go_simp; (try with_reducible rfl))
         try go_frame
         generalize w4 = A at *
         have hzV : V.heap.size ≤ V0.heap.size := hsV
         obtain ⟨Y2, hY⟩ : ∃ Y2, Y2 = (((((A.setCell ⟨V0.heap.size, 0, none⟩ (.int .i64 ci)).setCell ⟨V0.heap.size, 1, none⟩ (.int .i64 ct)).setCell ⟨V0.heap.size, 2, none⟩ (.int .i64 cd)).setCell ⟨V0.heap.size, 3, none⟩ (.int .i64 ck)).setCell ⟨V0.heap.size, 4, none⟩ (.string cr)) := ⟨_, rfl⟩
         have bY : BoxL Y2 V0.heap.size [.int .i64 ci, .int .i64 ct, .int .i64 cd, .int .i64 ck, .string cr] := by rw [hY]; exact boxL_set5 bA _ _ _ _ _
         have hBY : Below V.heap.size V Y2 := by rw [hY]; exact below_setT hBA (by omega) _ _ _ _ _
         have u0 := bA.1 0 _ rfl; have u1 := bA.1 1 _ rfl; have u2 := bA.1 2 _ rfl; have u3 := bA.1 3 _ rfl; have u4 := bA.1 4 _ rfl
         have v0 := bA.2 0 (by simp); have v1 := bA.2 1 (by simp); have v2 := bA.2 2 (by simp); have v3 := bA.2 3 (by simp); have v4 := bA.2 4 (by simp)
         refine wpAnyH_ready (rs := [14]) (by kernel_rfl) (by simp) ?_
         refine cons_at (i := 14) rfl (fun K hK => ?_) AllReadyH.nil
         go_simp
         rw [← hY]
         refine hK.out _ _ (HC _ hBY) (fun hHeld => ?_)
         clear hK K hY
         refine take_at (i := 15) (v := ?_) rfl (by kernel_rfl) (by kernel_rfl) (by kernel_rfl) (fun _ _ _ h => h) (Or.inl ⟨by rfl, ?_⟩) (by assumption) ?_
         rotate_left 1
         ·
          (intro w hSw; (try dsimp only at hSw); go_simp; (try with_reducible rfl))
         try go_frame
         refine wpAnyH_done (by kernel_rfl) ?_ _
         refine NoPanic.normal ?_
         clear hHeld u0 u1 u2 u3 u4 v0 v1 v2 v3 v4 bA hBA
         generalize V0.heap.size = zz at *
         have BX3 := BXV.below hBY
         have BY3 := BYZ.below (Below.tr hB2 hBY)
         have IY3 := IZ.below (Below.tr hB2 hBY)
         have hB3 := Below.tr hBw hBY
         have cW := refWith_any ky nm (some ⟨tb, to, none⟩) tn tc zi (some ⟨b, o, none⟩) n c zs j ci ct cd ck cr Y2 IY3 HNZ.out.1 (by have := HTN.out; omega) hXt
         rw [setI_nat] at cW
         have hs' : (zs.set j ⟨ci, ct, cd, ck, cr⟩).length = zs.length := List.length_set ..
         obtain ⟨qs, hqs⟩ : ∃ qs, qs = zs.set j ⟨ci, ct, cd, ck, cr⟩ := ⟨_, rfl⟩
         rw [← hqs] at cW HL hs'
         clear hqs
         have HQL : Hid (n = qs.length) := by show _ = _; rw [hs']; exact HNZ.out.1
         have x0 := BX3.1 0 _ rfl; have x1 := BX3.1 1 _ rfl; have x2 := BX3.1 2 _ rfl; have x3 := BX3.1 3 _ rfl; have x4 := BX3.1 4 _ rfl
         have b0 := bY.1 0 _ rfl; have b1 := bY.1 1 _ rfl; have b2 := bY.1 2 _ rfl; have b3 := bY.1 3 _ rfl; have b4 := bY.1 4 _ rfl
         clear hs' cL HC
         go_wp2_with (go_at_call 47; refine cW.mono ?_; rintro e w5 ⟨a1, c1, rfl, hz1, hf1, hb5⟩; have BY5 := BY3.below hb5; have hB5 := Below.tr hB3 hb5; have H5 : Hid (IsZ w5 a1 c1 qs ∧ ∀ y, a1 = some y → y.block ≠ z1) := ⟨hz1, fun y hy => by have := hf1 y hy; have h7 := BY3.lt (by simp); omega⟩; clear x0 x1 x2 x3 x4 b0 b1 b2 b3 b4 hz1 hf1 hb5 cW; have y0 := BY5.1 0 _ rfl; have y1 := BY5.1 1 _ rfl; have y2 := BY5.1 2 _ rfl; have y3 := BY5.1 3 _ rfl; have y4 := BY5.1 4 _ rfl; have d0 := BY5.2 0 (by simp); have d1 := BY5.2 1 (by simp); have d2 := BY5.2 2 (by simp); have d3 := BY5.2 3 (by simp); have d4 := BY5.2 4 (by simp))
         obtain ⟨Z2, hZ2⟩ : ∃ Z2, Z2 = (((((w5.setCell ⟨z1, 0, none⟩ (.string ky)).setCell ⟨z1, 1, none⟩ (.string nm)).setCell ⟨z1, 2, none⟩ (.slice (some ⟨tb, to, none⟩) tn tc)).setCell ⟨z1, 3, none⟩ (.int .i64 zi)).setCell ⟨z1, 4, none⟩ (.slice a1 n c1)) := ⟨_, rfl⟩
         have T2 : Turns (fun k => k = z1) w5 Z2 := by rw [hZ2]; exact turns_set5 _ _ _ _ _ _ _
         have BZ2 : BoxL Z2 z1 [.string ky, .string nm, .slice (some ⟨tb, to, none⟩) tn tc, .int .i64 zi, .slice a1 n c1] := by rw [hZ2]; exact boxL_set5 BY5 _ _ _ _ _
         have hBZ2 := Below.turns hB5 T2 (fun k hk => by have := HZZ.out; omega)
         have IZ2 := H5.out.1.turns T2 (fun y hy hk => H5.out.2 y hy hk)
         rw [← hZ2]
         clear hZ2
         have r0 := BZ2.1 0 _ rfl; have r1 := BZ2.1 1 _ rfl; have r2 := BZ2.1 2 _ rfl; have r3 := BZ2.1 3 _ rfl; have r4 := BZ2.1 4 _ rfl
         refine HQ9.out _ _ _ ?_
         rw [HL.out.1, HL.out.2.1, HL.out.2.2]
         exact bodyPost_ret (v := .tuple #[.agg #[.string ky, .string nm, .slice (some ⟨tb, to, none⟩) tn tc, .int .i64 zi, .slice a1 n c1], .int .i64 j, .int .i64 0]) (by simp [results, Try.results21, go_sem, r0, r1, r2, r3, r4]) rfl ⟨ky, nm, _, _, _, _, _, _, _, tv, _, rfl, ⟨HT.out.below hBZ2, HTN.out.1, IZ2, HQL.out⟩, fun _ => ⟨rfl, rfl, rfl, rfl, rfl⟩, fun h => absurd rfl h, hBZ2⟩
       ·
        have hT := hT0 (fun h => hd h.2)
        have i2 : decide (xd ≤ untF now []) = false := decide_eq_false hd
        clear hT0 hz hx1
        go_wp2
        rw [← hz2, ← hV]
        clear g0 g1 g2 g3 g4 hV hz2
        refine wp_region_noPanic ?_
        refine wp_region_held_drew (S := fun W => W.cell? ⟨z0, 3, none⟩ = some (.int .i64 zi) ∧ W.cell? ⟨z2, 0, none⟩ = some (.int .i64 xi) ∧ W.cell? ⟨z2, 2, none⟩ = some (.int .i64 xd)) (by kernel_rfl) (hC3 _ (Below.refl _ _).drew) (fun hHeld => ?_)
        refine take_at (i := 0) (v := ?_) rfl (by kernel_rfl) (by kernel_rfl) (by kernel_rfl) (fun _ _ _ h => h) (Or.inl ⟨by rfl, ?_⟩) (by assumption) ?_
        rotate_left 1
        ·
         (intro w hSw; (try dsimp only at hSw); go_simp; (try with_reducible rfl))
        try go_frame
        refine take_at (i := 1) (v := ?_) rfl (by kernel_rfl) (by kernel_rfl) (by kernel_rfl) (fun _ _ _ h => h) (Or.inl ⟨by rfl, ?_⟩) (by assumption) ?_
        rotate_left 1
        ·
         (intro w hSw; (try dsimp only at hSw); go_simp; (try with_reducible rfl))
        try go_frame
        refine take_at (i := 2) (v := ?_) rfl (by kernel_rfl) (by kernel_rfl) (by kernel_rfl) (fun _ _ _ h => h) (Or.inl ⟨by rfl, ?_⟩) (by assumption) ?_
        rotate_left 1
        ·
         (intro w hSw; (try dsimp only at hSw); go_simp; (try with_reducible rfl))
        try go_frame
        refine take_at (i := 3) (v := ?_) rfl (by kernel_rfl) (by kernel_rfl) (by kernel_rfl) (fun _ _ _ h => h) (Or.inl ⟨by rfl, ?_⟩) (by assumption) ?_
        rotate_left 1
        ·
         (intro w hSw; (try dsimp only at hSw); go_simp; (try with_reducible rfl))
        try go_frame
        refine take_at (i := 4) (v := ?_) rfl (by kernel_rfl) (by kernel_rfl) (by kernel_rfl) (fun _ _ _ h => h) (Or.inl ⟨by rfl, ?_⟩) (by assumption) ?_
        rotate_left 1
        ·
         (intro w hSw; (try dsimp only at hSw); go_simp; (try with_reducible rfl))
        try go_frame
        refine take_at (i := 5) (v := ?_) rfl (by kernel_rfl) (by kernel_rfl) (by kernel_rfl) (fun _ _ _ h => h) (Or.inl ⟨by rfl, ?_⟩) (by assumption) ?_
        rotate_left 1
        ·
         (intro w hSw; (try dsimp only at hSw); go_simp; (try with_reducible rfl))
        try go_frame
        refine take_at (i := 6) (v := ?_) rfl (by kernel_rfl) (by kernel_rfl) (by kernel_rfl) (fun _ _ _ h => h) (Or.inl ⟨by rfl, ?_⟩) (by assumption) ?_
        rotate_left 1
        ·
         (intro w hSw; (try dsimp only at hSw); go_simp; (try with_reducible rfl))
        try go_frame
        refine take_at (i := 7) (v := ?_) rfl (by kernel_rfl) (by kernel_rfl) (by kernel_rfl) (fun _ _ _ h => h) (Or.inl ⟨by rfl, ?_⟩) (by assumption) ?_
        rotate_left 1
        ·
         (intro w hSw; (try dsimp only at hSw); go_simp; (try with_reducible rfl))
        try go_frame
        refine take_at (i := 8) (v := ?_) rfl (by kernel_rfl) (by kernel_rfl) (by kernel_rfl) (fun _ _ _ h => h) (Or.inl ⟨by rfl, ?_⟩) (by assumption) ?_
        rotate_left 1
        ·
         (intro w hSw; (try dsimp only at hSw); go_simp; (try with_reducible rfl))
        try go_frame
        refine take_at (i := 9) (v := ?_) rfl (by kernel_rfl) (by kernel_rfl) (by kernel_rfl) (fun _ _ _ h => h) (Or.inl ⟨by rfl, ?_⟩) (by assumption) ?_
        rotate_left 1
        ·
         (intro w hSw; (try dsimp only at hSw); go_simp; (try with_reducible rfl))
        try go_frame
        refine take_at (i := 10) (v := ?_) rfl (by kernel_rfl) (by kernel_rfl) (by kernel_rfl) (fun _ _ _ h => h) (Or.inl ⟨by rfl, ?_⟩) (by assumption) ?_
        rotate_left 1
        ·
         (intro w hSw; (try dsimp only at hSw); go_simp; (try with_reducible rfl))
        try go_frame
        refine take_at (i := 11) (v := ?_) rfl (by kernel_rfl) (by kernel_rfl) (by kernel_rfl) (fun _ _ _ h => h) (Or.inl ⟨by rfl, ?_⟩) (by assumption) ?_
        rotate_left 1
        ·
         (intro w hSw; (try dsimp only at hSw); go_simp; (try with_reducible rfl))
        try go_frame
        refine wpAnyH_ready (rs := [12]) (by kernel_rfl) (by simp) ?_
        refine cons_at (i := 12) rfl (fun K hK => ?_) AllReadyH.nil
        go_simp
        refine (cU _).mono ?_
        rintro e w4 ⟨rfl, rfl⟩
        refine hK.out _ _ (hC3 _ (Below.refl _ _).drew) (fun hHeld => ?_)
        clear hK K
        refine take_at (i := 13) (v := ?_) rfl (by kernel_rfl) (by kernel_rfl) (by kernel_rfl) (fun _ _ _ h => h) (Or.inl ⟨by rfl, ?_⟩) (by assumption) ?_
        rotate_left 1
        ·
         (intro w hSw; (try dsimp only at hSw); go_simp; (try with_reducible rfl))
        try go_frame
        refine take_at (i := 14) (v := ?_) rfl (by kernel_rfl) (by kernel_rfl) (by kernel_rfl) (fun _ _ _ h => h) (Or.inl ⟨by rfl, ?_⟩) (by assumption) ?_
        rotate_left 1
        ·
         (intro w hSw; (try dsimp only at hSw); go_simp; (try with_reducible rfl))
        try go_frame
        refine wpAnyH_done (by kernel_rfl) ?_ _
        refine NoPanic.normal ?_
        go_wp2
        go_roundw
        case rel => exact ⟨j + 1, by omega, by go_num, hT, (Below.tr hB2 (Below.refl _ _).drew)⟩
        case measure => simp [intOf]; omega
      ·
       have hT := hT0 (fun h => hx1 h.1)
       have i1 : (xi == 1) = false := by simpa using hx1
       clear hT0 hz hx1
       go_wp2
       rw [← hz2, ← hV]
       clear g0 g1 g2 g3 g4 hV hz2
       refine wp_region_noPanic ?_
       refine wp_region_held_drew (S := fun W => W.cell? ⟨z0, 3, none⟩ = some (.int .i64 zi) ∧ W.cell? ⟨z2, 0, none⟩ = some (.int .i64 xi) ∧ W.cell? ⟨z2, 2, none⟩ = some (.int .i64 xd)) (by kernel_rfl) (hC3 _ (Below.refl _ _).drew) (fun hHeld => ?_)
       refine take_at (i := 0) (v := ?_) rfl (by kernel_rfl) (by kernel_rfl) (by kernel_rfl) (fun _ _ _ h => h) (Or.inl ⟨by rfl, ?_⟩) (by assumption) ?_
       rotate_left 1
       ·
        (intro w hSw; (try dsimp only at hSw); go_simp; (try with_reducible rfl))
       try go_frame
       refine take_at (i := 1) (v := ?_) rfl (by kernel_rfl) (by kernel_rfl) (by kernel_rfl) (fun _ _ _ h => h) (Or.inl ⟨by rfl, ?_⟩) (by assumption) ?_
       rotate_left 1
       ·
        (intro w hSw; (try dsimp only at hSw); go_simp; (try with_reducible rfl))
       try go_frame
       refine take_at (i := 2) (v := ?_) rfl (by kernel_rfl) (by kernel_rfl) (by kernel_rfl) (fun _ _ _ h => h) (Or.inl ⟨by rfl, ?_⟩) (by assumption) ?_
       rotate_left 1
       ·
        (intro w hSw; (try dsimp only at hSw); go_simp; (try with_reducible rfl))
       try go_frame
       refine take_at (i := 3) (v := ?_) rfl (by kernel_rfl) (by kernel_rfl) (by kernel_rfl) (fun _ _ _ h => h) (Or.inl ⟨by rfl, ?_⟩) (by assumption) ?_
       rotate_left 1
       ·
        (intro w hSw; (try dsimp only at hSw); go_simp; (try with_reducible rfl))
       try go_frame
       refine take_at (i := 4) (v := ?_) rfl (by kernel_rfl) (by kernel_rfl) (by kernel_rfl) (fun _ _ _ h => h) (Or.inl ⟨by rfl, ?_⟩) (by assumption) ?_
       rotate_left 1
       ·
        (intro w hSw; (try dsimp only at hSw); go_simp; (try with_reducible rfl))
       try go_frame
       refine take_at (i := 5) (v := ?_) rfl (by kernel_rfl) (by kernel_rfl) (by kernel_rfl) (fun _ _ _ h => h) (Or.inl ⟨by rfl, ?_⟩) (by assumption) ?_
       rotate_left 1
       ·
        (intro w hSw; (try dsimp only at hSw); go_simp; (try with_reducible rfl))
       try go_frame
       refine take_at (i := 6) (v := ?_) rfl (by kernel_rfl) (by kernel_rfl) (by kernel_rfl) (fun _ _ _ h => h) (Or.inl ⟨by rfl, ?_⟩) (by assumption) ?_
       rotate_left 1
       ·
        (intro w hSw; (try dsimp only at hSw); go_simp; (try with_reducible rfl))
       try go_frame
       refine take_at (i := 7) (v := ?_) rfl (by kernel_rfl) (by kernel_rfl) (by kernel_rfl) (fun _ _ _ h => h) (Or.inl ⟨by rfl, ?_⟩) (by assumption) ?_
       rotate_left 1
       ·
        (intro w hSw; (try dsimp only at hSw); go_simp; (try with_reducible rfl))
       try go_frame
       refine take_at (i := 8) (v := ?_) rfl (by kernel_rfl) (by kernel_rfl) (by kernel_rfl) (fun _ _ _ h => h) (Or.inl ⟨by rfl, ?_⟩) (by assumption) ?_
       rotate_left 1
       ·
        (intro w hSw; (try dsimp only at hSw); go_simp; (try with_reducible rfl))
       try go_frame
       refine take_at (i := 9) (v := undef) rfl (by kernel_rfl) (by kernel_rfl) (by kernel_rfl) (fun _ _ _ h => h) (Or.inr ⟨by rfl, rfl⟩) (by assumption) ?_
       try go_frame
       refine take_at (i := 10) (v := undef) rfl (by kernel_rfl) (by kernel_rfl) (by kernel_rfl) (fun _ _ _ h => h) (Or.inr ⟨by rfl, rfl⟩) (by assumption) ?_
       try go_frame
       refine take_at (i := 11) (v := undef) rfl (by kernel_rfl) (by kernel_rfl) (by kernel_rfl) (fun _ _ _ h => h) (Or.inr ⟨by rfl, rfl⟩) (by assumption) ?_
       try go_frame
       refine take_at (i := 12) (v := undef) rfl (by kernel_rfl) (by kernel_rfl) (by kernel_rfl) (fun _ _ _ h => h) (Or.inr ⟨by rfl, rfl⟩) (by assumption) ?_
       try go_frame
       refine take_at (i := 13) (v := undef) rfl (by kernel_rfl) (by kernel_rfl) (by kernel_rfl) (fun _ _ _ h => h) (Or.inr ⟨by rfl, rfl⟩) (by assumption) ?_
       try go_frame
       refine take_at (i := 14) (v := ?_) rfl (by kernel_rfl) (by kernel_rfl) (by kernel_rfl) (fun _ _ _ h => h) (Or.inl ⟨by rfl, ?_⟩) (by assumption) ?_
       rotate_left 1
       ·
        (intro w hSw; (try dsimp only at hSw); go_simp; (try with_reducible rfl))
       try go_frame
       refine wpAnyH_done (by kernel_rfl) ?_ _
       refine NoPanic.normal ?_
       go_wp2
       go_roundw
       case rel => exact ⟨j + 1, by omega, by go_num, hT, (Below.tr hB2 (Below.refl _ _).drew)⟩
       case measure => simp [intOf]; omega
     ·
      have i0 : (zi == 0) = false := by simpa using hz
      have hT := hT0 (fun h => by
       have := open_goes HR.out.fits (held_open HX.out (.inr (.inl h.1)))
       exact hz this)
      clear hT0 hz
      go_wp2
      rw [← hz2, ← hV]
      clear g0 g1 g2 g3 g4 hV hz2
      refine wp_region_noPanic ?_
      refine wp_region_held_drew (S := fun W => W.cell? ⟨z0, 3, none⟩ = some (.int .i64 zi) ∧ W.cell? ⟨z2, 0, none⟩ = some (.int .i64 xi) ∧ W.cell? ⟨z2, 2, none⟩ = some (.int .i64 xd)) (by kernel_rfl) (hC3 _ (Below.refl _ _).drew) (fun hHeld => ?_)
      refine take_at (i := 0) (v := ?_) rfl (by kernel_rfl) (by kernel_rfl) (by kernel_rfl) (fun _ _ _ h => h) (Or.inl ⟨by rfl, ?_⟩) (by assumption) ?_
      rotate_left 1
      ·
       (intro w hSw; (try dsimp only at hSw); go_simp; (try with_reducible rfl))
      try go_frame
      refine take_at (i := 1) (v := ?_) rfl (by kernel_rfl) (by kernel_rfl) (by kernel_rfl) (fun _ _ _ h => h) (Or.inl ⟨by rfl, ?_⟩) (by assumption) ?_
      rotate_left 1
      ·
       (intro w hSw; (try dsimp only at hSw); go_simp; (try with_reducible rfl))
      try go_frame
      refine take_at (i := 2) (v := ?_) rfl (by kernel_rfl) (by kernel_rfl) (by kernel_rfl) (fun _ _ _ h => h) (Or.inl ⟨by rfl, ?_⟩) (by assumption) ?_
      rotate_left 1
      ·
       (intro w hSw; (try dsimp only at hSw); go_simp; (try with_reducible rfl))
      try go_frame
      refine take_at (i := 3) (v := ?_) rfl (by kernel_rfl) (by kernel_rfl) (by kernel_rfl) (fun _ _ _ h => h) (Or.inl ⟨by rfl, ?_⟩) (by assumption) ?_
      rotate_left 1
      ·
       (intro w hSw; (try dsimp only at hSw); go_simp; (try with_reducible rfl))
      try go_frame
      refine take_at (i := 4) (v := undef) rfl (by kernel_rfl) (by kernel_rfl) (by kernel_rfl) (fun _ _ _ h => h) (Or.inr ⟨by rfl, rfl⟩) (by assumption) ?_
      try go_frame
      refine take_at (i := 5) (v := undef) rfl (by kernel_rfl) (by kernel_rfl) (by kernel_rfl) (fun _ _ _ h => h) (Or.inr ⟨by rfl, rfl⟩) (by assumption) ?_
      try go_frame
      refine take_at (i := 6) (v := undef) rfl (by kernel_rfl) (by kernel_rfl) (by kernel_rfl) (fun _ _ _ h => h) (Or.inr ⟨by rfl, rfl⟩) (by assumption) ?_
      try go_frame
      refine take_at (i := 7) (v := ?_) rfl (by kernel_rfl) (by kernel_rfl) (by kernel_rfl) (fun _ _ _ h => h) (Or.inl ⟨by rfl, ?_⟩) (by assumption) ?_
      rotate_left 1
      ·
       (intro w hSw; (try dsimp only at hSw); go_simp; (try with_reducible rfl))
      try go_frame
      refine take_at (i := 8) (v := ?_) rfl (by kernel_rfl) (by kernel_rfl) (by kernel_rfl) (fun _ _ _ h => h) (Or.inl ⟨by rfl, ?_⟩) (by assumption) ?_
      rotate_left 1
      ·
       (intro w hSw; (try dsimp only at hSw); go_simp; (try with_reducible rfl))
      try go_frame
      refine take_at (i := 9) (v := undef) rfl (by kernel_rfl) (by kernel_rfl) (by kernel_rfl) (fun _ _ _ h => h) (Or.inr ⟨by rfl, rfl⟩) (by assumption) ?_
      try go_frame
      refine take_at (i := 10) (v := undef) rfl (by kernel_rfl) (by kernel_rfl) (by kernel_rfl) (fun _ _ _ h => h) (Or.inr ⟨by rfl, rfl⟩) (by assumption) ?_
      try go_frame
      refine take_at (i := 11) (v := undef) rfl (by kernel_rfl) (by kernel_rfl) (by kernel_rfl) (fun _ _ _ h => h) (Or.inr ⟨by rfl, rfl⟩) (by assumption) ?_
      try go_frame
      refine take_at (i := 12) (v := undef) rfl (by kernel_rfl) (by kernel_rfl) (by kernel_rfl) (fun _ _ _ h => h) (Or.inr ⟨by rfl, rfl⟩) (by assumption) ?_
      try go_frame
      refine take_at (i := 13) (v := undef) rfl (by kernel_rfl) (by kernel_rfl) (by kernel_rfl) (fun _ _ _ h => h) (Or.inr ⟨by rfl, rfl⟩) (by assumption) ?_
      try go_frame
      refine take_at (i := 14) (v := ?_) rfl (by kernel_rfl) (by kernel_rfl) (by kernel_rfl) (fun _ _ _ h => h) (Or.inl ⟨by rfl, ?_⟩) (by assumption) ?_
      rotate_left 1
      ·
       (intro w hSw; (try dsimp only at hSw); go_simp; (try with_reducible rfl))
      try go_frame
      refine wpAnyH_done (by kernel_rfl) ?_ _
      refine NoPanic.normal ?_
      go_wp2
      go_roundw
      case rel => exact ⟨j + 1, by omega, by go_num, hT, (Below.tr hB2 (Below.refl _ _).drew)⟩
      case measure => simp [intOf]; omega
    ·
     obtain rfl : n = j := by omega
     have hx : ¬ (n : Int) < n := by omega
     have HL : Hid (leaseRE zs now k = 192 ∧ leaseRP zs now k = 0) := by
      have hno : dueAt zs (untF now []) = none := idx_no fun i s hs => decide_eq_false (hh.out i s (by rw [HNZ.out.1]; exact (List.getElem?_eq_some_iff.1 hs).1) hs)
      have e : leaseRE zs now k = 192 := by unfold leaseRE; rw [if_pos ⟨HKK.out, HE.out⟩, if_pos hno]
      exact ⟨e, by unfold leaseRP; rw [if_neg (by rw [e]; decide)]⟩
     go_wp2
     refine HK.out _ _ ?_
     clear HK
     have BYV := BYZ.below hB
     have hBZV := Below.tr hBZ hB
     clear BYZ hBZ
     have BYZ := BYV
     have hBZ := hBZV
     have y0 := BYZ.1 0 _ rfl; have y1 := BYZ.1 1 _ rfl; have y2 := BYZ.1 2 _ rfl; have y3 := BYZ.1 3 _ rfl; have y4 := BYZ.1 4 _ rfl
     have s0 := BYZ.2 0 (by simp); have s1 := BYZ.2 1 (by simp); have s2 := BYZ.2 2 (by simp); have s3 := BYZ.2 3 (by simp); have s4 := BYZ.2 4 (by simp)
     go_wp2
     obtain ⟨Z2, hZ2⟩ : ∃ Z2, Z2 = (((((wr.setCell ⟨z1, 0, none⟩ (.string ⟨#[]⟩)).setCell ⟨z1, 1, none⟩ (.string ⟨#[]⟩)).setCell ⟨z1, 2, none⟩ (.slice none 0 0)).setCell ⟨z1, 3, none⟩ (.int .i64 0)).setCell ⟨z1, 4, none⟩ (.slice none 0 0)) := ⟨_, rfl⟩
     have BZ2 : BoxL Z2 z1 [.string ⟨#[]⟩, .string ⟨#[]⟩, .slice none 0 0, .int .i64 0, .slice none 0 0] := by rw [hZ2]; exact boxL_set5 BYZ _ _ _ _ _
     have hBZ2 : Below w.heap.size w Z2 := by rw [hZ2]; exact below_setT hBZ (by have := HZZ.out; omega) _ _ _ _ _
     rw [← hZ2]
     clear hZ2
     have r0 := BZ2.1 0 _ rfl; have r1 := BZ2.1 1 _ rfl; have r2 := BZ2.1 2 _ rfl; have r3 := BZ2.1 3 _ rfl; have r4 := BZ2.1 4 _ rfl
     refine HQ9.out _ _ _ ?_
     rw [HL.out.1, HL.out.2]
     exact bodyPost_ret (v := .tuple #[.agg #[.string ⟨#[]⟩, .string ⟨#[]⟩, .slice none 0 0, .int .i64 0, .slice none 0 0], .int .i64 0, .int .i64 192]) (by simp [results, Try.results21, go_sem, r0, r1, r2, r3, r4]) rfl (leaseU_zero (by decide) ⟨rfl, hBZ2⟩)
end Go.Proofs.Ytdpljpjbomhccaa
namespace Go.Proofs.Ytdpljpjbomhccaa
open Go.RowKit Plain
set_option linter.unusedVariables false
set_option maxRecDepth 20000 in
set_option maxHeartbeats 4000000 in
theorem cancel_any (ky nm : ByteArray) (ta : Option Addr) (tn tc : Nat) (is : Int) (sa : Option Addr) (n sc : Nat) (tv : List TaskV) (ss : List StP) (now : Int) (w : World) (hT : IsT w ta tc tv) (htn : tn = tv.length) (hZ : IsZ w sa sc ss) (hn : n = ss.length) (hOk : RunOk ky nm (plainT tv) ss is) (zs : List StP) (hi : settleS (plainT tv) (untF now []) (ss, is) = (zs, 0)) :
  Calls Try.prog 20 #[.agg #[.string ky, .string nm, .slice ta tn tc, .int .i64 is, .slice sa n sc], .int .i64 now] w fun e w' => ToldU w 0 ky nm 3 (plainT tv) (zs.map cancelT) e w' := by
 obtain ⟨W0, hW0⟩ : ∃ W0, W0 = (w.alloc (.cells #[.string ky, .string nm, .slice ta tn tc, .int .i64 is, .slice sa n sc] 27)).alloc (.cells #[.string ⟨#[]⟩, .string ⟨#[]⟩, .slice none 0 0, .int .i64 0, .slice none 0 0] 27) := ⟨_, rfl⟩
 have hB0 : Below w.heap.size w W0 := by rw [hW0]; exact bel2 w _ _
 have BX : BoxL W0 w.heap.size [.string ky, .string nm, .slice ta tn tc, .int .i64 is, .slice sa n sc] := by rw [hW0]; exact (boxL_new w [.string ky, .string nm, .slice ta tn tc, .int .i64 is, .slice sa n sc] _ rfl).alloc _
 have BY : BoxL W0 (w.heap.size + 1) [.string ⟨#[]⟩, .string ⟨#[]⟩, .slice none 0 0, .int .i64 0, .slice none 0 0] := by rw [hW0]; exact boxL_new _ [.string ⟨#[]⟩, .string ⟨#[]⟩, .slice none 0 0, .int .i64 0, .slice none 0 0] _ (by simp)
 have hs0 : W0.heap.size = w.heap.size + 2 := by rw [hW0]; simp
 have cS := settle_any ky nm ta tn tc is sa n sc tv ss now W0 (hT.below hB0) htn (hZ.below hB0) hn hOk
 unfold SettledC at cS
 rw [hi] at cS
 dsimp only at cS
 have HP : Hid (plainT tv = plainT tv) := rfl
 clear hT htn hZ hn hOk hi
 have f0 := BX.1 0 _ rfl; have f1 := BX.1 1 _ rfl; have f2 := BX.1 2 _ rfl; have f3 := BX.1 3 _ rfl; have f4 := BX.1 4 _ rfl
 go_enter Try.func20, Try.ntmps20
 rw [hW0] at f0 f1 f2 f3 f4
 go_wp2_with (first
  | (go_at_call 14; rw [← hW0]; refine cS.mono ?_; rintro e w1 ⟨g, h, m, cap, capS, tw, rfl, htw, hO, hb⟩; have BX1 := BX.below hb; have BY1 := BY.below hb; have hB1 := Below.tr hB0 hb; have v0 := BX1.1 0 _ rfl; have v1 := BX1.1 1 _ rfl; have v2 := BX1.1 2 _ rfl; have v3 := BX1.1 3 _ rfl; have v4 := BX1.1 4 _ rfl; have d0 := BX1.2 0 (by simp); have d1 := BX1.2 1 (by simp); have d2 := BX1.2 2 (by simp); have d3 := BX1.2 3 (by simp); have d4 := BX1.2 4 (by simp); obtain ⟨Z, hZ9⟩ : ∃ Z, Z = (((((w1.setCell ⟨w.heap.size, 0, none⟩ (.string ky)).setCell ⟨w.heap.size, 1, none⟩ (.string nm)).setCell ⟨w.heap.size, 2, none⟩ (.slice (some ⟨g, 0, none⟩) m cap)).setCell ⟨w.heap.size, 3, none⟩ (.int .i64 0)).setCell ⟨w.heap.size, 4, none⟩ (.slice (some ⟨h, 0, none⟩) m capS)) := ⟨_, rfl⟩; have TZ : Turns (fun k => k = w.heap.size) w1 Z := (by rw [hZ9]; exact turns_set5 _ _ _ _ _ _ _); have BZ : BoxL Z w.heap.size [.string ky, .string nm, .slice (some ⟨g, 0, none⟩) m cap, .int .i64 0, .slice (some ⟨h, 0, none⟩) m capS] := (by rw [hZ9]; exact boxL_set5 BX1 _ _ _ _ _); have BYZ := boxL_turns BY1 TZ (show ¬ w.heap.size + 1 = w.heap.size by omega); have hBZ := Below.turns hB1 TZ (fun k hk => by omega); have p0 := BZ.1 0 _ rfl; have p1 := BZ.1 1 _ rfl; have p2 := BZ.1 2 _ rfl; have p3 := BZ.1 3 _ rfl; have p4 := BZ.1 4 _ rfl; have y0 := BYZ.1 0 _ rfl; have y1 := BYZ.1 1 _ rfl; have y2 := BYZ.1 2 _ rfl; have y3 := BYZ.1 3 _ rfl; have y4 := BYZ.1 4 _ rfl; have s0 := BYZ.2 0 (by simp); have s1 := BYZ.2 1 (by simp); have s2 := BYZ.2 2 (by simp); have s3 := BYZ.2 3 (by simp); have s4 := BYZ.2 4 (by simp); rw [hZ9] at p0 p1 p2 p3 p4 y0 y1 y2 y3 y4 s0 s1 s2 s3 s4; clear f0 f1 f2 f3 f4; have OZ := hO.turns TZ (fun k hk => by omega); have HO : Hid (plainT tw = plainT tv ∧ OwnRun Z W0.heap.size g h m cap capS tw zs) := ⟨htw, OZ⟩; clear htw hO OZ)
  | (go_at_call 52; rw [← hZ9]; refine (ended_any ky nm (some ⟨g, 0, none⟩) m cap 0 3 h 0 m capS zs Z HO.out.2.row HO.out.2.hn).mono ?_; rintro e w2 ⟨rfl, r2, t2⟩; have hgh := HO.out.2.hgh; have hg := HO.out.2.hg; have O2 := HO.out.2.store t2 r2 (List.length_map _); have BY2 := boxL_turns BYZ t2 (show ¬ w.heap.size + 1 = h by omega); have hB2 := Below.turns hBZ t2 (fun k hk => by omega); clear y0 y1 y2 y3 y4 s0 s1 s2 s3 s4; have y0 := BY2.1 0 _ rfl; have y1 := BY2.1 1 _ rfl; have y2 := BY2.1 2 _ rfl; have y3 := BY2.1 3 _ rfl; have y4 := BY2.1 4 _ rfl; have s0 := BY2.2 0 (by simp); have s1 := BY2.2 1 (by simp); have s2 := BY2.2 2 (by simp); have s3 := BY2.2 3 (by simp); have s4 := BY2.2 4 (by simp)))
 obtain ⟨Z2, hZ2⟩ : ∃ Z2, Z2 = (((((w2.setCell ⟨w.heap.size + 1, 0, none⟩ (.string ky)).setCell ⟨w.heap.size + 1, 1, none⟩ (.string nm)).setCell ⟨w.heap.size + 1, 2, none⟩ (.slice (some ⟨g, 0, none⟩) m cap)).setCell ⟨w.heap.size + 1, 3, none⟩ (.int .i64 3)).setCell ⟨w.heap.size + 1, 4, none⟩ (.slice (some ⟨h, 0, none⟩) m capS)) := ⟨_, rfl⟩
 have TZ2 : Turns (fun k => k = w.heap.size + 1) w2 Z2 := by rw [hZ2]; exact turns_set5 _ _ _ _ _ _ _
 have BZ2 : BoxL Z2 (w.heap.size + 1) [.string ky, .string nm, .slice (some ⟨g, 0, none⟩) m cap, .int .i64 3, .slice (some ⟨h, 0, none⟩) m capS] := by rw [hZ2]; exact boxL_set5 BY2 _ _ _ _ _
 have hBZ2 := Below.turns hB2 TZ2 (fun k hk => by omega)
 have O3 := O2.turns TZ2 (fun k hk => by omega)
 rw [← hZ2]
 have r0 := BZ2.1 0 _ rfl; have r1 := BZ2.1 1 _ rfl; have r2 := BZ2.1 2 _ rfl; have r3 := BZ2.1 3 _ rfl; have r4 := BZ2.1 4 _ rfl
 exact bodyPost_ret (v := .tuple #[.agg #[.string ky, .string nm, .slice (some ⟨g, 0, none⟩) m cap, .int .i64 3, .slice (some ⟨h, 0, none⟩) m capS], .int .i64 0]) (by simp [results, Try.results20, go_sem, r0, r1, r2, r3, r4]) rfl ⟨_, _, _, _, _, _, _, _, _, tw, _, rfl, ⟨O3.hT, O3.htn, O3.row.isZ, O3.hn⟩, fun _ => ⟨rfl, rfl, rfl, HO.out.1, rfl⟩, fun h => absurd rfl h, hBZ2⟩
set_option maxRecDepth 20000 in
set_option maxHeartbeats 1000000 in
theorem cancelBad_any (ky nm : ByteArray) (ta : Option Addr) (tn tc : Nat) (is : Int) (sa : Option Addr) (n sc : Nat) (tv : List TaskV) (ss : List StP) (now : Int) (w : World) (hky : ky.size ≤ maxLen) (hT : IsT w ta tc tv) (htn : tn = tv.length) (hZ : IsZ w sa sc ss) (hn : n = ss.length) (hno : runB ky nm (plainT tv) ss is = false) (js : Int) (zs : List StP) :
  Calls Try.prog 20 #[.agg #[.string ky, .string nm, .slice ta tn tc, .int .i64 is, .slice sa n sc], .int .i64 now] w fun e w' => ToldU w 1 ky nm js (plainT tv) zs e w' := by
 obtain ⟨W0, hW0⟩ : ∃ W0, W0 = (w.alloc (.cells #[.string ky, .string nm, .slice ta tn tc, .int .i64 is, .slice sa n sc] 27)).alloc (.cells #[.string ⟨#[]⟩, .string ⟨#[]⟩, .slice none 0 0, .int .i64 0, .slice none 0 0] 27) := ⟨_, rfl⟩
 have hB0 : Below w.heap.size w W0 := by rw [hW0]; exact bel2 w _ _
 have BX : BoxL W0 w.heap.size [.string ky, .string nm, .slice ta tn tc, .int .i64 is, .slice sa n sc] := by rw [hW0]; exact (boxL_new w [.string ky, .string nm, .slice ta tn tc, .int .i64 is, .slice sa n sc] _ rfl).alloc _
 have BY : BoxL W0 (w.heap.size + 1) [.string ⟨#[]⟩, .string ⟨#[]⟩, .slice none 0 0, .int .i64 0, .slice none 0 0] := by rw [hW0]; exact boxL_new _ [.string ⟨#[]⟩, .string ⟨#[]⟩, .slice none 0 0, .int .i64 0, .slice none 0 0] _ (by simp)
 have hs0 : W0.heap.size = w.heap.size + 2 := by rw [hW0]; simp
 have cS := settleBad_any ky nm ta tn tc is sa n sc tv ss now W0 hky (hT.below hB0) htn (hZ.below hB0) hn hno
 clear hT htn hZ hn hno
 have f0 := BX.1 0 _ rfl; have f1 := BX.1 1 _ rfl; have f2 := BX.1 2 _ rfl; have f3 := BX.1 3 _ rfl; have f4 := BX.1 4 _ rfl
 go_enter Try.func20, Try.ntmps20
 refine wp_seq_k (fun K hK => ?_); have HK : Shut _ := hK; clear hK
 go_wp2
 refine HK.out _ _ ?_; clear HK K
 rw [← hW0]
 clear hW0
 refine wp_seq_k (fun K hK => ?_); have HK : Shut _ := hK; clear hK
 go_wp2_with (go_at_call 14; refine cS.mono ?_; rintro e w1 ⟨rfl, hb⟩; have BX1 := BX.below hb; have BY1 := BY.below hb; have hB1 := Below.tr hB0 hb; have v0 := BX1.1 0 _ rfl; have v1 := BX1.1 1 _ rfl; have v2 := BX1.1 2 _ rfl; have v3 := BX1.1 3 _ rfl; have v4 := BX1.1 4 _ rfl; have d0 := BX1.2 0 (by simp); have d1 := BX1.2 1 (by simp); have d2 := BX1.2 2 (by simp); have d3 := BX1.2 3 (by simp); have d4 := BX1.2 4 (by simp))
 refine HK.out _ _ ?_; clear HK K
 obtain ⟨Z, hZ9⟩ : ∃ Z, Z = (((((w1.setCell ⟨w.heap.size, 0, none⟩ (.string ⟨#[]⟩)).setCell ⟨w.heap.size, 1, none⟩ (.string ⟨#[]⟩)).setCell ⟨w.heap.size, 2, none⟩ (.slice none 0 0)).setCell ⟨w.heap.size, 3, none⟩ (.int .i64 0)).setCell ⟨w.heap.size, 4, none⟩ (.slice none 0 0)) := ⟨_, rfl⟩
 have TZ : Turns (fun k => k = w.heap.size) w1 Z := by rw [hZ9]; exact turns_set5 _ _ _ _ _ _ _
 have BZ : BoxL Z w.heap.size [.string ⟨#[]⟩, .string ⟨#[]⟩, .slice none 0 0, .int .i64 0, .slice none 0 0] := by rw [hZ9]; exact boxL_set5 BX1 _ _ _ _ _
 have BYZ := boxL_turns BY1 TZ (show ¬ w.heap.size + 1 = w.heap.size by omega)
 have hBZ := Below.turns hB1 TZ (fun k hk => by omega)
 rw [← hZ9]
 clear f0 f1 f2 f3 f4 v0 v1 v2 v3 v4 d0 d1 d2 d3 d4 hZ9
 have p0 := BZ.1 0 _ rfl; have p1 := BZ.1 1 _ rfl; have p2 := BZ.1 2 _ rfl; have p3 := BZ.1 3 _ rfl; have p4 := BZ.1 4 _ rfl
 have y0 := BYZ.1 0 _ rfl; have y1 := BYZ.1 1 _ rfl; have y2 := BYZ.1 2 _ rfl; have y3 := BYZ.1 3 _ rfl; have y4 := BYZ.1 4 _ rfl
 have s0 := BYZ.2 0 (by simp); have s1 := BYZ.2 1 (by simp); have s2 := BYZ.2 2 (by simp); have s3 := BYZ.2 3 (by simp); have s4 := BYZ.2 4 (by simp)
 go_wp2
 obtain ⟨Z2, hZ2⟩ : ∃ Z2, Z2 = (((((Z.setCell ⟨w.heap.size + 1, 0, none⟩ (.string ⟨#[]⟩)).setCell ⟨w.heap.size + 1, 1, none⟩ (.string ⟨#[]⟩)).setCell ⟨w.heap.size + 1, 2, none⟩ (.slice none 0 0)).setCell ⟨w.heap.size + 1, 3, none⟩ (.int .i64 0)).setCell ⟨w.heap.size + 1, 4, none⟩ (.slice none 0 0)) := ⟨_, rfl⟩
 have BZ2 : BoxL Z2 (w.heap.size + 1) [.string ⟨#[]⟩, .string ⟨#[]⟩, .slice none 0 0, .int .i64 0, .slice none 0 0] := by rw [hZ2]; exact boxL_set5 BYZ _ _ _ _ _
 have hBZ2 : Below w.heap.size w Z2 := by rw [hZ2]; exact below_setT hBZ (Nat.le_succ _) _ _ _ _ _
 rw [← hZ2]
 have r0 := BZ2.1 0 _ rfl; have r1 := BZ2.1 1 _ rfl; have r2 := BZ2.1 2 _ rfl; have r3 := BZ2.1 3 _ rfl; have r4 := BZ2.1 4 _ rfl
 exact bodyPost_ret (v := .tuple #[.agg #[.string ⟨#[]⟩, .string ⟨#[]⟩, .slice none 0 0, .int .i64 0, .slice none 0 0], .int .i64 1]) (by simp [results, Try.results20, go_sem, r0, r1, r2, r3, r4]) rfl (toldU_zero (by decide) ⟨rfl, hBZ2⟩)
set_option maxRecDepth 20000 in
set_option maxHeartbeats 1000000 in
theorem cancelOver_any (ky nm : ByteArray) (ta : Option Addr) (tn tc : Nat) (is : Int) (sa : Option Addr) (n sc : Nat) (tv : List TaskV) (ss : List StP) (now : Int) (w : World) (hT : IsT w ta tc tv) (htn : tn = tv.length) (hZ : IsZ w sa sc ss) (hn : n = ss.length) (hOk : RunOk ky nm (plainT tv) ss is) (hi : (settleS (plainT tv) (untF now []) (ss, is)).2 ≠ 0) (js : Int) (ys : List StP) :
  Calls Try.prog 20 #[.agg #[.string ky, .string nm, .slice ta tn tc, .int .i64 is, .slice sa n sc], .int .i64 now] w fun e w' => ToldU w 193 ky nm js (plainT tv) ys e w' := by
 obtain ⟨W0, hW0⟩ : ∃ W0, W0 = (w.alloc (.cells #[.string ky, .string nm, .slice ta tn tc, .int .i64 is, .slice sa n sc] 27)).alloc (.cells #[.string ⟨#[]⟩, .string ⟨#[]⟩, .slice none 0 0, .int .i64 0, .slice none 0 0] 27) := ⟨_, rfl⟩
 have hB0 : Below w.heap.size w W0 := by rw [hW0]; exact bel2 w _ _
 have BX : BoxL W0 w.heap.size [.string ky, .string nm, .slice ta tn tc, .int .i64 is, .slice sa n sc] := by rw [hW0]; exact (boxL_new w [.string ky, .string nm, .slice ta tn tc, .int .i64 is, .slice sa n sc] _ rfl).alloc _
 have BY : BoxL W0 (w.heap.size + 1) [.string ⟨#[]⟩, .string ⟨#[]⟩, .slice none 0 0, .int .i64 0, .slice none 0 0] := by rw [hW0]; exact boxL_new _ [.string ⟨#[]⟩, .string ⟨#[]⟩, .slice none 0 0, .int .i64 0, .slice none 0 0] _ (by simp)
 have hs0 : W0.heap.size = w.heap.size + 2 := by rw [hW0]; simp
 have cS := settle_any ky nm ta tn tc is sa n sc tv ss now W0 (hT.below hB0) htn (hZ.below hB0) hn hOk
 unfold SettledC at cS
 generalize settleS (plainT tv) (untF now []) (ss, is) = SS at *
 obtain ⟨zs, zi⟩ := SS
 dsimp only at cS hi
 have i0 : (zi != 0) = true := by simpa using hi
 clear hT htn hZ hn hOk hi
 have f0 := BX.1 0 _ rfl; have f1 := BX.1 1 _ rfl; have f2 := BX.1 2 _ rfl; have f3 := BX.1 3 _ rfl; have f4 := BX.1 4 _ rfl
 go_enter Try.func20, Try.ntmps20
 refine wp_seq_k (fun K hK => ?_); have HK : Shut _ := hK; clear hK
 go_wp2
 refine HK.out _ _ ?_; clear HK K
 rw [← hW0]
 clear hW0
 refine wp_seq_k (fun K hK => ?_); have HK : Shut _ := hK; clear hK
 go_wp2_with (go_at_call 14; refine cS.mono ?_; rintro e w1 ⟨g, h, m, cap, capS, tw, rfl, -, -, hb⟩; have BX1 := BX.below hb; have BY1 := BY.below hb; have hB1 := Below.tr hB0 hb; have v0 := BX1.1 0 _ rfl; have v1 := BX1.1 1 _ rfl; have v2 := BX1.1 2 _ rfl; have v3 := BX1.1 3 _ rfl; have v4 := BX1.1 4 _ rfl; have d0 := BX1.2 0 (by simp); have d1 := BX1.2 1 (by simp); have d2 := BX1.2 2 (by simp); have d3 := BX1.2 3 (by simp); have d4 := BX1.2 4 (by simp))
 refine HK.out _ _ ?_; clear HK K
 obtain ⟨Z, hZ9⟩ : ∃ Z, Z = (((((w1.setCell ⟨w.heap.size, 0, none⟩ (.string ky)).setCell ⟨w.heap.size, 1, none⟩ (.string nm)).setCell ⟨w.heap.size, 2, none⟩ (.slice (some ⟨g, 0, none⟩) m cap)).setCell ⟨w.heap.size, 3, none⟩ (.int .i64 zi)).setCell ⟨w.heap.size, 4, none⟩ (.slice (some ⟨h, 0, none⟩) m capS)) := ⟨_, rfl⟩
 have TZ : Turns (fun k => k = w.heap.size) w1 Z := by rw [hZ9]; exact turns_set5 _ _ _ _ _ _ _
 have BZ : BoxL Z w.heap.size [.string ky, .string nm, .slice (some ⟨g, 0, none⟩) m cap, .int .i64 zi, .slice (some ⟨h, 0, none⟩) m capS] := by rw [hZ9]; exact boxL_set5 BX1 _ _ _ _ _
 have BYZ := boxL_turns BY1 TZ (show ¬ w.heap.size + 1 = w.heap.size by omega)
 have hBZ := Below.turns hB1 TZ (fun k hk => by omega)
 rw [← hZ9]
 clear f0 f1 f2 f3 f4 v0 v1 v2 v3 v4 d0 d1 d2 d3 d4 hZ9
 have p0 := BZ.1 0 _ rfl; have p1 := BZ.1 1 _ rfl; have p2 := BZ.1 2 _ rfl; have p3 := BZ.1 3 _ rfl; have p4 := BZ.1 4 _ rfl
 have y0 := BYZ.1 0 _ rfl; have y1 := BYZ.1 1 _ rfl; have y2 := BYZ.1 2 _ rfl; have y3 := BYZ.1 3 _ rfl; have y4 := BYZ.1 4 _ rfl
 have s0 := BYZ.2 0 (by simp); have s1 := BYZ.2 1 (by simp); have s2 := BYZ.2 2 (by simp); have s3 := BYZ.2 3 (by simp); have s4 := BYZ.2 4 (by simp)
 go_wp2
 obtain ⟨Z2, hZ2⟩ : ∃ Z2, Z2 = (((((Z.setCell ⟨w.heap.size + 1, 0, none⟩ (.string ⟨#[]⟩)).setCell ⟨w.heap.size + 1, 1, none⟩ (.string ⟨#[]⟩)).setCell ⟨w.heap.size + 1, 2, none⟩ (.slice none 0 0)).setCell ⟨w.heap.size + 1, 3, none⟩ (.int .i64 0)).setCell ⟨w.heap.size + 1, 4, none⟩ (.slice none 0 0)) := ⟨_, rfl⟩
 have BZ2 : BoxL Z2 (w.heap.size + 1) [.string ⟨#[]⟩, .string ⟨#[]⟩, .slice none 0 0, .int .i64 0, .slice none 0 0] := by rw [hZ2]; exact boxL_set5 BYZ _ _ _ _ _
 have hBZ2 : Below w.heap.size w Z2 := by rw [hZ2]; exact below_setT hBZ (Nat.le_succ _) _ _ _ _ _
 rw [← hZ2]
 have r0 := BZ2.1 0 _ rfl; have r1 := BZ2.1 1 _ rfl; have r2 := BZ2.1 2 _ rfl; have r3 := BZ2.1 3 _ rfl; have r4 := BZ2.1 4 _ rfl
 exact bodyPost_ret (v := .tuple #[.agg #[.string ⟨#[]⟩, .string ⟨#[]⟩, .slice none 0 0, .int .i64 0, .slice none 0 0], .int .i64 193]) (by simp [results, Try.results20, go_sem, r0, r1, r2, r3, r4]) rfl (toldU_zero (by decide) ⟨rfl, hBZ2⟩)
noncomputable def cancelE (ky nm : ByteArray) (ts : List TaskP) (ss : List StP) (is now : Int) : Int :=
 if runB ky nm ts ss is = true then (if (settleS ts (untF now []) (ss, is)).2 = 0 then 0 else 193) else 1
theorem cancelU_any (ky nm : ByteArray) (ta : Option Addr) (tn tc : Nat) (is : Int) (sa : Option Addr) (n sc : Nat) (tv : List TaskV) (ss : List StP) (now : Int) (w : World) (hky : ky.size ≤ maxLen) (hT : IsT w ta tc tv) (htn : tn = tv.length) (hZ : IsZ w sa sc ss) (hn : n = ss.length) (E : Int) (hE : E = cancelE ky nm (plainT tv) ss is now) :
  Calls Try.prog 20 #[.agg #[.string ky, .string nm, .slice ta tn tc, .int .i64 is, .slice sa n sc], .int .i64 now] w fun e w' => ToldU w E ky nm 3 (plainT tv) ((settleS (plainT tv) (untF now []) (ss, is)).1.map cancelT) e w' := by
 subst hE
 unfold cancelE
 by_cases h : runB ky nm (plainT tv) ss is = true
 ·
  rw [if_pos h]
  by_cases h0 : (settleS (plainT tv) (untF now []) (ss, is)).2 = 0
  ·
   rw [if_pos h0]
   exact cancel_any ky nm ta tn tc is sa n sc tv ss now w hT htn hZ hn (runB_iff.1 h) _ (Prod.ext rfl h0)
  ·
   rw [if_neg h0]
   exact cancelOver_any ky nm ta tn tc is sa n sc tv ss now w hT htn hZ hn (runB_iff.1 h) h0 _ _
 ·
  rw [if_neg h]
  exact cancelBad_any ky nm ta tn tc is sa n sc tv ss now w hky hT htn hZ hn (by simpa using h) _ _
end Go.Proofs.Ytdpljpjbomhccaa
namespace Go.Proofs.Ytdpljpjbomhccaa
open Go.RowKit Plain Anylast
set_option linter.unusedVariables false
set_option maxRecDepth 20000 in
set_option maxHeartbeats 2000000 in
theorem refCancelOver_any (ky nm : ByteArray) (ta : Option Addr) (tn tc : Nat) (is : Int) (sa : Option Addr) (n sc : Nat) (tv : List TaskV) (ss : List StP) (now : Int) (w : World) (hnow : now ≤ 9223372036854775807) (hT : IsT w ta tc tv) (htn : tn = tv.length) (hZ : IsZ w sa sc ss) (hn : n = ss.length) (hOk : RunOk ky nm (plainT tv) ss is) (hE : (settleS (plainT tv) (untF now []) (ss, is)).2 ≠ 0) (js : Int) (ys : List StP) :
  Calls Try.prog 22 #[.agg #[.string ky, .string nm, .slice ta tn tc, .int .i64 is, .slice sa n sc], .int .i64 now] w fun e w' => ToldU w 193 ky nm js (plainT tv) ys e w' := by
 obtain ⟨W0, hW0⟩ : ∃ W0, W0 = (w.alloc (.cells #[.string ky, .string nm, .slice ta tn tc, .int .i64 is, .slice sa n sc] 27)).alloc (.cells #[.string ⟨#[]⟩, .string ⟨#[]⟩, .slice none 0 0, .int .i64 0, .slice none 0 0] 27) := ⟨_, rfl⟩
 have hB0 : Below w.heap.size w W0 := by rw [hW0]; exact bel2 w _ _
 have BX : BoxL W0 w.heap.size [.string ky, .string nm, .slice ta tn tc, .int .i64 is, .slice sa n sc] := by rw [hW0]; exact (boxL_new w [.string ky, .string nm, .slice ta tn tc, .int .i64 is, .slice sa n sc] _ rfl).alloc _
 have BY : BoxL W0 (w.heap.size + 1) [.string ⟨#[]⟩, .string ⟨#[]⟩, .slice none 0 0, .int .i64 0, .slice none 0 0] := by rw [hW0]; exact boxL_new _ [.string ⟨#[]⟩, .string ⟨#[]⟩, .slice none 0 0, .int .i64 0, .slice none 0 0] _ (by simp)
 have hs0 : W0.heap.size = w.heap.size + 2 := by rw [hW0]; simp
 have hnt : n = tn := by rw [hn, hOk.st.len, plainT_length, htn]
 obtain ⟨h10, h0, hin⟩ := inside_of htn hOk.dag
 have hSA : ∀ y, sa = some y → y.block < w.heap.size := fun y hy => hZ.lies (by omega) y hy
 have cS := refSettleF_any ky nm ta tn tc is sa n sc tv ss now W0 (hT.below hB0) htn (hZ.below hB0) hn hnow hOk
 have hR9 := settle_right (tries_one hOk.dag) (u := untF now []) (x := (ss, is)) hOk.st
 generalize settleS (plainT tv) (untF now []) (ss, is) = SS at *
 obtain ⟨zs, zi⟩ := SS
 dsimp only at cS hR9 hE ⊢
 have HR : Hid (RightS (plainT tv) zs zi) := hR9
 have HE : Hid _ := hE
 clear hE
 have HIN : Hid (∀ (i : Nat) t, tv[i]? = some t → ∀ x ∈ t.ns, 0 ≤ x ∧ x < tn) := hin
 have HTN : Hid (tn = tv.length ∧ n = tn ∧ tn ≤ 10 ∧ 0 < tn) := ⟨htn, hnt, h10, h0⟩
 have HT : Hid (IsT w ta tc tv) := hT
 have HSA : Hid (∀ y, sa = some y → y.block < w.heap.size) := hSA
 clear hT htn hZ hn hOk hR9 hnt h10 h0 hin hSA
 have f0 := BX.1 0 _ rfl; have f1 := BX.1 1 _ rfl; have f2 := BX.1 2 _ rfl; have f3 := BX.1 3 _ rfl; have f4 := BX.1 4 _ rfl
 go_enter Try.func22, Try.ntmps22
 refine wp_seq_k (fun K hK => ?_); have HK : Shut _ := hK; clear hK
 go_wp2
 refine HK.out _ _ ?_; clear HK K
 rw [← hW0]
 clear hW0
 obtain ⟨z0, hz0⟩ : ∃ z, z = w.heap.size := ⟨_, rfl⟩
 obtain ⟨z1, hz1⟩ : ∃ z, z = z0 + 1 := ⟨_, rfl⟩
 rw [← hz0] at BX BY
 rw [← hz0, ← hz1]
 rw [← hz1] at BY
 rw [← hz0] at f0 f1 f2 f3 f4
 have HZZ : Hid (z0 = w.heap.size ∧ z1 = z0 + 1 ∧ W0.heap.size = w.heap.size + 2) := ⟨hz0, hz1, hs0⟩
 clear hz0 hz1 hs0
 refine wp_seq_k (fun K hK => ?_); have HK : Shut _ := hK; clear hK
 go_wp2_with (go_at_call 18; refine cS.mono ?_; rintro e w1 ⟨a, c, rfl, hIZ, hnz, hfa, hb⟩; have BX1 := BX.below hb; have BY1 := BY.below hb; have hB1 := Below.tr hB0 hb; have HNZ : Hid (n = zs.length ∧ ∀ y, a = some y → y.block ≠ z0 ∧ y.block ≠ z1) := ⟨hnz, fun y hy => by have := HZZ.out; rcases hfa with e | e; (have := HSA.out y (by rw [← e]; exact hy); omega); (have := e y hy; omega)⟩; clear hnz hfa; have v0 := BX1.1 0 _ rfl; have v1 := BX1.1 1 _ rfl; have v2 := BX1.1 2 _ rfl; have v3 := BX1.1 3 _ rfl; have v4 := BX1.1 4 _ rfl; have d0 := BX1.2 0 (by simp); have d1 := BX1.2 1 (by simp); have d2 := BX1.2 2 (by simp); have d3 := BX1.2 3 (by simp); have d4 := BX1.2 4 (by simp))
 refine HK.out _ _ ?_; clear HK K
 obtain ⟨Z, hZ9⟩ : ∃ Z, Z = (((((w1.setCell ⟨z0, 0, none⟩ (.string ky)).setCell ⟨z0, 1, none⟩ (.string nm)).setCell ⟨z0, 2, none⟩ (.slice ta tn tc)).setCell ⟨z0, 3, none⟩ (.int .i64 zi)).setCell ⟨z0, 4, none⟩ (.slice a n c)) := ⟨_, rfl⟩
 have TZ : Turns (fun k => k = z0) w1 Z := by rw [hZ9]; exact turns_set5 _ _ _ _ _ _ _
 have BZ : BoxL Z z0 [.string ky, .string nm, .slice ta tn tc, .int .i64 zi, .slice a n c] := by rw [hZ9]; exact boxL_set5 BX1 _ _ _ _ _
 have BYZ := boxL_turns BY1 TZ (by have := HZZ.out; omega)
 have hBZ := Below.turns hB1 TZ (fun k hk => by have := HZZ.out; omega)
 have IZ := hIZ.turns TZ (fun y hy hk => (HNZ.out.2 y hy).1 hk)
 rw [← hZ9]
 clear f0 f1 f2 f3 f4 v0 v1 v2 v3 v4 d0 d1 d2 d3 d4 hZ9 hIZ
 have i0 : (zi != 0) = true := by simpa using HE.out
 clear HE
 have p0 := BZ.1 0 _ rfl; have p1 := BZ.1 1 _ rfl; have p2 := BZ.1 2 _ rfl; have p3 := BZ.1 3 _ rfl; have p4 := BZ.1 4 _ rfl
 have y0 := BYZ.1 0 _ rfl; have y1 := BYZ.1 1 _ rfl; have y2 := BYZ.1 2 _ rfl; have y3 := BYZ.1 3 _ rfl; have y4 := BYZ.1 4 _ rfl
 have s0 := BYZ.2 0 (by simp); have s1 := BYZ.2 1 (by simp); have s2 := BYZ.2 2 (by simp); have s3 := BYZ.2 3 (by simp); have s4 := BYZ.2 4 (by simp)
 go_wp2
 obtain ⟨Z2, hZ2⟩ : ∃ Z2, Z2 = (((((Z.setCell ⟨z1, 0, none⟩ (.string ⟨#[]⟩)).setCell ⟨z1, 1, none⟩ (.string ⟨#[]⟩)).setCell ⟨z1, 2, none⟩ (.slice none 0 0)).setCell ⟨z1, 3, none⟩ (.int .i64 0)).setCell ⟨z1, 4, none⟩ (.slice none 0 0)) := ⟨_, rfl⟩
 have BZ2 : BoxL Z2 z1 [.string ⟨#[]⟩, .string ⟨#[]⟩, .slice none 0 0, .int .i64 0, .slice none 0 0] := by rw [hZ2]; exact boxL_set5 BYZ _ _ _ _ _
 have hBZ2 : Below w.heap.size w Z2 := by rw [hZ2]; exact below_setT hBZ (by have := HZZ.out; omega) _ _ _ _ _
 rw [← hZ2]
 clear hZ2
 have r0 := BZ2.1 0 _ rfl; have r1 := BZ2.1 1 _ rfl; have r2 := BZ2.1 2 _ rfl; have r3 := BZ2.1 3 _ rfl; have r4 := BZ2.1 4 _ rfl
 skip
 exact bodyPost_ret (v := .tuple #[.agg #[.string ⟨#[]⟩, .string ⟨#[]⟩, .slice none 0 0, .int .i64 0, .slice none 0 0], .int .i64 193]) (by simp [results, Try.results22, go_sem, r0, r1, r2, r3, r4]) rfl (toldU_zero (by decide) ⟨rfl, hBZ2⟩)
set_option maxRecDepth 20000 in
set_option maxHeartbeats 2000000 in
theorem refCancelGo_any (ky nm : ByteArray) (ta : Option Addr) (tn tc : Nat) (is : Int) (sa : Option Addr) (n sc : Nat) (tv : List TaskV) (ss : List StP) (now : Int) (w : World) (hnow : now ≤ 9223372036854775807) (hT : IsT w ta tc tv) (htn : tn = tv.length) (hZ : IsZ w sa sc ss) (hn : n = ss.length) (hOk : RunOk ky nm (plainT tv) ss is) (hE : (settleS (plainT tv) (untF now []) (ss, is)).2 = 0) :
  Calls Try.prog 22 #[.agg #[.string ky, .string nm, .slice ta tn tc, .int .i64 is, .slice sa n sc], .int .i64 now] w fun e w' => ToldU w 0 ky nm 3 (plainT tv) ((settleS (plainT tv) (untF now []) (ss, is)).1.map cancelT) e w' := by
 obtain ⟨W0, hW0⟩ : ∃ W0, W0 = (w.alloc (.cells #[.string ky, .string nm, .slice ta tn tc, .int .i64 is, .slice sa n sc] 27)).alloc (.cells #[.string ⟨#[]⟩, .string ⟨#[]⟩, .slice none 0 0, .int .i64 0, .slice none 0 0] 27) := ⟨_, rfl⟩
 have hB0 : Below w.heap.size w W0 := by rw [hW0]; exact bel2 w _ _
 have BX : BoxL W0 w.heap.size [.string ky, .string nm, .slice ta tn tc, .int .i64 is, .slice sa n sc] := by rw [hW0]; exact (boxL_new w [.string ky, .string nm, .slice ta tn tc, .int .i64 is, .slice sa n sc] _ rfl).alloc _
 have BY : BoxL W0 (w.heap.size + 1) [.string ⟨#[]⟩, .string ⟨#[]⟩, .slice none 0 0, .int .i64 0, .slice none 0 0] := by rw [hW0]; exact boxL_new _ [.string ⟨#[]⟩, .string ⟨#[]⟩, .slice none 0 0, .int .i64 0, .slice none 0 0] _ (by simp)
 have hs0 : W0.heap.size = w.heap.size + 2 := by rw [hW0]; simp
 have hnt : n = tn := by rw [hn, hOk.st.len, plainT_length, htn]
 obtain ⟨h10, h0, hin⟩ := inside_of htn hOk.dag
 have hSA : ∀ y, sa = some y → y.block < w.heap.size := fun y hy => hZ.lies (by omega) y hy
 have cS := refSettleF_any ky nm ta tn tc is sa n sc tv ss now W0 (hT.below hB0) htn (hZ.below hB0) hn hnow hOk
 have hR9 := settle_right (tries_one hOk.dag) (u := untF now []) (x := (ss, is)) hOk.st
 generalize settleS (plainT tv) (untF now []) (ss, is) = SS at *
 obtain ⟨zs, zi⟩ := SS
 dsimp only at cS hR9 hE ⊢
 have HR : Hid (RightS (plainT tv) zs zi) := hR9
 have HE : Hid _ := hE
 clear hE
 have HIN : Hid (∀ (i : Nat) t, tv[i]? = some t → ∀ x ∈ t.ns, 0 ≤ x ∧ x < tn) := hin
 have HTN : Hid (tn = tv.length ∧ n = tn ∧ tn ≤ 10 ∧ 0 < tn) := ⟨htn, hnt, h10, h0⟩
 have HT : Hid (IsT w ta tc tv) := hT
 have HSA : Hid (∀ y, sa = some y → y.block < w.heap.size) := hSA
 clear hT htn hZ hn hOk hR9 hnt h10 h0 hin hSA
 have f0 := BX.1 0 _ rfl; have f1 := BX.1 1 _ rfl; have f2 := BX.1 2 _ rfl; have f3 := BX.1 3 _ rfl; have f4 := BX.1 4 _ rfl
 go_enter Try.func22, Try.ntmps22
 refine wp_seq_k (fun K hK => ?_); have HK : Shut _ := hK; clear hK
 go_wp2
 refine HK.out _ _ ?_; clear HK K
 rw [← hW0]
 clear hW0
 obtain ⟨z0, hz0⟩ : ∃ z, z = w.heap.size := ⟨_, rfl⟩
 obtain ⟨z1, hz1⟩ : ∃ z, z = z0 + 1 := ⟨_, rfl⟩
 rw [← hz0] at BX BY
 rw [← hz0, ← hz1]
 rw [← hz1] at BY
 rw [← hz0] at f0 f1 f2 f3 f4
 have HZZ : Hid (z0 = w.heap.size ∧ z1 = z0 + 1 ∧ W0.heap.size = w.heap.size + 2) := ⟨hz0, hz1, hs0⟩
 clear hz0 hz1 hs0
 refine wp_seq_k (fun K hK => ?_); have HK : Shut _ := hK; clear hK
 go_wp2_with (go_at_call 18; refine cS.mono ?_; rintro e w1 ⟨a, c, rfl, hIZ, hnz, hfa, hb⟩; have BX1 := BX.below hb; have BY1 := BY.below hb; have hB1 := Below.tr hB0 hb; have HNZ : Hid (n = zs.length ∧ ∀ y, a = some y → y.block ≠ z0 ∧ y.block ≠ z1) := ⟨hnz, fun y hy => by have := HZZ.out; rcases hfa with e | e; (have := HSA.out y (by rw [← e]; exact hy); omega); (have := e y hy; omega)⟩; clear hnz hfa; have v0 := BX1.1 0 _ rfl; have v1 := BX1.1 1 _ rfl; have v2 := BX1.1 2 _ rfl; have v3 := BX1.1 3 _ rfl; have v4 := BX1.1 4 _ rfl; have d0 := BX1.2 0 (by simp); have d1 := BX1.2 1 (by simp); have d2 := BX1.2 2 (by simp); have d3 := BX1.2 3 (by simp); have d4 := BX1.2 4 (by simp))
 refine HK.out _ _ ?_; clear HK K
 obtain ⟨Z, hZ9⟩ : ∃ Z, Z = (((((w1.setCell ⟨z0, 0, none⟩ (.string ky)).setCell ⟨z0, 1, none⟩ (.string nm)).setCell ⟨z0, 2, none⟩ (.slice ta tn tc)).setCell ⟨z0, 3, none⟩ (.int .i64 zi)).setCell ⟨z0, 4, none⟩ (.slice a n c)) := ⟨_, rfl⟩
 have TZ : Turns (fun k => k = z0) w1 Z := by rw [hZ9]; exact turns_set5 _ _ _ _ _ _ _
 have BZ : BoxL Z z0 [.string ky, .string nm, .slice ta tn tc, .int .i64 zi, .slice a n c] := by rw [hZ9]; exact boxL_set5 BX1 _ _ _ _ _
 have BYZ := boxL_turns BY1 TZ (by have := HZZ.out; omega)
 have hBZ := Below.turns hB1 TZ (fun k hk => by have := HZZ.out; omega)
 have IZ := hIZ.turns TZ (fun y hy hk => (HNZ.out.2 y hy).1 hk)
 rw [← hZ9]
 clear f0 f1 f2 f3 f4 v0 v1 v2 v3 v4 d0 d1 d2 d3 d4 hZ9 hIZ
 have hE := HE.out
 clear HE
 subst hE
 have hnn : n ≤ 10 := by have := HTN.out; omega
 have hnc : n ≤ c ∧ c ≤ 9223372036854775807 := by have h1 := IZ.1; have h2 := IZ.2.1; rw [← HNZ.out.1] at h1; exact ⟨h1, h2⟩
 obtain ⟨hnc1, hnc2⟩ := hnc
 have cW := fun is' sa' sc' (ss' : List StP) p (x : StP) W (hz : IsZ W sa' sc' ss') (hl : n = ss'.length) (hx : x.r.size ≤ maxLen) => refWith_any ky nm ta tn tc is' sa' n sc' ss' p x.i x.t x.d x.k x.r W hz hl (by omega) hx
 have p0 := BZ.1 0 _ rfl; have p1 := BZ.1 1 _ rfl; have p2 := BZ.1 2 _ rfl; have p3 := BZ.1 3 _ rfl; have p4 := BZ.1 4 _ rfl
 refine wp_seq_k (fun K hK => ?_); have HK : Shut _ := hK; clear hK
 go_wp2
 refine HK.out _ _ ?_; clear HK K
 go_wp2
 clear p0 p1 p2 p3 p4
 generalize hga : a = a0 at *
 generalize hgc : c = c0 at *
 go_loopw [18] (fun v wr => ∃ (j : Nat) (a : Option Addr) (c' : Nat), j ≤ n ∧ v = .int .i64 j ∧ BoxL wr z0 [.string ky, .string nm, .slice ta tn tc, .int .i64 0, .slice a n c'] ∧ BoxL wr z1 [.string ⟨#[]⟩, .string ⟨#[]⟩, .slice none 0 0, .int .i64 0, .slice none 0 0] ∧ IsZ wr a c' (cancelTo zs j) ∧ IsZ wr a0 c0 zs ∧ Hid (a = a0 ∨ From Z.heap.size a) ∧ Z.heap.size ≤ wr.heap.size ∧ Below w.heap.size w wr) (fun v _ => n - (intOf v).toNat)
 case atStart => exact ⟨0, a0, c0, Nat.zero_le _, rfl, BZ, BYZ, by rw [cancelTo_zero]; exact IZ, IZ, .inl rfl, Nat.le_refl _, hBZ⟩
 case round =>
  have BYlt : z1 < Z.heap.size := BYZ.lt (by simp)
  clear BZ BYZ IZ hBZ
  obtain ⟨j, a, c, hj, rfl, BX2, BY2, hZc, hZ0, HA, hge, hB⟩ := hrel
  by_cases hlt : j < n
  ·
   have hlt' : (j : Int) < n := by omega
   obtain ⟨s, hs⟩ : ∃ s, zs[j]? = some s := ⟨_, List.getElem?_eq_getElem (by rw [← HNZ.out.1]; exact hlt)⟩
   obtain ⟨b, ob, rfl, -⟩ := hZ0.some (by have := HNZ.out.1; omega)
   obtain ⟨y0, y1, y2, y3, y4⟩ := hZ0.at hs
   obtain ⟨bx, hbx⟩ : ∃ bx, bx = wr.heap.size := ⟨_, rfl⟩
   obtain ⟨Y, hY⟩ : ∃ Y, Y = wr.alloc (.cells #[.int .i64 s.i, .int .i64 s.t, .int .i64 s.d, .int .i64 s.k, .string s.r] 52) := ⟨_, rfl⟩
   have hBY0 : Below wr.heap.size wr Y := by rw [hY]; exact (Below.refl _ _).alloc (Nat.le_refl _) _
   have bS : BoxL Y bx [.int .i64 s.i, .int .i64 s.t, .int .i64 s.d, .int .i64 s.k, .string s.r] := by rw [hY]; exact boxL_new wr _ _ hbx
   have BXY := BX2.below hBY0
   have BYY := BY2.below hBY0
   have hzY : z0 < Y.heap.size := BXY.lt (by simp)
   have hbz : ¬ bx = z0 := by have := BX2.lt (by simp); omega
   have hBw := Below.tr hB hBY0
   have hZ0Y := hZ0.below hBY0
   have hb0 : ¬ b = z0 := fun e => (HNZ.out.2 _ rfl).1 e
   have hgeY : Z.heap.size ≤ Y.heap.size := Nat.le_trans hge hBY0.size
   obtain ⟨zc, hzc⟩ : ∃ zc, zc = cancelTo zs j := ⟨_, rfl⟩
   rw [← hzc] at hZc
   have HZc : Hid (IsZ Y a c zc) := hZc.below hBY0
   have HNc : Hid (n = zc.length) := by show _ = _; rw [hzc, cancelTo_length]; exact HNZ.out.1
   obtain ⟨x, hx⟩ : ∃ x, x = cancelT ⟨s.i, s.t, s.d, s.k, s.r⟩ := ⟨_, rfl⟩
   have cF : ∀ W, Calls Try.prog 55 #[.agg #[.int .i64 s.i, .int .i64 s.t, .int .i64 s.d, .int .i64 s.k, .string s.r]] W fun e w' => e = .returned (vT x) ∧ Below W.heap.size W w' := fun W => by rw [hx]; exact refCancelT_any s.i s.t s.d s.k s.r W
   have hxt : x.r.size ≤ maxLen := by rw [hx]; exact cancel_text (hZ0.text hs)
   obtain ⟨zn, hzn⟩ : ∃ zn, zn = cancelTo zs (j + 1) := ⟨_, rfl⟩
   have HZn : Hid (zn = setI zc j ⟨x.i, x.t, x.d, x.k, x.r⟩) := by show _ = _; rw [hzn, hzc, setI_nat, hx, cancelTo_succ hs]
   have HZN : Hid (zn = cancelTo zs (j + 1)) := hzn
   have f0 := BXY.1 0 _ rfl; have f1 := BXY.1 1 _ rfl; have f2 := BXY.1 2 _ rfl; have f3 := BXY.1 3 _ rfl; have f4 := BXY.1 4 _ rfl
   have b0 := bS.1 0 _ rfl; have b1 := bS.1 1 _ rfl; have b2 := bS.1 2 _ rfl; have b3 := bS.1 3 _ rfl; have b4 := bS.1 4 _ rfl
   clear hs hZc hzc hzn BX2 BY2 hB hZ0
   go_wp2
   rw [← hbx, ← hY]
   clear hbx y0 y1 y2 y3 y4
   refine region_chain (by kernel_rfl) [5] (withV ky nm ta tn tc 0 a n c j s x Y.heap.size zn) (withS Y z0 ky nm ta tn tc 0 n zn) (Turns (fun k => k = z0)) (by kernel_rfl) (by kernel_rfl) (withV_mono hzY) (Below.refl _ _).drew ?step 6 rfl ?done
   case step =>
    clear hY
    intro i oo ho q a9 X hq hmay hS hdf hsz hdep hsame
    simp only [List.length_cons, List.length_nil] at hq
    match i, ho with
    | 0, ho =>
     cases ho
     have h2 := hsame 2 rfl
     have hq0 : q = 0 := by
      clear hS hdep hsame
      rcases (by omega : q = 0 ∨ q = 1) with rfl | rfl <;> first | rfl | exact absurd hmay (Bool.eq_false_iff.1 (by kernel_rfl))
     subst hq0
     have g0 := cell_below hS f0
     have g1 := cell_below hS f1
     have g2 := cell_below hS f2
     have g3 := cell_below hS f3
     have g4 := cell_below hS f4
     exact op_value rfl (wanted_free rfl) (by clear hdep hsame hsz hdf; go_simp) rfl (by rw [if_neg (by decide)]; exact hS) (Turns.refl _ _)
    | 1, ho =>
     cases ho
     have h6 := hsame 6 rfl
     exact op_value rfl (wanted_free rfl) (by clear hdep hsame hsz hdf; go_simp) rfl (by rw [if_neg (by decide)]; exact hS) (Turns.refl _ _)
    | 2, ho =>
     cases ho
     have h7 := hsame 7 rfl
     rcases (by omega : q = 0 ∨ q = 1) with rfl | rfl
     ·
      have g0 := cell_below hS b0
      have g1 := cell_below hS b1
      have g2 := cell_below hS b2
      have g3 := cell_below hS b3
      have g4 := cell_below hS b4
      exact op_value rfl (wanted_free rfl) (by clear hdep hsame hsz hdf; go_simp) rfl (by rw [if_neg (by decide)]; exact hS) (Turns.refl _ _)
     ·
      have g0 := hS.2.cell (p := ⟨bx, 0, none⟩) hbz b0
      have g1 := hS.2.cell (p := ⟨bx, 1, none⟩) hbz b1
      have g2 := hS.2.cell (p := ⟨bx, 2, none⟩) hbz b2
      have g3 := hS.2.cell (p := ⟨bx, 3, none⟩) hbz b3
      have g4 := hS.2.cell (p := ⟨bx, 4, none⟩) hbz b4
      exact op_value rfl (wanted_free rfl) (by clear hdep hsame hsz hdf; go_simp) rfl (by rw [if_neg (by decide)]; exact hS) (Turns.refl _ _)
    | 3, ho =>
     cases ho
     obtain ⟨_, h25, rfl⟩ := hdep 2 _ 25 rfl rfl rfl
     have hq0 : q = 0 := by
      clear hS hdep hsame
      rcases (by omega : q = 0 ∨ q = 1) with rfl | rfl <;> first | rfl | exact absurd hmay (Bool.eq_false_iff.1 (by kernel_rfl))
     subst hq0
     exact op_call rfl (wanted_free rfl) (by clear hdep hsame hsz hdf; go_simp) ((cF X).mono fun e X' hx => ⟨_, hx.1, rfl, by rw [if_neg (by decide)]; exact Below.tr hS hx.2, Turns.of_below hx.2⟩)
    | 4, ho =>
     cases ho
     obtain ⟨_, h23, rfl⟩ := hdep 0 _ 23 rfl rfl rfl
     obtain ⟨_, h24, rfl⟩ := hdep 1 _ 24 rfl rfl rfl
     obtain ⟨_, h26, rfl⟩ := hdep 3 _ 26 rfl rfl rfl
     have hq0 : q = 0 := by
      clear hS hdep hsame
      rcases (by omega : q = 0 ∨ q = 1) with rfl | rfl <;> first | rfl | exact absurd hmay (Bool.eq_false_iff.1 (by kernel_rfl))
     subst hq0
     refine op_call rfl (wanted_free rfl) (by clear hdep hsame hsz hdf; go_simp) ((cW 0 a c zc j x X (HZc.out.below hS) HNc.out hxt).mono ?_)
     rintro e X' ⟨a1, c1, rfl, hz1, hf1, hb1⟩
     exact ⟨_, rfl, ⟨a1, c1, rfl, by rw [HZn.out]; exact hz1, hf1.mono hS.size⟩, by rw [if_neg (by decide)]; exact Below.tr hS hb1, Turns.of_below hb1⟩
    | 5, ho =>
     cases ho
     have h2 := hsame 2 rfl
     obtain ⟨_, h27, a1, c1, rfl, hz1, hf1⟩ := hdep 4 _ 27 rfl rfl rfl
     have hq0 : q = 0 := by
      clear hS hdep hsame
      rcases (by omega : q = 0 ∨ q = 1) with rfl | rfl <;> first | rfl | exact absurd hmay (Bool.eq_false_iff.1 (by kernel_rfl))
     subst hq0
     have GX := BXY.below hS
     have g0 := GX.1 0 _ rfl
     have g1 := GX.1 1 _ rfl
     have g2 := GX.1 2 _ rfl
     have g3 := GX.1 3 _ rfl
     have g4 := GX.1 4 _ rfl
     have k0 := GX.2 0 (by simp)
     have k1 := GX.2 1 (by simp)
     have k2 := GX.2 2 (by simp)
     have k3 := GX.2 3 (by simp)
     have k4 := GX.2 4 (by simp)
     exact op_skip (w' := (((((X.setCell ⟨z0, 0, none⟩ (.string ky)).setCell ⟨z0, 1, none⟩ (.string nm)).setCell ⟨z0, 2, none⟩ (.slice ta tn tc)).setCell ⟨z0, 3, none⟩ (.int .i64 0)).setCell ⟨z0, 4, none⟩ (.slice a1 n c1))) rfl (wanted_free rfl) rfl (by clear hdep hsame hsz hdf hz1 hf1; go_simp) trivial (by rw [if_pos (by decide)]; exact withS_put hzY BXY hS hz1 hf1) (turns_set5 _ _ _ _ _ _ _)
    | k + 6, ho => simp at ho
   case done =>
    intro val V hS hV
    obtain ⟨⟨a1, c1, BV, hzV, hfV⟩, tV⟩ := hS
    have hz01 : ¬ z1 = z0 := by have := HZZ.out; omega
    have BYV := boxL_turns BYY tV hz01
    have hBV := Below.turns hBw tV (fun k hk => by have := HZZ.out; omega)
    have hZ0V := hZ0Y.turns tV (fun y hy hk => by cases hy; exact hb0 hk)
    have hgeV : Z.heap.size ≤ V.heap.size := Nat.le_trans hgeY tV.size
    have HZV : Hid (IsZ V a1 c1 (cancelTo zs (j + 1))) := by rw [← HZN.out]; exact hzV
    have HAV : Hid (a1 = some ⟨b, ob, none⟩ ∨ From Z.heap.size a1) := .inr fun y hy => by have := hfV y hy; omega
    clear hV hzV hfV cW f0 f1 f2 f3 f4 b0 b1 b2 b3 b4 hY BXY BYY bS
    simp [filledN]
    go_wp2
    go_roundw
    case rel => exact ⟨j + 1, a1, c1, by omega, by go_num, BV, BYV, HZV.out, hZ0V, HAV.out, hgeV, hBV⟩
    case measure => simp [intOf]; omega
  ·
   obtain rfl : n = j := by omega
   have hx : ¬ (n : Int) < n := by omega
   have h01 : ¬ z0 = z1 := by have := HZZ.out; omega
   have h10' : ¬ z1 = z0 := by have := HZZ.out; omega
   obtain ⟨Z1, hZ1⟩ : ∃ Z1, Z1 = wr.setCell ⟨z0, 3, none⟩ (.int .i64 3) := ⟨_, rfl⟩
   have BX1' : BoxL Z1 z0 [.string ky, .string nm, .slice ta tn tc, .int .i64 3, .slice a n c] := by rw [hZ1]; exact BX2.set 3 _
   have BY1' : BoxL Z1 z1 [.string ⟨#[]⟩, .string ⟨#[]⟩, .slice none 0 0, .int .i64 0, .slice none 0 0] := by rw [hZ1]; exact BY2.off h10'
   obtain ⟨Z9, hZ9⟩ : ∃ Z9, Z9 = (((((Z1.setCell ⟨z1, 0, none⟩ (.string ky)).setCell ⟨z1, 1, none⟩ (.string nm)).setCell ⟨z1, 2, none⟩ (.slice ta tn tc)).setCell ⟨z1, 3, none⟩ (.int .i64 3)).setCell ⟨z1, 4, none⟩ (.slice a n c)) := ⟨_, rfl⟩
   have t1 : Turns (fun k => k = z0) wr Z1 := by rw [hZ1]; exact (Turns.refl (fun k => k = z0) wr).setCell (p := ⟨z0, 3, none⟩) rfl _
   have t2 : Turns (fun k => k = z1) Z1 Z9 := by rw [hZ9]; exact turns_set5 _ _ _ _ _ _ _
   have BZ9 : BoxL Z9 z1 [.string ky, .string nm, .slice ta tn tc, .int .i64 3, .slice a n c] := by rw [hZ9]; exact boxL_set5 BY1' _ _ _ _ _
   have hBZ : Below w.heap.size w Z9 := Below.turns (Below.turns hB t1 (fun k hk => by have := HZZ.out; omega)) t2 (fun k hk => by have := HZZ.out; omega)
   have hz1Z : z1 < Z.heap.size := BYlt
   have HF : Hid (IsZ Z9 a c (zs.map cancelT) ∧ Below w.heap.size w Z9) := by
    have h1 : IsZ wr a c (zs.map cancelT) := by rw [← cancelTo_all, ← HNZ.out.1]; exact hZc
    refine ⟨?_, hBZ⟩
    refine h1.kept ((t1.mono (Q := fun k => k = z0 ∨ k = z1) fun k hk => .inl hk).trans (t2.mono fun k hk => .inr hk)) fun h0 y hy => ?_
    have h2 : y.block ≠ z0 ∧ y.block ≠ z1 := by
     rcases HA.out with e | e
     ·
      exact HNZ.out.2 y (by rw [← e]; exact hy)
     ·
      have := e y hy; have := HZZ.out; exact ⟨by omega, by omega⟩
    rintro (e | e)
    ·
     exact h2.1 e
    ·
     exact h2.2 e
   have x0 := BX2.1 0 _ rfl; have x1 := BX2.1 1 _ rfl; have x2 := BX2.1 2 _ rfl; have x3 := BX2.1 3 _ rfl; have x4 := BX2.1 4 _ rfl
   have e3 := BX2.2 3 (by simp)
   have y0 := BX1'.1 0 _ rfl; have y1 := BX1'.1 1 _ rfl; have y2 := BX1'.1 2 _ rfl; have y3 := BX1'.1 3 _ rfl; have y4 := BX1'.1 4 _ rfl
   have v0 := BY1'.1 0 _ rfl; have v1 := BY1'.1 1 _ rfl; have v2 := BY1'.1 2 _ rfl; have v3 := BY1'.1 3 _ rfl; have v4 := BY1'.1 4 _ rfl
   have d0 := BY1'.2 0 (by simp); have d1 := BY1'.2 1 (by simp); have d2 := BY1'.2 2 (by simp); have d3 := BY1'.2 3 (by simp); have d4 := BY1'.2 4 (by simp)
   have r0 := BZ9.1 0 _ rfl; have r1 := BZ9.1 1 _ rfl; have r2 := BZ9.1 2 _ rfl; have r3 := BZ9.1 3 _ rfl; have r4 := BZ9.1 4 _ rfl
   rw [hZ1] at y0 y1 y2 y3 y4 v0 v1 v2 v3 v4 d0 d1 d2 d3 d4
   clear BX2 BY2 BX1' BY1' BZ9 t1 t2 hBZ hZc hB hZ0
   go_wp2
   first | rw [← hZ1, ← hZ9] | (rw [hZ1] at hZ9; rw [← hZ9])
   exact bodyPost_ret (v := .tuple #[.agg #[.string ky, .string nm, .slice ta tn tc, .int .i64 3, .slice a n c], .int .i64 0]) (by simp [results, Try.results22, go_sem, r0, r1, r2, r3, r4]) rfl ⟨ky, nm, _, _, _, _, _, _, _, tv, _, rfl, ⟨HT.out.below HF.out.2, HTN.out.1, HF.out.1, by rw [List.length_map]; exact HNZ.out.1⟩, fun _ => ⟨rfl, rfl, rfl, rfl, rfl⟩, fun h => absurd rfl h, HF.out.2⟩
theorem refCancel_any (ky nm : ByteArray) (ta : Option Addr) (tn tc : Nat) (is : Int) (sa : Option Addr) (n sc : Nat) (tv : List TaskV) (ss : List StP) (now : Int) (w : World) (hnow : now ≤ 9223372036854775807) (hT : IsT w ta tc tv) (htn : tn = tv.length) (hZ : IsZ w sa sc ss) (hn : n = ss.length) (hOk : RunOk ky nm (plainT tv) ss is) (E : Int) (hE : E = cancelE ky nm (plainT tv) ss is now) :
  Calls Try.prog 22 #[.agg #[.string ky, .string nm, .slice ta tn tc, .int .i64 is, .slice sa n sc], .int .i64 now] w fun e w' => ToldU w E ky nm 3 (plainT tv) ((settleS (plainT tv) (untF now []) (ss, is)).1.map cancelT) e w' := by
 subst hE
 unfold cancelE
 rw [if_pos (runB_iff.2 hOk)]
 by_cases h0 : (settleS (plainT tv) (untF now []) (ss, is)).2 = 0
 ·
  rw [if_pos h0]
  exact refCancelGo_any ky nm ta tn tc is sa n sc tv ss now w hnow hT htn hZ hn hOk h0
 ·
  rw [if_neg h0]
  exact refCancelOver_any ky nm ta tn tc is sa n sc tv ss now w hnow hT htn hZ hn hOk h0 _ _
end Go.Proofs.Ytdpljpjbomhccaa
