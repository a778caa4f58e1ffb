/-
  Texts laid together: PlainB Core NodeMem RefText PagePut RefGet PageRefGet SuperRef SuperChoose BitsMem BitsBytes BitsRef LookPlain CheckPlain LookMem LookWithin LookTree NodeRef NodeRead NodeRefB NodeRefGet NodeRefGetI AllocRef.
-/
import Derived.Test.YtaobfgplheoefaaGreatSfD
import Derived.Lib.Join
import Derived.Lib.Repeat
import Derived.Test.YtaobfgplheoefaaGreatRows
import Derived.WalkSpells
import Derived.WalkLawsBesides
import Derived.Handy
import Derived.Deep.OwnRows
import Derived.Deep.AppendLies
import Derived.Lib.SmallJoins
import Derived.Lib.SliceRun
import Derived.Deep.RegionHeld3
import Derived.Deep.Grids
import Derived.Laws.BitsAllLaws
import Derived.BigQuiet
import Derived.Lib.AppendZeros
namespace Go.Proofs.YtaobfgplheoefaaGreat.Plain
open Go.RowKit
theorem zeros_cells (d : Nat) : ((List.replicate d (0 : UInt8)).map cellOf).toArray = madeCells #[.int .u8 0] d := by
 apply Array.toList_inj.1
 rw [toList_madeCells_one]
 simp [cellOf]
end Go.Proofs.YtaobfgplheoefaaGreat.Plain
namespace Go.Proofs.YtaobfgplheoefaaGreat
open Go.RowKit Plain Go.ChangeShapes Go.WideShapes
set_option linter.unusedVariables false
theorem spot_none {w : World} {x : Addr} {v : Value} (h : w.cell? (x.add 0) = some v) : ∃ b o, x = ⟨b, o, none⟩ ∧ b < w.heap.size := by
 obtain ⟨b, o, s⟩ := x
 have hs : s = none := by simpa [Addr.add] using World.cell?_spot h
 subst hs
 rw [at_add] at h
 exact ⟨b, o, rfl, cell_lt h⟩
theorem open_S {H : Type} {enc : TypeId × Value → H} {w : World} {fuel : Nat} {v : Value} {x : DataW H × List MemPlace}
  (h : DataW.trod enc Tryz.prog w 0 (fun _ => true) true fuel 22 [v] = some x) : ∃ a c bs, v = .slice a bs.length c ∧ IsS w a c bs := by
 rcases open_strings Tryz.underlying22 Tryz.underlying9 (by kernel_rfl) h with ⟨hcs, _⟩ | ⟨a, l, c, ss, hcs, _, hl, hm, hz, _, hcell, hwz⟩
 ·
  simp at hcs
  exact ⟨none, 0, [], hcs, isS_nil _⟩
 ·
  simp at hcs
  simp at hz
  refine ⟨some a, c, ss.take l, by rw [List.length_take, hz, Nat.min_eq_left hl]; exact hcs, by rw [List.length_take]; omega, hm, fun j y hy => ?_⟩
  have hjl : j < ss.length := by
   have := (List.getElem?_eq_some_iff.1 hy).1
   rw [List.length_take] at this; omega
  have hyy : ss[j]? = some y := by
   rw [List.getElem?_take] at hy
   split at hy
   ·
    exact hy
   ·
    cases hy
  have hc := hcell j hjl
  rw [List.getD_eq_getElem?_getD, hyy] at hc
  obtain ⟨b, o, rfl, hb⟩ := spot_none (hcell 0 (by omega))
  rw [at_add] at hc
  exact ⟨b, o, rfl, hb, hc, hwz y (List.mem_of_getElem? hyy)⟩
end Go.Proofs.YtaobfgplheoefaaGreat
namespace Go.Proofs.YtaobfgplheoefaaGreat
open Go.RowKit Plain
set_option linter.unusedVariables false
set_option maxHeartbeats 400000 in
theorem refPad_any (s : ByteArray) (k : Int) (w : World) (hs : s.size ≤ maxLen) :
  Calls Tryz.prog 133 #[.string s, .int .i64 k] w fun e w' => e = .returned (.tuple #[.string (padS s k), .int .i64 (padE s k)]) ∧ Below w.heap.size w w' := by
 unfold maxLen at hs
 have hB : Below w.heap.size w w := Below.refl _ _
 by_cases h : 0 ≤ k ∧ k ≤ 4096
 ·
  obtain ⟨h0, h1⟩ := h
  obtain ⟨m, rfl⟩ : ∃ m : Nat, k = m := ⟨k.toNat, by omega⟩
  have hk0 : ¬ (m : Int) < 0 := by omega
  have hk1 : ¬ (4096 : Int) < m := by omega
  by_cases hl : s.size ≤ m
  ·
   have hE : padE s m = 0 := by unfold padE; rw [if_pos ⟨h0, h1⟩, if_pos (by omega)]
   have hl' : ¬ m < s.size := by omega
   have ed : (m : Int) - (s.size : Int) = ((m - s.size : Nat) : Int) := by omega
   have hd : m - s.size ≤ 4096 := by omega
   rw [padS, hE, if_pos rfl]
   show Calls _ _ _ _ fun e w' => e = .returned (.tuple #[.string (s ++ zeros (m - s.size)), .int .i64 0]) ∧ _
   generalize m - s.size = d at ed hd
   have hmk := fun W => run_make_row' (P := Tryz.prog) 116 5 (.int .u8 0) 1 Tryz.underlying116 Tryz.info5 rfl .i64 .i64 d (by omega) (by omega) W
   have hcv := conv_row w (List.replicate d 0) d (List.length_replicate) d
   rw [zeros_cells] at hcv
   have ez : (⟨(List.replicate d 0).toArray⟩ : ByteArray) = zeros d := rfl
   rw [ez] at hcv
   have hsum : ¬ 9223372036854775807 < s.size + (zeros d).size := by rw [zeros_size]; omega
   clear hE ez
   go_enter Tryz.func133, Tryz.ntmps133
   go_wp2
   go_ret2
   exact ⟨rfl, hB.alloc (Nat.le_refl _) _⟩
  ·
   have hE : padE s m = 2 := by unfold padE; rw [if_pos ⟨h0, h1⟩, if_neg (by omega)]
   rw [padS, hE, if_neg (by decide)]
   have hl' : m < s.size := by omega
   clear hE
   go_enter Tryz.func133, Tryz.ntmps133
   go_wp2
   go_ret2
   exact ⟨rfl, hB⟩
 ·
  have hE : padE s k = 1 := by unfold padE; rw [if_neg h]
  rw [padS, hE, if_neg (by decide)]
  clear hE
  by_cases h0 : k < 0
  ·
   go_enter Tryz.func133, Tryz.ntmps133
   go_wp2
   go_ret2
   exact ⟨rfl, hB⟩
  ·
   have h1 : 4096 < k := by omega
   clear h
   go_enter Tryz.func133, Tryz.ntmps133
   go_wp2
   go_ret2
   exact ⟨rfl, hB⟩
set_option maxHeartbeats 1000000 in
theorem refPageRight_any (k g : Int) (b : ByteArray) (w : World) (hs : b.size ≤ maxLen) :
  Calls Tryz.prog 135 #[.agg #[.int .i64 k, .int .i64 g, .string b]] w fun e w' => e = .returned (.bool (rightP k g b)) ∧ Below w.heap.size w w' := by
 unfold maxLen at hs
 have e' : Hid (rightP k g b = (decide (1 ≤ k) && decide (k ≤ 5) && decide (0 ≤ g) && decide (g ≤ 1099511627776) && decide ((b.size : Int) ≤ 4000))) := by
  show _ = _
  rw [rightP_eq]; unfold isKind isGen
  simp only [Bool.and_assoc]
 by_cases h1 : 1 ≤ k
 ·
  by_cases h2 : k ≤ 5
  ·
   by_cases h3 : 0 ≤ g
   ·
    by_cases h4 : g ≤ 1099511627776
    ·
     go_enter Tryz.func135, Tryz.ntmps135
     go_wp2
     go_ret
     exact ⟨ret_bool (by rw [e'.out]; simp [h1, h2, h3, h4]), (Below.refl _ _).alloc (Nat.le_refl _) _⟩
    ·
     go_enter Tryz.func135, Tryz.ntmps135
     go_wp2
     go_ret
     exact ⟨ret_bool (by rw [e'.out, decide_eq_false (p := g ≤ _) (by omega)]; simp), (Below.refl _ _).alloc (Nat.le_refl _) _⟩
   ·
    go_enter Tryz.func135, Tryz.ntmps135
    go_wp2
    go_ret
    exact ⟨ret_bool (by rw [e'.out, decide_eq_false (p := 0 ≤ g) (by omega)]; simp), (Below.refl _ _).alloc (Nat.le_refl _) _⟩
  ·
   go_enter Tryz.func135, Tryz.ntmps135
   go_wp2
   go_ret
   exact ⟨ret_bool (by rw [e'.out, decide_eq_false (p := k ≤ 5) (by omega)]; simp), (Below.refl _ _).alloc (Nat.le_refl _) _⟩
 ·
  go_enter Tryz.func135, Tryz.ntmps135
  go_wp2
  go_ret
  exact ⟨ret_bool (by rw [e'.out, decide_eq_false (p := 1 ≤ k) (by omega)]; simp), (Below.refl _ _).alloc (Nat.le_refl _) _⟩
set_option maxHeartbeats 400000 in
theorem refGet_ok (s : ByteArray) (p k : Nat) (w : World) (hs : s.size ≤ maxLen) (h1 : 1 ≤ k) (h6 : k ≤ 6) (hp : p + k ≤ s.size) :
  Calls Tryz.prog 134 #[.string s, .int .i64 p, .int .i64 k] w fun e w' => e = .returned (.tuple #[.int .i64 (getV s p k), .int .i64 (p + k), .int .i64 0]) ∧ w = w' := by
 unfold maxLen at hs
 have hsp : ¬ s.size < p := by omega
 have hp0 : ¬ (p : Int) < 0 := by omega
 have hk1 : 1 ≤ (k : Int) := by omega
 have hk6 : (k : Int) ≤ 6 := by omega
 have hle : ¬ (s.size : Int) - (p : Int) < (k : Int) := by omega
 go_enter Tryz.func134, Tryz.ntmps134
 go_wp2
 go_loop [9, 10] (fun n v => ∃ i : Nat, i ≤ k ∧ v = .int .i64 i ∧ n = .int .i64 (getV s p i)) (fun _ v => k - (intOf v).toNat)
 case atStart => exact ⟨0, by omega, rfl, rfl⟩
 case round =>
  obtain ⟨i, hi, rfl, rfl⟩ := hrel
  obtain ⟨g0, g1⟩ := getV_bd s p i
  have g2 := pw_le i (by omega)
  by_cases hlt : i < k
  ·
   have HS : Hid (getV s p (i + 1) = getV s p i * 256 + (s[p + i].toNat : Int)) := getV_succ s p i (by omega)
   have ho := UInt8.toNat_lt s[p + i]
   go_wp2
   go_round
   case rel => exact ⟨i + 1, by omega, by go_num, by rw [HS.out]⟩
   case measure => simp [intOf]; omega
  ·
   obtain rfl : i = k := by omega
   go_wp2
   go_ret3
   exact ⟨rfl, rfl⟩
set_option maxHeartbeats 1000000 in
theorem refGet_arg (s : ByteArray) (p k : Int) (w : World) (hs : s.size ≤ maxLen) (h : ¬ (1 ≤ k ∧ k ≤ 6 ∧ 0 ≤ p ∧ p ≤ s.size)) :
  Calls Tryz.prog 134 #[.string s, .int .i64 p, .int .i64 k] w fun e w' => e = .returned (.tuple #[.int .i64 0, .int .i64 0, .int .i64 1]) ∧ w = w' := by
 unfold maxLen at hs
 by_cases h1 : 1 ≤ k
 ·
  by_cases h6 : k ≤ 6
  ·
   by_cases h0 : p < 0
   ·
    clear h
    go_enter Tryz.func134, Tryz.ntmps134
    go_wp2
    go_ret3
    exact ⟨rfl, rfl⟩
   ·
    obtain ⟨q, rfl⟩ : ∃ q : Nat, p = q := ⟨p.toNat, by omega⟩
    have hq : s.size < q := by omega
    clear h
    go_enter Tryz.func134, Tryz.ntmps134
    go_wp2
    go_ret3
    exact ⟨rfl, rfl⟩
  ·
   clear h
   go_enter Tryz.func134, Tryz.ntmps134
   go_wp2
   go_ret3
   exact ⟨rfl, rfl⟩
 ·
  clear h
  go_enter Tryz.func134, Tryz.ntmps134
  go_wp2
  go_ret3
  exact ⟨rfl, rfl⟩
set_option maxHeartbeats 400000 in
theorem refGet_short (s : ByteArray) (p k : Nat) (w : World) (hs : s.size ≤ maxLen) (h1 : 1 ≤ k) (h6 : k ≤ 6) (hp : p ≤ s.size) (hsh : (s.size : Int) - (p : Int) < (k : Int)) :
  Calls Tryz.prog 134 #[.string s, .int .i64 p, .int .i64 k] w fun e w' => e = .returned (.tuple #[.int .i64 0, .int .i64 0, .int .i64 3]) ∧ w = w' := by
 unfold maxLen at hs
 have hsp : ¬ s.size < p := by omega
 have hp0 : ¬ (p : Int) < 0 := by omega
 have hk1 : 1 ≤ (k : Int) := by omega
 have hk6 : (k : Int) ≤ 6 := by omega
 go_enter Tryz.func134, Tryz.ntmps134
 go_wp2
 go_ret3
 exact ⟨rfl, rfl⟩
theorem refGet_any (s : ByteArray) (p k : Int) (w : World) (hs : s.size ≤ maxLen) :
  Calls Tryz.prog 134 #[.string s, .int .i64 p, .int .i64 k] w fun e w' => e = .returned (.tuple #[.int .i64 (getR s p k), .int .i64 (getT s p k), .int .i64 (getE s p k)]) ∧ w = w' := by
 by_cases h : 1 ≤ k ∧ k ≤ 6 ∧ 0 ≤ p ∧ p ≤ s.size
 ·
  obtain ⟨h1, h6, h0, hp⟩ := h
  obtain ⟨q, rfl⟩ : ∃ q : Nat, p = q := ⟨p.toNat, by omega⟩
  obtain ⟨m, rfl⟩ : ∃ m : Nat, k = m := ⟨k.toNat, by omega⟩
  by_cases h2 : (s.size : Int) - (q : Int) < (m : Int)
  ·
   have e : getE s q m = 3 := by unfold getE; rw [if_pos ⟨h1, h6, h0, hp⟩, if_pos h2]
   rw [getR, getT, e, if_neg (by decide), if_neg (by decide)]
   exact refGet_short s q m w hs (by omega) (by omega) (by omega) h2
  ·
   have e : getE s q m = 0 := by unfold getE; rw [if_pos ⟨h1, h6, h0, hp⟩, if_neg h2]
   rw [getR, getT, e, if_pos rfl, if_pos rfl]
   exact refGet_ok s q m w hs (by omega) (by omega) (by omega)
 ·
  have e : getE s p k = 1 := by unfold getE; rw [if_neg h]
  rw [getR, getT, e, if_neg (by decide), if_neg (by decide)]
  exact refGet_arg s p k w hs h
set_option maxHeartbeats 400000 in
theorem refCut_any (s : ByteArray) (p : Int) (w : World) (hs : s.size ≤ maxLen) :
  Calls Tryz.prog 185 #[.string s, .int .i64 p] w fun e w' => e = .returned (.tuple #[.string (cutS s p), .int .i64 (cutT s p), .int .i64 (cutE s p)]) ∧ w = w' := by
 have hs' := hs
 unfold maxLen at hs
 by_cases h : getE s p 2 = 0
 ·
  obtain ⟨-, -, h0, hp⟩ := getE_ok h
  obtain ⟨q, rfl⟩ : ∃ q : Nat, p = q := ⟨p.toNat, by omega⟩
  obtain ⟨g0, g1⟩ := getV_bd s q 2
  have g2 : pw 2 = 65536 := by decide
  have eR : getR s q 2 = getV s q 2 := by rw [getR, if_pos h]; rfl
  have eT : getT s q 2 = q + 2 := by rw [getT, if_pos h]
  obtain ⟨v, hv⟩ : ∃ v : Nat, getV s q 2 = v := ⟨(getV s q 2).toNat, by omega⟩
  have hcE : cutE s q = if (s.size : Int) - ((q : Int) + 2) < (v : Int) then 3 else 0 := by rw [cutE, if_pos h]; simp [hv]
  rw [hv] at eR g0 g1
  by_cases hsh : (s.size : Int) - ((q : Int) + 2) < (v : Int)
  ·
   rw [if_pos hsh] at hcE
   rw [cutS, cutT, hcE, if_neg (by decide), if_neg (by decide)]
   clear hcE hv
   go_enter Tryz.func185, Tryz.ntmps185
   go_wp2_with (go_at_call 134; refine (refGet_any _ _ _ _ hs').mono ?_; rintro e w' ⟨rfl, rfl⟩)
   go_ret3
   exact ⟨rfl, rfl⟩
  ·
   rw [if_neg hsh] at hcE
   rw [cutS, cutT, hcE, if_pos rfl, if_pos rfl]
   have e1 : ((q : Int) + 2).toNat = q + 2 := by omega
   have e2 : ((q : Int) + 2 + getV s q 2).toNat = q + 2 + v := by rw [hv]; omega
   have e3 : ((q : Int).toNat) = q := rfl
   rw [e3, e1, e2, hv]
   obtain ⟨f, hf⟩ : ∃ f : Nat, q + 2 = f := ⟨_, rfl⟩
   have hf' : (q : Int) + 2 = f := by omega
   have hsh' : f + v ≤ s.size := by omega
   rw [hf'] at eT
   rw [hf, hf']
   have hv' : v < 65536 := by omega
   clear hcE hv e2 e1 e3 hsh hp hf hf' h0 g0 g1 g2
   go_enter Tryz.func185, Tryz.ntmps185
   go_wp2_with (go_at_call 134; refine (refGet_any _ _ _ _ hs').mono ?_; rintro e w' ⟨rfl, rfl⟩)
   go_ret3
   exact ⟨rfl, rfl⟩
 ·
  have hcE : cutE s p = getE s p 2 := by rw [cutE, if_neg h]
  rw [cutS, cutT, hcE, if_neg h, if_neg h]
  have hne : (getE s p 2 != 0) = true := by simpa using h
  clear h hcE
  go_enter Tryz.func185, Tryz.ntmps185
  go_wp2_with (go_at_call 134; refine (refGet_any _ _ _ _ hs').mono ?_; rintro e w' ⟨rfl, rfl⟩)
  go_ret3
  exact ⟨rfl, rfl⟩
theorem Box3.drew_eq {w W : World} {h : Nat} {v0 v1 v2 : Value} (b : Box3 w h v0 v1 v2) (e : w.drew = W) : Box3 W h v0 v1 v2 := by subst e; exact b
theorem below_drew_eq {n : Nat} {w a W : World} (b : Below n w a) (e : a.drew = W) : Below n w W := by subst e; exact Below.drew b
set_option maxHeartbeats 2000000 in
theorem refPageGet_long (s : ByteArray) (w : World) (hs : s.size ≤ maxLen) (h : ¬ s.size ≤ 4096) :
  Calls Tryz.prog 80 #[.string s] w fun e w' => e = .returned (.tuple #[.agg #[.int .i64 0, .int .i64 0, .string ⟨#[]⟩], .int .i64 1]) ∧ Below w.heap.size w w' := by
 unfold maxLen at hs
 have h' : (4096 : Int) < s.size := by omega
 go_enter Tryz.func80, Tryz.ntmps80
 go_wp2
 exact bodyPost_ret (v := .tuple #[.agg #[.int .i64 0, .int .i64 0, .string ⟨#[]⟩], .int .i64 1]) (by simp [results, Tryz.results80, go_sem]) rfl ⟨rfl, (Below.refl _ _).alloc (Nat.le_refl _) _⟩
set_option maxHeartbeats 4000000 in
theorem refPageGet_short (s : ByteArray) (w : World) (h : s.size ≤ 4096) :
  Calls Tryz.prog 80 #[.string s] w fun e w' => e = .returned (.tuple #[.agg #[.int .i64 (fullK (fullS s)), .int .i64 (fullG (fullS s)), .string (fullB (fullS s))], .int .i64 (fE (fullS s))]) ∧ Below w.heap.size w w' := by
 have hs : s.size ≤ maxLen := by unfold maxLen; omega
 have hF := fullS_size h
 obtain ⟨F, hFe⟩ : ∃ F, F = fullS s := ⟨_, rfl⟩
 rw [← hFe] at hF ⊢
 have c1 : ∀ W, Calls Tryz.prog 133 #[.string s, .int .i64 4096] W fun e w' => e = .returned (.tuple #[.string F, .int .i64 0]) ∧ Below W.heap.size W w' := by
  intro W
  have e : padE s 4096 = 0 := by
   unfold padE
   rw [if_pos ⟨by omega, by omega⟩, if_pos (by omega)]
  refine (refPad_any s 4096 W hs).mono fun ee w' ⟨he, hb⟩ => ⟨?_, hb⟩
  rw [he, e, hFe, padS, if_pos e]; rfl
 have hFm : F.size ≤ maxLen := by unfold maxLen; omega
 have hF4 : 4096 ≤ F.size := by omega
 have hFu : F.size ≤ 4096 := by omega
 have hs' : s.size ≤ 9223372036854775807 := hs
 have h' : (s.size : Int) ≤ 4096 := by omega
 have l7 : 7 < F.size := by omega
 have l8 : 8 < F.size := by omega
 have l0 : 0 < F.size := by omega
 obtain ⟨n, hn⟩ : ∃ n, n = fN F := ⟨_, rfl⟩
 have hn7 : (n : Int) = (256 : Int) * ((F[7]'l7).toNat : Int) + ((F[8]'l8).toNat : Int) := by
  have h0 := (getV_bd F 7 2).1
  have h1 : getV F 7 2 = getV F 7 1 * 256 + ((F[8]'l8).toNat : Int) := getV_succ F 7 1 l8
  have h2 : getV F 7 1 = getV F 7 0 * 256 + ((F[7]'l7).toNat : Int) := getV_succ F 7 0 l7
  have h3 : getV F 7 0 = 0 := rfl
  rw [hn]
  unfold fN
  omega
 obtain ⟨b7, hb7⟩ : ∃ b : Nat, ∀ h : 7 < F.size, (F[7]'h).toNat = b := ⟨(F[7]'l7).toNat, fun _ => rfl⟩
 obtain ⟨b8, hb8⟩ : ∃ b : Nat, ∀ h : 8 < F.size, (F[8]'h).toNat = b := ⟨(F[8]'l8).toNat, fun _ => rfl⟩
 obtain ⟨b0, hb0⟩ : ∃ b : Nat, ∀ h : 0 < F.size, (F[0]'h).toNat = b := ⟨(F[0]'l0).toNat, fun _ => rfl⟩
 have hw : Hid (IntKind.i64.wrap (IntKind.i64.wrap ((256 : Int) * IntKind.i64.wrap (b7 : Int)) + IntKind.i64.wrap (b8 : Int)) = (n : Int)) := by
  show _ = _
  have x7 : (F[7]'l7).toNat < 256 := UInt8.toNat_lt _
  have x8 : (F[8]'l8).toNat < 256 := UInt8.toNat_lt _
  rw [hb7] at x7 hn7
  rw [hb8] at x8 hn7
  rw [i64_in (b7 : Int) (by omega) (by omega), i64_in (b8 : Int) (by omega) (by omega), i64_in ((256 : Int) * (b7 : Int)) (by omega) (by omega), ← hn7, i64_in (n : Int) (by omega) (by omega)]
 clear hn7
 have hF0 : Hid (F.size = 4096) := hF
 have hn0 : Hid (n = fN F) := hn
 clear hF hFe hn
 have hb0' : Hid (∀ h : 0 < F.size, (F[0]'h).toNat = b0) := hb0
 have hb7' : Hid (∀ h : 7 < F.size, (F[7]'h).toNat = b7) := hb7
 have hb8' : Hid (∀ h : 8 < F.size, (F[8]'h).toNat = b8) := hb8
 clear hb0 hb7 hb8
 obtain ⟨K, hKe⟩ : ∃ K, K = fK F := ⟨_, rfl⟩
 obtain ⟨G, hGe⟩ : ∃ G, G = fG F := ⟨_, rfl⟩
 obtain ⟨B, hBe⟩ : ∃ B, B = fB F := ⟨_, rfl⟩
 have hw0 : Hid (IntKind.i64.wrap (b0 : Int) = K) := by
  show _ = _
  have x0 : (F[0]'l0).toNat < 256 := UInt8.toNat_lt _
  have h2 : getV F 0 1 = getV F 0 0 * 256 + ((F[0]'l0).toNat : Int) := getV_succ F 0 0 l0
  have h3 : getV F 0 0 = 0 := rfl
  rw [hb0'.out] at x0 h2
  rw [i64_in (b0 : Int) (by omega) (by omega), hKe]
  unfold fK
  omega
 have cG : ∀ W, Calls Tryz.prog 134 #[.string F, .int .i64 1, .int .i64 6] W fun e w' => ∃ v u, e = .returned (.tuple #[.int .i64 G, .int .i64 v, .int .i64 u]) ∧ W = w' := by
  intro W
  have e : getE F 1 6 = 0 := getE_zero ⟨by omega, by omega, by omega, by omega⟩
  refine (refGet_any F 1 6 W hFm).mono fun ee w' ⟨he, hb⟩ => ⟨getT F 1 6, 0, ?_, hb⟩
  rw [he, e, getR, e, hGe]; rfl
 have hG0 : 0 ≤ G := by rw [hGe]; exact (getV_bd F 1 6).1
 have hGm : G ≤ 281474976710656 := by rw [hGe]; have := (getV_bd F 1 6).2; have h6 := pw_le 6 (by omega); unfold fG; omega
 have hFm' : F.size ≤ 9223372036854775807 := hFm
 go_enter Tryz.func80, Tryz.ntmps80
 go_wp2_with (first
  | (go_at_call 133; refine (c1 _).mono ?_; rintro e w1 ⟨rfl, hb⟩; have Q := (box3_new _ _ _ _ _).below hb; have hB := below_box hb; clear hb))
 refine (fun (keyA : Hid ?propA) => ?regA) ?kontA
 case regA =>
  go_region_held3 (fun _ => True) (trivial) (fail)
  all_goals simp only [hb7'.out, hb8'.out, hw.out]
  all_goals exact keyA.out
 case kontA =>
  unfold Hid
  generalize hW : w1.drew = W
  replace Q := Q.drew_eq hW
  replace hB := below_drew_eq hB hW
  clear hW c1 hw hb7' hb8'
  by_cases h1 : 4000 < n
  ·
   have hE : fE F = 4 := by unfold fE; rw [if_pos (by have := hn0.out; omega)]
   have xK : Hid (fullK F = 0) := by show _ = _; unfold fullK; rw [hE]; rfl
   have xG : Hid (fullG F = 0) := by show _ = _; unfold fullG; rw [hE]; rfl
   have xB : Hid (fullB F = ⟨#[]⟩) := by show _ = _; unfold fullB; rw [hE]; rfl
   have xE : Hid (fE F = 4) := hE
   clear hE hKe hGe hBe
   have h1' : (4000 : Int) < n := by omega
   obtain ⟨⟨q0, q1, q2⟩, f0, f1, f2⟩ := Q
   go_wp2
   obtain ⟨z0, z1, z2⟩ := set3_cells (v0 := .int .i64 0) (v1 := .int .i64 0) (v2 := .string ⟨#[]⟩) q0 q1 q2
   exact bodyPost_ret (v := .tuple #[.agg #[.int .i64 0, .int .i64 0, .string ⟨#[]⟩], .int .i64 4]) (by simp [results, Tryz.results80, go_sem, z0, z1, z2]) rfl ⟨by rw [xE.out, xK.out, xG.out, xB.out], below_set3 hB (Nat.le_refl _)⟩
  ·
   have hn4 : n ≤ 4000 := by omega
   have hn4' : (n : Int) ≤ 4000 := by omega
   have hz9 : (F.extract 0 (9 + n)).size ≤ 1000000 := by rw [ByteArray.size_extract]; omega
   obtain ⟨u, hu⟩ : ∃ u, u = sealS (F.extract 0 (9 + n)) := ⟨_, rfl⟩
   have c2 : ∀ W, Calls Tryz.prog 119 #[.string (F.extract 0 (9 + n))] W fun e w' => e = .returned (.string u) ∧ Below W.heap.size W w' := by
    intro W; rw [hu]; exact refSeal_ok _ W hz9
   have hS : Hid (fSealed F ↔ u = F.extract 0 (13 + n)) := by
    show _ ↔ _
    rw [fSealed_iff, ← hn0.out, ← hu]
   clear hu hz9
   have HK : Hid (K = fK F) := hKe
   have HG : Hid (G = fG F) := hGe
   have HBB : Hid (B = fB F) := hBe
   clear hKe hGe hBe
   go_wp2
   refine (fun (keyB : Hid (∀ V : World, Box3 V w.heap.size (.int .i64 0) (.int .i64 0) (.string ⟨#[]⟩) → Below w.heap.size w V → (?propB : World → Prop) V)) => ?regB) ?kontB
   case regB =>
    have hK' : ∀ V, Below W.drew.heap.size W.drew V → Box3 V w.heap.size (.int .i64 0) (.int .i64 0) (.string ⟨#[]⟩) ∧ Below w.heap.size w V := fun V hV => ⟨Box3.below (w := W.drew) Q hV, Below.tr (Below.drew hB) hV⟩
    have i1 : (0 : Int) ≤ 9 + (n : Int) := by omega
    have i2 : 9 + (n : Int) ≤ (F.size : Int) := by omega
    have i3 : (0 : Int) ≤ 13 + (n : Int) := by omega
    have i4 : 13 + (n : Int) ≤ (F.size : Int) := by omega
    have i5 : IntKind.i64.wrap (9 + (n : Int)) = 9 + (n : Int) := i64_in _ (by omega) (by omega)
    have i6 : IntKind.i64.wrap (13 + (n : Int)) = 13 + (n : Int) := i64_in _ (by omega) (by omega)
    have i7 : (9 + (n : Int)).toNat = 9 + n := by omega
    have i8 : (13 + (n : Int)).toNat = 13 + n := by omega
    go_region_held3 (fun _ => True) (trivial) (first
     | (go_at_call 119; refine (c2 _).mono ?_; rintro e w2 ⟨rfl, hb⟩; obtain ⟨Q2, hB2⟩ := hK' _ hb; clear hb))
    all_goals exact keyB.out _ Q2 hB2
   case kontB =>
    unfold Hid
    clear Q hB c2
    intro V Q hB
    by_cases h2 : u = F.extract 0 (13 + n)
    ·
     have h2' : fSealed F := hS.out.2 h2
     subst h2
     have c3 : ∀ W, Calls Tryz.prog 135 #[.agg #[.int .i64 K, .int .i64 G, .string B]] W fun e w' => e = .returned (.bool (isKind K && isGen G)) ∧ Below W.heap.size W w' := by
      intro W
      have hbs : B.size = n := by
       rw [HBB.out]; unfold fB
       rw [← hn0.out, extract_size' _ _ _ (by omega) (by omega)]
       omega
      have := refPageRight_any K G B W (by unfold maxLen; omega)
      rwa [rightP_eq, decide_eq_true (show (B.size : Int) ≤ 4000 by omega), Bool.and_true] at this
     clear hS
     obtain ⟨R, hRe⟩ : ∃ R, R = trimS (fRest F) := ⟨_, rfl⟩
     have c4 : ∀ W, Calls Tryz.prog 91 #[.string (F.extract (13 + n) F.size)] W fun e w' => e = .returned (.string R) ∧ W = w' := by
      intro W
      have := refTrim_any (fRest F) W (by unfold fRest; rw [ByteArray.size_extract]; unfold maxLen; omega)
      rw [← hRe] at this
      unfold fRest at this
      rwa [← hn0.out] at this
     have hBx : Hid (F.extract 9 (9 + n) = B) := by
      show _ = _
      rw [HBB.out]; unfold fB
      rw [← hn0.out]
     have hn1 := str_ne_false (a := F.extract 0 (13 + n)) rfl
     rw [hn1]
     clear hn1
     go_wp2_with (first
      | (go_at_call 134; refine (cG _).mono ?_; rintro e w2 ⟨v, u, rfl, rfl⟩))
     refine (fun (keyC : Hid ?propC) => ?regC) ?kontC
     case regC =>
      have i1 : (0 : Int) ≤ 9 + (n : Int) := by omega
      have i2 : 9 + (n : Int) ≤ (F.size : Int) := by omega
      have i3 : (9 : Int) ≤ 9 + (n : Int) := by omega
      have i4 : (0 : Int) < (F.size : Int) := by omega
      have i5 : IntKind.i64.wrap (9 + (n : Int)) = 9 + (n : Int) := i64_in _ (by omega) (by omega)
      have i7 : (9 + (n : Int)).toNat = 9 + n := by omega
      go_region_held3 (fun _ => True) (trivial) (fail)
      all_goals simp only [hb0'.out, hw0.out, hBx.out]
      all_goals exact keyC.out
     case kontC =>
      unfold Hid
      have PQ : ∀ X : World, (V.alloc (.cells #[.int .i64 K, .int .i64 G, .string B] 115)).drew = X →
        Box3 X w.heap.size (.int .i64 0) (.int .i64 0) (.string ⟨#[]⟩) ∧ Box3 X V.heap.size (.int .i64 K) (.int .i64 G) (.string B) ∧ Below w.heap.size w X := by
       intro X hX
       exact ⟨(Q.alloc _).drew_eq hX, (box3_new V _ _ _ _).drew_eq hX, below_drew_eq (hB.alloc hB.size _) hX⟩
      generalize hX : (V.alloc (.cells #[.int .i64 K, .int .i64 G, .string B] 115)).drew = X
      obtain ⟨Q1, P1, hB1⟩ := PQ X hX
      clear PQ hX Q hB
      have hB := hB1
      clear hB1
      have QQ : Hid (Box3 X w.heap.size (.int .i64 0) (.int .i64 0) (.string ⟨#[]⟩)) := Q1
      have PP : Hid (Box3 X V.heap.size (.int .i64 K) (.int .i64 G) (.string B)) := P1
      obtain ⟨⟨q0, q1, q2⟩, f0, f1, f2⟩ := Q1
      obtain ⟨⟨p0, p1, p2⟩, g0, g1, g2⟩ := P1
      have hF1 : Hid (∀ e : Int, (if 1 ≤ K ∧ K ≤ 5 then (if G ≤ 1099511627776 ∧ R = ⟨#[]⟩ then 0 else 4) else 40) = e → fE F = e) := by
       intro e he
       unfold fE
       rw [if_neg (by have := hn0.out; omega), if_pos h2', ← HK.out, ← HG.out, ← hRe]
       exact he
      clear hRe h2' cG
      by_cases k1 : K < 1
      ·
       have hE : fE F = 40 := hF1.out _ (if_neg (by omega))
       have xK : Hid (fullK F = 0) := by show _ = _; unfold fullK; rw [hE]; rfl
       have xG : Hid (fullG F = 0) := by show _ = _; unfold fullG; rw [hE]; rfl
       have xB : Hid (fullB F = ⟨#[]⟩) := by show _ = _; unfold fullB; rw [hE]; rfl
       have xE : Hid (fE F = 40) := hE
       clear hE
       go_wp2
       obtain ⟨z0, z1, z2⟩ := set3_cells (v0 := .int .i64 0) (v1 := .int .i64 0) (v2 := .string ⟨#[]⟩) q0 q1 q2
       exact bodyPost_ret (v := .tuple #[.agg #[.int .i64 0, .int .i64 0, .string ⟨#[]⟩], .int .i64 40]) (by simp [results, Tryz.results80, go_sem, z0, z1, z2]) rfl ⟨by rw [xE.out, xK.out, xG.out, xB.out], below_set3 hB (Nat.le_refl _)⟩
      by_cases k5 : 5 < K
      ·
       have hE : fE F = 40 := hF1.out _ (if_neg (by omega))
       have xK : Hid (fullK F = 0) := by show _ = _; unfold fullK; rw [hE]; rfl
       have xG : Hid (fullG F = 0) := by show _ = _; unfold fullG; rw [hE]; rfl
       have xB : Hid (fullB F = ⟨#[]⟩) := by show _ = _; unfold fullB; rw [hE]; rfl
       have xE : Hid (fE F = 40) := hE
       clear hE
       go_wp2
       obtain ⟨z0, z1, z2⟩ := set3_cells (v0 := .int .i64 0) (v1 := .int .i64 0) (v2 := .string ⟨#[]⟩) q0 q1 q2
       exact bodyPost_ret (v := .tuple #[.agg #[.int .i64 0, .int .i64 0, .string ⟨#[]⟩], .int .i64 40]) (by simp [results, Tryz.results80, go_sem, z0, z1, z2]) rfl ⟨by rw [xE.out, xK.out, xG.out, xB.out], below_set3 hB (Nat.le_refl _)⟩
      have hkk : 1 ≤ K ∧ K ≤ 5 := by omega
      have hk1 : isKind K = true := by simp [isKind]; omega
      rw [hk1, Bool.true_and] at c3
      by_cases y : G ≤ 1099511627776
      ·
       have hy : isGen G = true := by simp [isGen, hG0, y]
       rw [hy] at c3
       by_cases hR : R = ⟨#[]⟩
       ·
        have hE : fE F = 0 := hF1.out _ (by rw [if_pos hkk, if_pos ⟨y, hR⟩])
        have xK : Hid (fullK F = K) := by show _ = _; unfold fullK; rw [hE, HK.out]; rfl
        have xG : Hid (fullG F = G) := by show _ = _; unfold fullG; rw [hE, HG.out]; rfl
        have xB : Hid (fullB F = B) := by show _ = _; unfold fullB; rw [hE, HBB.out]; rfl
        have xE : Hid (fE F = 0) := hE
        clear hE hy hkk hk1
        subst hR
        go_wp2_with (first
         | (go_at_call 135; refine (c3 _).mono ?_; rintro e w3 ⟨rfl, hb⟩; obtain ⟨⟨q0, q1, q2⟩, f0, f1, f2⟩ := Box3.below QQ.out hb; obtain ⟨⟨p0, p1, p2⟩, g0, g1, g2⟩ := Box3.below PP.out hb; replace hB := Below.tr hB hb; clear hb)
         | (go_at_call 91; refine (c4 _).mono ?_; rintro e w4 ⟨rfl, rfl⟩))
        obtain ⟨z0, z1, z2⟩ := set3_cells (v0 := .int .i64 K) (v1 := .int .i64 G) (v2 := .string B) q0 q1 q2
        exact bodyPost_ret (v := .tuple #[.agg #[.int .i64 K, .int .i64 G, .string B], .int .i64 0]) (by simp [results, Tryz.results80, go_sem, z0, z1, z2]) rfl ⟨by rw [xE.out, xK.out, xG.out, xB.out], below_set3 hB (Nat.le_refl _)⟩
       ·
        have hE : fE F = 4 := hF1.out _ (by rw [if_pos hkk, if_neg (fun hh => hR hh.2)])
        have xK : Hid (fullK F = 0) := by show _ = _; unfold fullK; rw [hE]; rfl
        have xG : Hid (fullG F = 0) := by show _ = _; unfold fullG; rw [hE]; rfl
        have xB : Hid (fullB F = ⟨#[]⟩) := by show _ = _; unfold fullB; rw [hE]; rfl
        have xE : Hid (fE F = 4) := hE
        have hR1 := str_some hR
        clear hE hy hkk hk1
        go_wp2_with (first
         | (go_at_call 135; refine (c3 _).mono ?_; rintro e w3 ⟨rfl, hb⟩; obtain ⟨⟨q0, q1, q2⟩, f0, f1, f2⟩ := Box3.below QQ.out hb; obtain ⟨⟨p0, p1, p2⟩, g0, g1, g2⟩ := Box3.below PP.out hb; replace hB := Below.tr hB hb; clear hb)
         | (go_at_call 91; refine (c4 _).mono ?_; rintro e w4 ⟨rfl, rfl⟩))
        obtain ⟨z0, z1, z2⟩ := set3_cells (v0 := .int .i64 0) (v1 := .int .i64 0) (v2 := .string ⟨#[]⟩) q0 q1 q2
        exact bodyPost_ret (v := .tuple #[.agg #[.int .i64 0, .int .i64 0, .string ⟨#[]⟩], .int .i64 4]) (by simp [results, Tryz.results80, go_sem, z0, z1, z2]) rfl ⟨by rw [xE.out, xK.out, xG.out, xB.out], below_set3 hB (Nat.le_refl _)⟩
      ·
       have hy : isGen G = false := by simp [isGen, hG0]; omega
       rw [hy] at c3
       have hE : fE F = 4 := hF1.out _ (by rw [if_pos hkk, if_neg (fun hh => y hh.1)])
       have xK : Hid (fullK F = 0) := by show _ = _; unfold fullK; rw [hE]; rfl
       have xG : Hid (fullG F = 0) := by show _ = _; unfold fullG; rw [hE]; rfl
       have xB : Hid (fullB F = ⟨#[]⟩) := by show _ = _; unfold fullB; rw [hE]; rfl
       have xE : Hid (fE F = 4) := hE
       clear hE hy hkk hk1
       go_wp2_with (first
        | (go_at_call 135; refine (c3 _).mono ?_; rintro e w3 ⟨rfl, hb⟩; obtain ⟨⟨q0, q1, q2⟩, f0, f1, f2⟩ := Box3.below QQ.out hb; obtain ⟨⟨p0, p1, p2⟩, g0, g1, g2⟩ := Box3.below PP.out hb; replace hB := Below.tr hB hb; clear hb)
        | (go_at_call 91; refine (c4 _).mono ?_; rintro e w4 ⟨rfl, rfl⟩))
       obtain ⟨z0, z1, z2⟩ := set3_cells (v0 := .int .i64 0) (v1 := .int .i64 0) (v2 := .string ⟨#[]⟩) q0 q1 q2
       exact bodyPost_ret (v := .tuple #[.agg #[.int .i64 0, .int .i64 0, .string ⟨#[]⟩], .int .i64 4]) (by simp [results, Tryz.results80, go_sem, z0, z1, z2]) rfl ⟨by rw [xE.out, xK.out, xG.out, xB.out], below_set3 hB (Nat.le_refl _)⟩
    ·
     have h2' : ¬ fSealed F := fun hh => h2 (hS.out.1 hh)
     have hn1 := str_ne_true h2
     have hE : fE F = 41 := by unfold fE; rw [if_neg (by have := hn0.out; omega), if_neg h2']
     have xK : Hid (fullK F = 0) := by show _ = _; unfold fullK; rw [hE]; rfl
     have xG : Hid (fullG F = 0) := by show _ = _; unfold fullG; rw [hE]; rfl
     have xB : Hid (fullB F = ⟨#[]⟩) := by show _ = _; unfold fullB; rw [hE]; rfl
     have xE : Hid (fE F = 41) := hE
     clear hE h2' hS h2
     obtain ⟨⟨q0, q1, q2⟩, f0, f1, f2⟩ := Q
     rw [hn1]
     clear hn1
     go_wp2
     obtain ⟨z0, z1, z2⟩ := set3_cells (v0 := .int .i64 0) (v1 := .int .i64 0) (v2 := .string ⟨#[]⟩) q0 q1 q2
     exact bodyPost_ret (v := .tuple #[.agg #[.int .i64 0, .int .i64 0, .string ⟨#[]⟩], .int .i64 41]) (by simp [results, Tryz.results80, go_sem, z0, z1, z2]) rfl ⟨by rw [xE.out, xK.out, xG.out, xB.out], below_set3 hB (Nat.le_refl _)⟩
theorem refPageGet_any (s : ByteArray) (w : World) (hs : s.size ≤ maxLen) :
  Calls Tryz.prog 80 #[.string s] w fun e w' => e = .returned (.tuple #[.agg #[.int .i64 (readK s), .int .i64 (readG s), .string (readB s)], .int .i64 (readE s)]) ∧ Below w.heap.size w w' := by
 by_cases h : s.size ≤ 4096
 ·
  have e : readE s = fE (fullS s) := by rw [readE, if_pos h]
  unfold readK readG readB
  rw [e]
  exact refPageGet_short s w h
 ·
  have e : readE s = 1 := by rw [readE, if_neg h]
  unfold readK readG readB
  rw [e]
  exact refPageGet_long s w hs h
end Go.Proofs.YtaobfgplheoefaaGreat
namespace Go.Proofs.YtaobfgplheoefaaGreat
open Go.RowKit Plain Anylast
set_option linter.unusedVariables false
theorem rightSu_no {g r m z : Int} (h : ¬ ((1 ≤ g ∧ g ≤ 1099511627776) ∧ (24 ≤ z ∧ z ≤ 2048) ∧ (r = 0 ∨ (10 ≤ r ∧ r < z)) ∧ (10 ≤ m ∧ m < z) ∧ ¬ m = r)) : rightSu g r m z = false := decide_eq_false h
set_option maxHeartbeats 2000000 in
theorem refSuRight_any (g r m z : Int) (w : World) :
  Calls Tryz.prog 57 #[.agg #[.int .i64 g, .int .i64 r, .int .i64 m, .int .i64 z]] w fun e w' => e = .returned (.bool (rightSu g r m z)) ∧ Below w.heap.size w w' := by
 by_cases h1 : g < 1
 ·
  rw [rightSu_no (by omega)]
  go_enter Tryz.func57, Tryz.ntmps57
  go_wp2
  go_ret
  exact ⟨ret_bool (by first | rfl | (simp <;> omega)), (Below.refl _ _).alloc (Nat.le_refl _) _⟩
 by_cases h2 : 1099511627776 < g
 ·
  rw [rightSu_no (by omega)]
  go_enter Tryz.func57, Tryz.ntmps57
  go_wp2
  go_ret
  exact ⟨ret_bool (by first | rfl | (simp <;> omega)), (Below.refl _ _).alloc (Nat.le_refl _) _⟩
 by_cases h3 : z < 24
 ·
  rw [rightSu_no (by omega)]
  go_enter Tryz.func57, Tryz.ntmps57
  go_wp2
  go_ret
  exact ⟨ret_bool (by first | rfl | (simp <;> omega)), (Below.refl _ _).alloc (Nat.le_refl _) _⟩
 by_cases h4 : 2048 < z
 ·
  rw [rightSu_no (by omega)]
  go_enter Tryz.func57, Tryz.ntmps57
  go_wp2
  go_ret
  exact ⟨ret_bool (by first | rfl | (simp <;> omega)), (Below.refl _ _).alloc (Nat.le_refl _) _⟩
 by_cases h5 : r = 0
 ·
  subst h5
  have h9 : (m == 0) = decide (m = 0) := rfl
  by_cases h6 : 10 ≤ m
  ·
   have h7 : (m == 0) = false := by rw [beq_eq_false_iff_ne]; omega
   by_cases h8 : m < z
   ·
    rw [show rightSu g 0 m z = true from (rightSu_iff _ _ _ _).2 (by omega)]
    clear h9
    go_enter Tryz.func57, Tryz.ntmps57
    go_wp2
    go_ret
    exact ⟨ret_bool (by first | rfl | (simp <;> omega)), (Below.refl _ _).alloc (Nat.le_refl _) _⟩
   ·
    rw [rightSu_no (by omega)]
    clear h9
    go_enter Tryz.func57, Tryz.ntmps57
    go_wp2
    go_ret
    exact ⟨ret_bool (by first | rfl | (simp <;> omega)), (Below.refl _ _).alloc (Nat.le_refl _) _⟩
  ·
   rw [rightSu_no (by omega)]
   clear h9
   go_enter Tryz.func57, Tryz.ntmps57
   go_wp2
   go_ret
   exact ⟨ret_bool (by first | rfl | (simp <;> omega)), (Below.refl _ _).alloc (Nat.le_refl _) _⟩
 have h5' : (r == 0) = false := by simpa using h5
 by_cases h6 : r < 10
 ·
  rw [rightSu_no (by omega)]
  go_enter Tryz.func57, Tryz.ntmps57
  go_wp2
  go_ret
  exact ⟨ret_bool (by first | rfl | (simp <;> omega)), (Below.refl _ _).alloc (Nat.le_refl _) _⟩
 by_cases h7 : z ≤ r
 ·
  rw [rightSu_no (by omega)]
  go_enter Tryz.func57, Tryz.ntmps57
  go_wp2
  go_ret
  exact ⟨ret_bool (by first | rfl | (simp <;> omega)), (Below.refl _ _).alloc (Nat.le_refl _) _⟩
 by_cases h8 : 10 ≤ m
 ·
  by_cases h9 : m < z
  ·
   by_cases h10 : m = r
   ·
    rw [rightSu_no (by omega)]
    subst h10
    go_enter Tryz.func57, Tryz.ntmps57
    go_wp2
    go_ret
    exact ⟨ret_bool (by first | rfl | (simp <;> omega)), (Below.refl _ _).alloc (Nat.le_refl _) _⟩
   ·
    rw [show rightSu g r m z = true from (rightSu_iff _ _ _ _).2 (by omega)]
    have h10' : (m == r) = false := by simpa using h10
    go_enter Tryz.func57, Tryz.ntmps57
    go_wp2
    go_ret
    exact ⟨ret_bool (by first | rfl | (simp <;> omega)), (Below.refl _ _).alloc (Nat.le_refl _) _⟩
  ·
   rw [rightSu_no (by omega)]
   go_enter Tryz.func57, Tryz.ntmps57
   go_wp2
   go_ret
   exact ⟨ret_bool (by first | rfl | (simp <;> omega)), (Below.refl _ _).alloc (Nat.le_refl _) _⟩
 ·
  rw [rightSu_no (by omega)]
  go_enter Tryz.func57, Tryz.ntmps57
  go_wp2
  go_ret
  exact ⟨ret_bool (by first | rfl | (simp <;> omega)), (Below.refl _ _).alloc (Nat.le_refl _) _⟩
theorem byte_at (B : ByteArray) (k : Nat) (hk : k < B.size) : ∃ x : Int, 0 ≤ x ∧ x ≤ 255 ∧ ((B[k].toNat : Int) = x) ∧ ∀ W : World, (Instr.index 9 (.string B) (.int .i64 k)).run Tryz.prog W = .ok (.int .u8 x) W := by
 have hb := B[k].toNat_lt
 refine ⟨(B[k].toNat : Int), by omega, by omega, rfl, fun W => ?_⟩
 go_simp
def suV (h k : Nat) (G : Int) (B : ByteArray) (x0 x1 x2 x3 x4 x5 : Int) : Nat → Value
 | 0 => .pointer (some ⟨h, 1, none⟩)
 | 1 => .int .i64 G
 | 2 => .string B
 | 3 => .int .u8 x0
 | 4 => .int .i64 x0
 | 5 => .int .i64 (256 * x0)
 | 6 => .string B
 | 7 => .int .u8 x1
 | 8 => .int .i64 x1
 | 9 => .int .i64 (256 * x0 + x1)
 | 10 => .string B
 | 11 => .int .u8 x2
 | 12 => .int .i64 x2
 | 13 => .int .i64 (256 * x2)
 | 14 => .string B
 | 15 => .int .u8 x3
 | 16 => .int .i64 x3
 | 17 => .int .i64 (256 * x2 + x3)
 | 18 => .string B
 | 19 => .int .u8 x4
 | 20 => .int .i64 x4
 | 21 => .int .i64 (256 * x4)
 | 22 => .string B
 | 23 => .int .u8 x5
 | 24 => .int .i64 x5
 | 25 => .int .i64 (256 * x4 + x5)
 | 26 => .agg #[.int .i64 G, .int .i64 (256 * x0 + x1), .int .i64 (256 * x2 + x3), .int .i64 (256 * x4 + x5)]
 | 27 => .pointer (some ⟨k, 0, none⟩)
 | _ => undef
def worldsU (w0 w1 w2 : World) : Nat → World
 | 0 => w0
 | 1 => w1
 | _ => w2
set_option maxHeartbeats 4000000 in
theorem refSuGet_six (s : ByteArray) (w : World) (hs : s.size ≤ maxLen) (h1 : readE s = 0) (h2 : readK s = 4) (h3 : (readB s).size = 6) :
  Calls Tryz.prog 79 #[.string s] w fun e w' => e = .returned (.tuple #[.agg #[.int .i64 (suG s), .int .i64 (suR s), .int .i64 (suM s), .int .i64 (suZ s)], .int .i64 (suE s)]) ∧ Below w.heap.size w w' := by
 have c1 := fun W => refPageGet_any s W hs
 rw [h1, h2] at c1
 obtain ⟨G, hG⟩ : ∃ x, x = readG s := ⟨_, rfl⟩
 obtain ⟨B, hBB⟩ : ∃ x, x = readB s := ⟨_, rfl⟩
 rw [← hG, ← hBB] at c1
 rw [← hBB] at h3
 have k0 : 0 < B.size := by omega
 have k1 : 1 < B.size := by omega
 have k2 : 2 < B.size := by omega
 have k3 : 3 < B.size := by omega
 have k4 : 4 < B.size := by omega
 have k5 : 5 < B.size := by omega
 obtain ⟨x0, a0, b0, e0, i0⟩ := byte_at B 0 k0
 obtain ⟨x1, a1, b1, e1, i1⟩ := byte_at B 1 k1
 obtain ⟨x2, a2, b2, e2, i2⟩ := byte_at B 2 k2
 obtain ⟨x3, a3, b3, e3, i3⟩ := byte_at B 3 k3
 obtain ⟨x4, a4, b4, e4, i4⟩ := byte_at B 4 k4
 obtain ⟨x5, a5, b5, e5, i5⟩ := byte_at B 5 k5
 have h3' : (B.size : Int) = 6 := by omega
 have y0 : getV B 0 2 = 256 * x0 + x1 := by rw [getV_succ B 0 1 (by omega), getV_succ B 0 0 (by omega), ← e0, ← e1]; simp [getV]; omega
 have y1 : getV B 2 2 = 256 * x2 + x3 := by rw [getV_succ B 2 1 (by omega), getV_succ B 2 0 (by omega), ← e2, ← e3]; simp [getV]; omega
 have y2 : getV B 4 2 = 256 * x4 + x5 := by rw [getV_succ B 4 1 (by omega), getV_succ B 4 0 (by omega), ← e4, ← e5]; simp [getV]; omega
 have c3 := fun W => refSuRight_any G (256 * x0 + x1) (256 * x2 + x3) (256 * x4 + x5) W
 have hE' : suE s = if rightSu G (256 * x0 + x1) (256 * x2 + x3) (256 * x4 + x5) then 0 else 4 := by rw [suE, if_pos h1, if_pos h2, ← hBB, if_pos h3, ← hG, y0, y1, y2]
 have zG : suG s = if suE s = 0 then G else 0 := by rw [suG, hG]
 have zR : suR s = if suE s = 0 then 256 * x0 + x1 else 0 := by rw [suR, ← hBB, y0]
 have zM : suM s = if suE s = 0 then 256 * x2 + x3 else 0 := by rw [suM, ← hBB, y1]
 have zZ : suZ s = if suE s = 0 then 256 * x4 + x5 else 0 := by rw [suZ, ← hBB, y2]
 obtain ⟨rE, hrE⟩ : ∃ x, x = suE s := ⟨_, rfl⟩
 obtain ⟨rG, hrG⟩ : ∃ x, x = suG s := ⟨_, rfl⟩
 obtain ⟨rR, hrR⟩ : ∃ x, x = suR s := ⟨_, rfl⟩
 obtain ⟨rM, hrM⟩ : ∃ x, x = suM s := ⟨_, rfl⟩
 obtain ⟨rZ, hrZ⟩ : ∃ x, x = suZ s := ⟨_, rfl⟩
 rw [← hrE, ← hrG, ← hrR, ← hrM, ← hrZ]
 rw [← hrE] at hE' zG zR zM zZ
 rw [← hrG] at zG
 rw [← hrR] at zR
 rw [← hrM] at zM
 rw [← hrZ] at zZ
 replace hE' : Hid (rE = if rightSu G (256 * x0 + x1) (256 * x2 + x3) (256 * x4 + x5) then 0 else 4) := hE'
 replace zG : Hid (rG = if rE = 0 then G else 0) := zG
 replace zR : Hid (rR = if rE = 0 then 256 * x0 + x1 else 0) := zR
 replace zM : Hid (rM = if rE = 0 then 256 * x2 + x3 else 0) := zM
 replace zZ : Hid (rZ = if rE = 0 then 256 * x4 + x5 else 0) := zZ
 have ww0 : IntKind.i64.wrap x0 = x0 := i64_in _ (by omega) (by omega)
 have ww1 : IntKind.i64.wrap x1 = x1 := i64_in _ (by omega) (by omega)
 have ww2 : IntKind.i64.wrap x2 = x2 := i64_in _ (by omega) (by omega)
 have ww3 : IntKind.i64.wrap x3 = x3 := i64_in _ (by omega) (by omega)
 have ww4 : IntKind.i64.wrap x4 = x4 := i64_in _ (by omega) (by omega)
 have ww5 : IntKind.i64.wrap x5 = x5 := i64_in _ (by omega) (by omega)
 have v0 : IntKind.i64.wrap (256 * x0) = 256 * x0 := i64_in _ (by omega) (by omega)
 have u0 : IntKind.i64.wrap (256 * x0 + x1) = 256 * x0 + x1 := i64_in _ (by omega) (by omega)
 have v2 : IntKind.i64.wrap (256 * x2) = 256 * x2 := i64_in _ (by omega) (by omega)
 have u2 : IntKind.i64.wrap (256 * x2 + x3) = 256 * x2 + x3 := i64_in _ (by omega) (by omega)
 have v4 : IntKind.i64.wrap (256 * x4) = 256 * x4 := i64_in _ (by omega) (by omega)
 have u4 : IntKind.i64.wrap (256 * x4 + x5) = 256 * x4 + x5 := i64_in _ (by omega) (by omega)
 clear hG hBB h3 y0 y1 y2 hrE hrG hrR hrM hrZ h1 h2
 go_enter Tryz.func79, Tryz.ntmps79
 go_wp2_with (first
  | (go_at_call 80; refine (c1 _).mono ?_; rintro e w1 ⟨rfl, hb⟩; have R := (box4_cells hb).alloc (.cells #[.int .i64 4, .int .i64 G, .string B] 115); have hB := below_box hb; replace hB := hB.alloc hB.size (.cells #[.int .i64 4, .int .i64 G, .string B] 115); have P := box3_new w1 (.int .i64 4) (.int .i64 G) (.string B) 115; obtain ⟨⟨p0, p1, p2⟩, -⟩ := id P; obtain ⟨⟨r0, r1, r2, r3⟩, f0, f1, f2, f3⟩ := id R; clear hb))
 obtain ⟨V, hV⟩ : ∃ V, V = (w1.alloc (.cells #[.int .i64 4, .int .i64 G, .string B] 115)).drew := ⟨_, rfl⟩
 replace R : Box4 V w.heap.size (.int .i64 0) (.int .i64 0) (.int .i64 0) (.int .i64 0) := by rw [hV]; exact R.drew
 replace P : V.cell? ⟨w1.heap.size, 1, none⟩ = some (.int .i64 G) := by rw [hV]; exact p1
 replace hB : Below w.heap.size w V := by rw [hV]; exact hB.drew
 have P' : (V.alloc (.cells #[.int .i64 0, .int .i64 0, .int .i64 0, .int .i64 0] 35)).cell? ⟨w1.heap.size, 1, none⟩ = some (.int .i64 G) := cell_alloc P _
 have HV : Hid (V = (w1.alloc (.cells #[.int .i64 4, .int .i64 G, .string B] 115)).drew) := hV
 clear hV p0 p1 p2 r0 r1 r2 r3 f0 f1 f2 f3
 refine region_worlds (by kernel_rfl) [27, 28] (suV w1.heap.size V.heap.size G B x0 x1 x2 x3 x4 x5) (worldsU V (V.alloc (.cells #[.int .i64 0, .int .i64 0, .int .i64 0, .int .i64 0] 35)) (V.alloc (.cells #[.int .i64 G, .int .i64 (256 * x0 + x1), .int .i64 (256 * x2 + x3), .int .i64 (256 * x4 + x5)] 35))) (by kernel_rfl) (by kernel_rfl) HV.out.symm ?step 29 rfl ?done
 case step =>
  intro i o ho kk a2 hkk hmay hdf hsz hdep hsame
  match i, ho with
  | 0, ho =>
   cases ho
   have h4 := (hsame 4 rfl)
   exact val_op rfl (wanted_free rfl) (by clear hdep hsame hsz hdf; (try simp only [suV, worldsU]); go_simp) rfl rfl
  | 1, ho =>
   cases ho
   have h28 := (hdep 0 _ 28 rfl rfl rfl)
   simp only [suV] at h28
   match kk, hkk, hmay with
   | 0, _, hq => first | (cases hq; done) | (exact val_op rfl (wanted_free rfl) (by clear hdep hsame hsz hdf; (try simp only [suV, worldsU]); go_simp) rfl rfl)
   | 1, _, hq => first | (cases hq; done) | (exact val_op rfl (wanted_free rfl) (by clear hdep hsame hsz hdf; (try simp only [suV, worldsU]); go_simp) rfl rfl)
   | 2, _, hq => first | (cases hq; done) | (exact val_op rfl (wanted_free rfl) (by clear hdep hsame hsz hdf; (try simp only [suV, worldsU]); go_simp) rfl rfl)
   | kk + 3, hkk, _ => simp at hkk
  | 2, ho =>
   cases ho
   have h6 := (hsame 6 rfl)
   exact val_op rfl (wanted_free rfl) (by clear hdep hsame hsz hdf; (try simp only [suV, worldsU]); go_simp) rfl rfl
  | 3, ho =>
   cases ho
   have h30 := (hdep 2 _ 30 rfl rfl rfl)
   simp only [suV] at h30
   exact val_op rfl (wanted_free rfl) (by clear hdep hsame hsz hdf; (try simp only [suV, worldsU]); go_simp) rfl rfl
  | 4, ho =>
   cases ho
   have h31 := (hdep 3 _ 31 rfl rfl rfl)
   simp only [suV] at h31
   match kk, hkk, hmay with
   | 0, _, hq => first | (cases hq; done) | (exact val_op rfl (wanted_free rfl) (by clear hdep hsame hsz hdf; (try simp only [suV, worldsU]); go_simp) rfl rfl)
   | 1, _, hq => first | (cases hq; done) | (exact val_op rfl (wanted_free rfl) (by clear hdep hsame hsz hdf; (try simp only [suV, worldsU]); go_simp) rfl rfl)
   | 2, _, hq => first | (cases hq; done) | (exact val_op rfl (wanted_free rfl) (by clear hdep hsame hsz hdf; (try simp only [suV, worldsU]); go_simp) rfl rfl)
   | kk + 3, hkk, _ => simp at hkk
  | 5, ho =>
   cases ho
   have h32 := (hdep 4 _ 32 rfl rfl rfl)
   simp only [suV] at h32
   exact val_op rfl (wanted_free rfl) (by clear hdep hsame hsz hdf; (try simp only [suV, worldsU]); go_simp) rfl rfl
  | 6, ho =>
   cases ho
   have h6 := (hsame 6 rfl)
   exact val_op rfl (wanted_free rfl) (by clear hdep hsame hsz hdf; (try simp only [suV, worldsU]); go_simp) rfl rfl
  | 7, ho =>
   cases ho
   have h34 := (hdep 6 _ 34 rfl rfl rfl)
   simp only [suV] at h34
   exact val_op rfl (wanted_free rfl) (by clear hdep hsame hsz hdf; (try simp only [suV, worldsU]); go_simp) rfl rfl
  | 8, ho =>
   cases ho
   have h35 := (hdep 7 _ 35 rfl rfl rfl)
   simp only [suV] at h35
   match kk, hkk, hmay with
   | 0, _, hq => first | (cases hq; done) | (exact val_op rfl (wanted_free rfl) (by clear hdep hsame hsz hdf; (try simp only [suV, worldsU]); go_simp) rfl rfl)
   | 1, _, hq => first | (cases hq; done) | (exact val_op rfl (wanted_free rfl) (by clear hdep hsame hsz hdf; (try simp only [suV, worldsU]); go_simp) rfl rfl)
   | 2, _, hq => first | (cases hq; done) | (exact val_op rfl (wanted_free rfl) (by clear hdep hsame hsz hdf; (try simp only [suV, worldsU]); go_simp) rfl rfl)
   | kk + 3, hkk, _ => simp at hkk
  | 9, ho =>
   cases ho
   have h33 := (hdep 5 _ 33 rfl rfl rfl)
   have h36 := (hdep 8 _ 36 rfl rfl rfl)
   simp only [suV] at h33 h36
   exact val_op rfl (wanted_free rfl) (by clear hdep hsame hsz hdf; (try simp only [suV, worldsU]); go_simp) rfl rfl
  | 10, ho =>
   cases ho
   have h6 := (hsame 6 rfl)
   exact val_op rfl (wanted_free rfl) (by clear hdep hsame hsz hdf; (try simp only [suV, worldsU]); go_simp) rfl rfl
  | 11, ho =>
   cases ho
   have h38 := (hdep 10 _ 38 rfl rfl rfl)
   simp only [suV] at h38
   exact val_op rfl (wanted_free rfl) (by clear hdep hsame hsz hdf; (try simp only [suV, worldsU]); go_simp) rfl rfl
  | 12, ho =>
   cases ho
   have h39 := (hdep 11 _ 39 rfl rfl rfl)
   simp only [suV] at h39
   match kk, hkk, hmay with
   | 0, _, hq => first | (cases hq; done) | (exact val_op rfl (wanted_free rfl) (by clear hdep hsame hsz hdf; (try simp only [suV, worldsU]); go_simp) rfl rfl)
   | 1, _, hq => first | (cases hq; done) | (exact val_op rfl (wanted_free rfl) (by clear hdep hsame hsz hdf; (try simp only [suV, worldsU]); go_simp) rfl rfl)
   | 2, _, hq => first | (cases hq; done) | (exact val_op rfl (wanted_free rfl) (by clear hdep hsame hsz hdf; (try simp only [suV, worldsU]); go_simp) rfl rfl)
   | kk + 3, hkk, _ => simp at hkk
  | 13, ho =>
   cases ho
   have h40 := (hdep 12 _ 40 rfl rfl rfl)
   simp only [suV] at h40
   exact val_op rfl (wanted_free rfl) (by clear hdep hsame hsz hdf; (try simp only [suV, worldsU]); go_simp) rfl rfl
  | 14, ho =>
   cases ho
   have h6 := (hsame 6 rfl)
   exact val_op rfl (wanted_free rfl) (by clear hdep hsame hsz hdf; (try simp only [suV, worldsU]); go_simp) rfl rfl
  | 15, ho =>
   cases ho
   have h42 := (hdep 14 _ 42 rfl rfl rfl)
   simp only [suV] at h42
   exact val_op rfl (wanted_free rfl) (by clear hdep hsame hsz hdf; (try simp only [suV, worldsU]); go_simp) rfl rfl
  | 16, ho =>
   cases ho
   have h43 := (hdep 15 _ 43 rfl rfl rfl)
   simp only [suV] at h43
   match kk, hkk, hmay with
   | 0, _, hq => first | (cases hq; done) | (exact val_op rfl (wanted_free rfl) (by clear hdep hsame hsz hdf; (try simp only [suV, worldsU]); go_simp) rfl rfl)
   | 1, _, hq => first | (cases hq; done) | (exact val_op rfl (wanted_free rfl) (by clear hdep hsame hsz hdf; (try simp only [suV, worldsU]); go_simp) rfl rfl)
   | 2, _, hq => first | (cases hq; done) | (exact val_op rfl (wanted_free rfl) (by clear hdep hsame hsz hdf; (try simp only [suV, worldsU]); go_simp) rfl rfl)
   | kk + 3, hkk, _ => simp at hkk
  | 17, ho =>
   cases ho
   have h41 := (hdep 13 _ 41 rfl rfl rfl)
   have h44 := (hdep 16 _ 44 rfl rfl rfl)
   simp only [suV] at h41 h44
   exact val_op rfl (wanted_free rfl) (by clear hdep hsame hsz hdf; (try simp only [suV, worldsU]); go_simp) rfl rfl
  | 18, ho =>
   cases ho
   have h6 := (hsame 6 rfl)
   exact val_op rfl (wanted_free rfl) (by clear hdep hsame hsz hdf; (try simp only [suV, worldsU]); go_simp) rfl rfl
  | 19, ho =>
   cases ho
   have h46 := (hdep 18 _ 46 rfl rfl rfl)
   simp only [suV] at h46
   exact val_op rfl (wanted_free rfl) (by clear hdep hsame hsz hdf; (try simp only [suV, worldsU]); go_simp) rfl rfl
  | 20, ho =>
   cases ho
   have h47 := (hdep 19 _ 47 rfl rfl rfl)
   simp only [suV] at h47
   match kk, hkk, hmay with
   | 0, _, hq => first | (cases hq; done) | (exact val_op rfl (wanted_free rfl) (by clear hdep hsame hsz hdf; (try simp only [suV, worldsU]); go_simp) rfl rfl)
   | 1, _, hq => first | (cases hq; done) | (exact val_op rfl (wanted_free rfl) (by clear hdep hsame hsz hdf; (try simp only [suV, worldsU]); go_simp) rfl rfl)
   | 2, _, hq => first | (cases hq; done) | (exact val_op rfl (wanted_free rfl) (by clear hdep hsame hsz hdf; (try simp only [suV, worldsU]); go_simp) rfl rfl)
   | kk + 3, hkk, _ => simp at hkk
  | 21, ho =>
   cases ho
   have h48 := (hdep 20 _ 48 rfl rfl rfl)
   simp only [suV] at h48
   exact val_op rfl (wanted_free rfl) (by clear hdep hsame hsz hdf; (try simp only [suV, worldsU]); go_simp) rfl rfl
  | 22, ho =>
   cases ho
   have h6 := (hsame 6 rfl)
   exact val_op rfl (wanted_free rfl) (by clear hdep hsame hsz hdf; (try simp only [suV, worldsU]); go_simp) rfl rfl
  | 23, ho =>
   cases ho
   have h50 := (hdep 22 _ 50 rfl rfl rfl)
   simp only [suV] at h50
   exact val_op rfl (wanted_free rfl) (by clear hdep hsame hsz hdf; (try simp only [suV, worldsU]); go_simp) rfl rfl
  | 24, ho =>
   cases ho
   have h51 := (hdep 23 _ 51 rfl rfl rfl)
   simp only [suV] at h51
   match kk, hkk, hmay with
   | 0, _, hq => first | (cases hq; done) | (exact val_op rfl (wanted_free rfl) (by clear hdep hsame hsz hdf; (try simp only [suV, worldsU]); go_simp) rfl rfl)
   | 1, _, hq => first | (cases hq; done) | (exact val_op rfl (wanted_free rfl) (by clear hdep hsame hsz hdf; (try simp only [suV, worldsU]); go_simp) rfl rfl)
   | 2, _, hq => first | (cases hq; done) | (exact val_op rfl (wanted_free rfl) (by clear hdep hsame hsz hdf; (try simp only [suV, worldsU]); go_simp) rfl rfl)
   | kk + 3, hkk, _ => simp at hkk
  | 25, ho =>
   cases ho
   have h49 := (hdep 21 _ 49 rfl rfl rfl)
   have h52 := (hdep 24 _ 52 rfl rfl rfl)
   simp only [suV] at h49 h52
   exact val_op rfl (wanted_free rfl) (by clear hdep hsame hsz hdf; (try simp only [suV, worldsU]); go_simp) rfl rfl
  | 26, ho =>
   cases ho
   have h29 := (hdep 1 _ 29 rfl rfl rfl)
   have h37 := (hdep 9 _ 37 rfl rfl rfl)
   have h45 := (hdep 17 _ 45 rfl rfl rfl)
   have h53 := (hdep 25 _ 53 rfl rfl rfl)
   simp only [suV] at h29 h37 h45 h53
   exact val_op rfl (wanted_free rfl) (by clear hdep hsame hsz hdf; (try simp only [suV, worldsU]); go_simp) rfl rfl
  | 27, ho =>
   cases ho
   match kk, hkk, hmay with
   | 0, _, _ => exact val_op rfl (wanted_free rfl) (by clear hdep hsame hsz hdf; (try simp only [suV, worldsU]); go_simp) rfl rfl
   | 1, _, hq => cases hq
   | 2, _, hq => cases hq
   | kk + 3, hkk, _ => simp at hkk
  | 28, ho =>
   cases ho
   have h7 := (hdep 27 _ 7 rfl rfl rfl)
   have h54 := (hdep 26 _ 54 rfl rfl rfl)
   simp only [suV] at h7 h54
   match kk, hkk, hmay with
   | 0, _, hq => cases hq
   | 1, _, _ => exact val_skip rfl (wanted_free rfl) rfl (by clear hdep hsame hsz hdf; simp only [worldsU]; go_simp; try exact hst2.out) rfl
   | 2, _, hq => cases hq
   | kk + 3, hkk, _ => simp at hkk
  | kk + 29, ho => simp at ho
 case done =>
  simp [filledN, suV, worldsU]
  have T := box4_new V (.int .i64 G) (.int .i64 (256 * x0 + x1)) (.int .i64 (256 * x2 + x3)) (.int .i64 (256 * x4 + x5)) 35 rfl
  replace R := R.alloc (.cells #[.int .i64 G, .int .i64 (256 * x0 + x1), .int .i64 (256 * x2 + x3), .int .i64 (256 * x4 + x5)] 35)
  replace hB := hB.alloc hB.size (.cells #[.int .i64 G, .int .i64 (256 * x0 + x1), .int .i64 (256 * x2 + x3), .int .i64 (256 * x4 + x5)] 35)
  clear ww0 ww1 ww2 ww3 ww4 ww5 v0 v2 v4 u0 u2 u4 i0 i1 i2 i3 i4 i5 e0 e1 e2 e3 e4 e5 P P' HV
  generalize V.alloc (.cells #[.int .i64 G, .int .i64 (256 * x0 + x1), .int .i64 (256 * x2 + x3), .int .i64 (256 * x4 + x5)] 35) = U at T R hB ⊢
  generalize 256 * x0 + x1 = X at *
  generalize 256 * x2 + x3 = Y at *
  generalize 256 * x4 + x5 = Z at *
  cases hd : rightSu G X Y Z with
  | true =>
   rw [hd] at c3
   have hE'' := hE'.out
   rw [hd, if_pos rfl] at hE''
   obtain rfl := hE''
   obtain rfl : rG = G := zG.out
   obtain rfl : rR = X := zR.out
   obtain rfl : rM = Y := zM.out
   obtain rfl : rZ = Z := zZ.out
   clear hd hE' zG zR zM zZ
   obtain ⟨⟨t0, t1, t2, t3⟩, -⟩ := id T
   go_wp2_with (go_at_call 57; refine (c3 _).mono ?_; rintro e w3 ⟨rfl, hb⟩; replace R := R.below hb; replace T := T.below hb; replace hB := Below.tr hB hb; obtain ⟨⟨t0, t1, t2, t3⟩, -⟩ := id T; obtain ⟨⟨r0, r1, r2, r3⟩, f0, f1, f2, f3⟩ := id R; clear hb)
   obtain ⟨⟨z0, z1, z2, z3⟩, -⟩ := R.puts (.int .i64 rG) (.int .i64 rR) (.int .i64 rM) (.int .i64 rZ)
   exact bodyPost_ret (v := .tuple #[.agg #[.int .i64 rG, .int .i64 rR, .int .i64 rM, .int .i64 rZ], .int .i64 0]) (by simp [results, Tryz.results79, go_sem, z0, z1, z2, z3]) rfl ⟨rfl, below_set4 hB (Nat.le_refl _)⟩
  | false =>
   rw [hd] at c3
   have hE'' := hE'.out
   rw [hd, if_neg (by decide)] at hE''
   obtain rfl := hE''
   obtain rfl : rG = 0 := zG.out
   obtain rfl : rR = 0 := zR.out
   obtain rfl : rM = 0 := zM.out
   obtain rfl : rZ = 0 := zZ.out
   clear hd hE' zG zR zM zZ
   obtain ⟨⟨t0, t1, t2, t3⟩, -⟩ := id T
   go_wp2_with (go_at_call 57; refine (c3 _).mono ?_; rintro e w3 ⟨rfl, hb⟩; replace R := R.below hb; replace T := T.below hb; replace hB := Below.tr hB hb; obtain ⟨⟨t0, t1, t2, t3⟩, -⟩ := id T; obtain ⟨⟨r0, r1, r2, r3⟩, f0, f1, f2, f3⟩ := id R; clear hb)
   obtain ⟨⟨z0, z1, z2, z3⟩, -⟩ := R.puts (.int .i64 0) (.int .i64 0) (.int .i64 0) (.int .i64 0)
   exact bodyPost_ret (v := .tuple #[.agg #[.int .i64 0, .int .i64 0, .int .i64 0, .int .i64 0], .int .i64 4]) (by simp [results, Tryz.results79, go_sem, z0, z1, z2, z3]) rfl ⟨rfl, below_set4 hB (Nat.le_refl _)⟩
set_option maxHeartbeats 1000000 in
theorem refSuGet_any (s : ByteArray) (w : World) (hs : s.size ≤ maxLen) :
  Calls Tryz.prog 79 #[.string s] w fun e w' => e = .returned (.tuple #[.agg #[.int .i64 (suG s), .int .i64 (suR s), .int .i64 (suM s), .int .i64 (suZ s)], .int .i64 (suE s)]) ∧ Below w.heap.size w w' := by
 by_cases hall : readE s = 0 ∧ readK s = 4 ∧ (readB s).size = 6
 ·
  exact refSuGet_six s w hs hall.1 hall.2.1 hall.2.2
 have hE0 : ¬ suE s = 0 := fun h => hall (by obtain ⟨a, b, c, _⟩ := suE_ok h; exact ⟨a, b, c⟩)
 rw [suG, suR, suM, suZ, if_neg hE0, if_neg hE0, if_neg hE0, if_neg hE0]
 have c1 := fun W => refPageGet_any s W hs
 obtain ⟨K, hK⟩ : ∃ x, x = readK s := ⟨_, rfl⟩
 obtain ⟨G, hG⟩ : ∃ x, x = readG s := ⟨_, rfl⟩
 obtain ⟨B, hBB⟩ : ∃ x, x = readB s := ⟨_, rfl⟩
 obtain ⟨E, hE⟩ : ∃ x, x = readE s := ⟨_, rfl⟩
 rw [← hK, ← hG, ← hBB, ← hE] at c1
 by_cases h0 : E = 0
 ·
  by_cases h4 : K = 4
  ·
   have h6 : ¬ B.size = 6 := fun h => hall ⟨hE ▸ h0, hK ▸ h4, hBB ▸ h⟩
   have hE' : suE s = 4 := by rw [suE, ← hE, if_pos h0, ← hK, if_pos h4, ← hBB, if_neg h6]
   have h6' : ((B.size : Int) == 6) = false := by rw [beq_eq_false_iff_ne]; omega
   have hl : B.size ≤ 9223372036854775807 := by
    rw [hBB, readB, if_pos (hE ▸ h0)]
    have hs4 : s.size ≤ 4096 := by
     by_cases hs : s.size ≤ 4096
     ·
      exact hs
     ·
      have : readE s = 0 := hE ▸ h0
      rw [readE, if_neg hs] at this; omega
    unfold fB
    rw [ByteArray.size_extract, fullS_size hs4]
    omega
   rw [hE']
   subst h0 h4
   clear hE' hE0 hall hK hG hBB hE h6
   go_enter Tryz.func79, Tryz.ntmps79
   go_wp2_with (first
   | (go_at_call 80; refine (c1 _).mono ?_; rintro e w1 ⟨rfl, hb⟩; have R := (box4_cells hb).alloc (.cells #[.int .i64 4, .int .i64 G, .string B] 115); have hB := below_box hb; replace hB := hB.alloc hB.size (.cells #[.int .i64 4, .int .i64 G, .string B] 115); have P := box3_new w1 (.int .i64 4) (.int .i64 G) (.string B) 115; obtain ⟨⟨p0, p1, p2⟩, -⟩ := id P; obtain ⟨⟨r0, r1, r2, r3⟩, f0, f1, f2, f3⟩ := id R; clear hb)
    )
   obtain ⟨⟨z0, z1, z2, z3⟩, -⟩ := R.puts (.int .i64 0) (.int .i64 0) (.int .i64 0) (.int .i64 0)
   exact bodyPost_ret (v := .tuple #[.agg #[.int .i64 0, .int .i64 0, .int .i64 0, .int .i64 0], .int .i64 4]) (by simp [results, Tryz.results79, go_sem, z0, z1, z2, z3]) rfl ⟨rfl, below_set4 hB (Nat.le_refl _)⟩
  ·
   have hE' : suE s = 40 := by rw [suE, ← hE, if_pos h0, ← hK, if_neg h4]
   have h4' : (K == 4) = false := by simpa using h4
   rw [hE']
   subst h0
   clear hE' hE0 hall hK hG hBB hE
   go_enter Tryz.func79, Tryz.ntmps79
   go_wp2_with (first
   | (go_at_call 80; refine (c1 _).mono ?_; rintro e w1 ⟨rfl, hb⟩; have R := (box4_cells hb).alloc (.cells #[.int .i64 K, .int .i64 G, .string B] 115); have hB := below_box hb; replace hB := hB.alloc hB.size (.cells #[.int .i64 K, .int .i64 G, .string B] 115); have P := box3_new w1 (.int .i64 K) (.int .i64 G) (.string B) 115; obtain ⟨⟨p0, p1, p2⟩, -⟩ := id P; obtain ⟨⟨r0, r1, r2, r3⟩, f0, f1, f2, f3⟩ := id R; clear hb)
    )
   obtain ⟨⟨z0, z1, z2, z3⟩, -⟩ := R.puts (.int .i64 0) (.int .i64 0) (.int .i64 0) (.int .i64 0)
   exact bodyPost_ret (v := .tuple #[.agg #[.int .i64 0, .int .i64 0, .int .i64 0, .int .i64 0], .int .i64 40]) (by simp [results, Tryz.results79, go_sem, z0, z1, z2, z3]) rfl ⟨rfl, below_set4 hB (Nat.le_refl _)⟩
 ·
  have hE' : suE s = E := by rw [suE, ← hE, if_neg h0]
  have h0' : (E == 0) = false := by simpa using h0
  rw [hE']
  clear hE' hE0 hall hK hG hBB hE
  go_enter Tryz.func79, Tryz.ntmps79
  go_wp2_with (first
   | (go_at_call 80; refine (c1 _).mono ?_; rintro e w1 ⟨rfl, hb⟩; have R := (box4_cells hb).alloc (.cells #[.int .i64 K, .int .i64 G, .string B] 115); have hB := below_box hb; replace hB := hB.alloc hB.size (.cells #[.int .i64 K, .int .i64 G, .string B] 115); have P := box3_new w1 (.int .i64 K) (.int .i64 G) (.string B) 115; obtain ⟨⟨p0, p1, p2⟩, -⟩ := id P; obtain ⟨⟨r0, r1, r2, r3⟩, f0, f1, f2, f3⟩ := id R; clear hb)
   )
  obtain ⟨⟨z0, z1, z2, z3⟩, -⟩ := R.puts (.int .i64 0) (.int .i64 0) (.int .i64 0) (.int .i64 0)
  exact bodyPost_ret (v := .tuple #[.agg #[.int .i64 0, .int .i64 0, .int .i64 0, .int .i64 0], .int .i64 E]) (by simp [results, Tryz.results79, go_sem, z0, z1, z2, z3]) rfl ⟨rfl, below_set4 hB (Nat.le_refl _)⟩
end Go.Proofs.YtaobfgplheoefaaGreat
namespace Go.Proofs.YtaobfgplheoefaaGreat
open Go.RowKit Plain
set_option linter.unusedVariables false
theorem best_any (xs : List ByteArray) : ∃ t i, Best xs t i := by
 induction xs with
 | nil => exact ⟨_, _, best_nil⟩
 | cons x xs ih => obtain ⟨t, i, h⟩ := ih; exact ⟨_, _, h.cons⟩
theorem wrap_less (n : Nat) (h : n ≤ 9223372036854775807) : IntKind.i64.wrap ((n : Int) - 1) = (n : Int) - 1 := by
 cases n with
 | zero => decide
 | succ n => rw [show ((n + 1 : Nat) : Int) - 1 = n by omega]; exact i64_in _ (by omega) (by omega)
def atC (t : ByteArray) (i k : Nat) : Int := if suG t = 0 then -1 else (k : Int) + (i : Int)
set_option maxHeartbeats 2000000 in
theorem refChoose_any (a : Option Addr) (c : Nat) (xs : List ByteArray) (n : Nat) (t : ByteArray) (i : Nat) (w : World) (hn : n = xs.length) (hS : IsS w a c xs) (hbest : Best xs t i) :
  Calls Tryz.prog 38 #[.slice a n c] w fun e w' => e = .returned (.tuple #[.agg #[.int .i64 (suG t), .int .i64 (suR t), .int .i64 (suM t), .int .i64 (suZ t)], .int .i64 i, .int .i64 (chE t)]) ∧ Below w.heap.size w w' := by
 have hnl : n ≤ 9223372036854775807 := by rw [hn]; exact hS.size
 have HN : Hid (n = xs.length) := hn
 have HS : Hid (IsS w a c xs) := hS
 have HB : Hid (Best xs t i) := hbest
 clear hn hS hbest
 have c1 : ∀ x : ByteArray, x.size ≤ maxLen → ∀ W, Calls Tryz.prog 79 #[.string x] W fun e w' => e = .returned (.tuple #[.agg #[.int .i64 (suG x), .int .i64 (suR x), .int .i64 (suM x), .int .i64 (suZ x)], .int .i64 (suE x)]) ∧ Below W.heap.size W w' := fun x hx W => refSuGet_any x W hx
 have hsub : IntKind.i64.wrap ((n : Int) - 1) = (n : Int) - 1 := wrap_less _ (by omega)
 go_enter Tryz.func38, Tryz.ntmps38
 go_wp2
 go_loopw [5, 7] (fun p v wr => ∃ (k : Nat) (z : Int) (t' : ByteArray) (i' : Nat), k ≤ n ∧ v = .int .i64 ((k : Int) - 1) ∧ p = .int .i64 z ∧ z = atC t' i' k ∧ Best (xs.drop k) t' i' ∧ Box4 wr w.heap.size (.int .i64 0) (.int .i64 0) (.int .i64 0) (.int .i64 0) ∧ Box4 wr (w.heap.size + 1) (.int .i64 (suG t')) (.int .i64 (suR t')) (.int .i64 (suM t')) (.int .i64 (suZ t')) ∧ Below w.heap.size w wr) (fun _ v _ => (intOf v + 1).toNat)
 case atStart =>
  obtain ⟨s0, s1, s2, s3⟩ := su_none
  refine ⟨n, -1, ⟨#[]⟩, 0, by omega, rfl, rfl, by rw [atC, if_pos s0], by rw [HN.out, List.drop_length]; exact best_nil, (box4_new _ _ _ _ _ _ rfl).alloc _, ?_, ((Below.refl _ _).alloc (Nat.le_refl _) _).alloc (by simp) _⟩
  rw [s0, s1, s2, s3]
  exact box4_new _ _ _ _ _ _ (by simp)
 case round =>
  obtain ⟨k, z, t', i', hk, rfl, rfl, hz, hbj, R, N, hB⟩ := hrel
  replace hbj : Hid (Best (xs.drop k) t' i') := hbj
  replace hz : Hid (z = atC t' i' k) := hz
  cases k with
  | succ j =>
   have ej : ((j + 1 : Nat) : Int) - 1 = (j : Int) := by omega
   rw [ej]
   obtain ⟨x, hx⟩ : ∃ x, xs[j]? = some x := ⟨_, List.getElem?_eq_getElem (by rw [← HN.out]; omega)⟩
   obtain ⟨bk, o, rfl, hbk, hcell0, hxs⟩ := HS.out.2.2 j x hx
   have hcell := cell_below hB hcell0
   have c2 := c1 x hxs
   have hnx : Hid ((suE x = 0 → suG t' ≤ suG x → Best (xs.drop j) x 0) ∧ (¬ (suE x = 0 ∧ suG t' ≤ suG x) → Best (xs.drop j) t' (if suG t' = 0 then 0 else i' + 1))) := Best.back hx hbj.out
   have hsame : Hid (z = atC t' (if suG t' = 0 then 0 else i' + 1) j) := by
    show _ = _
    rw [hz.out, atC, atC]
    by_cases h : suG t' = 0
    ·
     rw [if_pos h, if_pos h]
    ·
     rw [if_neg h, if_neg h, if_neg h]; omega
   have hj0 : ¬ (j : Int) < 0 := by omega
   have hjn : j < n := by omega
   have hsb : IntKind.i64.wrap ((j : Int) - 1) = (j : Int) - 1 := wrap_less _ (by omega)
   clear hx hcell0 hbk hxs hbj ej hz
   by_cases h0 : suE x = 0
   ·
    have h1 := (suG_pos (s := x)).2.1 h0
    rw [h0] at c2
    by_cases hg : suG t' ≤ suG x
    ·
     have hnew : Hid (Best (xs.drop j) x 0) := hnx.out.1 h0 hg
     have hat : Hid ((j : Int) = atC x 0 j) := by show _ = _; rw [atC, if_neg (by omega)]; omega
     clear hnx h1 hsame
     go_wp2_with (go_at_call 79; refine (c2 _).mono ?_; rintro e w2 ⟨rfl, hb⟩; replace R := (R.below hb).alloc (.cells #[.int .i64 (suG x), .int .i64 (suR x), .int .i64 (suM x), .int .i64 (suZ x)] 35); replace N := (N.below hb).alloc (.cells #[.int .i64 (suG x), .int .i64 (suR x), .int .i64 (suM x), .int .i64 (suZ x)] 35); have T := box4_new w2 (.int .i64 (suG x)) (.int .i64 (suR x)) (.int .i64 (suM x)) (.int .i64 (suZ x)) 35 rfl; replace hB := Below.tr hB hb; replace hB := hB.alloc hB.size (.cells #[.int .i64 (suG x), .int .i64 (suR x), .int .i64 (suM x), .int .i64 (suZ x)] 35); obtain ⟨⟨t0, t1, t2, t3⟩, -⟩ := id T; obtain ⟨⟨n0, n1, n2, n3⟩, f0, f1, f2, f3⟩ := id N; clear hb)
     go_roundw
     case rel => exact ⟨j, j, x, 0, by omega, rfl, rfl, hat.out, hnew.out, R.otherS (by omega) _ _ _ _, N.puts _ _ _ _, below_set4 hB (by omega)⟩
     case measure => simp [intOf]
    ·
     have hnew : Hid (Best (xs.drop j) t' (if suG t' = 0 then 0 else i' + 1)) := hnx.out.2 (fun h => hg h.2)
     clear hnx h1
     go_wp2_with (go_at_call 79; refine (c2 _).mono ?_; rintro e w2 ⟨rfl, hb⟩; replace R := (R.below hb).alloc (.cells #[.int .i64 (suG x), .int .i64 (suR x), .int .i64 (suM x), .int .i64 (suZ x)] 35); replace N := (N.below hb).alloc (.cells #[.int .i64 (suG x), .int .i64 (suR x), .int .i64 (suM x), .int .i64 (suZ x)] 35); have T := box4_new w2 (.int .i64 (suG x)) (.int .i64 (suR x)) (.int .i64 (suM x)) (.int .i64 (suZ x)) 35 rfl; replace hB := Below.tr hB hb; replace hB := hB.alloc hB.size (.cells #[.int .i64 (suG x), .int .i64 (suR x), .int .i64 (suM x), .int .i64 (suZ x)] 35); obtain ⟨⟨t0, t1, t2, t3⟩, -⟩ := id T; obtain ⟨⟨n0, n1, n2, n3⟩, f0, f1, f2, f3⟩ := id N; clear hb)
     go_roundw
     case rel => exact ⟨j, z, t', _, by omega, rfl, rfl, hsame.out, hnew.out, R, N, hB⟩
     case measure => simp [intOf]
   ·
    have hnew : Hid (Best (xs.drop j) t' (if suG t' = 0 then 0 else i' + 1)) := hnx.out.2 (fun h => h0 h.1)
    clear hnx
    have h0' : (suE x == 0) = false := by simpa using h0
    go_wp2_with (go_at_call 79; refine (c2 _).mono ?_; rintro e w2 ⟨rfl, hb⟩; replace R := (R.below hb).alloc (.cells #[.int .i64 (suG x), .int .i64 (suR x), .int .i64 (suM x), .int .i64 (suZ x)] 35); replace N := (N.below hb).alloc (.cells #[.int .i64 (suG x), .int .i64 (suR x), .int .i64 (suM x), .int .i64 (suZ x)] 35); have T := box4_new w2 (.int .i64 (suG x)) (.int .i64 (suR x)) (.int .i64 (suM x)) (.int .i64 (suZ x)) 35 rfl; replace hB := Below.tr hB hb; replace hB := hB.alloc hB.size (.cells #[.int .i64 (suG x), .int .i64 (suR x), .int .i64 (suM x), .int .i64 (suZ x)] 35); obtain ⟨⟨t0, t1, t2, t3⟩, -⟩ := id T; obtain ⟨⟨n0, n1, n2, n3⟩, f0, f1, f2, f3⟩ := id N; clear hb)
    go_roundw
    case rel => exact ⟨j, z, t', _, by omega, rfl, rfl, hsame.out, hnew.out, R, N, hB⟩
    case measure => simp [intOf]
  | zero =>
   have ej : ((0 : Nat) : Int) - 1 = -1 := by omega
   rw [ej]
   clear ej
   obtain ⟨ht, hi⟩ : t' = t ∧ i' = i := by
    have := hbj.out
    rw [List.drop_zero] at this
    exact this.uniq HB.out
   subst ht hi
   obtain ⟨⟨n0, n1, n2, n3⟩, -⟩ := id N
   obtain ⟨⟨r0, r1, r2, r3⟩, f0, f1, f2, f3⟩ := id R
   by_cases h0 : suG t' = 0
   ·
    obtain ⟨ht, hi⟩ := HB.out.2.1 h0
    have zz : Hid (suR t' = 0 ∧ suM t' = 0 ∧ suZ t' = 0 ∧ chE t' = 120 ∧ (i' : Int) = 0) := by
     obtain ⟨s0, s1, s2, s3⟩ := su_none
     rw [chE, if_pos h0, hi]
     exact ⟨by rw [ht]; exact s1, by rw [ht]; exact s2, by rw [ht]; exact s3, rfl, rfl⟩
    obtain rfl : z = -1 := by rw [hz.out, atC, if_pos h0]
    clear ht hi hbj hk hz
    rw [h0] at n0
    go_wp2
    obtain ⟨e1, e2, e3, e4, e5⟩ := zz.out
    rw [h0, e1, e2, e3, e4, e5]
    obtain ⟨⟨z0, z1, z2, z3⟩, -⟩ := R.puts (.int .i64 0) (.int .i64 0) (.int .i64 0) (.int .i64 0)
    exact bodyPost_ret (v := .tuple #[.agg #[.int .i64 0, .int .i64 0, .int .i64 0, .int .i64 0], .int .i64 0, .int .i64 120]) (by simp [results, Tryz.results38, go_sem, z0, z1, z2, z3]) rfl ⟨rfl, below_set4 hB (Nat.le_refl _)⟩
   ·
    have h0' : (suG t' == 0) = false := by simpa using h0
    have zz : Hid (chE t' = 0) := by show _ = _; rw [chE, if_neg h0]
    obtain rfl : z = (i' : Int) := by rw [hz.out, atC, if_neg h0]; omega
    clear hbj hk hz
    go_wp2
    rw [zz.out]
    obtain ⟨⟨z0, z1, z2, z3⟩, -⟩ := R.puts (.int .i64 (suG t')) (.int .i64 (suR t')) (.int .i64 (suM t')) (.int .i64 (suZ t'))
    exact bodyPost_ret (v := .tuple #[.agg #[.int .i64 (suG t'), .int .i64 (suR t'), .int .i64 (suM t'), .int .i64 (suZ t')], .int .i64 i', .int .i64 0]) (by simp [results, Tryz.results38, go_sem, z0, z1, z2, z3]) rfl ⟨rfl, below_set4 hB (Nat.le_refl _)⟩
end Go.Proofs.YtaobfgplheoefaaGreat
namespace Go.Proofs.YtaobfgplheoefaaGreat
open Go.RowKit Plain Go.ChangeShapes Go.WideShapes
set_option linter.unusedVariables false
theorem ownsRow_at {w : World} {base g n cap : Nat} {l : List Bool} (hl : l.length = n) (h : w.ownsRow base 4 1 (.slice (some ⟨g, 0, none⟩) n cap) n (l.map Value.bool)) : RowT w g cap l := by
 subst hl
 rcases ownsRow_T h with ⟨h1, _⟩ | ⟨g1, c1, h1, _, h2⟩
 ·
  cases h1
 ·
  simp at h1
  obtain ⟨rfl, rfl⟩ := h1
  exact h2
end Go.Proofs.YtaobfgplheoefaaGreat
namespace Go.Proofs.YtaobfgplheoefaaGreat
open Go.RowKit Plain
set_option linter.unusedVariables false
theorem rem_bit {s : ByteArray} {i : Nat} (h : i / 8 < s.size) : (((s[i / 8].toNat : Int) / 2 ^ (i % 8)).tmod 2 == 1) = bitAt s i := by
 have e : ((s[i / 8].toNat : Int) / 2 ^ (i % 8)) = ((s[i / 8].toNat / 2 ^ (i % 8) : Nat) : Int) := by
  rw [Int.natCast_ediv]; simp
 rw [e, bitAt_get h, Int.tmod_eq_emod_of_nonneg (Int.natCast_nonneg _), Bool.eq_iff_iff, beq_iff_eq, decide_eq_true_eq]
 omega
set_option maxHeartbeats 1000000 in
theorem same_any (a a' : Option Addr) (c c' : Nat) (l m : List Bool) (w : World) (hB : IsB w a c l) (hB' : IsB w a' c' m) :
  Calls Tryz.prog 136 #[.slice a l.length c, .slice a' m.length c'] w fun e w' => e = .returned (.bool (decide (l = m))) ∧ Below w.heap.size w w' := by
 obtain ⟨n, hn⟩ : ∃ n, n = l.length := ⟨_, rfl⟩
 obtain ⟨n', hn'⟩ : ∃ n, n = m.length := ⟨_, rfl⟩
 have HB : Hid (IsB w a c l) := hB
 have HB' : Hid (IsB w a' c' m) := hB'
 have HE : Hid (n = l.length) := hn
 have HE' : Hid (n' = m.length) := hn'
 have hnb : n ≤ 9223372036854775807 := by have := hB.1; have := hB.2.1; unfold maxLen at *; omega
 rw [← hn, ← hn']
 clear hB hB' hn hn'
 by_cases h : n = n'
 ·
  have h' : (n : Int) = n' := by omega
  subst h
  go_enter Tryz.func136, Tryz.ntmps136
  go_wp2
  go_loopw [13] (fun v wr => ∃ j : Nat, j ≤ n ∧ v = .int .i64 j ∧ (∀ i, i < j → l[i]? = m[i]?) ∧ Below w.heap.size w wr) (fun v _ => n - (intOf v).toNat)
  case atStart => exact ⟨0, by omega, rfl, fun i hi => by omega, Below.refl _ _⟩
  case round =>
   obtain ⟨j, hj, rfl, hs, hbel⟩ := hrel
   have HS : Hid (∀ i, i < j → l[i]? = m[i]?) := hs
   clear hs
   by_cases hlt : j < n
   ·
    have hlt' : (j : Int) < n := by omega
    obtain ⟨q, hq⟩ : ∃ q, Hid (l[j]? = some q) := ⟨_, List.getElem?_eq_getElem (by rw [← HE.out]; exact hlt)⟩
    obtain ⟨r, hr⟩ : ∃ q, Hid (m[j]? = some q) := ⟨_, List.getElem?_eq_getElem (by rw [← HE'.out]; exact hlt)⟩
    obtain ⟨b, o, rfl, hbl, hc0⟩ := HB.out.2.2 j q hq.out
    obtain ⟨b', o', rfl, hbl', hc0'⟩ := HB'.out.2.2 j r hr.out
    have hc := cell_below hbel hc0
    have hc' := cell_below hbel hc0'
    by_cases e : q = r
    ·
     have e1 : (!q == r) = false := by rw [e]; simp
     go_wp2
     go_region
     go_wp2
     go_roundw
     case rel =>
      refine ⟨j + 1, by omega, by go_num, fun i hi => ?_, hbel.drew⟩
      by_cases ei : i = j
      ·
       rw [ei, hq.out, hr.out, e]
      ·
       exact HS.out i (by omega)
     case measure => simp [intOf]; omega
    ·
     have e1 : (!q == r) = true := by simp [e]
     have hne : Hid (decide (l = m) = false) := by
      show _ = _
      rw [decide_eq_false_iff_not]
      rintro rfl
      have := hq.out
      rw [hr.out] at this
      exact e (Option.some.inj this).symm
     go_wp2
     go_region
     go_wp2
     go_ret
     exact ⟨ret_bool hne.out.symm, hbel.drew⟩
   ·
    obtain rfl : j = n := by omega
    have heq : Hid (decide (l = m) = true) := by
     show _ = _
     rw [decide_eq_true_eq]
     apply List.ext_getElem?
     intro i
     by_cases hi : i < j
     ·
      exact HS.out i hi
     ·
      rw [List.getElem?_eq_none (by rw [← HE.out]; omega), List.getElem?_eq_none (by rw [← HE'.out]; omega)]
    go_wp2
    go_ret
    exact ⟨ret_bool heq.out.symm, hbel⟩
 ·
  have h' : ((n : Int) != n') = true := by simp; omega
  have hne : Hid (decide (l = m) = false) := by
   show _ = _
   rw [decide_eq_false_iff_not]
   rintro rfl
   exact h (HE.out.trans HE'.out.symm)
  go_enter Tryz.func136, Tryz.ntmps136
  go_wp2
  go_ret
  exact ⟨ret_bool hne.out.symm, Below.refl _ _⟩
theorem short_size {s : ByteArray} {m : Nat} : 8 * s.size < m ↔ s.size < sizeB m := by unfold sizeB; omega
set_option maxRecDepth 20000 in
set_option maxHeartbeats 2000000 in
theorem refUnpack_any (s : ByteArray) (n : Int) (w : World) (hs : s.size ≤ 140737488355328) :
  Calls Tryz.prog 81 #[.string s, .int .i64 n] w fun e w' => ∃ a c, e = .returned (.tuple #[.slice a (unL s n).length c, .int .i64 (unE s n)]) ∧ IsB w' a c (unL s n) ∧ Below w.heap.size w w' := by
 by_cases h0 : n < 0
 ·
  have hE : Hid (unE s n = 1) := unE_arg (by omega)
  have hL : Hid (unL s n = []) := unL_bad (by rw [hE.out]; decide)
  go_enter Tryz.func81, Tryz.ntmps81
  go_wp2
  go_ret2
  exact ⟨none, 0, by rw [hE.out, hL.out]; rfl, by rw [hL.out]; exact IsB_nil _, Below.refl _ _⟩
 by_cases h1 : 2048 < n
 ·
  have hE : Hid (unE s n = 1) := unE_arg (by omega)
  have hL : Hid (unL s n = []) := unL_bad (by rw [hE.out]; decide)
  go_enter Tryz.func81, Tryz.ntmps81
  go_wp2
  go_ret2
  exact ⟨none, 0, by rw [hE.out, hL.out]; rfl, by rw [hL.out]; exact IsB_nil _, Below.refl _ _⟩
 obtain ⟨m, rfl⟩ : ∃ m : Nat, n = m := ⟨n.toNat, by omega⟩
 have hm : m ≤ 2048 := by omega
 by_cases h2 : 8 * s.size < m
 ·
  have hE : Hid (unE s m = 3) := unE_short hm (short_size.1 h2)
  have hL : Hid (unL s m = []) := unL_bad (by rw [hE.out]; decide)
  have h2' : 8 * (s.size : Int) < m := by omega
  go_enter Tryz.func81, Tryz.ntmps81
  go_wp2
  go_ret2
  exact ⟨none, 0, by rw [hE.out, hL.out]; rfl, by rw [hL.out]; exact IsB_nil _, Below.refl _ _⟩
 have h2' : ¬ 8 * (s.size : Int) < m := by omega
 have h3 : Hid (¬ s.size < sizeB m) := fun h => h2 (short_size.2 h)
 obtain ⟨i0, hi, hz0, hz1, hz2⟩ := info_parts Tryz.info4
 go_enter Tryz.func81, Tryz.ntmps81
 go_wp2
 go_loopw [6, 7] (fun b v wr => ∃ i : Nat, i ≤ m ∧ v = .int .i64 i ∧ wr.ownsRow w.heap.size 4 1 b i ((unpackL s i).map Value.bool) ∧ (∃ g cap, b = .slice (some ⟨g, 0, none⟩) i cap) ∧ Below w.heap.size w wr) (fun _ v _ => m - (intOf v).toNat)
 case atStart =>
  refine ⟨0, by omega, by go_num, ?_, ⟨_, _, rfl⟩, (Below.refl _ _).alloc (Nat.le_refl _) _⟩
  exact World.ownsRow_made _ _ 0 (Nat.le_refl _) (by decide) rfl
 case round =>
  obtain ⟨i, hil, rfl, hown, ⟨g, cap, rfl⟩, hbel⟩ := hrel
  have HO : Hid (World.ownsRow wr w.heap.size 4 1 (.slice (some ⟨g, 0, none⟩) i cap) i ((unpackL s i).map Value.bool)) := hown
  clear hown
  by_cases hlt : i < m
  ·
   have hlt' : (i : Int) < m := by omega
   have hbs := hbel.size
   have hi8 : i / 8 < s.size := by omega
   have hi8' : (i : Int) / 8 < s.size := by omega
   have hbit := rem_bit hi8
   obtain ⟨q, hq⟩ : ∃ q, bitAt s i = q := ⟨_, rfl⟩
   have hyy : Hid ((unpackL s (i + 1)).map Value.bool = (unpackL s i).map Value.bool ++ [.bool q]) := by
    show _ = _
    rw [unpackL_succ, List.map_append, hq]; rfl
   rw [hq] at hbit
   have hown := HO.out
   clear hq
   go_wp2_with (at_builtin; refine wpList_append_own _ rfl _ _ 36 rfl w.heap.size 4 i0 (.bool false) 1 1 Tryz.underlying36 hi hz0 hz1 hz2 rfl (by decide) _ _ _ rfl (hown.alloc _) ⟨wr.heap.size, 0, none⟩ 1 1 [.bool q] rfl rfl ?c1 ?c2 ?c3 ?c4 ?c5 ?_)
   case c1 =>
    intro j u hj
    match j, hj with
    | 0, hj => simp at hj; subst hj; simp [Addr.add]
   case c2 => intro u hu; simp at hu; subst hu; rfl
   case c3 => unfold maxLen; omega
   case c4 => omega
   case c5 => simp; omega
   ·
    intro v' w1 hown' hgrow _
    have R2 : Below w.heap.size w w1 := (hbel.alloc (by omega) _).grown hgrow (by simp; omega) (fun k hk => (hown.lt k hk).1)
    have R : Hid (w1.ownsRow w.heap.size 4 1 v' (i + 1) ((unpackL s (i + 1)).map Value.bool)) := by show World.ownsRow _ _ _ _ _ _ _; rw [hyy.out]; exact hown'
    clear hown' hgrow hown
    obtain ⟨g', cap', rfl, -, -⟩ := R.out.form (by omega)
    go_wp2
    go_roundw
    case rel => exact ⟨i + 1, by omega, by go_num, R.out, ⟨_, _, rfl⟩, R2⟩
    case measure => simp [intOf]; omega
  ·
   obtain rfl : i = m := by omega
   have hlt' : ¬ (i : Int) < i := by omega
   have hT : Hid (RowT wr g cap (unpackL s i)) := ownsRow_at (unpackL_length s i) HO.out
   obtain ⟨X, hX⟩ : ∃ X, Hid (X = packS (unpackL s i)) := ⟨_, rfl⟩
   have cp : Calls Tryz.prog 69 #[.slice (some ⟨g, 0, none⟩) i cap] wr fun e w' => e = .returned (.string X) ∧ Below wr.heap.size wr w' := by
    have := refPack_any _ _ _ wr hT.out.isB (by rw [unpackL_length]; omega)
    rw [unpackL_length] at this
    rw [hX.out]
    exact this
   by_cases hf : X = s
   ·
    have hE : Hid (unE s i = 0) := unE_ok hm (by rw [← hX.out]; exact hf)
    have hL : Hid (unL s i = unpackL s i) := unL_ok hE.out
    have hf' := str_ne_false hf
    clear hf
    go_wp2_with (go_at_call 69; refine cp.mono ?_; rintro e w' ⟨rfl, hb⟩)
    go_ret2
    refine ⟨some ⟨g, 0, none⟩, cap, by rw [hE.out, hL.out, unpackL_length]; rfl, ?_, Below.tr hbel hb⟩
    rw [hL.out]
    exact hT.out.isB.below hb
   ·
    have hE : Hid (unE s i = 4) := unE_form hm h3.out (by rw [← hX.out]; exact hf)
    have hL : Hid (unL s i = []) := unL_bad (by rw [hE.out]; decide)
    have hf' := str_ne_true hf
    clear hf
    go_wp2_with (go_at_call 69; refine cp.mono ?_; rintro e w' ⟨rfl, hb⟩)
    go_ret2
    exact ⟨none, 0, by rw [hE.out, hL.out]; rfl, by rw [hL.out]; exact IsB_nil _, Below.tr hbel hb⟩
end Go.Proofs.YtaobfgplheoefaaGreat
namespace Go.Proofs.YtaobfgplheoefaaGreat.Plain
open Go.RowKit
set_option linter.unusedVariables false
theorem more_refl (t : TreeS) (m : Nat) : t.more t m := ⟨Nat.le_add_right _ _, Nat.le_add_right _ _⟩
theorem more_spoil (t : TreeS) (m : Nat) : t.more t.spoil m := ⟨Nat.le_add_right _ _, Nat.le_add_right _ _⟩
theorem TreeS.more.trans {t t' t'' : TreeS} {m m' : Nat} (h : t.more t' m) (h' : t'.more t'' m') : t.more t'' (m + m') := by
 obtain ⟨a, b⟩ := h
 obtain ⟨c, d⟩ := h'
 exact ⟨by omega, by omega⟩
theorem TreeS.more.mono {t t' : TreeS} {m m' : Nat} (h : t.more t' m) (hm : m ≤ m') : t.more t' m' := by
 obtain ⟨a, b⟩ := h
 exact ⟨by omega, by omega⟩
theorem more_node (t : TreeS) (block : Int) (low high : ByteArray) (n : NodeS) (h : n.2.1.length ≤ 9) : t.more (t.node block low high n) 1 := by
 refine ⟨by simp [TreeS.node], ?_⟩
 unfold TreeS.node
 cases n.1 with
 | true => simp only [if_true, List.length_append, List.length_zip]; omega
 | false => simp
theorem more_fold {F : TreeS → Int × ByteArray × ByteArray → TreeS} {m : Nat} (hF : ∀ (t : TreeS) x, t.more (F t x) m) : ∀ (l : List (Int × ByteArray × ByteArray)) (t : TreeS), t.more (l.foldl F t) (l.length * m)
 | [], t => more_refl t _
 | x :: l, t => by
  have := (hF t x).trans (more_fold hF l (F t x))
  refine this.mono ?_
  rw [List.length_cons, Nat.succ_mul]; omega
theorem more_below (H : Int → Bool → Option NodeS) (hH : ∀ b r n, H b r = some n → n.2.1.length ≤ 9 ∧ n.2.2.2.length ≤ 10) : ∀ (k : Nat) (t : TreeS) (block : Int) (low high : ByteArray), t.more (belowS H k t block low high) (2 * 10 ^ k - 1)
 | 0, t, block, low, high => more_spoil t _
 | k + 1, t, block, low, high => by
  unfold belowS
  split
  ·
   exact more_spoil t _
  ·
   split
   ·
    exact more_spoil t _
   ·
    rename_i n hn
    obtain ⟨h9, h10⟩ := hH _ _ _ hn
    have h1 := more_node t block low high n h9
    have hp : 0 < 10 ^ k := Nat.pow_pos (by decide)
    split
    ·
     exact more_spoil t _
    ·
     split
     ·
      exact TreeS.more.mono (m := 1) ⟨h1.1, h1.2⟩ (by rw [Nat.pow_succ]; omega)
     ·
      refine (h1.trans (more_fold (m := 2 * 10 ^ k - 1) (fun t x => ?_) _ _)).mono ?_
      ·
       split
       ·
        exact more_refl t _
       ·
        exact more_below H hH k t _ _ _
      ·
       rw [kidsT_length, Nat.pow_succ]
       have : n.2.2.2.length * (2 * 10 ^ k - 1) ≤ 10 * (2 * 10 ^ k - 1) := Nat.mul_le_mul_right _ h10
       omega
theorem kids_room {H : Int → Bool → Option NodeS} (hH : ∀ b r n, H b r = some n → n.2.1.length ≤ 9 ∧ n.2.2.2.length ≤ 10) {k j : Nat} {t : TreeS} {block : Int} {low high : ByteArray} {n : NodeS} (hn : n.2.1.length ≤ 9) (hj : j ≤ 9) (l : List (Int × ByteArray × ByteArray)) (hl : l.length = j) :
  (l.foldl (fun t x => if t.bad then t else belowS H k t x.1 x.2.1 x.2.2) (t.node block low high n)).blocks.length + 2 * 10 ^ k ≤ t.blocks.length + 2 * 10 ^ (k + 1) ∧
   (l.foldl (fun t x => if t.bad then t else belowS H k t x.1 x.2.1 x.2.2) (t.node block low high n)).pairs.length + 18 * 10 ^ k ≤ t.pairs.length + 18 * 10 ^ (k + 1) := by
 have hp : 0 < 10 ^ k := Nat.pow_pos (by decide)
 obtain ⟨h1, h2⟩ := (more_node t block low high n hn).trans (more_fold (m := 2 * 10 ^ k - 1) (F := fun t x => if t.bad then t else belowS H k t x.1 x.2.1 x.2.2) (fun t x => by
  show t.more (if t.bad then t else belowS H k t x.1 x.2.1 x.2.2) _
  split
  ·
   exact more_refl t _
  ·
   exact more_below H hH k t _ _ _) l (t.node block low high n))
 rw [hl] at h1 h2
 have h3 : j * (2 * 10 ^ k - 1) ≤ 9 * (2 * 10 ^ k - 1) := Nat.mul_le_mul_right _ hj
 rw [Nat.pow_succ]
 omega
theorem root_at (k : Nat) : decide (9 - ((k + 1 : Nat) : Int) = 1) = decide (k = 7) := decide_eq_decide.2 (by omega)
theorem belowS_spoil {H : Int → Bool → Option NodeS} {k : Nat} {t : TreeS} {block : Int} {low high : ByteArray}
  (h : (t.bad || t.blocks.contains block) = true ∨ H block (decide (9 - (k : Int) = 1)) = Option.none ∨ k = 0 ∨ ∃ n, H block (decide (9 - (k : Int) = 1)) = some n ∧ n.1 = true ∧ n.2.1 = []) : belowS H k t block low high = t.spoil := by
 cases k with
 | zero => rfl
 | succ k =>
  rw [root_at] at h
  unfold belowS
  split
  ·
   rfl
  ·
   rename_i hb
   rcases h with h | h | h | ⟨n, h, h1, h2⟩
   ·
    exact absurd (by rw [Bool.or_comm]; exact h) hb
   ·
    rw [h]
   ·
    omega
   ·
    rw [h]
    simp [h1, h2]
theorem belowS_leaf {H : Int → Bool → Option NodeS} {k : Nat} {t : TreeS} {block : Int} {low high : ByteArray} {n : NodeS} (hk : k ≠ 0)
  (hb : (t.bad || t.blocks.contains block) = false) (h : H block (decide (9 - (k : Int) = 1)) = some n) (h1 : n.1 = true) (h2 : n.2.1 ≠ []) : belowS H k t block low high = (t.node block low high n).leaf (9 - (k : Int)) := by
 cases k with
 | zero => exact absurd rfl hk
 | succ k =>
  rw [root_at] at h
  unfold belowS
  rw [if_neg (by rw [Bool.or_comm, hb]; decide), h]
  have h3 : n.2.1.isEmpty = false := by cases hh : n.2.1 with | nil => exact absurd hh h2 | cons _ _ => rfl
  simp only [h1, h3, Bool.and_false, Bool.false_eq_true, if_false, if_true]
  congr 1
  omega
theorem belowS_inner {H : Int → Bool → Option NodeS} {k : Nat} {t : TreeS} {block : Int} {low high : ByteArray} {n : NodeS}
  (hb : (t.bad || t.blocks.contains block) = false) (h : H block (decide (9 - ((k + 1 : Nat) : Int) = 1)) = some n) (h1 : n.1 = false) : belowS H (k + 1) t block low high = (kidsT low high n.2.1 n.2.2.2).foldl (fun t x => if t.bad then t else belowS H k t x.1 x.2.1 x.2.2) (t.node block low high n) := by
 rw [root_at] at h
 rw [belowS, if_neg (by rw [Bool.or_comm, hb]; decide), h]
 simp only [h1, Bool.false_and, Bool.false_eq_true, if_false]
theorem blocksL_step {l : List Int} {j : Nat} : blocksL (j + 1) l = if l.contains (j : Int) = true then blocksL j l ++ [(j : Int)] else blocksL j l := by
 unfold blocksL
 rw [List.range_succ, List.filter_append]
 by_cases h : l.contains (j : Int) = true
 ·
  rw [if_pos h]
  have h' : (j : Int) ∈ l := List.contains_iff_mem.1 h
  simp [h']
 ·
  rw [if_neg h]
  have h' : ¬ (j : Int) ∈ l := fun e => h (List.contains_iff_mem.2 e)
  simp [h']
def blocksE (right : Bool) (t : TreeS) : Int := if right = true then (if t.bad = true then 81 else 0) else 1
def blocksR (right : Bool) (ns : List Bool) (t : TreeS) : List Int := if blocksE right t = 0 then blocksL ns.length t.blocks else []
end Go.Proofs.YtaobfgplheoefaaGreat.Plain
namespace Go.Proofs.YtaobfgplheoefaaGreat
open Go.RowKit Plain
set_option linter.unusedVariables false
theorem cellsQ_append (ps qs : List (ByteArray × ByteArray)) : cellsQ (ps ++ qs) = cellsQ ps ++ cellsQ qs := by simp [cellsQ]
theorem Tryz.info210 : (Tryz.prog.info? 210).map (fun i => (i.zero, i.size, i.bytes)) = some (some (.agg #[.string ⟨#[]⟩, .string ⟨#[]⟩]), 2, 32) := by kernel_rfl
theorem push_Q (W : World) (base : Nat) (v : Value) (n : Nat) (l : List (ByteArray × ByteArray)) (x : ByteArray × ByteArray) (hown : W.ownsRow base 210 2 v n (cellsQ l)) (hb : base ≤ W.heap.size) (hn : n ≤ 1000000000000) :
  ∃ g cap w', (Builtin.append_ #[148, 148] 148 #[v, .slice (some ⟨W.heap.size, 0, none⟩) 1 1]).run Tryz.prog (W.alloc (.cells #[.string x.1, .string x.2] 210)) = .ok (.slice (some ⟨g, 0, none⟩) (n + 1) cap) w' ∧
   w'.ownsRow base 210 2 (.slice (some ⟨g, 0, none⟩) (n + 1) cap) (n + 1) (cellsQ (l ++ [x])) ∧ (W.alloc (.cells #[.string x.1, .string x.2] 210)).grownBy w' v.ownBlock ∧ (v.ownBlock = some g ∨ g = W.heap.size + 1) ∧ base ≤ g ∧ g < w'.heap.size := by
 obtain ⟨i0, hi, hz0, hz1, hz2⟩ := info_parts Tryz.info210
 obtain ⟨g, cap, w', h1, h2, h3, h4, h5⟩ := run_append_lies (P := Tryz.prog) (W.alloc (.cells #[.string x.1, .string x.2] 210)) 148 148 base 210 i0 _ 2 32 Tryz.underlying148 hi hz0 hz1 hz2 rfl (by decide) v n (cellsQ l) (hown.alloc _) ⟨W.heap.size, 0, none⟩ 1 1 [.string x.1, .string x.2] rfl
  (by
   intro j u hj
   match j, hj with
   | 0, hj => simp at hj; subst hj; rw [at_add]; exact World.cell?_alloc_at _ _ _ _ rfl
   | 1, hj => simp at hj; subst hj; rw [at_add]; exact World.cell?_alloc_at _ _ _ _ rfl)
  (by intro u hu; simp at hu; rcases hu with rfl | rfl <;> rfl) (by omega) (by unfold maxLen; omega) (by omega) (by simp; omega) (W.heap.size + 1) (by simp)
 refine ⟨g, cap, w', h1, by rw [cellsQ_append]; exact h2, h3, h4, (h2.lt g rfl).1, h5⟩
theorem push_Zl (W : World) (base : Nat) (v : Value) (n : Nat) (l : List Int) (x : Int) (hown : W.ownsRow base 3 1 v n (l.map (Value.int .i64))) (hb : base ≤ W.heap.size) (hn : n ≤ 1000000000000) :
  ∃ g cap w', (Builtin.append_ #[99, 99] 99 #[v, .slice (some ⟨W.heap.size, 0, none⟩) 1 1]).run Tryz.prog (W.alloc (.cells #[.int .i64 x] 3)) = .ok (.slice (some ⟨g, 0, none⟩) (n + 1) cap) w' ∧
   w'.ownsRow base 3 1 (.slice (some ⟨g, 0, none⟩) (n + 1) cap) (n + 1) ((l ++ [x]).map (Value.int .i64)) ∧ (W.alloc (.cells #[.int .i64 x] 3)).grownBy w' v.ownBlock ∧ (v.ownBlock = some g ∨ g = W.heap.size + 1) ∧ base ≤ g ∧ g < w'.heap.size := by
 obtain ⟨i0, hi, hz0, hz1, hz2⟩ := info_parts Tryz.info3
 obtain ⟨g, cap, w', h1, h2, h3, h4, h5⟩ := run_append_lies (P := Tryz.prog) (W.alloc (.cells #[.int .i64 x] 3)) 99 99 base 3 i0 _ 1 8 Tryz.underlying99 hi hz0 hz1 hz2 rfl (by decide) v n (l.map (Value.int .i64)) (hown.alloc _) ⟨W.heap.size, 0, none⟩ 1 1 [.int .i64 x] rfl
  (by
   intro j u hj
   match j, hj with
   | 0, hj => simp at hj; subst hj; rw [at_add]; exact World.cell?_alloc_at _ _ _ _ rfl)
  (by intro u hu; simp at hu; subst hu; rfl) (by omega) (by unfold maxLen; omega) (by omega) (by simp; omega) (W.heap.size + 1) (by simp)
 refine ⟨g, cap, w', h1, by rw [List.map_append]; exact h2, h3, h4, (h2.lt g rfl).1, h5⟩
theorem Grows.of_below (h : Nat) (u1 u2 : Value) {V V' : World} (hb : Below V.heap.size V V') : Grows h u1 u2 V u1 u2 V' := ⟨Turns.of_below hb, fun _ => .inl, fun _ => .inl⟩
theorem Grows.trans {h : Nat} {u1 u2 u1' u2' u1'' u2'' : Value} {V V' V'' : World} (a : Grows h u1 u2 V u1' u2' V') (b : Grows h u1' u2' V' u1'' u2'' V'') : Grows h u1 u2 V u1'' u2'' V'' := by
 have hs := a.t.size
 refine ⟨⟨b.t.os.trans a.t.os, b.t.tape.trans a.t.tape, b.t.output.trans a.t.output, Nat.le_trans a.t.size b.t.size, fun k hk hp => ?_⟩, fun g hg => ?_, fun g hg => ?_⟩
 ·
  refine (b.t.block k (Nat.lt_of_lt_of_le hk a.t.size) ?_).trans (a.t.block k hk hp)
  rintro (e | e | e)
  ·
   exact hp (.inl e)
  ·
   rcases a.g1 k e with e | e
   ·
    exact hp (.inr (.inl e))
   ·
    omega
  ·
   rcases a.g2 k e with e | e
   ·
    exact hp (.inr (.inr e))
   ·
    omega
 ·
  rcases b.g1 g hg with e | e
  ·
   exact a.g1 g e
  ·
   exact .inr (by omega)
 ·
  rcases b.g2 g hg with e | e
  ·
   exact a.g2 g e
  ·
   exact .inr (by omega)
theorem TreeAt.off1 {w : World} {h B : Nat} {u1 u2 : Value} {t : TreeS} (n : TreeAt w h B u1 u2 t) : Off h u1 := fun g hg e => by have := (n.r1.lt g hg).1; have := n.hb; omega
theorem TreeAt.off2 {w : World} {h B : Nat} {u1 u2 : Value} {t : TreeS} (n : TreeAt w h B u1 u2 t) : Off h u2 := fun g hg e => by have := (n.r2.lt g hg).1; have := n.hb; omega
theorem TreeAt.below {w w' : World} {h B : Nat} {u1 u2 : Value} {t : TreeS} (n : TreeAt w h B u1 u2 t) (hb : Below w.heap.size w w') : TreeAt w' h B u1 u2 t := by
 have T : Turns (fun _ => False) w w' := Turns.of_below hb
 exact ⟨n.box.below hb, T.owns n.r1 (fun _ _ x => x), T.owns n.r2 (fun _ _ x => x), n.a12, n.hb, Nat.le_trans n.le hb.size⟩
theorem TreeAt.setBad {w : World} {h B : Nat} {u1 u2 : Value} {t : TreeS} (n : TreeAt w h B u1 u2 t) (b : Bool) : TreeAt (w.setCell ⟨h, 3, none⟩ (.bool b)) h B u1 u2 ⟨t.pairs, t.blocks, t.height, b⟩ ∧ Grows h u1 u2 w u1 u2 (w.setCell ⟨h, 3, none⟩ (.bool b)) := by
 refine ⟨⟨?_, owns_off n.r1 n.off1 3 _, owns_off n.r2 n.off2 3 _, n.a12, n.hb, by simpa using n.le⟩, ⟨Turns.setCell (Turns.refl _ _) (p := ⟨h, 3, none⟩) (.inl rfl) _, fun _ => .inl, fun _ => .inl⟩⟩
 obtain ⟨⟨c0, c1, c2, c3⟩, f0, f1, f2, f3⟩ := n.box
 refine ⟨⟨?_, ?_, ?_, World.cell?_setCell_same _ _ _ c3⟩, ?_, ?_, ?_, ?_⟩
 ·
  rw [World.cell?_setCell_other _ _ _ _ (fun hh => by cases hh)]; exact c0
 ·
  rw [World.cell?_setCell_other _ _ _ _ (fun hh => by cases hh)]; exact c1
 ·
  rw [World.cell?_setCell_other _ _ _ _ (fun hh => by cases hh)]; exact c2
 ·
  rw [World.frozen?_setCell]; exact f0
 ·
  rw [World.frozen?_setCell]; exact f1
 ·
  rw [World.frozen?_setCell]; exact f2
 ·
  rw [World.frozen?_setCell]; exact f3
theorem TreeAt.setDeep {w : World} {h B : Nat} {u1 u2 : Value} {t : TreeS} (n : TreeAt w h B u1 u2 t) (d : Int) : TreeAt (w.setCell ⟨h, 2, none⟩ (.int .i64 d)) h B u1 u2 ⟨t.pairs, t.blocks, d, t.bad⟩ ∧ Grows h u1 u2 w u1 u2 (w.setCell ⟨h, 2, none⟩ (.int .i64 d)) := by
 refine ⟨⟨?_, owns_off n.r1 n.off1 2 _, owns_off n.r2 n.off2 2 _, n.a12, n.hb, by simpa using n.le⟩, ⟨Turns.setCell (Turns.refl _ _) (p := ⟨h, 2, none⟩) (.inl rfl) _, fun _ => .inl, fun _ => .inl⟩⟩
 obtain ⟨⟨c0, c1, c2, c3⟩, f0, f1, f2, f3⟩ := n.box
 refine ⟨⟨?_, ?_, World.cell?_setCell_same _ _ _ c2, ?_⟩, ?_, ?_, ?_, ?_⟩
 ·
  rw [World.cell?_setCell_other _ _ _ _ (fun hh => by cases hh)]; exact c0
 ·
  rw [World.cell?_setCell_other _ _ _ _ (fun hh => by cases hh)]; exact c1
 ·
  rw [World.cell?_setCell_other _ _ _ _ (fun hh => by cases hh)]; exact c3
 ·
  rw [World.frozen?_setCell]; exact f0
 ·
  rw [World.frozen?_setCell]; exact f1
 ·
  rw [World.frozen?_setCell]; exact f2
 ·
  rw [World.frozen?_setCell]; exact f3
theorem TreeAt.pushB {w : World} {h B : Nat} {u1 u2 : Value} {t : TreeS} (n : TreeAt w h B u1 u2 t) (x : Int) (hl : t.blocks.length ≤ 1000000000000) :
  ∃ g cap w', (Builtin.append_ #[99, 99] 99 #[u2, .slice (some ⟨w.heap.size, 0, none⟩) 1 1]).run Tryz.prog (w.alloc (.cells #[.int .i64 x] 3)) = .ok (.slice (some ⟨g, 0, none⟩) (t.blocks.length + 1) cap) w' ∧ Box4 w' h u1 u2 (.int .i64 t.height) (.bool t.bad) ∧
   TreeAt (w'.setCell ⟨h, 1, none⟩ (.slice (some ⟨g, 0, none⟩) (t.blocks.length + 1) cap)) h B u1 (.slice (some ⟨g, 0, none⟩) (t.blocks.length + 1) cap) ⟨t.pairs, t.blocks ++ [x], t.height, t.bad⟩ ∧
   Grows h u1 u2 w u1 (.slice (some ⟨g, 0, none⟩) (t.blocks.length + 1) cap) (w'.setCell ⟨h, 1, none⟩ (.slice (some ⟨g, 0, none⟩) (t.blocks.length + 1) cap)) := by
 obtain ⟨g, cap, w', hrun, hown, hgr, hat, hge, hlt⟩ := push_Zl w B u2 t.blocks.length t.blocks x n.r2 n.le hl
 have t0 : Turns (fun k => u2.ownBlock = some k) w w' := ((Turns.refl _ _).alloc _).grown hgr (fun k hk => hk)
 have hbox : Box4 w' h u1 u2 (.int .i64 t.height) (.bool t.bad) := n.box.turns t0 fun hk => n.off2 h hk rfl
 have hh : h < w.heap.size + 1 := by have := n.box.lt; omega
 have ho := off_grown (n := t.blocks.length + 1) (cap := cap) n.off2 hat hh
 refine ⟨g, cap, w', hrun, hbox, ⟨?_, ?_, ?_, ?_, n.hb, ?_⟩, ⟨(t0.mono fun k hk => .inr (.inr hk)).setCell (p := ⟨h, 1, none⟩) (.inl rfl) _, fun _ => .inl, fun k hk => ?_⟩⟩
 ·
  obtain ⟨⟨c0, c1, c2, c3⟩, f0, f1, f2, f3⟩ := hbox
  refine ⟨⟨?_, World.cell?_setCell_same _ _ _ c1, ?_, ?_⟩, ?_, ?_, ?_, ?_⟩
  ·
   rw [World.cell?_setCell_other _ _ _ _ (fun hh => by cases hh)]; exact c0
  ·
   rw [World.cell?_setCell_other _ _ _ _ (fun hh => by cases hh)]; exact c2
  ·
   rw [World.cell?_setCell_other _ _ _ _ (fun hh => by cases hh)]; exact c3
  ·
   rw [World.frozen?_setCell]; exact f0
  ·
   rw [World.frozen?_setCell]; exact f1
  ·
   rw [World.frozen?_setCell]; exact f2
  ·
   rw [World.frozen?_setCell]; exact f3
 ·
  exact owns_off (t0.owns n.r1 fun k h1 h2 => n.a12 k h1 h2) n.off1 1 _
 ·
  rw [List.length_append]
  exact owns_off hown ho 1 _
 ·
  exact (apart_grown n.a12.symm hat fun k hk => by have := (n.r1.lt k hk).2; omega).symm
 ·
  have := t0.size
  have := n.le
  simp; omega
 ·
  simp [Value.ownBlock] at hk
  subst hk
  rcases hat with e | e
  ·
   exact .inl e
  ·
   exact .inr (by omega)
theorem TreeAt.pushP {w : World} {h B : Nat} {u1 u2 : Value} {t : TreeS} (n : TreeAt w h B u1 u2 t) (x y : ByteArray) (hl : t.pairs.length ≤ 1000000000000) :
  ∃ g cap w', (Builtin.append_ #[148, 148] 148 #[u1, .slice (some ⟨w.heap.size, 0, none⟩) 1 1]).run Tryz.prog (w.alloc (.cells #[.string x, .string y] 210)) = .ok (.slice (some ⟨g, 0, none⟩) (t.pairs.length + 1) cap) w' ∧ Box4 w' h u1 u2 (.int .i64 t.height) (.bool t.bad) ∧
   TreeAt (w'.setCell ⟨h, 0, none⟩ (.slice (some ⟨g, 0, none⟩) (t.pairs.length + 1) cap)) h B (.slice (some ⟨g, 0, none⟩) (t.pairs.length + 1) cap) u2 ⟨t.pairs ++ [(x, y)], t.blocks, t.height, t.bad⟩ ∧
   Grows h u1 u2 w (.slice (some ⟨g, 0, none⟩) (t.pairs.length + 1) cap) u2 (w'.setCell ⟨h, 0, none⟩ (.slice (some ⟨g, 0, none⟩) (t.pairs.length + 1) cap)) := by
 obtain ⟨g, cap, w', hrun, hown, hgr, hat, hge, hlt⟩ := push_Q w B u1 t.pairs.length t.pairs (x, y) n.r1 n.le hl
 have t0 : Turns (fun k => u1.ownBlock = some k) w w' := ((Turns.refl _ _).alloc _).grown hgr (fun k hk => hk)
 have hbox : Box4 w' h u1 u2 (.int .i64 t.height) (.bool t.bad) := n.box.turns t0 fun hk => n.off1 h hk rfl
 have hh : h < w.heap.size + 1 := by have := n.box.lt; omega
 have ho := off_grown (n := t.pairs.length + 1) (cap := cap) n.off1 hat hh
 refine ⟨g, cap, w', hrun, hbox, ⟨?_, ?_, ?_, ?_, n.hb, ?_⟩, ⟨(t0.mono fun k hk => .inr (.inl hk)).setCell (p := ⟨h, 0, none⟩) (.inl rfl) _, fun k hk => ?_, fun _ => .inl⟩⟩
 ·
  obtain ⟨⟨c0, c1, c2, c3⟩, f0, f1, f2, f3⟩ := hbox
  refine ⟨⟨World.cell?_setCell_same _ _ _ c0, ?_, ?_, ?_⟩, ?_, ?_, ?_, ?_⟩
  ·
   rw [World.cell?_setCell_other _ _ _ _ (fun hh => by cases hh)]; exact c1
  ·
   rw [World.cell?_setCell_other _ _ _ _ (fun hh => by cases hh)]; exact c2
  ·
   rw [World.cell?_setCell_other _ _ _ _ (fun hh => by cases hh)]; exact c3
  ·
   rw [World.frozen?_setCell]; exact f0
  ·
   rw [World.frozen?_setCell]; exact f1
  ·
   rw [World.frozen?_setCell]; exact f2
  ·
   rw [World.frozen?_setCell]; exact f3
 ·
  rw [List.length_append]
  exact owns_off hown ho 0 _
 ·
  exact owns_off (t0.owns n.r2 fun k h1 h2 => n.a12 k h2 h1) n.off2 0 _
 ·
  exact apart_grown n.a12 hat fun k hk => by have := (n.r2.lt k hk).2; omega
 ·
  have := t0.size
  have := n.le
  simp; omega
 ·
  simp [Value.ownBlock] at hk
  subst hk
  rcases hat with e | e
  ·
   exact .inl e
  ·
   exact .inr (by omega)
theorem box4_unset' {w : World} {g i h : Nat} {v v0 v1 v2 v3 : Value} (b : Box4 (w.setCell ⟨g, i, none⟩ v) h v0 v1 v2 v3) (hn : ¬ h = g) : Box4 w h v0 v1 v2 v3 := by
 obtain ⟨⟨c0, c1, c2, c3⟩, f0, f1, f2, f3⟩ := b
 rw [World.cell?_setCell_other _ _ _ _ (fun hh => by cases hh; exact hn rfl)] at c0 c1 c2 c3
 rw [World.frozen?_setCell] at f0 f1 f2 f3
 exact ⟨⟨c0, c1, c2, c3⟩, f0, f1, f2, f3⟩
theorem cell_unset {w : World} {g i : Nat} {v x : Value} {p : Addr} (h : (w.setCell ⟨g, i, none⟩ v).cell? p = some x) (hn : ¬ p.block = g) : w.cell? p = some x := by
 rw [World.cell?_setCell_other _ _ _ _ (fun hh => hn (by rw [← hh]))] at h
 exact h
def pairV (h hn b o j B g n cap : Nat) (u vv : Value) (x y : ByteArray) : Nat → Value
 | 0 => .pointer (some ⟨h, 0, none⟩)
 | 1 => .pointer (some ⟨h, 0, none⟩)
 | 2 => .pointer (some ⟨h, 0, none⟩)
 | 3 => .pointer (some ⟨h, 0, none⟩)
 | 4 => u
 | 5 => .string x
 | 6 => .pointer (some ⟨hn, 2, none⟩)
 | 7 => vv
 | 8 => .int .i64 j
 | 9 => .pointer (some ⟨b, o + j, none⟩)
 | 10 => .string y
 | 11 => .agg #[.string x, .string y]
 | 12 => .slice (some ⟨B, 0, none⟩) 1 1
 | 13 => .slice (some ⟨g, 0, none⟩) n cap
 | 14 => .pointer (some ⟨h, 0, none⟩)
 | 15 => .pointer (some ⟨h, 0, none⟩)
 | _ => undef
def worldsQ (w0 w1 w2 w3 : World) : Nat → World
 | 0 => w0
 | 1 => w1
 | 2 => w2
 | _ => w3
theorem contains_more {xs : List Int} {j : Nat} {x b : Int} (hx : xs[j]? = some x) : (xs.take (j + 1)).contains b = ((xs.take j).contains b || decide (b = x)) := by
 rw [List.take_add_one, hx]
 simp
theorem any_more {α : Type} {f : α → Bool} {xs : List α} {j : Nat} {x : α} (hx : xs[j]? = some x) : (xs.take (j + 1)).any f = ((xs.take j).any f || f x) := by
 rw [List.take_add_one, hx]
 simp
theorem fold_more {α β : Type} {f : β → α → β} {xs : List α} {j : Nat} {x : α} (hx : xs[j]? = some x) (t : β) : (xs.take (j + 1)).foldl f t = f ((xs.take j).foldl f t) x := by
 rw [List.take_add_one, hx]
 simp
theorem zip_more {xs ys : List ByteArray} {j : Nat} {x y : ByteArray} (hx : xs[j]? = some x) (hy : ys[j]? = some y) : (xs.zip ys).take (j + 1) = (xs.zip ys).take j ++ [(x, y)] := by
 have : (xs.zip ys)[j]? = some (x, y) := by rw [List.getElem?_zip_eq_some]; exact ⟨hx, hy⟩
 rw [List.take_add_one, this]
 rfl
set_option maxRecDepth 20000 in
theorem within_any (key low high : ByteArray) (w : World) :
  Calls Tryz.prog 163 #[.string key, .string low, .string high] w fun e w' => e = .returned (.bool (withinS key low high)) ∧ Below w.heap.size w w' := by
 obtain ⟨r, hr⟩ : ∃ r, r = withinS key low high := ⟨_, rfl⟩
 rw [← hr]
 unfold withinS at hr
 cases h1 : ltB key low with
 | true =>
  have h1' : Op.bytesLess key.toList low.toList = true := h1
  rw [h1] at hr
  have hr' : r = false := hr
  clear hr h1
  go_enter Tryz.func163, Tryz.ntmps163
  go_wp2
  go_ret
  exact ⟨by rw [hr']; rfl, Below.refl _ _⟩
 | false =>
  have h1' : Op.bytesLess key.toList low.toList = false := h1
  rw [h1] at hr
  by_cases h2 : high.size = 0
  ·
   obtain rfl : high = ⟨#[]⟩ := by
    have h3 : high.data.size = 0 := h2
    cases high with
    | mk d => simp at h3; subst h3; rfl
   have hr' : r = true := by rw [hr]; rfl
   clear hr h1 h2
   go_enter Tryz.func163, Tryz.ntmps163
   go_wp2
   go_ret
   exact ⟨by rw [hr']; rfl, Below.refl _ _⟩
  ·
   have h3 : ¬ high.toList = [] := fun e => h2 (by rw [ByteArray.toList_eq] at e; exact (size_list high).symm.trans (by rw [e]; rfl))
   have h5 : high.toList.isEmpty = false := by cases hh : high.toList with | nil => exact absurd hh h3 | cons _ _ => rfl
   cases h4 : ltB key high with
   | true =>
    have h4' : Op.bytesLess key.toList high.toList = true := h4
    have hr' : r = true := by rw [hr, h4]; simp
    clear hr h1 h2 h4
    go_enter Tryz.func163, Tryz.ntmps163
    go_wp2
    go_ret
    exact ⟨by rw [hr']; rfl, Below.refl _ _⟩
   | false =>
    have h4' : Op.bytesLess key.toList high.toList = false := h4
    have hr' : r = false := by rw [hr, h4]; simp [h2]
    clear hr h1 h2 h4
    go_enter Tryz.func163, Tryz.ntmps163
    go_wp2
    go_ret
    exact ⟨by rw [hr']; rfl, Below.refl _ _⟩
end Go.Proofs.YtaobfgplheoefaaGreat
namespace Go.Proofs.YtaobfgplheoefaaGreat
open Go.RowKit Plain Anylast
set_option linter.unusedVariables false
set_option maxRecDepth 20000 in
set_option maxHeartbeats 8000000 in
theorem below_step {w : World} {H : Int → Bool → Option NodeS} (h B : Nat) (a a' b : Option Addr) (n c n' c' p f : Nat) (root gen : Int) (hh : w.heap.size ≤ h)
  (cN : ∀ V block r, Below w.heap.size w V → H block r = none → Calls Tryz.prog 162 #[(.agg #[.slice a n c, .slice a' n' c', .slice b p f, .int .i64 root, .int .i64 gen]), .int .i64 block, .bool r] V fun x V' => x = .returned (.tuple #[.agg #[.bool false, .slice none 0 0, .slice none 0 0, .slice none 0 0], .bool false]) ∧ Below V.heap.size V V')
  (cY : ∀ V block r (nd : NodeS), Below w.heap.size w V → H block r = some nd → Calls Tryz.prog 162 #[(.agg #[.slice a n c, .slice a' n' c', .slice b p f, .int .i64 root, .int .i64 gen]), .int .i64 block, .bool r] V fun x V' => ∃ k1 a1 d1 k2 a2 d2 k3 a3 d3, x = .returned (.tuple #[.agg #[.bool nd.1, .slice a1 k1 d1, .slice a2 k2 d2, .slice a3 k3 d3], .bool true]) ∧ k1 = nd.2.1.length ∧ k2 = nd.2.2.1.length ∧ k3 = nd.2.2.2.length ∧ IsS V' a1 d1 nd.2.1 ∧ IsS V' a2 d2 nd.2.2.1 ∧ IsI V' a3 d3 nd.2.2.2 ∧ From V.heap.size a1 ∧ From V.heap.size a2 ∧ From V.heap.size a3 ∧ Below V.heap.size V V')
  (hH : ∀ b r (nd : NodeS), H b r = some nd → nd.2.1.length ≤ 9 ∧ nd.2.2.2.length ≤ 10 ∧ (nd.1 = true → nd.2.2.1.length = nd.2.1.length) ∧ (nd.1 = false → nd.2.2.2.length = nd.2.1.length + 1))
  (k : Nat) (hk8 : k ≤ 8) (ih : ∀ k', k = k' + 1 → ∀ (V : World) (u1 u2 : Value) (t : TreeS) (block : Int) (low high : ByteArray), Below w.heap.size w V → TreeAt V h B u1 u2 t → t.blocks.length + 2 * 10 ^ k' ≤ 1000000000000 → t.pairs.length + 18 * 10 ^ k' ≤ 1000000000000 →
   Calls Tryz.prog 141 #[.pointer (some ⟨h, 0, none⟩), (.agg #[.slice a n c, .slice a' n' c', .slice b p f, .int .i64 root, .int .i64 gen]), .int .i64 block, .int .i64 (9 - (k' : Int)), .string low, .string high] V fun e V' => e = .returned (.tuple #[]) ∧ ∃ u1' u2', TreeAt V' h B u1' u2' (belowS H k' t block low high) ∧ Grows h u1 u2 V u1' u2' V') :
  ∀ (V : World) (u1 u2 : Value) (t : TreeS) (block : Int) (low high : ByteArray), Below w.heap.size w V → TreeAt V h B u1 u2 t → t.blocks.length + 2 * 10 ^ k ≤ 1000000000000 → t.pairs.length + 18 * 10 ^ k ≤ 1000000000000 →
   Calls Tryz.prog 141 #[.pointer (some ⟨h, 0, none⟩), (.agg #[.slice a n c, .slice a' n' c', .slice b p f, .int .i64 root, .int .i64 gen]), .int .i64 block, .int .i64 (9 - (k : Int)), .string low, .string high] V fun e V' => e = .returned (.tuple #[]) ∧ ∃ u1' u2', TreeAt V' h B u1' u2' (belowS H k t block low high) ∧ Grows h u1 u2 V u1' u2' V' := by
 intro V u1 u2 t block low high HB T hm1 hm2
 obtain ⟨ua, uc, rfl, hN, -, -⟩ := owns_I T.r2
 obtain ⟨N, hNN⟩ : ∃ N, N = t.blocks.length := ⟨_, rfl⟩
 rw [← hNN] at T ⊢
 obtain ⟨d, hd⟩ : ∃ d : Int, d = 9 - (k : Int) := ⟨_, rfl⟩
 rw [← hd]
 have EN : Hid (N = t.blocks.length) := hNN
 have Hd : Hid (d = 9 - (k : Int)) := hd
 have hpk : 0 < 10 ^ k := Nat.pow_pos (by decide)
 have mN : N ≤ 9223372036854775807 := by omega
 have hhlo : h < V.heap.size := T.box.lt
 obtain ⟨V1, hV1⟩ : ∃ X, X = V.alloc (.cells #[.slice a n c, .slice a' n' c', .slice b p f, .int .i64 root, .int .i64 gen] 40) := ⟨_, rfl⟩
 have hA1 : Below V.heap.size V V1 := by rw [hV1]; exact (Below.refl _ _).alloc (Nat.le_refl _) _
 have T1 := T.below hA1
 have G1 : Grows h u1 (.slice ua N uc) V u1 (.slice ua N uc) V1 := Grows.of_below _ _ _ hA1
 have L1 : Loc V.heap.size V1 V1 u1 (.slice ua N uc) := ⟨Turns.refl _ _, fun g hg => .inl (hg.elim (fun e => (T.r1.lt g e).2) (fun e => (T.r2.lt g e).2))⟩
 have WB1 : WoodBox V1 V.heap.size (.slice a n c) (.slice a' n' c') (.slice b p f) (.int .i64 root) (.int .i64 gen) := by rw [hV1]; exact woodBox_new _ _ _ _ _ _ _ rfl
 have T0 : Hid (TreeAt V h B u1 (.slice ua N uc) t) := T
 have HB' : Hid (Below w.heap.size w V) := HB
 have HM : Hid (t.blocks.length + 2 * 10 ^ k ≤ 1000000000000 ∧ t.pairs.length + 18 * 10 ^ k ≤ 1000000000000) := ⟨hm1, hm2⟩
 have hh' : Hid (w.heap.size ≤ h) := hh
 obtain ⟨⟨q0, q1, q2, q3⟩, f0, f1, f2, f3⟩ := T.box.alloc (.cells #[.slice a n c, .slice a' n' c', .slice b p f, .int .i64 root, .int .i64 gen] 40)
 clear T HB hN hNN hd hm1 hm2 hA1 hpk hh
 have HB := HB'
 have hh := hh'
 clear HB' hh'
 go_enter Tryz.func141, Tryz.ntmps141
 go_wp2
 rw [← hV1]
 clear q0 q1 q2 q3 f0 f1 f2 f3 hV1
 go_loopw [27] (fun v wr => ∃ j : Nat, j ≤ N ∧ v = .int .i64 j ∧ TreeAt wr h B u1 (.slice ua N uc) ⟨t.pairs, t.blocks, t.height, t.bad || (t.blocks.take j).contains block⟩ ∧ Grows h u1 (.slice ua N uc) V u1 (.slice ua N uc) wr ∧ Loc V.heap.size V1 wr u1 (.slice ua N uc)) (fun v _ => N - (intOf v).toNat)
 case atStart => exact ⟨0, by omega, rfl, by rw [List.take_zero, List.contains_nil, Bool.or_false]; exact T1, G1, L1⟩
 case round =>
  clear T1 G1 L1
  obtain ⟨j, hj, rfl, D, G, L⟩ := hrel
  by_cases hlt : j < N
  ·
   have hlt' : (j : Int) < N := by omega
   obtain ⟨x, hx⟩ : ∃ x, Hid (t.blocks[j]? = some x) := ⟨_, List.getElem?_eq_getElem (by rw [← EN.out]; exact hlt)⟩
   obtain ⟨a2, c2, e, -, hI, -⟩ := owns_I D.r2
   obtain ⟨e1, -, e3⟩ := Value.slice.inj e
   subst e1 e3
   clear e
   obtain ⟨bl, o, rfl, hlb, hc⟩ := hI.2.2 j x hx.out
   by_cases hxb : block = x
   ·
    subst hxb
    obtain ⟨D', G'⟩ := D.setBad true
    have hfin : Hid (TreeAt (wr.setCell ⟨h, 3, none⟩ (.bool true)) h B u1 (.slice (some ⟨bl, o, none⟩) N uc) ⟨t.pairs, t.blocks, t.height, t.bad || (t.blocks.take (j + 1)).contains block⟩ ∧ Grows h u1 (.slice (some ⟨bl, o, none⟩) N uc) V u1 (.slice (some ⟨bl, o, none⟩) N uc) (wr.setCell ⟨h, 3, none⟩ (.bool true)) ∧ Loc V.heap.size V1 (wr.setCell ⟨h, 3, none⟩ (.bool true)) u1 (.slice (some ⟨bl, o, none⟩) N uc)) := ⟨by rw [contains_more hx.out, decide_eq_true rfl, Bool.or_true, Bool.or_true]; exact D', G.trans G', L.step G' hhlo⟩
    obtain ⟨⟨q0, q1, q2, q3⟩, f0, f1, f2, f3⟩ := id D.box
    clear D G L D' G' hI hlb
    go_wp2
    go_roundw
    case rel => exact ⟨j + 1, by omega, by go_num, hfin.out.1, hfin.out.2.1, hfin.out.2.2⟩
    case measure => simp [intOf]; omega
   ·
    have hfin : Hid (TreeAt wr h B u1 (.slice (some ⟨bl, o, none⟩) N uc) ⟨t.pairs, t.blocks, t.height, t.bad || (t.blocks.take (j + 1)).contains block⟩ ∧ Grows h u1 (.slice (some ⟨bl, o, none⟩) N uc) V u1 (.slice (some ⟨bl, o, none⟩) N uc) wr ∧ Loc V.heap.size V1 wr u1 (.slice (some ⟨bl, o, none⟩) N uc)) := ⟨by rw [contains_more hx.out, decide_eq_false hxb, Bool.or_false]; exact D, G, L⟩
    have hxb' : ¬ x = block := fun e => hxb e.symm
    clear D G L hI hlb
    go_wp2
    go_roundw
    case rel => exact ⟨j + 1, by omega, by go_num, hfin.out.1, hfin.out.2.1, hfin.out.2.2⟩
    case measure => simp [intOf]; omega
  ·
   obtain rfl : N = j := by omega
   have ek : t.blocks.take N = t.blocks := by rw [EN.out]; exact List.take_length
   rw [ek] at D
   obtain ⟨bb, hbb⟩ : ∃ x, x = (t.bad || t.blocks.contains block) := ⟨_, rfl⟩
   rw [← hbb] at D
   have HBB : Hid (bb = (t.bad || t.blocks.contains block)) := hbb
   have WB := WB1.turns L.st (Nat.lt_irrefl _)
   have HBw : Below w.heap.size w wr := Grows.low (S := 0) T0.out G HB.out hh.out
   obtain ⟨⟨q0, q1, q2, q3⟩, f0, f1, f2, f3⟩ := id D.box; obtain ⟨x0, x1, x2, x3, x4⟩ := id WB
   have hj0 : ¬ (N : Int) < N := by omega
   clear ek hbb L hj hlt
   cases hq : H block (decide (d = 1)) with
   | none =>
    cases bb with
    | true =>
     go_wp2_with (go_at_call 162; refine (cN _ _ _ HBw hq).mono ?_; rintro y w1 ⟨rfl, hb⟩; have hA : Below w1.heap.size w1 (w1.alloc (.cells #[.bool false, .slice none 0 0, .slice none 0 0, .slice none 0 0] 205)) := (Below.refl _ _).alloc (Nat.le_refl _) _; replace D := (D.below hb).below hA; replace G := (G.trans (Grows.of_below h _ _ hb)).trans (Grows.of_below h _ _ hA); clear q0 q1 q2 q3 f0 f1 f2 f3 x0 x1 x2 x3 x4; obtain ⟨⟨q0, q1, q2, q3⟩, f0, f1, f2, f3⟩ := id D.box; clear hb hA)
     obtain ⟨D', G'⟩ := D.setBad true
     exact bodyPost_ret (v := .tuple #[]) (by simp [results, Tryz.results141, go_sem]) rfl ⟨rfl, u1, (.slice ua N uc), by rw [belowS_spoil (.inl HBB.out.symm)]; exact D', G.trans G'⟩
    | false =>
     go_wp2_with (go_at_call 162; refine (cN _ _ _ HBw hq).mono ?_; rintro y w1 ⟨rfl, hb⟩; have hA : Below w1.heap.size w1 (w1.alloc (.cells #[.bool false, .slice none 0 0, .slice none 0 0, .slice none 0 0] 205)) := (Below.refl _ _).alloc (Nat.le_refl _) _; replace D := (D.below hb).below hA; replace G := (G.trans (Grows.of_below h _ _ hb)).trans (Grows.of_below h _ _ hA); clear q0 q1 q2 q3 f0 f1 f2 f3 x0 x1 x2 x3 x4; obtain ⟨⟨q0, q1, q2, q3⟩, f0, f1, f2, f3⟩ := id D.box; clear hb hA)
     obtain ⟨D', G'⟩ := D.setBad true
     exact bodyPost_ret (v := .tuple #[]) (by simp [results, Tryz.results141, go_sem]) rfl ⟨rfl, u1, (.slice ua N uc), by rw [belowS_spoil (.inr (.inl (by rw [← Hd.out]; exact hq)))]; exact D', G.trans G'⟩
   | some nd =>
    obtain ⟨l, ks, vs, cs⟩ := nd
    obtain ⟨hz1, hz2, hz3, hz4⟩ := hH _ _ _ hq
    replace hz1 : Hid (ks.length ≤ 9) := hz1
    replace hz2 : Hid (cs.length ≤ 10) := hz2
    replace hz3 : Hid (l = true → vs.length = ks.length) := hz3
    replace hz4 : Hid (l = false → cs.length = ks.length + 1) := hz4
    cases bb with
    | true =>
     go_wp2_with (go_at_call 162; refine (cY _ _ _ _ HBw hq).mono ?_; rintro y w1 ⟨k1, a1, d1, k2, a2, d2, k3, a3, d3, rfl, e1, e2, e3, i1, i2, i3, j1, j2, j3, hb⟩; have hA : Below w1.heap.size w1 (w1.alloc (.cells #[.bool l, .slice a1 k1 d1, .slice a2 k2 d2, .slice a3 k3 d3] 205)) := (Below.refl _ _).alloc (Nat.le_refl _) _; have hlo : V.heap.size ≤ wr.heap.size := G.t.size; have hlo1 : wr.heap.size ≤ w1.heap.size := hb.size; have NL := nodeLo_new w1 V.heap.size w1.heap.size l rfl (by omega) e1 e2 e3 i1 i2 i3 (j1.mono hlo) (j2.mono hlo) (j3.mono hlo); replace D := (D.below hb).below hA; replace G := (G.trans (Grows.of_below h _ _ hb)).trans (Grows.of_below h _ _ hA); replace WB := (WB.below hb).below hA; clear q0 q1 q2 q3 f0 f1 f2 f3 x0 x1 x2 x3 x4; obtain ⟨⟨q0, q1, q2, q3⟩, f0, f1, f2, f3⟩ := id D.box; obtain ⟨⟨n0, n1, n2, n3⟩, -⟩ := NL.box; clear hb hA e1 e2 e3 i1 i2 i3 j1 j2 j3 hlo hlo1)
     obtain ⟨D', G'⟩ := D.setBad true
     exact bodyPost_ret (v := .tuple #[]) (by simp [results, Tryz.results141, go_sem]) rfl ⟨rfl, u1, (.slice ua N uc), by rw [belowS_spoil (.inl HBB.out.symm)]; exact D', G.trans G'⟩
    | false =>
     by_cases hk0 : k = 0
     ·
      have hd8 : (8 : Int) < d := by rw [Hd.out]; omega
      go_wp2_with (go_at_call 162; refine (cY _ _ _ _ HBw hq).mono ?_; rintro y w1 ⟨k1, a1, d1, k2, a2, d2, k3, a3, d3, rfl, e1, e2, e3, i1, i2, i3, j1, j2, j3, hb⟩; have hA : Below w1.heap.size w1 (w1.alloc (.cells #[.bool l, .slice a1 k1 d1, .slice a2 k2 d2, .slice a3 k3 d3] 205)) := (Below.refl _ _).alloc (Nat.le_refl _) _; have hlo : V.heap.size ≤ wr.heap.size := G.t.size; have hlo1 : wr.heap.size ≤ w1.heap.size := hb.size; have NL := nodeLo_new w1 V.heap.size w1.heap.size l rfl (by omega) e1 e2 e3 i1 i2 i3 (j1.mono hlo) (j2.mono hlo) (j3.mono hlo); replace D := (D.below hb).below hA; replace G := (G.trans (Grows.of_below h _ _ hb)).trans (Grows.of_below h _ _ hA); replace WB := (WB.below hb).below hA; clear q0 q1 q2 q3 f0 f1 f2 f3 x0 x1 x2 x3 x4; obtain ⟨⟨q0, q1, q2, q3⟩, f0, f1, f2, f3⟩ := id D.box; obtain ⟨⟨n0, n1, n2, n3⟩, -⟩ := NL.box; clear hb hA e1 e2 e3 i1 i2 i3 j1 j2 j3 hlo hlo1)
      obtain ⟨D', G'⟩ := D.setBad true
      exact bodyPost_ret (v := .tuple #[]) (by simp [results, Tryz.results141, go_sem]) rfl ⟨rfl, u1, (.slice ua N uc), by rw [belowS_spoil (.inr (.inr (.inl hk0)))]; exact D', G.trans G'⟩
     ·
      have hd8 : ¬ (8 : Int) < d := by rw [Hd.out]; omega
      cases l with
      | true =>
       replace hz3 : Hid (vs.length = ks.length) := hz3.out rfl
       clear hz4
       by_cases hke : ks = []
       ·
        subst hke
        go_wp2_with (go_at_call 162; refine (cY _ _ _ _ HBw hq).mono ?_; rintro y w1 ⟨k1, a1, d1, k2, a2, d2, k3, a3, d3, rfl, e1, e2, e3, i1, i2, i3, j1, j2, j3, hb⟩; have hk1 : ((k1 : Int) == 0) = true := (by rw [e1]; rfl); have hA : Below w1.heap.size w1 (w1.alloc (.cells #[.bool true, .slice a1 k1 d1, .slice a2 k2 d2, .slice a3 k3 d3] 205)) := (Below.refl _ _).alloc (Nat.le_refl _) _; have hlo : V.heap.size ≤ wr.heap.size := G.t.size; have hlo1 : wr.heap.size ≤ w1.heap.size := hb.size; have NL := nodeLo_new w1 V.heap.size w1.heap.size true rfl (by omega) e1 e2 e3 i1 i2 i3 (j1.mono hlo) (j2.mono hlo) (j3.mono hlo); replace D := (D.below hb).below hA; replace G := (G.trans (Grows.of_below h _ _ hb)).trans (Grows.of_below h _ _ hA); replace WB := (WB.below hb).below hA; clear q0 q1 q2 q3 f0 f1 f2 f3 x0 x1 x2 x3 x4; obtain ⟨⟨q0, q1, q2, q3⟩, f0, f1, f2, f3⟩ := id D.box; obtain ⟨⟨n0, n1, n2, n3⟩, -⟩ := NL.box; clear hb hA e1 e2 e3 i1 i2 i3 j1 j2 j3 hlo hlo1)
        obtain ⟨D', G'⟩ := D.setBad true
        exact bodyPost_ret (v := .tuple #[]) (by simp [results, Tryz.results141, go_sem]) rfl ⟨rfl, u1, (.slice ua N uc), by rw [belowS_spoil (.inr (.inr (.inr ⟨_, by rw [← Hd.out]; exact hq, rfl, rfl⟩)))]; exact D', G.trans G'⟩
       ·
        have tkA : True := trivial
        have hlb : Hid (t.blocks.length ≤ 1000000000000) := Nat.le_trans (Nat.le_add_right _ _) HM.out.1
        have hbk : Hid ((t.bad || t.blocks.contains block) = false) := HBB.out.symm
        go_wp2_with (first
         | (go_at_call 162; refine (cY _ _ _ _ HBw hq).mono ?_; rintro y w1 ⟨k1, a1, d1, k2, a2, d2, k3, a3, d3, rfl, e1, e2, e3, i1, i2, i3, j1, j2, j3, hb⟩; have hA : Below w1.heap.size w1 (w1.alloc (.cells #[.bool true, .slice a1 k1 d1, .slice a2 k2 d2, .slice a3 k3 d3] 205)) := (Below.refl _ _).alloc (Nat.le_refl _) _; have hlo : V.heap.size ≤ wr.heap.size := G.t.size; have hlo1 : wr.heap.size ≤ w1.heap.size := hb.size; have NL := nodeLo_new w1 V.heap.size w1.heap.size true rfl (by omega) e1 e2 e3 i1 i2 i3 (j1.mono hlo) (j2.mono hlo) (j3.mono hlo); replace D := (D.below hb).below hA; replace G := (G.trans (Grows.of_below h _ _ hb)).trans (Grows.of_below h _ _ hA); replace WB := (WB.below hb).below hA; clear q0 q1 q2 q3 f0 f1 f2 f3 x0 x1 x2 x3 x4; obtain ⟨⟨q0, q1, q2, q3⟩, f0, f1, f2, f3⟩ := id D.box; obtain ⟨⟨n0, n1, n2, n3⟩, -⟩ := NL.box;  replace e1 : k1 = ks.length := e1; replace e2 : k2 = vs.length := e2; replace e3 : k3 = cs.length := e3; have L2 : Loc V.heap.size (w1.alloc (.cells #[.bool true, .slice a1 k1 d1, .slice a2 k2 d2, .slice a3 k3 d3] 205)) (w1.alloc (.cells #[.bool true, .slice a1 k1 d1, .slice a2 k2 d2, .slice a3 k3 d3] 205)) u1 (.slice ua N uc) := ⟨Turns.refl _ _, fun g hg => .inl (hg.elim (fun e => (T0.out.r1.lt g e).2) (fun e => (T0.out.r2.lt g e).2))⟩; have NH : Hid (NodeLo (w1.alloc (.cells #[.bool true, .slice a1 k1 d1, .slice a2 k2 d2, .slice a3 k3 d3] 205)) V.heap.size w1.heap.size true a1 k1 d1 a2 k2 d2 a3 k3 d3 ks vs cs) := NL; have WBH : Hid (WoodBox (w1.alloc (.cells #[.bool true, .slice a1 k1 d1, .slice a2 k2 d2, .slice a3 k3 d3] 205)) V.heap.size (.slice a n c) (.slice a' n' c') (.slice b p f) (.int .i64 root) (.int .i64 gen)) := WB; have HE : Hid (k1 = ks.length ∧ k2 = vs.length ∧ k3 = cs.length) := ⟨e1, e2, e3⟩; have mk1 : k1 ≤ 9 := (by rw [e1]; exact hz1.out); have mk3 : k3 ≤ 10 := (by rw [e3]; exact hz2.out); have hz : ¬ ((k1 : Int) = 0) := fun e => hke (List.length_eq_zero_iff.1 (by omega)); have hz' : ((k1 : Int) == 0) = false := (by simpa using hz); clear hz; clear NL hb hA e1 e2 e3 i1 i2 i3 j1 j2 j3 hlo hlo1)
         | (at_builtin; have _t := tkA; clear _t tkA; obtain ⟨g, cap, U, hrun, bU, D', G'⟩ := D.pushB block hlb.out; simp only [World.size_alloc] at hrun; refine Lib.wpList_append_run _ rfl _ _ _ _ rfl _ _ rfl rfl _ _ hrun ?_; replace G := G.trans G'; replace L2 := L2.step G' hhlo; have NL := NH.out.stay L2.st; have hne : ¬ w1.heap.size = h := (by have := NH.out.j0; omega); clear hrun D q0 q1 q2 q3 f0 f1 f2 f3 n0 n1 n2 n3; have D := D'; clear D' G'; obtain ⟨⟨q0, q1, q2, q3⟩, f0, f1, f2, f3⟩ := id bU; obtain ⟨⟨n0, n1, n2, n3⟩, -⟩ := box4_unset' NL.box hne; clear bU NL))
        obtain ⟨u2', hu2'⟩ : ∃ x, x = Value.slice (some ⟨g, 0, none⟩) (t.blocks.length + 1) cap := ⟨_, rfl⟩
        rw [← hu2'] at D G L2 ⊢
        clear q0 q1 q2 q3 f0 f1 f2 f3 n0 n1 n2 n3 hu2' WB
        go_loopw [84] (fun v wr => ∃ (j : Nat) (v1 : Value), j ≤ k1 ∧ v = .int .i64 j ∧ TreeAt wr h B v1 u2' ⟨t.pairs ++ (ks.zip vs).take j, t.blocks ++ [block], t.height, (ks.take j).any fun k => !withinS k low high⟩ ∧ Grows h u1 (.slice ua N uc) V v1 u2' wr ∧ Loc V.heap.size (w1.alloc (.cells #[.bool true, .slice a1 k1 d1, .slice a2 k2 d2, .slice a3 k3 d3] 205)) wr v1 u2') (fun v _ => k1 - (intOf v).toNat)
        case atStart => exact ⟨0, u1, by omega, rfl, by rw [List.take_zero, List.append_nil, List.take_zero, List.any_nil]; exact D, G, L2⟩
        case round =>
         clear D G L2
         obtain ⟨j, v1, hj, rfl, D, G, L⟩ := hrel
         by_cases hlt : j < k1
         ·
          have hlt' : (j : Int) < k1 := by omega
          have NL := NH.out.stay L.st
          obtain ⟨ky, hky⟩ : ∃ x, Hid (ks[j]? = some x) := ⟨_, List.getElem?_eq_getElem (by rw [← HE.out.1]; exact hlt)⟩
          obtain ⟨b1, o1, rfl, -, hc, -⟩ := NL.i1.2.2 j ky hky.out
          obtain ⟨vy, hvy⟩ : ∃ x, Hid (vs[j]? = some x) := ⟨_, List.getElem?_eq_getElem (by rw [hz3.out, ← HE.out.1]; exact hlt)⟩
          obtain ⟨b2, o2, rfl, -, hcv, -⟩ := NL.i2.2.2 j vy hvy.out
          have hlv : (j : Int) < k2 := by rw [HE.out.2.1, hz3.out, ← HE.out.1]; exact hlt'
          have hlp : Hid ((t.pairs ++ (ks.zip vs).take j).length ≤ 1000000000000) := by
           have h1 := HM.out.2
           show _ ≤ _
           rw [List.length_append, List.length_take]
           have h2 : 0 < 10 ^ k := Nat.pow_pos (by decide)
           omega
          obtain ⟨⟨n0, n1, n2, n3⟩, -⟩ := NL.box
          clear NL
          cases hw : withinS ky low high with
          | true =>
           go_wp2_with (go_at_call 163; refine (within_any _ _ _ _).mono ?_; rintro y w2 ⟨rfl, hb⟩; rw [hw]; have G' := Grows.of_below h v1 u2' hb; replace D := D.below hb; replace G := G.trans G'; replace L := L.step G' hhlo; have NL := NH.out.stay L.st; clear G' n0 n1 n2 n3; obtain ⟨⟨n0, n1, n2, n3⟩, -⟩ := NL.box; obtain ⟨⟨q0, q1, q2, q3⟩, f0, f1, f2, f3⟩ := id D.box; clear hb NL)
           obtain ⟨X, hX⟩ : ∃ X, X = w2 := ⟨_, rfl⟩
           rw [← hX] at D G L ⊢
           obtain ⟨W0, hW0⟩ : ∃ X', X' = X.drew := ⟨_, rfl⟩
           have hB0 : Below X.heap.size X W0 := by rw [hW0]; exact (Below.refl _ _).drew
           replace G := G.trans (Grows.of_below h v1 u2' hB0)
           replace L := L.step (Grows.of_below h v1 u2' hB0) hhlo
           replace D := D.below hB0
           have NL := NH.out.stay L.st
           obtain ⟨b3, o3, e3, -, hcv0, -⟩ := NL.i2.2.2 j vy hvy.out
           cases e3
           obtain ⟨Q, hQ⟩ : ∃ Q, Q = (t.pairs ++ (ks.zip vs).take j) := ⟨_, rfl⟩
           rw [← hQ] at D
           obtain ⟨g2, cap2, U2, hrun13, bU, D', G'⟩ := D.pushP ky vy (by show Q.length ≤ _; rw [hQ]; exact hlp.out)
           obtain ⟨W3, hW3⟩ : ∃ X', X' = U2.setCell ⟨h, 0, none⟩ (.slice (some ⟨g2, 0, none⟩) (Q.length + 1) cap2) := ⟨_, rfl⟩
           have hst3 : Hid (U2.setCell ⟨h, 0, none⟩ (.slice (some ⟨g2, 0, none⟩) (Q.length + 1) cap2) = W3) := hW3.symm
           have HW0 : Hid (W0 = X.drew) := hW0
           have hfin : Hid (TreeAt W3 h B (.slice (some ⟨g2, 0, none⟩) (Q.length + 1) cap2) u2' ⟨Q ++ [(ky, vy)], t.blocks ++ [block], t.height, (ks.take j).any fun k => !withinS k low high⟩ ∧ Grows h u1 (.slice ua N uc) V (.slice (some ⟨g2, 0, none⟩) (Q.length + 1) cap2) u2' W3 ∧ Loc V.heap.size (w1.alloc (.cells #[.bool true, .slice (some ⟨b1, o1, none⟩) k1 d1, .slice (some ⟨b2, o2, none⟩) k2 d2, .slice a3 k3 d3] 205)) W3 (.slice (some ⟨g2, 0, none⟩) (Q.length + 1) cap2) u2') := by rw [hW3]; exact ⟨D', G.trans G', L.step G' hhlo⟩
           have bA := D.box.alloc (.cells #[.string ky, .string vy] 210)
           have hcv1 := cell_alloc hcv0 (.cells #[.string ky, .string vy] 210)
           have nA := NL.box.alloc (.cells #[.string ky, .string vy] 210)
           have NL3 := NH.out.stay (L.step G' hhlo).st
           obtain ⟨b3, o3, e3, -, hcv3, -⟩ := NL3.i2.2.2 j vy hvy.out
           cases e3
           have hbh : ¬ b2 = h := by have := NL3.j2 _ rfl; simp at this; omega
           have hcv2 := cell_unset hcv3 hbh
           have nU := box4_unset' NL3.box hne
           have nX := NL3.box
           rw [← hW3] at hcv3 nX
           clear n0 n1 n2 n3 q0 q1 q2 q3 f0 f1 f2 f3
           have HQ : Hid (Q = t.pairs ++ (ks.zip vs).take j) := hQ
           obtain ⟨⟨n0, n1, n2, n3⟩, -⟩ := NL.box
           obtain ⟨⟨na0, na1, na2, na3⟩, -⟩ := nA
           obtain ⟨⟨nu0, nu1, nu2, nu3⟩, -⟩ := nU
           obtain ⟨⟨nw0, nw1, nw2, nw3⟩, -⟩ := nX
           obtain ⟨⟨q0, q1, q2, q3⟩, -⟩ := D.box
           obtain ⟨⟨p0, p1, p2, p3⟩, -⟩ := bA
           obtain ⟨⟨o0, o1', o2', o3⟩, f0, f1, f2, f3⟩ := bU
           clear D G L D' G' NL NL3 hX hW0 hW3 hQ hB0 hc
           refine region_worlds (by kernel_rfl) [12, 13, 16] (pairV h w1.heap.size b2 o2 j W0.heap.size g2 (Q.length + 1) cap2 v1 (.slice (some ⟨b2, o2, none⟩) k2 d2) ky vy) (worldsQ W0 (W0.alloc (.cells #[.string ky, .string vy] 210)) U2 W3) (by kernel_rfl) (by kernel_rfl) HW0.out.symm ?step 17 rfl ?done
           case step =>
            intro i o ho kk a2 hkk hmay hdf hsz hdep hsame
            match i, ho with
            | 0, ho =>
             cases ho
             have h0 := (hsame 0 rfl)
             exact val_op rfl (wanted_free rfl) (by clear hdep hsame hsz hdf; (try simp only [pairV, worldsQ]); go_simp) rfl rfl
            | 1, ho =>
             cases ho
             have h0 := (hsame 0 rfl)
             exact val_op rfl (wanted_free rfl) (by clear hdep hsame hsz hdf; (try simp only [pairV, worldsQ]); go_simp) rfl rfl
            | 2, ho =>
             cases ho
             have h100 := (hdep 1 _ 100 rfl rfl rfl)
             simp only [pairV] at h100
             exact val_op rfl (wanted_free rfl) (by clear hdep hsame hsz hdf; (try simp only [pairV, worldsQ]); go_simp) rfl rfl
            | 3, ho =>
             cases ho
             have h101 := (hdep 2 _ 101 rfl rfl rfl)
             simp only [pairV] at h101
             exact val_op rfl (wanted_free rfl) (by clear hdep hsame hsz hdf; (try simp only [pairV, worldsQ]); go_simp) rfl rfl
            | 4, ho =>
             cases ho
             have h102 := (hdep 3 _ 102 rfl rfl rfl)
             simp only [pairV] at h102
             match kk, hkk, hmay with
             | 0, _, hq => first | (cases hq; done) | (exact val_op rfl (wanted_free rfl) (by clear hdep hsame hsz hdf; (try simp only [pairV, worldsQ]); go_simp) rfl rfl)
             | 1, _, hq => first | (cases hq; done) | (exact val_op rfl (wanted_free rfl) (by clear hdep hsame hsz hdf; (try simp only [pairV, worldsQ]); go_simp) rfl rfl)
             | 2, _, hq => first | (cases hq; done) | (exact val_op rfl (wanted_free rfl) (by clear hdep hsame hsz hdf; (try simp only [pairV, worldsQ]); go_simp) rfl rfl)
             | 3, _, hq => first | (cases hq; done) | (exact val_op rfl (wanted_free rfl) (by clear hdep hsame hsz hdf; (try simp only [pairV, worldsQ]); go_simp) rfl rfl)
             | kk + 4, hkk, _ => simp at hkk
            | 5, ho =>
             cases ho
             have h17 := (hsame 17 rfl)
             exact val_op rfl (wanted_free rfl) (by clear hdep hsame hsz hdf; (try simp only [pairV, worldsQ]); go_simp) rfl rfl
            | 6, ho =>
             cases ho
             have h14 := (hsame 14 rfl)
             exact val_op rfl (wanted_free rfl) (by clear hdep hsame hsz hdf; (try simp only [pairV, worldsQ]); go_simp) rfl rfl
            | 7, ho =>
             cases ho
             have h105 := (hdep 6 _ 105 rfl rfl rfl)
             simp only [pairV] at h105
             match kk, hkk, hmay with
             | 0, _, hq => first | (cases hq; done) | (exact val_op rfl (wanted_free rfl) (by clear hdep hsame hsz hdf; (try simp only [pairV, worldsQ]); go_simp) rfl rfl)
             | 1, _, hq => first | (cases hq; done) | (exact val_op rfl (wanted_free rfl) (by clear hdep hsame hsz hdf; (try simp only [pairV, worldsQ]); go_simp) rfl rfl)
             | 2, _, hq => first | (cases hq; done) | (exact val_op rfl (wanted_free rfl) (by clear hdep hsame hsz hdf; (try simp only [pairV, worldsQ]); go_simp) rfl rfl)
             | 3, _, hq => first | (cases hq; done) | (exact val_op rfl (wanted_free rfl) (by clear hdep hsame hsz hdf; (try simp only [pairV, worldsQ]); go_simp) rfl rfl)
             | kk + 4, hkk, _ => simp at hkk
            | 8, ho =>
             cases ho
             have h16 := (hsame 16 rfl)
             exact val_op rfl (wanted_free rfl) (by clear hdep hsame hsz hdf; (try simp only [pairV, worldsQ]); go_simp) rfl rfl
            | 9, ho =>
             cases ho
             have h106 := (hdep 7 _ 106 rfl rfl rfl)
             have h107 := (hdep 8 _ 107 rfl rfl rfl)
             simp only [pairV] at h106 h107
             exact val_op rfl (wanted_free rfl) (by clear hdep hsame hsz hdf; (try simp only [pairV, worldsQ]); go_simp) rfl rfl
            | 10, ho =>
             cases ho
             have h108 := (hdep 9 _ 108 rfl rfl rfl)
             simp only [pairV] at h108
             match kk, hkk, hmay with
             | 0, _, hq => first | (cases hq; done) | (exact val_op rfl (wanted_free rfl) (by clear hdep hsame hsz hdf; (try simp only [pairV, worldsQ]); go_simp) rfl rfl)
             | 1, _, hq => first | (cases hq; done) | (exact val_op rfl (wanted_free rfl) (by clear hdep hsame hsz hdf; (try simp only [pairV, worldsQ]); go_simp) rfl rfl)
             | 2, _, hq => first | (cases hq; done) | (exact val_op rfl (wanted_free rfl) (by clear hdep hsame hsz hdf; (try simp only [pairV, worldsQ]); go_simp) rfl rfl)
             | 3, _, hq => first | (cases hq; done) | (exact val_op rfl (wanted_free rfl) (by clear hdep hsame hsz hdf; (try simp only [pairV, worldsQ]); go_simp) rfl rfl)
             | kk + 4, hkk, _ => simp at hkk
            | 11, ho =>
             cases ho
             have h104 := (hdep 5 _ 104 rfl rfl rfl)
             have h109 := (hdep 10 _ 109 rfl rfl rfl)
             simp only [pairV] at h104 h109
             exact val_op rfl (wanted_free rfl) (by clear hdep hsame hsz hdf; (try simp only [pairV, worldsQ]); go_simp) rfl rfl
            | 12, ho =>
             cases ho
             have h110 := (hdep 11 _ 110 rfl rfl rfl)
             simp only [pairV] at h110
             match kk, hkk, hmay with
             | 0, _, _ => exact val_op rfl (wanted_free rfl) (by clear hdep hsame hsz hdf; (try simp only [pairV, worldsQ]); go_simp) rfl rfl
             | 1, _, hq => cases hq
             | 2, _, hq => cases hq
             | 3, _, hq => cases hq
             | kk + 4, hkk, _ => simp at hkk
            | 13, ho =>
             cases ho
             have h103 := eval_tmp (hdep 4 _ 103 rfl rfl rfl)
             have h111 := eval_tmp (hdep 12 _ 111 rfl rfl rfl)
             simp only [pairV] at h103 h111
             match kk, hkk, hmay with
             | 0, _, hq => cases hq
             | 1, _, _ => exact val_append rfl (wanted_free rfl) rfl h103 h111 hrun13 rfl rfl
             | 2, _, hq => cases hq
             | 3, _, hq => cases hq
             | kk + 4, hkk, _ => simp at hkk
            | 14, ho =>
             cases ho
             have h99 := (hdep 0 _ 99 rfl rfl rfl)
             simp only [pairV] at h99
             exact val_op rfl (wanted_free rfl) (by clear hdep hsame hsz hdf; (try simp only [pairV, worldsQ]); go_simp) rfl rfl
            | 15, ho =>
             cases ho
             have h113 := (hdep 14 _ 113 rfl rfl rfl)
             simp only [pairV] at h113
             exact val_op rfl (wanted_free rfl) (by clear hdep hsame hsz hdf; (try simp only [pairV, worldsQ]); go_simp) rfl rfl
            | 16, ho =>
             cases ho
             have h114 := (hdep 15 _ 114 rfl rfl rfl)
             have h112 := (hdep 13 _ 112 rfl rfl rfl)
             simp only [pairV] at h114 h112
             match kk, hkk, hmay with
             | 0, _, hq => cases hq
             | 1, _, hq => cases hq
             | 2, _, _ => exact val_skip rfl (wanted_free rfl) rfl (by clear hdep hsame hsz hdf; simp only [worldsQ]; go_simp; try exact hst3.out) rfl
             | 3, _, hq => cases hq
             | kk + 4, hkk, _ => simp at hkk
            | kk + 17, ho => simp at ho
           case done =>
            simp [filledN, pairV, worldsQ]
            clear n0 n1 n2 n3 na0 na1 na2 na3 nu0 nu1 nu2 nu3 nw0 nw1 nw2 nw3 q0 q1 q2 q3 p0 p1 p2 p3 o0 o1' o2' o3 f0 f1 f2 f3 hrun13 hst3 HW0 hcv hcv0 hcv1 hcv2 hcv3
            go_wp2
            go_roundw
            case rel => exact ⟨j + 1, _, by omega, by go_num, by rw [zip_more hky.out hvy.out, ← List.append_assoc, ← HQ.out, any_more hky.out, hw, Bool.not_true, Bool.or_false]; exact hfin.out.1, hfin.out.2.1, hfin.out.2.2⟩
            case measure => simp [intOf]; omega
          | false =>
           go_wp2_with (go_at_call 163; refine (within_any _ _ _ _).mono ?_; rintro y w2 ⟨rfl, hb⟩; rw [hw]; have G' := Grows.of_below h v1 u2' hb; replace D := D.below hb; replace G := G.trans G'; replace L := L.step G' hhlo; have NL := NH.out.stay L.st; clear G' n0 n1 n2 n3; obtain ⟨⟨n0, n1, n2, n3⟩, -⟩ := NL.box; obtain ⟨⟨q0, q1, q2, q3⟩, f0, f1, f2, f3⟩ := id D.box; clear hb NL)
           obtain ⟨D1, G1⟩ := D.setBad true
           replace D := D1
           replace G := G.trans G1
           replace L := L.step G1 hhlo
           clear D1 G1
           obtain ⟨X, hX⟩ : ∃ X, X = w2.setCell ⟨h, 3, none⟩ (.bool true) := ⟨_, rfl⟩
           rw [← hX] at D G L ⊢
           obtain ⟨W0, hW0⟩ : ∃ X', X' = X.drew := ⟨_, rfl⟩
           have hB0 : Below X.heap.size X W0 := by rw [hW0]; exact (Below.refl _ _).drew
           replace G := G.trans (Grows.of_below h v1 u2' hB0)
           replace L := L.step (Grows.of_below h v1 u2' hB0) hhlo
           replace D := D.below hB0
           have NL := NH.out.stay L.st
           obtain ⟨b3, o3, e3, -, hcv0, -⟩ := NL.i2.2.2 j vy hvy.out
           cases e3
           obtain ⟨Q, hQ⟩ : ∃ Q, Q = (t.pairs ++ (ks.zip vs).take j) := ⟨_, rfl⟩
           rw [← hQ] at D
           obtain ⟨g2, cap2, U2, hrun13, bU, D', G'⟩ := D.pushP ky vy (by show Q.length ≤ _; rw [hQ]; exact hlp.out)
           obtain ⟨W3, hW3⟩ : ∃ X', X' = U2.setCell ⟨h, 0, none⟩ (.slice (some ⟨g2, 0, none⟩) (Q.length + 1) cap2) := ⟨_, rfl⟩
           have hst3 : Hid (U2.setCell ⟨h, 0, none⟩ (.slice (some ⟨g2, 0, none⟩) (Q.length + 1) cap2) = W3) := hW3.symm
           have HW0 : Hid (W0 = X.drew) := hW0
           have hfin : Hid (TreeAt W3 h B (.slice (some ⟨g2, 0, none⟩) (Q.length + 1) cap2) u2' ⟨Q ++ [(ky, vy)], t.blocks ++ [block], t.height, true⟩ ∧ Grows h u1 (.slice ua N uc) V (.slice (some ⟨g2, 0, none⟩) (Q.length + 1) cap2) u2' W3 ∧ Loc V.heap.size (w1.alloc (.cells #[.bool true, .slice (some ⟨b1, o1, none⟩) k1 d1, .slice (some ⟨b2, o2, none⟩) k2 d2, .slice a3 k3 d3] 205)) W3 (.slice (some ⟨g2, 0, none⟩) (Q.length + 1) cap2) u2') := by rw [hW3]; exact ⟨D', G.trans G', L.step G' hhlo⟩
           have bA := D.box.alloc (.cells #[.string ky, .string vy] 210)
           have hcv1 := cell_alloc hcv0 (.cells #[.string ky, .string vy] 210)
           have nA := NL.box.alloc (.cells #[.string ky, .string vy] 210)
           have NL3 := NH.out.stay (L.step G' hhlo).st
           obtain ⟨b3, o3, e3, -, hcv3, -⟩ := NL3.i2.2.2 j vy hvy.out
           cases e3
           have hbh : ¬ b2 = h := by have := NL3.j2 _ rfl; simp at this; omega
           have hcv2 := cell_unset hcv3 hbh
           have nU := box4_unset' NL3.box hne
           have nX := NL3.box
           rw [← hW3] at hcv3 nX
           clear n0 n1 n2 n3 q0 q1 q2 q3 f0 f1 f2 f3
           have HQ : Hid (Q = t.pairs ++ (ks.zip vs).take j) := hQ
           obtain ⟨⟨n0, n1, n2, n3⟩, -⟩ := NL.box
           obtain ⟨⟨na0, na1, na2, na3⟩, -⟩ := nA
           obtain ⟨⟨nu0, nu1, nu2, nu3⟩, -⟩ := nU
           obtain ⟨⟨nw0, nw1, nw2, nw3⟩, -⟩ := nX
           obtain ⟨⟨q0, q1, q2, q3⟩, -⟩ := D.box
           obtain ⟨⟨p0, p1, p2, p3⟩, -⟩ := bA
           obtain ⟨⟨o0, o1', o2', o3⟩, f0, f1, f2, f3⟩ := bU
           clear D G L D' G' NL NL3 hX hW0 hW3 hQ hB0 hc
           refine region_worlds (by kernel_rfl) [12, 13, 16] (pairV h w1.heap.size b2 o2 j W0.heap.size g2 (Q.length + 1) cap2 v1 (.slice (some ⟨b2, o2, none⟩) k2 d2) ky vy) (worldsQ W0 (W0.alloc (.cells #[.string ky, .string vy] 210)) U2 W3) (by kernel_rfl) (by kernel_rfl) HW0.out.symm ?step 17 rfl ?done
           case step =>
            intro i o ho kk a2 hkk hmay hdf hsz hdep hsame
            match i, ho with
            | 0, ho =>
             cases ho
             have h0 := (hsame 0 rfl)
             exact val_op rfl (wanted_free rfl) (by clear hdep hsame hsz hdf; (try simp only [pairV, worldsQ]); go_simp) rfl rfl
            | 1, ho =>
             cases ho
             have h0 := (hsame 0 rfl)
             exact val_op rfl (wanted_free rfl) (by clear hdep hsame hsz hdf; (try simp only [pairV, worldsQ]); go_simp) rfl rfl
            | 2, ho =>
             cases ho
             have h100 := (hdep 1 _ 100 rfl rfl rfl)
             simp only [pairV] at h100
             exact val_op rfl (wanted_free rfl) (by clear hdep hsame hsz hdf; (try simp only [pairV, worldsQ]); go_simp) rfl rfl
            | 3, ho =>
             cases ho
             have h101 := (hdep 2 _ 101 rfl rfl rfl)
             simp only [pairV] at h101
             exact val_op rfl (wanted_free rfl) (by clear hdep hsame hsz hdf; (try simp only [pairV, worldsQ]); go_simp) rfl rfl
            | 4, ho =>
             cases ho
             have h102 := (hdep 3 _ 102 rfl rfl rfl)
             simp only [pairV] at h102
             match kk, hkk, hmay with
             | 0, _, hq => first | (cases hq; done) | (exact val_op rfl (wanted_free rfl) (by clear hdep hsame hsz hdf; (try simp only [pairV, worldsQ]); go_simp) rfl rfl)
             | 1, _, hq => first | (cases hq; done) | (exact val_op rfl (wanted_free rfl) (by clear hdep hsame hsz hdf; (try simp only [pairV, worldsQ]); go_simp) rfl rfl)
             | 2, _, hq => first | (cases hq; done) | (exact val_op rfl (wanted_free rfl) (by clear hdep hsame hsz hdf; (try simp only [pairV, worldsQ]); go_simp) rfl rfl)
             | 3, _, hq => first | (cases hq; done) | (exact val_op rfl (wanted_free rfl) (by clear hdep hsame hsz hdf; (try simp only [pairV, worldsQ]); go_simp) rfl rfl)
             | kk + 4, hkk, _ => simp at hkk
            | 5, ho =>
             cases ho
             have h17 := (hsame 17 rfl)
             exact val_op rfl (wanted_free rfl) (by clear hdep hsame hsz hdf; (try simp only [pairV, worldsQ]); go_simp) rfl rfl
            | 6, ho =>
             cases ho
             have h14 := (hsame 14 rfl)
             exact val_op rfl (wanted_free rfl) (by clear hdep hsame hsz hdf; (try simp only [pairV, worldsQ]); go_simp) rfl rfl
            | 7, ho =>
             cases ho
             have h105 := (hdep 6 _ 105 rfl rfl rfl)
             simp only [pairV] at h105
             match kk, hkk, hmay with
             | 0, _, hq => first | (cases hq; done) | (exact val_op rfl (wanted_free rfl) (by clear hdep hsame hsz hdf; (try simp only [pairV, worldsQ]); go_simp) rfl rfl)
             | 1, _, hq => first | (cases hq; done) | (exact val_op rfl (wanted_free rfl) (by clear hdep hsame hsz hdf; (try simp only [pairV, worldsQ]); go_simp) rfl rfl)
             | 2, _, hq => first | (cases hq; done) | (exact val_op rfl (wanted_free rfl) (by clear hdep hsame hsz hdf; (try simp only [pairV, worldsQ]); go_simp) rfl rfl)
             | 3, _, hq => first | (cases hq; done) | (exact val_op rfl (wanted_free rfl) (by clear hdep hsame hsz hdf; (try simp only [pairV, worldsQ]); go_simp) rfl rfl)
             | kk + 4, hkk, _ => simp at hkk
            | 8, ho =>
             cases ho
             have h16 := (hsame 16 rfl)
             exact val_op rfl (wanted_free rfl) (by clear hdep hsame hsz hdf; (try simp only [pairV, worldsQ]); go_simp) rfl rfl
            | 9, ho =>
             cases ho
             have h106 := (hdep 7 _ 106 rfl rfl rfl)
             have h107 := (hdep 8 _ 107 rfl rfl rfl)
             simp only [pairV] at h106 h107
             exact val_op rfl (wanted_free rfl) (by clear hdep hsame hsz hdf; (try simp only [pairV, worldsQ]); go_simp) rfl rfl
            | 10, ho =>
             cases ho
             have h108 := (hdep 9 _ 108 rfl rfl rfl)
             simp only [pairV] at h108
             match kk, hkk, hmay with
             | 0, _, hq => first | (cases hq; done) | (exact val_op rfl (wanted_free rfl) (by clear hdep hsame hsz hdf; (try simp only [pairV, worldsQ]); go_simp) rfl rfl)
             | 1, _, hq => first | (cases hq; done) | (exact val_op rfl (wanted_free rfl) (by clear hdep hsame hsz hdf; (try simp only [pairV, worldsQ]); go_simp) rfl rfl)
             | 2, _, hq => first | (cases hq; done) | (exact val_op rfl (wanted_free rfl) (by clear hdep hsame hsz hdf; (try simp only [pairV, worldsQ]); go_simp) rfl rfl)
             | 3, _, hq => first | (cases hq; done) | (exact val_op rfl (wanted_free rfl) (by clear hdep hsame hsz hdf; (try simp only [pairV, worldsQ]); go_simp) rfl rfl)
             | kk + 4, hkk, _ => simp at hkk
            | 11, ho =>
             cases ho
             have h104 := (hdep 5 _ 104 rfl rfl rfl)
             have h109 := (hdep 10 _ 109 rfl rfl rfl)
             simp only [pairV] at h104 h109
             exact val_op rfl (wanted_free rfl) (by clear hdep hsame hsz hdf; (try simp only [pairV, worldsQ]); go_simp) rfl rfl
            | 12, ho =>
             cases ho
             have h110 := (hdep 11 _ 110 rfl rfl rfl)
             simp only [pairV] at h110
             match kk, hkk, hmay with
             | 0, _, _ => exact val_op rfl (wanted_free rfl) (by clear hdep hsame hsz hdf; (try simp only [pairV, worldsQ]); go_simp) rfl rfl
             | 1, _, hq => cases hq
             | 2, _, hq => cases hq
             | 3, _, hq => cases hq
             | kk + 4, hkk, _ => simp at hkk
            | 13, ho =>
             cases ho
             have h103 := eval_tmp (hdep 4 _ 103 rfl rfl rfl)
             have h111 := eval_tmp (hdep 12 _ 111 rfl rfl rfl)
             simp only [pairV] at h103 h111
             match kk, hkk, hmay with
             | 0, _, hq => cases hq
             | 1, _, _ => exact val_append rfl (wanted_free rfl) rfl h103 h111 hrun13 rfl rfl
             | 2, _, hq => cases hq
             | 3, _, hq => cases hq
             | kk + 4, hkk, _ => simp at hkk
            | 14, ho =>
             cases ho
             have h99 := (hdep 0 _ 99 rfl rfl rfl)
             simp only [pairV] at h99
             exact val_op rfl (wanted_free rfl) (by clear hdep hsame hsz hdf; (try simp only [pairV, worldsQ]); go_simp) rfl rfl
            | 15, ho =>
             cases ho
             have h113 := (hdep 14 _ 113 rfl rfl rfl)
             simp only [pairV] at h113
             exact val_op rfl (wanted_free rfl) (by clear hdep hsame hsz hdf; (try simp only [pairV, worldsQ]); go_simp) rfl rfl
            | 16, ho =>
             cases ho
             have h114 := (hdep 15 _ 114 rfl rfl rfl)
             have h112 := (hdep 13 _ 112 rfl rfl rfl)
             simp only [pairV] at h114 h112
             match kk, hkk, hmay with
             | 0, _, hq => cases hq
             | 1, _, hq => cases hq
             | 2, _, _ => exact val_skip rfl (wanted_free rfl) rfl (by clear hdep hsame hsz hdf; simp only [worldsQ]; go_simp; try exact hst3.out) rfl
             | 3, _, hq => cases hq
             | kk + 4, hkk, _ => simp at hkk
            | kk + 17, ho => simp at ho
           case done =>
            simp [filledN, pairV, worldsQ]
            clear n0 n1 n2 n3 na0 na1 na2 na3 nu0 nu1 nu2 nu3 nw0 nw1 nw2 nw3 q0 q1 q2 q3 p0 p1 p2 p3 o0 o1' o2' o3 f0 f1 f2 f3 hrun13 hst3 HW0 hcv hcv0 hcv1 hcv2 hcv3
            go_wp2
            go_roundw
            case rel => exact ⟨j + 1, _, by omega, by go_num, by rw [zip_more hky.out hvy.out, ← List.append_assoc, ← HQ.out, any_more hky.out, hw, Bool.not_false, Bool.or_true]; exact hfin.out.1, hfin.out.2.1, hfin.out.2.2⟩
            case measure => simp [intOf]; omega
         ·
          obtain rfl : k1 = j := by omega
          have hj1 : ¬ (k1 : Int) < k1 := by omega
          have ek1 : ks.take k1 = ks := by rw [HE.out.1]; exact List.take_length
          have ek2 : (ks.zip vs).take k1 = ks.zip vs := List.take_of_length_le (by rw [List.length_zip, HE.out.1]; exact Nat.min_le_left _ _)
          rw [ek1, ek2] at D
          have NL := NH.out.stay L.st
          obtain ⟨⟨n0, n1, n2, n3⟩, -⟩ := NL.box
          obtain ⟨⟨q0, q1, q2, q3⟩, f0, f1, f2, f3⟩ := id D.box
          have hkl : Hid (belowS H k t block low high = (t.node block low high (true, ks, vs, cs)).leaf d) := by
           rw [Hd.out]
           exact belowS_leaf hk0 hbk.out (by rw [← Hd.out]; exact hq) rfl hke
          clear NL L ek1 ek2
          by_cases hH0 : t.height = 0
          ·
           have hb0 : (t.node block low high (true, ks, vs, cs)).leaf d = ⟨t.pairs ++ ks.zip vs, t.blocks ++ [block], d, ks.any fun k => !withinS k low high⟩ := by simp [TreeS.node, TreeS.leaf, hH0]
           obtain ⟨D', G'⟩ := D.setDeep d
           have hfin : Hid (TreeAt (wr.setCell ⟨h, 2, none⟩ (.int .i64 d)) h B v1 u2' (belowS H k t block low high) ∧ Grows h u1 (.slice ua N uc) V v1 u2' (wr.setCell ⟨h, 2, none⟩ (.int .i64 d))) := ⟨by rw [hkl.out, hb0]; exact D', G.trans G'⟩
           clear D G D' G' hb0 hkl
           go_wp2
           exact bodyPost_ret (v := .tuple #[]) (by simp [results, Tryz.results141, go_sem]) rfl ⟨rfl, v1, u2', hfin.out.1, hfin.out.2⟩
          ·
           by_cases hHd : t.height = d
           ·
            have hb0 : (t.node block low high (true, ks, vs, cs)).leaf d = ⟨t.pairs ++ ks.zip vs, t.blocks ++ [block], d, ks.any fun k => !withinS k low high⟩ := by simp [TreeS.node, TreeS.leaf, hHd]
            obtain ⟨D', G'⟩ := D.setDeep d
            have hfin : Hid (TreeAt (wr.setCell ⟨h, 2, none⟩ (.int .i64 d)) h B v1 u2' (belowS H k t block low high) ∧ Grows h u1 (.slice ua N uc) V v1 u2' (wr.setCell ⟨h, 2, none⟩ (.int .i64 d))) := ⟨by rw [hkl.out, hb0]; exact D', G.trans G'⟩
            clear D G D' G' hb0 hkl
            go_wp2
            exact bodyPost_ret (v := .tuple #[]) (by simp [results, Tryz.results141, go_sem]) rfl ⟨rfl, v1, u2', hfin.out.1, hfin.out.2⟩
           ·
            have hb0 : (t.node block low high (true, ks, vs, cs)).leaf d = ⟨t.pairs ++ ks.zip vs, t.blocks ++ [block], d, true⟩ := by simp [TreeS.node, TreeS.leaf, hHd, hH0]
            obtain ⟨D1, G1⟩ := D.setBad true
            obtain ⟨D', G'⟩ := D1.setDeep d
            have hx1 : (t.height != 0) = true := by simpa using hH0
            have hx2 : (t.height != d) = true := by simpa using hHd
            have hfin : Hid (TreeAt ((wr.setCell ⟨h, 3, none⟩ (.bool true)).setCell ⟨h, 2, none⟩ (.int .i64 d)) h B v1 u2' (belowS H k t block low high) ∧ Grows h u1 (.slice ua N uc) V v1 u2' ((wr.setCell ⟨h, 3, none⟩ (.bool true)).setCell ⟨h, 2, none⟩ (.int .i64 d))) := ⟨by rw [hkl.out, hb0]; exact D', (G.trans G1).trans G'⟩
            clear D G D' G' D1 G1 hb0 hkl
            go_wp2
            exact bodyPost_ret (v := .tuple #[]) (by simp [results, Tryz.results141, go_sem]) rfl ⟨rfl, v1, u2', hfin.out.1, hfin.out.2⟩
      | false =>
       replace hz4 : Hid (cs.length = ks.length + 1) := hz4.out rfl
       clear hz3
       have tkA : True := trivial
       have hlb : Hid (t.blocks.length ≤ 1000000000000) := Nat.le_trans (Nat.le_add_right _ _) HM.out.1
       have hbk : Hid ((t.bad || t.blocks.contains block) = false) := HBB.out.symm
       go_wp2_with (first
        | (go_at_call 162; refine (cY _ _ _ _ HBw hq).mono ?_; rintro y w1 ⟨k1, a1, d1, k2, a2, d2, k3, a3, d3, rfl, e1, e2, e3, i1, i2, i3, j1, j2, j3, hb⟩; have hA : Below w1.heap.size w1 (w1.alloc (.cells #[.bool false, .slice a1 k1 d1, .slice a2 k2 d2, .slice a3 k3 d3] 205)) := (Below.refl _ _).alloc (Nat.le_refl _) _; have hlo : V.heap.size ≤ wr.heap.size := G.t.size; have hlo1 : wr.heap.size ≤ w1.heap.size := hb.size; have NL := nodeLo_new w1 V.heap.size w1.heap.size false rfl (by omega) e1 e2 e3 i1 i2 i3 (j1.mono hlo) (j2.mono hlo) (j3.mono hlo); replace D := (D.below hb).below hA; replace G := (G.trans (Grows.of_below h _ _ hb)).trans (Grows.of_below h _ _ hA); replace WB := (WB.below hb).below hA; clear q0 q1 q2 q3 f0 f1 f2 f3 x0 x1 x2 x3 x4; obtain ⟨⟨q0, q1, q2, q3⟩, f0, f1, f2, f3⟩ := id D.box; obtain ⟨⟨n0, n1, n2, n3⟩, -⟩ := NL.box;  replace e1 : k1 = ks.length := e1; replace e2 : k2 = vs.length := e2; replace e3 : k3 = cs.length := e3; have L2 : Loc V.heap.size (w1.alloc (.cells #[.bool false, .slice a1 k1 d1, .slice a2 k2 d2, .slice a3 k3 d3] 205)) (w1.alloc (.cells #[.bool false, .slice a1 k1 d1, .slice a2 k2 d2, .slice a3 k3 d3] 205)) u1 (.slice ua N uc) := ⟨Turns.refl _ _, fun g hg => .inl (hg.elim (fun e => (T0.out.r1.lt g e).2) (fun e => (T0.out.r2.lt g e).2))⟩; have NH : Hid (NodeLo (w1.alloc (.cells #[.bool false, .slice a1 k1 d1, .slice a2 k2 d2, .slice a3 k3 d3] 205)) V.heap.size w1.heap.size false a1 k1 d1 a2 k2 d2 a3 k3 d3 ks vs cs) := NL; have WBH : Hid (WoodBox (w1.alloc (.cells #[.bool false, .slice a1 k1 d1, .slice a2 k2 d2, .slice a3 k3 d3] 205)) V.heap.size (.slice a n c) (.slice a' n' c') (.slice b p f) (.int .i64 root) (.int .i64 gen)) := WB; have HE : Hid (k1 = ks.length ∧ k2 = vs.length ∧ k3 = cs.length) := ⟨e1, e2, e3⟩; have mk1 : k1 ≤ 9 := (by rw [e1]; exact hz1.out); have mk3 : k3 ≤ 10 := (by rw [e3]; exact hz2.out); clear NL hb hA e1 e2 e3 i1 i2 i3 j1 j2 j3 hlo hlo1)
        | (at_builtin; have _t := tkA; clear _t tkA; obtain ⟨g, cap, U, hrun, bU, D', G'⟩ := D.pushB block hlb.out; simp only [World.size_alloc] at hrun; refine Lib.wpList_append_run _ rfl _ _ _ _ rfl _ _ rfl rfl _ _ hrun ?_; replace G := G.trans G'; replace L2 := L2.step G' hhlo; have NL := NH.out.stay L2.st; have hne : ¬ w1.heap.size = h := (by have := NH.out.j0; omega); clear hrun D q0 q1 q2 q3 f0 f1 f2 f3 n0 n1 n2 n3; have D := D'; clear D' G'; obtain ⟨⟨q0, q1, q2, q3⟩, f0, f1, f2, f3⟩ := id bU; obtain ⟨⟨n0, n1, n2, n3⟩, -⟩ := box4_unset' NL.box hne; clear bU NL))
       obtain ⟨u2', hu2'⟩ : ∃ x, x = Value.slice (some ⟨g, 0, none⟩) (t.blocks.length + 1) cap := ⟨_, rfl⟩
       rw [← hu2'] at D G L2 ⊢
       clear q0 q1 q2 q3 f0 f1 f2 f3 n0 n1 n2 n3 hu2' WB
       go_loopw [84] (fun v wr => ∃ (j : Nat) (v1 : Value), j ≤ k1 ∧ v = .int .i64 j ∧ TreeAt wr h B v1 u2' ⟨t.pairs, t.blocks ++ [block], t.height, (ks.take j).any fun k => !withinS k low high⟩ ∧ Grows h u1 (.slice ua N uc) V v1 u2' wr ∧ Loc V.heap.size (w1.alloc (.cells #[.bool false, .slice a1 k1 d1, .slice a2 k2 d2, .slice a3 k3 d3] 205)) wr v1 u2') (fun v _ => k1 - (intOf v).toNat)
       case atStart => exact ⟨0, u1, by omega, rfl, by rw [List.take_zero, List.any_nil]; exact D, G, L2⟩
       case round =>
        clear D G L2
        obtain ⟨j, v1, hj, rfl, D, G, L⟩ := hrel
        by_cases hlt : j < k1
        ·
         have hlt' : (j : Int) < k1 := by omega
         have NL := NH.out.stay L.st
         obtain ⟨ky, hky⟩ : ∃ x, Hid (ks[j]? = some x) := ⟨_, List.getElem?_eq_getElem (by rw [← HE.out.1]; exact hlt)⟩
         obtain ⟨b1, o1, rfl, -, hc, -⟩ := NL.i1.2.2 j ky hky.out
         obtain ⟨⟨n0, n1, n2, n3⟩, -⟩ := NL.box
         clear NL
         cases hw : withinS ky low high with
         | true =>
          go_wp2_with (go_at_call 163; refine (within_any _ _ _ _).mono ?_; rintro y w2 ⟨rfl, hb⟩; rw [hw]; have G' := Grows.of_below h v1 u2' hb; replace D := D.below hb; replace G := G.trans G'; replace L := L.step G' hhlo; have NL := NH.out.stay L.st; clear G' n0 n1 n2 n3; obtain ⟨⟨n0, n1, n2, n3⟩, -⟩ := NL.box; obtain ⟨⟨q0, q1, q2, q3⟩, f0, f1, f2, f3⟩ := id D.box; clear hb NL)
          clear n0 n1 n2 n3 q0 q1 q2 q3 f0 f1 f2 f3
          go_roundw
          case rel => exact ⟨j + 1, v1, by omega, by go_num, by rw [any_more hky.out, hw, Bool.not_true, Bool.or_false]; exact D, G, L⟩
          case measure => simp [intOf]; omega
         | false =>
          go_wp2_with (go_at_call 163; refine (within_any _ _ _ _).mono ?_; rintro y w2 ⟨rfl, hb⟩; rw [hw]; have G' := Grows.of_below h v1 u2' hb; replace D := D.below hb; replace G := G.trans G'; replace L := L.step G' hhlo; have NL := NH.out.stay L.st; clear G' n0 n1 n2 n3; obtain ⟨⟨n0, n1, n2, n3⟩, -⟩ := NL.box; obtain ⟨⟨q0, q1, q2, q3⟩, f0, f1, f2, f3⟩ := id D.box; clear hb NL)
          obtain ⟨D', G'⟩ := D.setBad true
          clear n0 n1 n2 n3 q0 q1 q2 q3 f0 f1 f2 f3
          go_roundw
          case rel => exact ⟨j + 1, v1, by omega, by go_num, by rw [any_more hky.out, hw, Bool.not_false, Bool.or_true]; exact D', G.trans G', L.step G' hhlo⟩
          case measure => simp [intOf]; omega
        ·
         obtain rfl : k1 = j := by omega
         have hj1 : ¬ (k1 : Int) < k1 := by omega
         have ek1 : ks.take k1 = ks := by rw [HE.out.1]; exact List.take_length
         rw [ek1] at D
         obtain ⟨kk, rfl⟩ : ∃ kk, k = kk + 1 := ⟨k - 1, by omega⟩
         obtain ⟨tn, htn⟩ : ∃ x, x = t.node block low high (false, ks, vs, cs) := ⟨_, rfl⟩
         replace D : TreeAt wr h B v1 u2' tn := by rw [htn]; exact D
         have HTN : Hid (tn = t.node block low high (false, ks, vs, cs)) := htn
         have hkl : Hid (belowS H (kk + 1) t block low high = (kidsT low high ks cs).foldl (fun (t : TreeS) (x : Int × ByteArray × ByteArray) => if t.bad then t else belowS H kk t x.1 x.2.1 x.2.2) tn) := by
          rw [htn]
          exact belowS_inner hbk.out (by rw [← Hd.out]; exact hq) rfl
         have hd1 : 1 ≤ d := by rw [Hd.out]; omega
         obtain ⟨X2, hX2⟩ : ∃ X, X = (w1.alloc (.cells #[.bool false, .slice a1 k1 d1, .slice a2 k2 d2, .slice a3 k3 d3] 205)) := ⟨_, rfl⟩
         rw [← hX2] at L NH WBH
         clear hX2
         have IH : Hid (∀ (V : World) (u1 u2 : Value) (t : TreeS) (block : Int) (low high : ByteArray), Below w.heap.size w V → TreeAt V h B u1 u2 t → t.blocks.length + 2 * 10 ^ kk ≤ 1000000000000 → t.pairs.length + 18 * 10 ^ kk ≤ 1000000000000 →
            Calls Tryz.prog 141 #[.pointer (some ⟨h, 0, none⟩), (.agg #[.slice a n c, .slice a' n' c', .slice b p f, .int .i64 root, .int .i64 gen]), .int .i64 block, .int .i64 (d + 1), .string low, .string high] V fun e V' => e = .returned (.tuple #[]) ∧ ∃ u1' u2', TreeAt V' h B u1' u2' (belowS H kk t block low high) ∧ Grows h u1 u2 V u1' u2' V') := by
          have e : d + 1 = 9 - (kk : Int) := by rw [Hd.out]; omega
          rw [e]
          exact ih kk rfl
         clear ih
         have NL := NH.out.stay L.st
         obtain ⟨⟨n0, n1, n2, n3⟩, -⟩ := NL.box
         clear NL ek1 htn
         go_wp2
         clear n0 n1 n2 n3
         go_loopw [141] (fun v wr => ∃ (j : Nat) (y1 y2 : Value), j ≤ k3 ∧ v = .int .i64 j ∧ TreeAt wr h B y1 y2 (((kidsT low high ks cs).take j).foldl (fun (t : TreeS) (x : Int × ByteArray × ByteArray) => if t.bad then t else belowS H kk t x.1 x.2.1 x.2.2) tn) ∧ Grows h u1 (.slice ua N uc) V y1 y2 wr ∧ Loc V.heap.size X2 wr y1 y2) (fun v _ => k3 - (intOf v).toNat)
         case atStart => exact ⟨0, v1, u2', by omega, rfl, by rw [List.take_zero]; exact D, G, L⟩
         case round =>
          clear D G L
          obtain ⟨j, y1, y2, hj3, rfl, D, G, L⟩ := hrel
          by_cases hlt : j < k3
          ·
           have hlt' : (j : Int) < k3 := by omega
           have NL := NH.out.stay L.st
           obtain ⟨kb, hkb⟩ : ∃ x, Hid (cs[j]? = some x) := ⟨_, List.getElem?_eq_getElem (by rw [← HE.out.2.2]; exact hlt)⟩
           have hkT : Hid ((kidsT low high ks cs)[j]? = some (kb, kidFrom low ks j, kidTo high ks j)) := kidsT_get hkb.out
           obtain ⟨b3, o3, rfl, -, hc3⟩ := NL.i3.2.2 j kb hkb.out
           have hroom : Hid ((((kidsT low high ks cs).take j).foldl (fun (t : TreeS) (x : Int × ByteArray × ByteArray) => if t.bad then t else belowS H kk t x.1 x.2.1 x.2.2) tn).blocks.length + 2 * 10 ^ kk ≤ 1000000000000 ∧ (((kidsT low high ks cs).take j).foldl (fun (t : TreeS) (x : Int × ByteArray × ByteArray) => if t.bad then t else belowS H kk t x.1 x.2.1 x.2.2) tn).pairs.length + 18 * 10 ^ kk ≤ 1000000000000) := by
            obtain ⟨r1, r2⟩ := kids_room (fun b r n hn => ⟨(hH b r n hn).1, (hH b r n hn).2.1⟩) (k := kk) (t := t) (block := block) (low := low) (high := high) (n := (false, ks, vs, cs)) hz1.out (j := j) (by omega) ((kidsT low high ks cs).take j) (by rw [List.length_take, kidsT_length, ← HE.out.2.2]; omega)
            rw [HTN.out]
            exact ⟨Nat.le_trans r1 HM.out.1, Nat.le_trans r2 HM.out.2⟩
           have hnext : Hid (((kidsT low high ks cs).take (j + 1)).foldl (fun (t : TreeS) (x : Int × ByteArray × ByteArray) => if t.bad then t else belowS H kk t x.1 x.2.1 x.2.2) tn = (fun (t : TreeS) (x : Int × ByteArray × ByteArray) => if t.bad then t else belowS H kk t x.1 x.2.1 x.2.2) (((kidsT low high ks cs).take j).foldl (fun (t : TreeS) (x : Int × ByteArray × ByteArray) => if t.bad then t else belowS H kk t x.1 x.2.1 x.2.2) tn) (kb, kidFrom low ks j, kidTo high ks j)) := fold_more hkT.out tn
           obtain ⟨TT, hTT⟩ : ∃ x, x = ((kidsT low high ks cs).take j).foldl (fun (t : TreeS) (x : Int × ByteArray × ByteArray) => if t.bad then t else belowS H kk t x.1 x.2.1 x.2.2) tn := ⟨_, rfl⟩
           rw [← hTT] at D hroom hnext
           clear hTT
           have WB := WBH.out.turns L.st (Nat.lt_irrefl _)
           have HBw2 : Below w.heap.size w wr := Grows.low (S := 0) T0.out G HB.out hh.out
           obtain ⟨x0, x1, x2, x3, x4⟩ := id WB
           obtain ⟨⟨n0, n1, n2, n3⟩, -⟩ := NL.box
           obtain ⟨⟨q0, q1, q2, q3⟩, f0, f1, f2, f3⟩ := id D.box
           clear WB
           cases j with
           | zero =>
            simp only [Nat.add_zero] at hc3
            have hfr : Hid (kidFrom low ks 0 = low) := rfl
            by_cases hjk : 0 < k1
            ·
             have hjk' : (0 : Int) < k1 := by omega
             obtain ⟨kz, hkz⟩ : ∃ x, Hid (ks[0]? = some x) := get_some (by rw [← HE.out.1]; exact hjk)
             obtain ⟨b1, o1, rfl, -, hcz, -⟩ := NL.i1.2.2 0 kz hkz.out
             simp only [Nat.add_zero] at hcz
             have hto : Hid (kidTo high ks 0 = kz) := by show _ = _; unfold kidTo; rw [if_pos (by rw [← HE.out.1]; exact hjk), List.getD_eq_getElem?_getD, hkz.out]; rfl
             replace hnext : Hid (((kidsT low high ks cs).take (0 + 1)).foldl (fun (t : TreeS) (x : Int × ByteArray × ByteArray) => if t.bad then t else belowS H kk t x.1 x.2.1 x.2.2) tn = (fun (t : TreeS) (x : Int × ByteArray × ByteArray) => if t.bad then t else belowS H kk t x.1 x.2.1 x.2.2) TT (kb, low, kz)) := by have e := hnext.out; rw [hfr.out, hto.out] at e; exact e
             clear NL hkT
             cases hbad : TT.bad with
             | true =>
              rw [hbad] at q3
              have hfin : Hid (TreeAt wr h B y1 y2 (((kidsT low high ks cs).take (0 + 1)).foldl (fun (t : TreeS) (x : Int × ByteArray × ByteArray) => if t.bad then t else belowS H kk t x.1 x.2.1 x.2.2) tn) ∧ Grows h u1 (.slice ua N uc) V y1 y2 wr ∧ Loc V.heap.size X2 wr y1 y2) := ⟨by rw [hnext.out]; show TreeAt wr h B y1 y2 (if TT.bad then TT else _); rw [if_pos hbad]; exact D, G, L⟩
              clear D G L hbad hnext
              go_wp2
              go_roundw
              case rel => exact ⟨0 + 1, y1, y2, by omega, by go_num, hfin.out.1, hfin.out.2.1, hfin.out.2.2⟩
              case measure => simp [intOf]; omega
             | false =>
              rw [hbad] at q3
              have hnx : Hid (∀ T', T' = (fun (t : TreeS) (x : Int × ByteArray × ByteArray) => if t.bad then t else belowS H kk t x.1 x.2.1 x.2.2) TT (kb, low, kz) → T' = belowS H kk TT kb low kz) := fun T' e => by rw [e]; show (if TT.bad then TT else _) = _; rw [if_neg (by rw [hbad]; decide)]
              clear hbad
              go_wp2_with (go_at_call 141; refine (IH.out _ _ _ _ _ _ _ HBw2 D hroom.out.1 hroom.out.2).mono ?_; rintro y w3 ⟨rfl, z1, z2, D', G'⟩; clear q0 q1 q2 q3 f0 f1 f2 f3 n0 n1 n2 n3 x0 x1 x2 x3 x4)
              go_roundw
              case rel => exact ⟨0 + 1, z1, z2, by omega, by go_num, by rw [hnx.out _ hnext.out]; exact D', G.trans G', L.step G' hhlo⟩
              case measure => simp [intOf]; omega
            ·
             have hjk' : ¬ (0 : Int) < k1 := by omega
             have hto : Hid (kidTo high ks 0 = high) := by show _ = _; unfold kidTo; rw [if_neg (by rw [← HE.out.1]; exact hjk)]
             replace hnext : Hid (((kidsT low high ks cs).take (0 + 1)).foldl (fun (t : TreeS) (x : Int × ByteArray × ByteArray) => if t.bad then t else belowS H kk t x.1 x.2.1 x.2.2) tn = (fun (t : TreeS) (x : Int × ByteArray × ByteArray) => if t.bad then t else belowS H kk t x.1 x.2.1 x.2.2) TT (kb, low, high)) := by have e := hnext.out; rw [hfr.out, hto.out] at e; exact e
             clear NL hkT
             cases hbad : TT.bad with
             | true =>
              rw [hbad] at q3
              have hfin : Hid (TreeAt wr h B y1 y2 (((kidsT low high ks cs).take (0 + 1)).foldl (fun (t : TreeS) (x : Int × ByteArray × ByteArray) => if t.bad then t else belowS H kk t x.1 x.2.1 x.2.2) tn) ∧ Grows h u1 (.slice ua N uc) V y1 y2 wr ∧ Loc V.heap.size X2 wr y1 y2) := ⟨by rw [hnext.out]; show TreeAt wr h B y1 y2 (if TT.bad then TT else _); rw [if_pos hbad]; exact D, G, L⟩
              clear D G L hbad hnext
              go_wp2
              go_roundw
              case rel => exact ⟨0 + 1, y1, y2, by omega, by go_num, hfin.out.1, hfin.out.2.1, hfin.out.2.2⟩
              case measure => simp [intOf]; omega
             | false =>
              rw [hbad] at q3
              have hnx : Hid (∀ T', T' = (fun (t : TreeS) (x : Int × ByteArray × ByteArray) => if t.bad then t else belowS H kk t x.1 x.2.1 x.2.2) TT (kb, low, high) → T' = belowS H kk TT kb low high) := fun T' e => by rw [e]; show (if TT.bad then TT else _) = _; rw [if_neg (by rw [hbad]; decide)]
              clear hbad
              go_wp2_with (go_at_call 141; refine (IH.out _ _ _ _ _ _ _ HBw2 D hroom.out.1 hroom.out.2).mono ?_; rintro y w3 ⟨rfl, z1, z2, D', G'⟩; clear q0 q1 q2 q3 f0 f1 f2 f3 n0 n1 n2 n3 x0 x1 x2 x3 x4)
              go_roundw
              case rel => exact ⟨0 + 1, z1, z2, by omega, by go_num, by rw [hnx.out _ hnext.out]; exact D', G.trans G', L.step G' hhlo⟩
              case measure => simp [intOf]; omega
           | succ i =>
            have hlk : i < ks.length := by have := hz4.out; have := HE.out.2.2; omega
            obtain ⟨ka, hka⟩ : ∃ x, Hid (ks[i]? = some x) := ⟨_, List.getElem?_eq_getElem hlk⟩
            obtain ⟨b1, o1, rfl, -, hca, -⟩ := NL.i1.2.2 i ka hka.out
            have hfr : Hid (kidFrom low ks (i + 1) = ka) := by show _ = _; unfold kidFrom; rw [if_neg (by omega), Nat.add_sub_cancel, List.getD_eq_getElem?_getD, hka.out]; rfl
            have hia : (i : Int) < k1 := by rw [HE.out.1]; omega
            have hpos : (0 : Int) < (i : Int) + 1 := by omega
            clear hlk
            by_cases hjk : i + 1 < k1
            ·
             have hjk' : (i : Int) + 1 < k1 := by omega
             obtain ⟨kz, hkz⟩ : ∃ x, Hid (ks[i + 1]? = some x) := get_some (by rw [← HE.out.1]; exact hjk)
             obtain ⟨b2, o2, eb, -, hcz, -⟩ := NL.i1.2.2 (i + 1) kz hkz.out
             cases eb
             have hto : Hid (kidTo high ks (i + 1) = kz) := by show _ = _; unfold kidTo; rw [if_pos (by rw [← HE.out.1]; exact hjk), List.getD_eq_getElem?_getD, hkz.out]; rfl
             replace hnext : Hid (((kidsT low high ks cs).take (i + 1 + 1)).foldl (fun (t : TreeS) (x : Int × ByteArray × ByteArray) => if t.bad then t else belowS H kk t x.1 x.2.1 x.2.2) tn = (fun (t : TreeS) (x : Int × ByteArray × ByteArray) => if t.bad then t else belowS H kk t x.1 x.2.1 x.2.2) TT (kb, ka, kz)) := by have e := hnext.out; rw [hfr.out, hto.out] at e; exact e
             clear NL hkT
             cases hbad : TT.bad with
             | true =>
              rw [hbad] at q3
              have hfin : Hid (TreeAt wr h B y1 y2 (((kidsT low high ks cs).take (i + 1 + 1)).foldl (fun (t : TreeS) (x : Int × ByteArray × ByteArray) => if t.bad then t else belowS H kk t x.1 x.2.1 x.2.2) tn) ∧ Grows h u1 (.slice ua N uc) V y1 y2 wr ∧ Loc V.heap.size X2 wr y1 y2) := ⟨by rw [hnext.out]; show TreeAt wr h B y1 y2 (if TT.bad then TT else _); rw [if_pos hbad]; exact D, G, L⟩
              clear D G L hbad hnext
              go_wp2
              go_roundw
              case rel => exact ⟨i + 1 + 1, y1, y2, by omega, by go_num, hfin.out.1, hfin.out.2.1, hfin.out.2.2⟩
              case measure => simp [intOf]; omega
             | false =>
              rw [hbad] at q3
              have hnx : Hid (∀ T', T' = (fun (t : TreeS) (x : Int × ByteArray × ByteArray) => if t.bad then t else belowS H kk t x.1 x.2.1 x.2.2) TT (kb, ka, kz) → T' = belowS H kk TT kb ka kz) := fun T' e => by rw [e]; show (if TT.bad then TT else _) = _; rw [if_neg (by rw [hbad]; decide)]
              clear hbad
              go_wp2_with (go_at_call 141; refine (IH.out _ _ _ _ _ _ _ HBw2 D hroom.out.1 hroom.out.2).mono ?_; rintro y w3 ⟨rfl, z1, z2, D', G'⟩; clear q0 q1 q2 q3 f0 f1 f2 f3 n0 n1 n2 n3 x0 x1 x2 x3 x4)
              go_roundw
              case rel => exact ⟨i + 1 + 1, z1, z2, by omega, by go_num, by rw [hnx.out _ hnext.out]; exact D', G.trans G', L.step G' hhlo⟩
              case measure => simp [intOf]; omega
            ·
             have hjk' : ¬ (i : Int) + 1 < k1 := by omega
             have hto : Hid (kidTo high ks (i + 1) = high) := by show _ = _; unfold kidTo; rw [if_neg (by rw [← HE.out.1]; exact hjk)]
             replace hnext : Hid (((kidsT low high ks cs).take (i + 1 + 1)).foldl (fun (t : TreeS) (x : Int × ByteArray × ByteArray) => if t.bad then t else belowS H kk t x.1 x.2.1 x.2.2) tn = (fun (t : TreeS) (x : Int × ByteArray × ByteArray) => if t.bad then t else belowS H kk t x.1 x.2.1 x.2.2) TT (kb, ka, high)) := by have e := hnext.out; rw [hfr.out, hto.out] at e; exact e
             clear NL hkT
             cases hbad : TT.bad with
             | true =>
              rw [hbad] at q3
              have hfin : Hid (TreeAt wr h B y1 y2 (((kidsT low high ks cs).take (i + 1 + 1)).foldl (fun (t : TreeS) (x : Int × ByteArray × ByteArray) => if t.bad then t else belowS H kk t x.1 x.2.1 x.2.2) tn) ∧ Grows h u1 (.slice ua N uc) V y1 y2 wr ∧ Loc V.heap.size X2 wr y1 y2) := ⟨by rw [hnext.out]; show TreeAt wr h B y1 y2 (if TT.bad then TT else _); rw [if_pos hbad]; exact D, G, L⟩
              clear D G L hbad hnext
              go_wp2
              go_roundw
              case rel => exact ⟨i + 1 + 1, y1, y2, by omega, by go_num, hfin.out.1, hfin.out.2.1, hfin.out.2.2⟩
              case measure => simp [intOf]; omega
             | false =>
              rw [hbad] at q3
              have hnx : Hid (∀ T', T' = (fun (t : TreeS) (x : Int × ByteArray × ByteArray) => if t.bad then t else belowS H kk t x.1 x.2.1 x.2.2) TT (kb, ka, high) → T' = belowS H kk TT kb ka high) := fun T' e => by rw [e]; show (if TT.bad then TT else _) = _; rw [if_neg (by rw [hbad]; decide)]
              clear hbad
              go_wp2_with (go_at_call 141; refine (IH.out _ _ _ _ _ _ _ HBw2 D hroom.out.1 hroom.out.2).mono ?_; rintro y w3 ⟨rfl, z1, z2, D', G'⟩; clear q0 q1 q2 q3 f0 f1 f2 f3 n0 n1 n2 n3 x0 x1 x2 x3 x4)
              go_roundw
              case rel => exact ⟨i + 1 + 1, z1, z2, by omega, by go_num, by rw [hnx.out _ hnext.out]; exact D', G.trans G', L.step G' hhlo⟩
              case measure => simp [intOf]; omega
          ·
           obtain rfl : k3 = j := by omega
           have ek3 : (kidsT low high ks cs).take k3 = kidsT low high ks cs := List.take_of_length_le (by rw [kidsT_length, HE.out.2.2]; exact Nat.le_refl _)
           rw [ek3, ← hkl.out] at D
           have hj4 : ¬ (k3 : Int) < k3 := by omega
           clear ek3 L
           go_wp2
           go_end0
           exact ⟨rfl, y1, y2, D, G⟩
theorem below_any {w : World} {H : Int → Bool → Option NodeS} (h B : Nat) (a a' b : Option Addr) (n c n' c' p f : Nat) (root gen : Int) (hh : w.heap.size ≤ h)
  (cN : ∀ V block r, Below w.heap.size w V → H block r = none → Calls Tryz.prog 162 #[(.agg #[.slice a n c, .slice a' n' c', .slice b p f, .int .i64 root, .int .i64 gen]), .int .i64 block, .bool r] V fun x V' => x = .returned (.tuple #[.agg #[.bool false, .slice none 0 0, .slice none 0 0, .slice none 0 0], .bool false]) ∧ Below V.heap.size V V')
  (cY : ∀ V block r (nd : NodeS), Below w.heap.size w V → H block r = some nd → Calls Tryz.prog 162 #[(.agg #[.slice a n c, .slice a' n' c', .slice b p f, .int .i64 root, .int .i64 gen]), .int .i64 block, .bool r] V fun x V' => ∃ k1 a1 d1 k2 a2 d2 k3 a3 d3, x = .returned (.tuple #[.agg #[.bool nd.1, .slice a1 k1 d1, .slice a2 k2 d2, .slice a3 k3 d3], .bool true]) ∧ k1 = nd.2.1.length ∧ k2 = nd.2.2.1.length ∧ k3 = nd.2.2.2.length ∧ IsS V' a1 d1 nd.2.1 ∧ IsS V' a2 d2 nd.2.2.1 ∧ IsI V' a3 d3 nd.2.2.2 ∧ From V.heap.size a1 ∧ From V.heap.size a2 ∧ From V.heap.size a3 ∧ Below V.heap.size V V')
  (hH : ∀ b r (nd : NodeS), H b r = some nd → nd.2.1.length ≤ 9 ∧ nd.2.2.2.length ≤ 10 ∧ (nd.1 = true → nd.2.2.1.length = nd.2.1.length) ∧ (nd.1 = false → nd.2.2.2.length = nd.2.1.length + 1))
  : ∀ (k : Nat), k ≤ 8 → ∀ (V : World) (u1 u2 : Value) (t : TreeS) (block : Int) (low high : ByteArray), Below w.heap.size w V → TreeAt V h B u1 u2 t → t.blocks.length + 2 * 10 ^ k ≤ 1000000000000 → t.pairs.length + 18 * 10 ^ k ≤ 1000000000000 →
   Calls Tryz.prog 141 #[.pointer (some ⟨h, 0, none⟩), (.agg #[.slice a n c, .slice a' n' c', .slice b p f, .int .i64 root, .int .i64 gen]), .int .i64 block, .int .i64 (9 - (k : Int)), .string low, .string high] V fun e V' => e = .returned (.tuple #[]) ∧ ∃ u1' u2', TreeAt V' h B u1' u2' (belowS H k t block low high) ∧ Grows h u1 u2 V u1' u2' V'
 | 0, hk => below_step h B a a' b n c n' c' p f root gen hh cN cY hH 0 hk (fun k' e => by omega)
 | k + 1, hk => below_step h B a a' b n c n' c' p f root gen hh cN cY hH (k + 1) hk (fun k' e => by
   obtain rfl : k = k' := by omega
   exact below_any h B a a' b n c n' c' p f root gen hh cN cY hH k (by omega))
end Go.Proofs.YtaobfgplheoefaaGreat
namespace Go.Proofs.YtaobfgplheoefaaGreat
open Go.RowKit Plain
set_option linter.unusedVariables false
theorem stands_few {l : Bool} {ks vs : List ByteArray} {cs : List Int} (h : ¬ ks.length ≤ 9) : standsN l ks vs cs = false := by
 rw [Bool.eq_false_iff]; exact fun hh => h (standsN_iff.1 hh).1
theorem stands_key {l : Bool} {ks vs : List ByteArray} {cs : List Int} {j : Nat} {x : ByteArray} (hj : ks[j]? = some x) (h : ¬ (1 ≤ x.size ∧ x.size ≤ 32)) : standsN l ks vs cs = false := by
 rw [Bool.eq_false_iff]; exact fun hh => h ((standsN_iff.1 hh).2.1 x (List.mem_of_getElem? hj))
theorem stands_fall {l : Bool} {ks vs : List ByteArray} {cs : List Int} {j : Nat} {x y : ByteArray} (hj : ks[j]? = some x) (hj' : ks[j + 1]? = some y) (h : ltB x y = false) : standsN l ks vs cs = false := by
 rw [Bool.eq_false_iff]
 intro hh
 have := rising_next.1 (standsN_iff.1 hh).2.2.1 j x y hj hj'
 rw [h] at this; cases this
theorem stands_val {l : Bool} {ks vs : List ByteArray} {cs : List Int} {j : Nat} {x : ByteArray} (hj : vs[j]? = some x) (h : ¬ x.size ≤ 200) : standsN l ks vs cs = false := by
 rw [Bool.eq_false_iff]; exact fun hh => h ((standsN_iff.1 hh).2.2.2.1 x (List.mem_of_getElem? hj))
theorem stands_kid {l : Bool} {ks vs : List ByteArray} {cs : List Int} {j : Nat} {x : Int} (hj : cs[j]? = some x) (h : ¬ (10 ≤ x ∧ x ≤ 2047)) : standsN l ks vs cs = false := by
 rw [Bool.eq_false_iff]; exact fun hh => h ((standsN_iff.1 hh).2.2.2.2.1 x (List.mem_of_getElem? hj))
theorem stands_all {l : Bool} {ks vs : List ByteArray} {cs : List Int} (h9 : ks.length ≤ 9) (hk : keysTo ks ks.length) (hv : allTo (fun v => v.size ≤ 200) vs vs.length) (hc : allTo (fun c => 10 ≤ c ∧ c ≤ 2047) cs cs.length) :
  standsN l ks vs cs = shapeN l ks.length vs.length cs.length := by
 have idx {α : Type} {xs : List α} {x : α} (h : x ∈ xs) : ∃ i, i < xs.length ∧ xs[i]? = some x := by
  obtain ⟨i, hi, e⟩ := List.getElem_of_mem h
  exact ⟨i, hi, by rw [List.getElem?_eq_getElem hi, e]⟩
 have key : (∀ k ∈ ks, 1 ≤ k.size ∧ k.size ≤ 32) := fun k hm => by obtain ⟨i, hi, e⟩ := idx hm; exact hk.1 i k hi e
 have ris : risingK ks = true := rising_next.2 fun i x y hx hy => hk.2 i x y (List.getElem?_eq_some_iff.1 hy).1 hx hy
 have val : (∀ v ∈ vs, v.size ≤ 200) := fun k hm => by obtain ⟨i, hi, e⟩ := idx hm; exact hv i k hi e
 have kid : (∀ c ∈ cs, 10 ≤ c ∧ c ≤ 2047) := fun k hm => by obtain ⟨i, hi, e⟩ := idx hm; exact hc i k hi e
 rw [Bool.eq_iff_iff, standsN_iff]
 exact ⟨fun h => h.2.2.2.2.2, fun h => ⟨h9, key, ris, val, kid, h⟩⟩
theorem le_text (k p : ByteArray) : (Op.bytesLess k.toList p.toList || k.toList == p.toList) = !ltB p k := by
 cases h : ltB p k with
 | true =>
  have h1 : Op.bytesLess k.toList p.toList = false := ltB_asymm h
  have h2 : ¬ k = p := by rintro rfl; rw [ltB_irrefl] at h; cases h
  rw [h1, str_eq_false h2]; rfl
 | false =>
  cases h1 : ltB k p with
  | true =>
   have : Op.bytesLess k.toList p.toList = true := h1
   rw [this]; rfl
  | false =>
   have := str_eq_true (ltB_total h1 h)
   rw [this]; simp
set_option maxRecDepth 20000 in
set_option maxHeartbeats 2000000 in
theorem refStands_any (l : Bool) (a a' a'' : Option Addr) (c c' c'' : Nat) (ks vs : List ByteArray) (cs : List Int) (w : World) (hK : IsS w a c ks) (hV : IsS w a' c' vs) (hC : IsI w a'' c'' cs) :
  Calls Tryz.prog 186 #[.agg #[.bool l, .slice a ks.length c, .slice a' vs.length c', .slice a'' cs.length c'']] w fun e w' => e = .returned (.bool (standsN l ks vs cs)) ∧ Below w.heap.size w w' := by
 obtain ⟨n, hn⟩ : ∃ n, n = ks.length := ⟨_, rfl⟩
 obtain ⟨n', hn'⟩ : ∃ n, n = vs.length := ⟨_, rfl⟩
 obtain ⟨n'', hn''⟩ : ∃ n, n = cs.length := ⟨_, rfl⟩
 have hB0 : Below w.heap.size w (w.alloc (.cells #[.bool l, .slice a n c, .slice a' n' c', .slice a'' n'' c''] 205)) := (Below.refl _ _).alloc (Nat.le_refl _) _
 have HK : Hid (IsS _ a c ks) := hK.below hB0
 have HV : Hid (IsS _ a' c' vs) := hV.below hB0
 have HC : Hid (IsI _ a'' c'' cs) := hC.below hB0
 have hm : n ≤ 9223372036854775807 := by rw [hn]; exact hK.size
 have hm' : n' ≤ 9223372036854775807 := by rw [hn']; exact hV.size
 have hm'' : n'' ≤ 9223372036854775807 := by rw [hn'']; exact hC.size
 have EK : Hid (n = ks.length) := hn
 have EV : Hid (n' = vs.length) := hn'
 have EC : Hid (n'' = cs.length) := hn''
 rw [← hn, ← hn', ← hn'']
 clear hK hV hC hn hn' hn''
 by_cases h9 : (n : Int) ≤ 9
 ·
  go_enter Tryz.func186, Tryz.ntmps186
  go_wp2
  go_loop [16] (fun v => ∃ j : Nat, j ≤ n ∧ v = .int .i64 j ∧ keysTo ks j) (fun v => n - (intOf v).toNat)
  case atStart => exact ⟨0, by omega, rfl, keysTo_zero ks⟩
  case round =>
   obtain ⟨j, hj, rfl, hA⟩ := hrel
   have HA : Hid (keysTo ks j) := hA
   clear hA
   by_cases hlt : j < n
   ·
    have hlt' : (j : Int) < n := by omega
    obtain ⟨x, hx⟩ : ∃ x, Hid (ks[j]? = some x) := ⟨_, List.getElem?_eq_getElem (by rw [← EK.out]; exact hlt)⟩
    obtain ⟨b, o, rfl, hlb, hc, hxs⟩ := HK.out.2.2 j x hx.out
    unfold maxLen at hxs
    by_cases h1 : 1 ≤ (x.size : Int)
    ·
     by_cases h2 : (x.size : Int) ≤ 32
     ·
      by_cases h0 : (0 : Int) < j
      ·
       obtain ⟨i, rfl⟩ : ∃ i, j = i + 1 := ⟨j - 1, by omega⟩
       obtain ⟨p, hp⟩ : ∃ x, Hid (ks[i]? = some x) := ⟨_, List.getElem?_eq_getElem (by rw [← EK.out]; omega)⟩
       obtain ⟨b2, o2, hbo, hlb2, hc2, hps⟩ := HK.out.2.2 i p hp.out
       obtain ⟨rfl, rfl⟩ : b2 = b ∧ o2 = o := by cases hbo; exact ⟨rfl, rfl⟩
       clear hbo hlb hlb2 hps
       have hle := le_text x p
       have hi0 : ((i + 1 : Nat) : Int) - 1 = i := by omega
       have hin : i < n := by omega
       cases hlt2 : ltB p x with
       | true =>
        rw [hlt2] at hle
        simp only [Bool.not_true] at hle
        have hN : Hid (keysTo ks (i + 1 + 1)) := keysTo_next HA.out hp.out hx.out (by omega) (by omega) hlt2
        clear hlt2
        go_wp2
        go_round
        case rel => exact ⟨i + 1 + 1, by omega, by go_num, hN.out⟩
        case measure => simp [intOf]; omega
       | false =>
        rw [hlt2] at hle
        simp only [Bool.not_false] at hle
        have hF : Hid (standsN l ks vs cs = false) := stands_fall hp.out hx.out hlt2
        clear hlt2
        go_wp2
        go_ret
        exact ⟨ret_bool hF.out.symm, hB0⟩
      ·
       obtain rfl : j = 0 := by omega
       rw [Nat.add_zero] at hc
       go_wp2
       go_round
       case rel => exact ⟨1, by omega, by go_num, keysTo_first hx.out (by omega) (by omega)⟩
       case measure => simp [intOf]; omega
     ·
      have hF : Hid (standsN l ks vs cs = false) := stands_key hx.out (by omega)
      go_wp2
      go_ret
      exact ⟨ret_bool hF.out.symm, hB0⟩
    ·
     have hF : Hid (standsN l ks vs cs = false) := stands_key hx.out (by omega)
     go_wp2
     go_ret
     exact ⟨ret_bool hF.out.symm, hB0⟩
   ·
    obtain rfl : j = n := by omega
    clear hlt
    go_wp2
    go_loop [47] (fun v => ∃ i : Nat, i ≤ n' ∧ v = .int .i64 i ∧ allTo (fun v => v.size ≤ 200) vs i) (fun v => n' - (intOf v).toNat)
    case atStart => exact ⟨0, by omega, rfl, fun i x hi => by omega⟩
    case round =>
     obtain ⟨i, hi, rfl, hA⟩ := hrel
     have HA' : Hid (allTo (fun v => v.size ≤ 200) vs i) := hA
     clear hA
     by_cases hlt : i < n'
     ·
      have hlt' : (i : Int) < n' := by omega
      obtain ⟨x, hx⟩ : ∃ x, Hid (vs[i]? = some x) := ⟨_, List.getElem?_eq_getElem (by rw [← EV.out]; exact hlt)⟩
      obtain ⟨b, o, rfl, hlb, hc, hxs⟩ := HV.out.2.2 i x hx.out
      unfold maxLen at hxs
      by_cases h2 : (x.size : Int) ≤ 200
      ·
       have hN : Hid (allTo (fun v => v.size ≤ 200) vs (i + 1)) := allTo_next HA'.out hx.out (by omega)
       go_wp2
       go_round
       case rel => exact ⟨i + 1, by omega, by go_num, hN.out⟩
       case measure => simp [intOf]; omega
      ·
       have hF : Hid (standsN l ks vs cs = false) := stands_val hx.out (by omega)
       go_wp2
       go_ret
       exact ⟨ret_bool hF.out.symm, hB0⟩
     ·
      obtain rfl : i = n' := by omega
      clear hlt
      go_wp2
      go_loop [58] (fun v => ∃ k : Nat, k ≤ n'' ∧ v = .int .i64 k ∧ allTo (fun c => 10 ≤ c ∧ c ≤ 2047) cs k) (fun v => n'' - (intOf v).toNat)
      case atStart => exact ⟨0, by omega, rfl, fun i x hi => by omega⟩
      case round =>
       obtain ⟨k, hk, rfl, hA⟩ := hrel
       have HA'' : Hid (allTo (fun c => 10 ≤ c ∧ c ≤ 2047) cs k) := hA
       clear hA
       by_cases hlt : k < n''
       ·
        have hlt' : (k : Int) < n'' := by omega
        obtain ⟨x, hx⟩ : ∃ x, Hid (cs[k]? = some x) := ⟨_, List.getElem?_eq_getElem (by rw [← EC.out]; exact hlt)⟩
        obtain ⟨b, o, rfl, hlb, hc⟩ := HC.out.2.2 k x hx.out
        by_cases h1 : 10 ≤ x
        ·
         by_cases h2 : x ≤ 2047
         ·
          have hN : Hid (allTo (fun c => 10 ≤ c ∧ c ≤ 2047) cs (k + 1)) := allTo_next HA''.out hx.out ⟨h1, h2⟩
          go_wp2
          go_round
          case rel => exact ⟨k + 1, by omega, by go_num, hN.out⟩
          case measure => simp [intOf]; omega
         ·
          have hF : Hid (standsN l ks vs cs = false) := stands_kid hx.out (by omega)
          go_wp2
          go_ret
          exact ⟨ret_bool hF.out.symm, hB0⟩
        ·
         have hF : Hid (standsN l ks vs cs = false) := stands_kid hx.out (by omega)
         go_wp2
         go_ret
         exact ⟨ret_bool hF.out.symm, hB0⟩
       ·
        obtain rfl : k = n'' := by omega
        clear hlt
        have hE : Hid (standsN l ks vs cs = shapeN l j i k) := by
         show _ = _
         rw [EK.out, EV.out, EC.out]
         exact stands_all (by rw [← EK.out]; omega) (by rw [← EK.out]; exact HA.out) (by rw [← EV.out]; exact HA'.out) (by rw [← EC.out]; exact HA''.out)
        cases l with
        | true =>
         by_cases h1 : (i : Int) = j
         ·
          go_wp2
          go_ret
          exact ⟨ret_bool (by rw [hE.out, Bool.eq_iff_iff, shape_leaf, beq_iff_eq]; omega), hB0⟩
         ·
          go_wp2
          go_ret
          exact ⟨ret_bool (by rw [hE.out]; exact (Bool.eq_false_iff.2 fun h => by have := shape_leaf.1 h; omega).symm), hB0⟩
        | false =>
         by_cases h1 : (i : Int) = 0
         ·
          by_cases h2 : 1 ≤ (j : Int)
          ·
           go_wp2
           go_ret
           exact ⟨ret_bool (by rw [hE.out, Bool.eq_iff_iff, shape_inner, beq_iff_eq]; omega), hB0⟩
          ·
           go_wp2
           go_ret
           exact ⟨ret_bool (by rw [hE.out]; exact (Bool.eq_false_iff.2 fun h => by have := shape_inner.1 h; omega).symm), hB0⟩
         ·
          go_wp2
          go_ret
          exact ⟨ret_bool (by rw [hE.out]; exact (Bool.eq_false_iff.2 fun h => by have := shape_inner.1 h; omega).symm), hB0⟩
 ·
  have hF : Hid (standsN l ks vs cs = false) := stands_few (by rw [← EK.out]; omega)
  go_enter Tryz.func186, Tryz.ntmps186
  go_wp2
  go_ret
  exact ⟨ret_bool hF.out.symm, hB0⟩
end Go.Proofs.YtaobfgplheoefaaGreat
namespace Go.Proofs.YtaobfgplheoefaaGreat.Plain
open Go.RowKit
set_option linter.unusedVariables false
theorem leafSt_stuck {s : ByteArray} {j : Nat} {e : Int} (h : leafSt s j = .inl e) (d : Nat) : leafSt s (j + d) = .inl e := by
 induction d with
 | zero => exact h
 | succ d ih => rw [← Nat.add_assoc, leafSt, ih]
theorem innSt_stuck {s : ByteArray} {j : Nat} {e : Int} (h : innSt s j = .inl e) (d : Nat) : innSt s (j + d) = .inl e := by
 induction d with
 | zero => exact h
 | succ d ih => rw [← Nat.add_assoc, innSt, ih]
theorem leafSt_length {s : ByteArray} {j : Nat} {p : Int} {ks vs : List ByteArray} (h : leafSt s j = .inr (p, ks, vs)) : ks.length = j ∧ vs.length = j := by
 induction j generalizing p ks vs with
 | zero => cases h; exact ⟨rfl, rfl⟩
 | succ j ih =>
  rw [leafSt] at h
  split at h
  ·
   cases h
  ·
   rename_i q xs ys hj
   split at h
   ·
    split at h
    ·
     cases h
     have := ih hj
     simp; omega
    ·
     cases h
   ·
    cases h
theorem innSt_length {s : ByteArray} {j : Nat} {p : Int} {ks : List ByteArray} {cs : List Int} (h : innSt s j = .inr (p, ks, cs)) : ks.length = j ∧ cs.length = j := by
 induction j generalizing p ks cs with
 | zero => cases h; exact ⟨rfl, rfl⟩
 | succ j ih =>
  rw [innSt] at h
  split at h
  ·
   cases h
  ·
   rename_i q xs ys hj
   split at h
   ·
    split at h
    ·
     cases h
     have := ih hj
     simp; omega
    ·
     cases h
   ·
    cases h
end Go.Proofs.YtaobfgplheoefaaGreat.Plain
namespace Go.Proofs.YtaobfgplheoefaaGreat
open Go.RowKit Plain
set_option linter.unusedVariables false
theorem refStands_at {l : Bool} {a a' a'' : Option Addr} {c c' c'' n n' n'' : Nat} {ks vs : List ByteArray} {cs : List Int} {w : World} (hn : n = ks.length) (hn' : n' = vs.length) (hn'' : n'' = cs.length) (hK : IsS w a c ks) (hV : IsS w a' c' vs) (hC : IsI w a'' c'' cs) :
  Calls Tryz.prog 186 #[.agg #[.bool l, .slice a n c, .slice a' n' c', .slice a'' n'' c'']] w fun e w' => e = .returned (.bool (standsN l ks vs cs)) ∧ Below w.heap.size w w' := by
 subst hn hn' hn''; exact refStands_any l a a' a'' c c' c'' ks vs cs w hK hV hC
set_option maxHeartbeats 1000000 in
theorem refNodeRight_any (l : Bool) (a a' a'' : Option Addr) (c c' c'' n n' n'' : Nat) (ks vs : List ByteArray) (cs : List Int) (root : Bool) (w : World) (hn : n = ks.length) (hn' : n' = vs.length) (hn'' : n'' = cs.length) (hK : IsS w a c ks) (hV : IsS w a' c' vs) (hC : IsI w a'' c'' cs) :
  Calls Tryz.prog 177 #[.agg #[.bool l, .slice a n c, .slice a' n' c', .slice a'' n'' c''], .bool root] w fun e w' => e = .returned (.bool (rightN l ks vs cs root)) ∧ Below w.heap.size w w' := by
 have hB0 : Below w.heap.size w (w.alloc (.cells #[.bool l, .slice a n c, .slice a' n' c', .slice a'' n'' c''] 205)) := (Below.refl _ _).alloc (Nat.le_refl _) _
 have hX := box4_new w (.bool l) (.slice a n c) (.slice a' n' c') (.slice a'' n'' c'') 205 rfl
 have cS := refStands_at (l := l) hn hn' hn'' (hK.below hB0) (hV.below hB0) (hC.below hB0)
 have hm : n ≤ 9223372036854775807 := by rw [hn]; exact hK.size
 have HE : Hid (rightN l ks vs cs root = (standsN l ks vs cs && decide ((n : Int) ≤ 8) && (root || decide (4 ≤ (n : Int))))) := by
  show _ = _
  rw [hn]; unfold rightN
  congr 1
  ·
   congr 1
   rw [decide_eq_decide]; omega
  ·
   congr 1
   rw [decide_eq_decide]; omega
 clear hn hn' hn'' hK hV hC
 cases hs : standsN l ks vs cs with
 | true =>
  rw [hs] at cS HE
  by_cases h8 : (n : Int) ≤ 8
  ·
   cases root with
   | true =>
    go_enter Tryz.func177, Tryz.ntmps177
    go_wp2_with (go_at_call 186; refine cS.mono ?_; rintro e w1 ⟨rfl, hb⟩; obtain ⟨⟨q0, q1, q2, q3⟩, -⟩ := hX.below hb; have hB1 := Below.tr hB0 hb)
    go_ret
    exact ⟨ret_bool (by rw [HE.out]; simp [h8]), hB1⟩
   | false =>
    go_enter Tryz.func177, Tryz.ntmps177
    go_wp2_with (go_at_call 186; refine cS.mono ?_; rintro e w1 ⟨rfl, hb⟩; obtain ⟨⟨q0, q1, q2, q3⟩, -⟩ := hX.below hb; have hB1 := Below.tr hB0 hb)
    go_ret
    exact ⟨ret_bool (by rw [HE.out]; simp [h8]), hB1⟩
  ·
   go_enter Tryz.func177, Tryz.ntmps177
   go_wp2_with (go_at_call 186; refine cS.mono ?_; rintro e w1 ⟨rfl, hb⟩; obtain ⟨⟨q0, q1, q2, q3⟩, -⟩ := hX.below hb; have hB1 := Below.tr hB0 hb)
   go_ret
   exact ⟨ret_bool (by rw [HE.out, decide_eq_false (p := (n : Int) ≤ 8) (by omega)]; simp), hB1⟩
 | false =>
  rw [hs] at cS HE
  go_enter Tryz.func177, Tryz.ntmps177
  go_wp2_with (go_at_call 186; refine cS.mono ?_; rintro e w1 ⟨rfl, hb⟩; obtain ⟨⟨q0, q1, q2, q3⟩, -⟩ := hX.below hb; have hB1 := Below.tr hB0 hb)
  go_ret
  exact ⟨ret_bool (by rw [HE.out]; simp), hB1⟩
end Go.Proofs.YtaobfgplheoefaaGreat
namespace Go.Proofs.YtaobfgplheoefaaGreat
open Go.RowKit Plain Anylast
set_option linter.unusedVariables false
theorem leaf_err {s : ByteArray} {e : Int} {j c : Nat} (h0 : getE s 0 1 = 0) (hc : getR s 0 1 = c) (h : leafSt s j = .inl e) (hj : j ≤ c) : leafR s = .inl e := by
 obtain ⟨d, rfl⟩ : ∃ d, c = j + d := ⟨c - j, by omega⟩
 unfold leafR
 rw [if_pos h0, hc, Int.toNat_natCast, leafSt_stuck h d]
theorem leaf_end {s : ByteArray} {p : Int} {ks vs : List ByteArray} {c : Nat} (h0 : getE s 0 1 = 0) (hc : getR s 0 1 = c) (h : leafSt s c = .inr (p, ks, vs)) : leafR s = if p = s.size ∧ rightN true ks vs [] true = true then .inr (true, ks, vs, []) else .inl 4 := by
 unfold leafR
 rw [if_pos h0, hc, Int.toNat_natCast, h]
set_option maxRecDepth 20000 in
set_option maxHeartbeats 4000000 in
theorem refGetLeaf_any (s : ByteArray) (w : World) (hs : s.size ≤ maxLen) :
  Calls Tryz.prog 176 #[.int .i64 1, .string s] w fun x w' => Answers w x w' (gN 1 s).1 (gN 1 s).2.1 (gN 1 s).2.2.1 (gN 1 s).2.2.2 (gE 1 s) := by
 obtain ⟨Q, hQ⟩ : ∃ Q : Ending → World → Prop, Q = fun x w' => Answers w x w' (gN 1 s).1 (gN 1 s).2.1 (gN 1 s).2.2.1 (gN 1 s).2.2.2 (gE 1 s) := ⟨_, rfl⟩
 have hN : nodeR 1 s = leafR s := by unfold nodeR; rw [if_pos rfl]
 have HQ : Hid (∀ e, leafR s = .inl e → ∀ x w', Answers w x w' false [] [] [] e → Q x w') := fun e h x w' ha => by
  obtain ⟨g1, g2⟩ := g_inl (hN.trans h)
  rw [hQ, g1, g2]; exact ha
 have HQ2 : Hid (∀ y, leafR s = .inr y → ∀ x w', Answers w x w' y.1 y.2.1 y.2.2.1 y.2.2.2 0 → Q x w') := fun y h x w' ha => by
  obtain ⟨g1, g2⟩ := g_inr (hN.trans h)
  rw [hQ, g1, g2]; exact ha
 rw [← hQ]
 clear hQ hN
 obtain ⟨W, hW, b0, bn, hB0, hsz⟩ := node_two w 205 true (.slice none 0 0)
 have N0 : NodeAt W (w.heap.size + 1) (w.heap.size + 2) true (.slice none 0 0) (.slice none 0 0) (.slice none 0 0) [] [] [] := nodeAt_new bn (by omega)
 have hle : w.heap.size ≤ w.heap.size := Nat.le_refl _
 have cG := fun V => refGet_any s 0 1 V hs
 by_cases h0 : getE s 0 1 = 0
 ·
  obtain ⟨e1, e2, e3⟩ := rn_one h0
  obtain ⟨c, hc, hc2⟩ := rn_count s
  rw [e3] at hc
  have eT : getT s 0 1 = 1 := by
   have h' : getE s ((0 : Nat) : Int) ((1 : Nat) : Int) = 0 := h0
   exact (get_num h').2.1
  rw [hc, eT, h0] at cG
  have HE : Hid (∀ e j, leafSt s j = .inl e → j ≤ c → leafR s = .inl e) := fun e j h hj => leaf_err h0 hc h hj
  have HF : Hid (∀ p ks vs, leafSt s c = .inr (p, ks, vs) → leafR s = if p = s.size ∧ rightN true ks vs [] true = true then .inr (true, ks, vs, []) else .inl 4) := fun p ks vs h => leaf_end h0 hc h
  have HS : Hid (s.size ≤ maxLen) := hs
  have hm : s.size ≤ 9223372036854775807 := hs
  clear e1 e2 e3 hc eT h0 hs bn hsz
  go_enter Tryz.func176, Tryz.ntmps176
  go_wp2_with (go_at_call 134; rw [← hW]; refine (cG _).mono ?_; rintro y w1 ⟨rfl, rfl⟩)
  rw [← hW]
  clear hW cG
  go_loopw [8, 10] (fun v8 v10 wr => ∃ (j : Nat) (p : Int) (u1 u2 : Value) (xs ys : List ByteArray), j ≤ c ∧ v10 = .int .i64 j ∧ v8 = .int .i64 p ∧ leafSt s j = .inr (p, xs, ys) ∧ NodeAt wr (w.heap.size + 1) (w.heap.size + 2) true u1 u2 (.slice none 0 0) xs ys [] ∧ (∀ x ∈ xs, x.size ≤ s.size) ∧ (∀ x ∈ ys, x.size ≤ s.size) ∧ Box4 wr w.heap.size (.bool false) (.slice none 0 0) (.slice none 0 0) (.slice none 0 0) ∧ Below w.heap.size w wr) (fun _ v10 _ => c - (intOf v10).toNat)
  case atStart => exact ⟨0, 1, _, _, [], [], by omega, rfl, rfl, rfl, N0, fun x h => (by cases h), fun x h => (by cases h), b0, hB0⟩
  case round =>
   clear N0 b0 hB0
   obtain ⟨j, p, u1, u2, xs, ys, hj, rfl, rfl, hst, N, sx, sy, b0, HB⟩ := hrel
   obtain ⟨l1, l2⟩ := leafSt_length hst
   by_cases hlt : j < c
   ·
    have hlt' : (j : Int) < c := by omega
    have cC1 := fun V => refCut_any s p V HS.out
    obtain ⟨k1, hk1⟩ : ∃ x, x = cutS s p := ⟨_, rfl⟩
    obtain ⟨p1, hp1⟩ : ∃ x, x = cutT s p := ⟨_, rfl⟩
    obtain ⟨E1, hE1⟩ : ∃ x, x = cutE s p := ⟨_, rfl⟩
    rw [← hk1, ← hp1, ← hE1] at cC1
    obtain ⟨⟨r0, r1, r2, r3⟩, g0, g1, g2, g3⟩ := id b0
    have hst' : leafSt s (j + 1) = if E1 = 0 then (if cutE s p1 = 0 then .inr (cutT s p1, xs ++ [k1], ys ++ [cutS s p1]) else .inl (cutE s p1)) else .inl E1 := by
     rw [leafSt, hst, hk1, hp1, hE1]
    by_cases z1 : E1 = 0
    ·
     subst z1
     rw [if_pos rfl] at hst'
     have cC2 := fun V => refCut_any s p1 V HS.out
     obtain ⟨k2, hk2⟩ : ∃ x, x = cutS s p1 := ⟨_, rfl⟩
     obtain ⟨p2, hp2⟩ : ∃ x, x = cutT s p1 := ⟨_, rfl⟩
     obtain ⟨E2, hE2⟩ : ∃ x, x = cutE s p1 := ⟨_, rfl⟩
     rw [← hk2, ← hp2, ← hE2] at cC2 hst'
     have sk1 : k1.size ≤ s.size := by rw [hk1]; exact cutS_size s p
     have sk2 : k2.size ≤ s.size := by rw [hk2]; exact cutS_size s p1
     obtain ⟨ga, cap, V3, hrun1, b3, N4, T4⟩ := N.push1 k1 (by omega)
     obtain ⟨V4, hV4⟩ : ∃ V, V = V3.setCell ⟨w.heap.size + 1, 1, none⟩ (.slice (some ⟨ga, 0, none⟩) (xs.length + 1) cap) := ⟨_, rfl⟩
     rw [← hV4] at N4 T4
     have HB4 : Below w.heap.size w V4 := Below.turns HB T4 (fun k hk => by rcases hk with h | h <;> omega)
     have b04 := b0.turns T4 (by rintro (h | h) <;> omega)
     obtain ⟨⟨q0, q1, q2, q3⟩, -⟩ := N.box
     have Q1 := fun o => cell_alloc q1 o
     obtain ⟨⟨q03, q13, q23, q33⟩, f0, f1, f2, f3⟩ := id b3
     have HST : Hid (leafSt s (j + 1) = if E2 = 0 then .inr (p2, xs ++ [k1], ys ++ [k2]) else .inl E2) := hst'
     have SX : Hid (∀ x ∈ xs ++ [k1], x.size ≤ s.size) := fun x hx => by
      rcases List.mem_append.1 hx with h | h
      ·
       exact sx x h
      ·
       obtain rfl : x = k1 := by simpa using h
       exact sk1
     have SY : Hid (∀ x ∈ ys ++ [k2], x.size ≤ s.size) := fun x hx => by
      rcases List.mem_append.1 hx with h | h
      ·
       exact sy x h
      ·
       obtain rfl : x = k2 := by simpa using h
       exact sk2
     obtain ⟨⟨s0, s1, s2, s3⟩, -⟩ := N4.box
     have S2 := fun o => cell_alloc s2 o
     by_cases z2 : E2 = 0
     ·
      subst z2
      obtain ⟨gb, cap2, U3, hrun2, b5, N8, T8⟩ := N4.push2 k2 (by omega)
      obtain ⟨U4, hU4⟩ : ∃ V, V = U3.setCell ⟨w.heap.size + 1, 2, none⟩ (.slice (some ⟨gb, 0, none⟩) (ys.length + 1) cap2) := ⟨_, rfl⟩
      rw [← hU4] at N8 T8
      have NH : Hid (NodeAt U4 (w.heap.size + 1) (w.heap.size + 2) true (.slice (some ⟨ga, 0, none⟩) (xs.length + 1) cap) (.slice (some ⟨gb, 0, none⟩) (ys.length + 1) cap2) (.slice none 0 0) (xs ++ [k1]) (ys ++ [k2]) []) := N8
      have BH : Hid (Box4 U4 w.heap.size (.bool false) (.slice none 0 0) (.slice none 0 0) (.slice none 0 0) ∧ Below w.heap.size w U4) := ⟨b04.turns T8 (by rintro (h | h) <;> omega), Below.turns HB4 T8 (fun k hk => by rcases hk with h | h <;> omega)⟩
      obtain ⟨⟨q05, q15, q25, q35⟩, h0, h1, h2, h3⟩ := id b5
      have HV4 : Hid (V4 = V3.setCell ⟨w.heap.size + 1, 1, none⟩ (.slice (some ⟨ga, 0, none⟩) (xs.length + 1) cap)) := hV4
      have HU4 : Hid (U4 = U3.setCell ⟨w.heap.size + 1, 2, none⟩ (.slice (some ⟨gb, 0, none⟩) (ys.length + 1) cap2)) := hU4
      have t1 : True := trivial
      clear hk1 hp1 hE1 hk2 hp2 hE2 hst hst' l1 l2 hV4 hU4 N N4 N8 T4 T8 b3 b5 sx sy sk1 sk2 b0 b04 HB4
      go_wp2_with (first
       | (go_at_call 185; have _t := t1; refine (cC1 _).mono ?_; rintro y w1 ⟨rfl, rfl⟩)
       | (at_builtin; have _t := t1; refine Lib.wpList_append_run _ rfl _ _ _ _ rfl _ _ rfl rfl _ _ hrun1 ?_; clear t1 _t)
       | (go_at_call 185; rw [← HV4.out]; refine (cC2 _).mono ?_; rintro y w1 ⟨rfl, rfl⟩)
       | (at_builtin; refine Lib.wpList_append_run _ rfl _ _ _ _ rfl _ _ rfl rfl _ _ hrun2 ?_))
      go_roundw
      case rel => exact ⟨j + 1, p2, .slice (some ⟨ga, 0, none⟩) (xs.length + 1) cap, .slice (some ⟨gb, 0, none⟩) (ys.length + 1) cap2, xs ++ [k1], ys ++ [k2], by omega, by go_num, rfl, by rw [HST.out]; simp, by rw [← HU4.out]; exact NH.out, SX.out, SY.out, by rw [← HU4.out]; exact BH.out.1, by rw [← HU4.out]; exact BH.out.2⟩
      case measure => simp [intOf]; omega
     ·
      have z2' : (E2 != 0) = true := by simpa using z2
      have HEE : Hid (leafR s = .inl E2) := HE.out E2 (j + 1) (by rw [HST.out, if_neg z2]) (by omega)
      have HV4 : Hid (V4 = V3.setCell ⟨w.heap.size + 1, 1, none⟩ (.slice (some ⟨ga, 0, none⟩) (xs.length + 1) cap)) := hV4
      have t1 : True := trivial
      clear r0 r1 r2 r3 g0 g1 g2 g3
      obtain ⟨⟨r0, r1, r2, r3⟩, g0, g1, g2, g3⟩ := id b04
      clear hk1 hp1 hE1 hk2 hp2 hE2 hst hst' l1 l2 hV4 N N4 T4 b3 sx sy sk1 sk2 b0 b04 HB z2
      go_wp2_with (first
       | (go_at_call 185; have _t := t1; refine (cC1 _).mono ?_; rintro y w1 ⟨rfl, rfl⟩)
       | (at_builtin; have _t := t1; refine Lib.wpList_append_run _ rfl _ _ _ _ rfl _ _ rfl rfl _ _ hrun1 ?_; clear t1 _t)
       | (go_at_call 185; rw [← HV4.out]; refine (cC2 _).mono ?_; rintro y w1 ⟨rfl, rfl⟩))
      refine bodyPost_ret (v := .tuple #[.agg #[.bool false, .slice none 0 0, .slice none 0 0, .slice none 0 0], .int .i64 E2]) (by simp [results, Tryz.results176, go_sem, r0, r1, r2, r3]) rfl (HQ.out _ HEE.out _ _ (answers_none (below_put4 HB4 hle _ _ _ _)))
    ·
     have z1' : (E1 != 0) = true := by simpa using z1
     have HEE : Hid (leafR s = .inl E1) := HE.out E1 (j + 1) (by rw [hst', if_neg z1]) (by omega)
     clear hk1 hp1 hE1 hst hst' l1 l2 N sx sy b0 z1
     go_wp2_with (go_at_call 185; refine (cC1 _).mono ?_; rintro y w1 ⟨rfl, rfl⟩)
     refine bodyPost_ret (v := .tuple #[.agg #[.bool false, .slice none 0 0, .slice none 0 0, .slice none 0 0], .int .i64 E1]) (by simp [results, Tryz.results176, go_sem, r0, r1, r2, r3]) rfl (HQ.out _ HEE.out _ _ (answers_none (below_put4 HB hle _ _ _ _)))
   ·
    obtain rfl : j = c := by omega
    have hfin : Hid (leafR s = if p = s.size ∧ rightN true xs ys [] true = true then .inr (true, xs, ys, []) else .inl 4) := HF.out p xs ys hst
    have X1 : Hid (∀ x ∈ xs, x.size ≤ maxLen) := fun x hx => Nat.le_trans (sx x hx) HS.out
    have X2 : Hid (∀ x ∈ ys, x.size ≤ maxLen) := fun x hx => Nat.le_trans (sy x hx) HS.out
    obtain ⟨a, d, a', d', a'', d'', rfl, rfl, e3, i1, i2, i3, j1, j2, j3⟩ := N.rows X1.out X2.out
    have NH : Hid (NodeAt wr (w.heap.size + 1) (w.heap.size + 2) true (.slice a xs.length d) (.slice a' ys.length d') (.slice none 0 0) xs ys []) := N
    obtain ⟨⟨q0, q1, q2, q3⟩, -⟩ := N.box
    have cR : Calls Tryz.prog 177 #[.agg #[.bool true, .slice a xs.length d, .slice a' ys.length d', .slice none 0 0], .bool true] wr fun e w' => e = .returned (.bool (rightN true xs ys [] true)) ∧ Below wr.heap.size wr w' := refNodeRight_any true a a' none d d' 0 _ _ 0 xs ys [] true wr rfl rfl rfl i1 i2 (isI_nil _)
    clear l1 l2 hst sx sy e3 i1 i2 i3
    by_cases hP : p = s.size
    ·
     subst hP
     cases hr : rightN true xs ys [] true with
     | true =>
      rw [hr] at cR hfin
      replace hfin : Hid (leafR s = .inr (true, xs, ys, [])) := by show _ = _; rw [hfin.out, if_pos ⟨rfl, rfl⟩]
      clear hr
      have J1 : Hid (From (w.heap.size + 2) a) := j1
      have J2 : Hid (From (w.heap.size + 2) a') := j2
      clear j1 j2 j3 N
      go_wp2_with (go_at_call 177; refine cR.mono ?_; rintro y w1 ⟨rfl, hb⟩; have NH1 : Hid (NodeAt w1 (w.heap.size + 1) (w.heap.size + 2) true (.slice a xs.length d) (.slice a' ys.length d') (.slice none 0 0) xs ys []) := NH.out.below hb; replace b0 := b0.below hb; replace HB := Below.tr HB hb; obtain ⟨⟨r0, r1, r2, r3⟩, g0, g1, g2, g3⟩ := id b0; clear q0 q1 q2 q3; obtain ⟨⟨q0, q1, q2, q3⟩, -⟩ := NH1.out.box; clear hb)
      have N4 := (((NH1.out.other (k := w.heap.size) (by omega) (by omega) 0 (.bool true)).other (k := w.heap.size) (by omega) (by omega) 1 (.slice a xs.length d)).other (k := w.heap.size) (by omega) (by omega) 2 (.slice a' ys.length d')).other (k := w.heap.size) (by omega) (by omega) 3 (.slice none 0 0)
      obtain ⟨a1, d1, a1', d1', a1'', d1'', e1, e2, e3, i1, i2, i3, -, -, -⟩ := N4.rows X1.out X2.out
      cases e1
      cases e2
      exact bodyPost_ret (v := .tuple #[.agg #[.bool true, .slice a xs.length d, .slice a' ys.length d', .slice none 0 0], .int .i64 0]) (by simp [results, Tryz.results176, go_sem, r0, r1, r2, r3]) rfl (HQ2.out _ hfin.out _ _ ⟨_, a, d, _, a', d', 0, none, 0, rfl, rfl, rfl, rfl, i1, i2, isI_nil _, J1.out.mono (by omega), J2.out.mono (by omega), from_nil _, below_put4 HB hle _ _ _ _⟩)
     | false =>
      rw [hr] at cR hfin
      replace hfin : Hid (leafR s = .inl 4) := by show _ = _; rw [hfin.out, if_neg (by simp)]
      clear hr j1 j2 j3 N
      go_wp2_with (go_at_call 177; refine cR.mono ?_; rintro y w1 ⟨rfl, hb⟩; replace b0 := b0.below hb; replace HB := Below.tr HB hb; obtain ⟨⟨r0, r1, r2, r3⟩, g0, g1, g2, g3⟩ := id b0; clear q0 q1 q2 q3 hb)
      refine bodyPost_ret (v := .tuple #[.agg #[.bool false, .slice none 0 0, .slice none 0 0, .slice none 0 0], .int .i64 4]) (by simp [results, Tryz.results176, go_sem, r0, r1, r2, r3]) rfl (HQ.out _ hfin.out _ _ (answers_none (below_put4 HB hle _ _ _ _)))
    ·
     have hP' : (p != (s.size : Int)) = true := by simpa using hP
     replace hfin : Hid (leafR s = .inl 4) := by show _ = _; rw [hfin.out, if_neg (fun h => hP h.1)]
     obtain ⟨⟨r0, r1, r2, r3⟩, g0, g1, g2, g3⟩ := id b0
     clear j1 j2 j3 N cR hP
     go_wp2
     refine bodyPost_ret (v := .tuple #[.agg #[.bool false, .slice none 0 0, .slice none 0 0, .slice none 0 0], .int .i64 4]) (by simp [results, Tryz.results176, go_sem, r0, r1, r2, r3]) rfl (HQ.out _ hfin.out _ _ (answers_none (below_put4 HB hle _ _ _ _)))
 ·
  have hb' : (getE s 0 1 != 0) = true := by simpa using h0
  have eR : getR s 0 1 = 0 := by unfold getR; rw [if_neg h0]
  have HEE : Hid (leafR s = .inl (getE s 0 1)) := by show _ = _; unfold leafR; rw [if_neg h0]
  rw [eR] at cG
  generalize getE s 0 1 = E1 at *
  generalize getT s 0 1 = T1 at *
  obtain ⟨⟨r0, r1, r2, r3⟩, g0, g1, g2, g3⟩ := id b0
  clear eR h0 N0 bn hsz
  go_enter Tryz.func176, Tryz.ntmps176
  go_wp2_with (go_at_call 134; rw [← hW]; refine (cG _).mono ?_; rintro y w1 ⟨rfl, rfl⟩)
  rw [← hW]
  clear hW cG
  go_loopw [10] (fun v wr => v = .int .i64 0 ∧ wr = W) (fun _ _ => 0)
  case atStart => exact ⟨rfl, rfl⟩
  case round =>
   obtain ⟨rfl, hwr⟩ := hrel
   subst hwr
   go_wp2
   refine bodyPost_ret (v := .tuple #[.agg #[.bool false, .slice none 0 0, .slice none 0 0, .slice none 0 0], .int .i64 E1]) (by simp [results, Tryz.results176, go_sem, r0, r1, r2, r3]) rfl (HQ.out _ HEE.out _ _ (answers_none (below_put4 hB0 hle _ _ _ _)))
theorem inn_err {s : ByteArray} {e : Int} {j c : Nat} (h0 : getE s 0 1 = 0) (hc : getR s 0 1 = c) (h : innSt s j = .inl e) (hj : j ≤ c) : innR s = .inl e := by
 obtain ⟨d, rfl⟩ : ∃ d, c = j + d := ⟨c - j, by omega⟩
 unfold innR
 rw [if_pos h0, hc, Int.toNat_natCast, innSt_stuck h d]
theorem inn_end {s : ByteArray} {p : Int} {ks : List ByteArray} {cs : List Int} {c : Nat} (h0 : getE s 0 1 = 0) (hc : getR s 0 1 = c) (h : innSt s c = .inr (p, ks, cs)) : innR s = if getE s p 2 = 0 then (if getT s p 2 = s.size ∧ rightN false ks [] (cs ++ [getR s p 2]) true = true then .inr (false, ks, [], cs ++ [getR s p 2]) else .inl 4) else .inl (getE s p 2) := by
 unfold innR
 rw [if_pos h0, hc, Int.toNat_natCast, h]
set_option maxRecDepth 20000 in
set_option maxHeartbeats 4000000 in
theorem refGetInner_any (s : ByteArray) (w : World) (hs : s.size ≤ maxLen) :
  Calls Tryz.prog 176 #[.int .i64 2, .string s] w fun x w' => Answers w x w' (gN 2 s).1 (gN 2 s).2.1 (gN 2 s).2.2.1 (gN 2 s).2.2.2 (gE 2 s) := by
 obtain ⟨Q, hQ⟩ : ∃ Q : Ending → World → Prop, Q = fun x w' => Answers w x w' (gN 2 s).1 (gN 2 s).2.1 (gN 2 s).2.2.1 (gN 2 s).2.2.2 (gE 2 s) := ⟨_, rfl⟩
 have hN : nodeR 2 s = innR s := by unfold nodeR; rw [if_neg (by decide), if_pos rfl]
 have HQ : Hid (∀ e, innR s = .inl e → ∀ x w', Answers w x w' false [] [] [] e → Q x w') := fun e h x w' ha => by
  obtain ⟨g1, g2⟩ := g_inl (hN.trans h)
  rw [hQ, g1, g2]; exact ha
 have HQ2 : Hid (∀ y, innR s = .inr y → ∀ x w', Answers w x w' y.1 y.2.1 y.2.2.1 y.2.2.2 0 → Q x w') := fun y h x w' ha => by
  obtain ⟨g1, g2⟩ := g_inr (hN.trans h)
  rw [hQ, g1, g2]; exact ha
 rw [← hQ]
 clear hQ hN
 obtain ⟨W, hW, b0, bn, hB0, hsz⟩ := node_two w 205 false (.slice none 0 0)
 have N0 : NodeAt W (w.heap.size + 1) (w.heap.size + 2) false (.slice none 0 0) (.slice none 0 0) (.slice none 0 0) [] [] [] := nodeAt_new bn (by omega)
 have hle : w.heap.size ≤ w.heap.size := Nat.le_refl _
 have cG := fun V => refGet_any s 0 1 V hs
 by_cases h0 : getE s 0 1 = 0
 ·
  obtain ⟨e1, e2, e3⟩ := rn_one h0
  obtain ⟨c, hc, hc2⟩ := rn_count s
  rw [e3] at hc
  have eT : getT s 0 1 = 1 := by
   have h' : getE s ((0 : Nat) : Int) ((1 : Nat) : Int) = 0 := h0
   exact (get_num h').2.1
  rw [hc, eT, h0] at cG
  have HE : Hid (∀ e j, innSt s j = .inl e → j ≤ c → innR s = .inl e) := fun e j h hj => inn_err h0 hc h hj
  have HF : Hid (∀ p ks cs, innSt s c = .inr (p, ks, cs) → innR s = if getE s p 2 = 0 then (if getT s p 2 = s.size ∧ rightN false ks [] (cs ++ [getR s p 2]) true = true then .inr (false, ks, [], cs ++ [getR s p 2]) else .inl 4) else .inl (getE s p 2)) := fun p ks cs h => inn_end h0 hc h
  have HS : Hid (s.size ≤ maxLen) := hs
  have hm : s.size ≤ 9223372036854775807 := hs
  clear e1 e2 e3 hc eT h0 hs bn hsz
  go_enter Tryz.func176, Tryz.ntmps176
  go_wp2_with (go_at_call 134; rw [← hW]; refine (cG _).mono ?_; rintro y w1 ⟨rfl, rfl⟩)
  rw [← hW]
  clear hW cG
  go_loopw [8, 10] (fun v8 v10 wr => ∃ (j : Nat) (p : Int) (u1 u3 : Value) (xs : List ByteArray) (zs : List Int), j ≤ c ∧ v10 = .int .i64 j ∧ v8 = .int .i64 p ∧ innSt s j = .inr (p, xs, zs) ∧ NodeAt wr (w.heap.size + 1) (w.heap.size + 2) false u1 (.slice none 0 0) u3 xs [] zs ∧ (∀ x ∈ xs, x.size ≤ s.size) ∧ Box4 wr w.heap.size (.bool false) (.slice none 0 0) (.slice none 0 0) (.slice none 0 0) ∧ Below w.heap.size w wr) (fun _ v10 _ => c - (intOf v10).toNat)
  case atStart => exact ⟨0, 1, _, _, [], [], by omega, rfl, rfl, rfl, N0, fun x h => (by cases h), b0, hB0⟩
  case round =>
   clear N0 b0 hB0
   obtain ⟨j, p, u1, u3, xs, zs, hj, rfl, rfl, hst, N, sx, b0, HB⟩ := hrel
   obtain ⟨l1, l2⟩ := innSt_length hst
   have cC1 := fun V => refGet_any s p 2 V HS.out
   obtain ⟨k1, hk1⟩ : ∃ x, x = getR s p 2 := ⟨_, rfl⟩
   obtain ⟨p1, hp1⟩ : ∃ x, x = getT s p 2 := ⟨_, rfl⟩
   obtain ⟨E1, hE1⟩ : ∃ x, x = getE s p 2 := ⟨_, rfl⟩
   rw [← hk1, ← hp1, ← hE1] at cC1
   obtain ⟨⟨r0, r1, r2, r3⟩, g0, g1, g2, g3⟩ := id b0
   obtain ⟨ga, cap, V3, hrun1, b3, N4, T4⟩ := N.push3 k1 (by omega)
   obtain ⟨V4, hV4⟩ : ∃ V, V = V3.setCell ⟨w.heap.size + 1, 3, none⟩ (.slice (some ⟨ga, 0, none⟩) (zs.length + 1) cap) := ⟨_, rfl⟩
   rw [← hV4] at N4 T4
   have HB4 : Below w.heap.size w V4 := Below.turns HB T4 (fun k hk => by rcases hk with h | h <;> omega)
   have b04 := b0.turns T4 (by rintro (h | h) <;> omega)
   obtain ⟨⟨q0, q1, q2, q3⟩, -⟩ := N.box
   have Q3 := fun o => cell_alloc q3 o
   obtain ⟨⟨q03, q13, q23, q33⟩, f0, f1, f2, f3⟩ := id b3
   have HV4 : Hid (V4 = V3.setCell ⟨w.heap.size + 1, 3, none⟩ (.slice (some ⟨ga, 0, none⟩) (zs.length + 1) cap)) := hV4
   by_cases hlt : j < c
   ·
    have hlt' : (j : Int) < c := by omega
    have hst' : innSt s (j + 1) = if E1 = 0 then (if cutE s p1 = 0 then .inr (cutT s p1, xs ++ [cutS s p1], zs ++ [k1]) else .inl (cutE s p1)) else .inl E1 := by
     rw [innSt, hst, hk1, hp1, hE1]
    by_cases z1 : E1 = 0
    ·
     subst z1
     rw [if_pos rfl] at hst'
     have cC2 := fun V => refCut_any s p1 V HS.out
     obtain ⟨k2, hk2⟩ : ∃ x, x = cutS s p1 := ⟨_, rfl⟩
     obtain ⟨p2, hp2⟩ : ∃ x, x = cutT s p1 := ⟨_, rfl⟩
     obtain ⟨E2, hE2⟩ : ∃ x, x = cutE s p1 := ⟨_, rfl⟩
     rw [← hk2, ← hp2, ← hE2] at cC2 hst'
     have sk2 : k2.size ≤ s.size := by rw [hk2]; exact cutS_size s p1
     have HST : Hid (innSt s (j + 1) = if E2 = 0 then .inr (p2, xs ++ [k2], zs ++ [k1]) else .inl E2) := hst'
     have SX : Hid (∀ x ∈ xs ++ [k2], x.size ≤ s.size) := fun x hx => by
      rcases List.mem_append.1 hx with h | h
      ·
       exact sx x h
      ·
       obtain rfl : x = k2 := by simpa using h
       exact sk2
     obtain ⟨⟨s0, s1, s2, s3⟩, -⟩ := N4.box
     have S1 := fun o => cell_alloc s1 o
     by_cases z2 : E2 = 0
     ·
      subst z2
      obtain ⟨gb, cap2, U3, hrun2, b5, N8, T8⟩ := N4.push1 k2 (by omega)
      obtain ⟨U4, hU4⟩ : ∃ V, V = U3.setCell ⟨w.heap.size + 1, 1, none⟩ (.slice (some ⟨gb, 0, none⟩) (xs.length + 1) cap2) := ⟨_, rfl⟩
      rw [← hU4] at N8 T8
      have NH : Hid (NodeAt U4 (w.heap.size + 1) (w.heap.size + 2) false (.slice (some ⟨gb, 0, none⟩) (xs.length + 1) cap2) (.slice none 0 0) (.slice (some ⟨ga, 0, none⟩) (zs.length + 1) cap) (xs ++ [k2]) [] (zs ++ [k1])) := N8
      have BH : Hid (Box4 U4 w.heap.size (.bool false) (.slice none 0 0) (.slice none 0 0) (.slice none 0 0) ∧ Below w.heap.size w U4) := ⟨b04.turns T8 (by rintro (h | h) <;> omega), Below.turns HB4 T8 (fun k hk => by rcases hk with h | h <;> omega)⟩
      obtain ⟨⟨q05, q15, q25, q35⟩, h0, h1, h2, h3⟩ := id b5
      have HU4 : Hid (U4 = U3.setCell ⟨w.heap.size + 1, 1, none⟩ (.slice (some ⟨gb, 0, none⟩) (xs.length + 1) cap2)) := hU4
      have t1 : True := trivial
      clear hk1 hp1 hE1 hk2 hp2 hE2 hst hst' l1 l2 hV4 hU4 N N4 N8 T4 T8 b3 b5 sx sk2 b0 b04 HB4
      go_wp2_with (first
       | (go_at_call 134; refine (cC1 _).mono ?_; rintro y w1 ⟨rfl, rfl⟩)
       | (at_builtin; have _t := t1; refine Lib.wpList_append_run _ rfl _ _ _ _ rfl _ _ rfl rfl _ _ hrun1 ?_; clear t1 _t)
       | (go_at_call 185; rw [← HV4.out]; refine (cC2 _).mono ?_; rintro y w1 ⟨rfl, rfl⟩)
       | (at_builtin; refine Lib.wpList_append_run _ rfl _ _ _ _ rfl _ _ rfl rfl _ _ hrun2 ?_))
      go_roundw
      case rel => exact ⟨j + 1, p2, .slice (some ⟨gb, 0, none⟩) (xs.length + 1) cap2, .slice (some ⟨ga, 0, none⟩) (zs.length + 1) cap, xs ++ [k2], zs ++ [k1], by omega, by go_num, rfl, by rw [HST.out]; simp, by rw [← HU4.out]; exact NH.out, SX.out, by rw [← HU4.out]; exact BH.out.1, by rw [← HU4.out]; exact BH.out.2⟩
      case measure => simp [intOf]; omega
     ·
      have z2' : (E2 != 0) = true := by simpa using z2
      have HEE : Hid (innR s = .inl E2) := HE.out E2 (j + 1) (by rw [HST.out, if_neg z2]) (by omega)
      have t1 : True := trivial
      clear r0 r1 r2 r3 g0 g1 g2 g3
      obtain ⟨⟨r0, r1, r2, r3⟩, g0, g1, g2, g3⟩ := id b04
      clear hk1 hp1 hE1 hk2 hp2 hE2 hst hst' l1 l2 hV4 N N4 T4 b3 sx sk2 b0 b04 HB z2
      go_wp2_with (first
       | (go_at_call 134; refine (cC1 _).mono ?_; rintro y w1 ⟨rfl, rfl⟩)
       | (at_builtin; refine Lib.wpList_append_run _ rfl _ _ _ _ rfl _ _ rfl rfl _ _ hrun1 ?_)
       | (go_at_call 185; rw [← HV4.out]; refine (cC2 _).mono ?_; rintro y w1 ⟨rfl, rfl⟩))
      refine bodyPost_ret (v := .tuple #[.agg #[.bool false, .slice none 0 0, .slice none 0 0, .slice none 0 0], .int .i64 E2]) (by simp [results, Tryz.results176, go_sem, r0, r1, r2, r3]) rfl (HQ.out _ HEE.out _ _ (answers_none (below_put4 HB4 hle _ _ _ _)))
    ·
     have z1' : (E1 != 0) = true := by simpa using z1
     have HEE : Hid (innR s = .inl E1) := HE.out E1 (j + 1) (by rw [hst', if_neg z1]) (by omega)
     clear hk1 hp1 hE1 hst hst' l1 l2 N sx b0 z1 N4 T4 b04 HB4 b3 hV4
     go_wp2_with (go_at_call 134; refine (cC1 _).mono ?_; rintro y w1 ⟨rfl, rfl⟩)
     refine bodyPost_ret (v := .tuple #[.agg #[.bool false, .slice none 0 0, .slice none 0 0, .slice none 0 0], .int .i64 E1]) (by simp [results, Tryz.results176, go_sem, r0, r1, r2, r3]) rfl (HQ.out _ HEE.out _ _ (answers_none (below_put4 HB hle _ _ _ _)))
   ·
    obtain rfl : j = c := by omega
    have hfin : Hid (innR s = if E1 = 0 then (if p1 = s.size ∧ rightN false xs [] (zs ++ [k1]) true = true then .inr (false, xs, [], zs ++ [k1]) else .inl 4) else .inl E1) := by show _ = _; rw [hk1, hp1, hE1]; exact HF.out p xs zs hst
    have X1 : Hid (∀ x ∈ xs, x.size ≤ maxLen) := fun x hx => Nat.le_trans (sx x hx) HS.out
    obtain ⟨a, d, a', d', a'', d'', rfl, e2, e3, i1, i2, i3, j1, j2, j3⟩ := N4.rows X1.out (fun x hx => by cases hx)
    have e3' : a'' = some ⟨ga, 0, none⟩ ∧ d'' = cap := by simp at e3; exact ⟨e3.1.symm, e3.2.symm⟩
    obtain ⟨rfl, rfl⟩ := e3'
    have NH : Hid (NodeAt V4 (w.heap.size + 1) (w.heap.size + 2) false (.slice a xs.length d) (.slice none 0 0) (.slice (some ⟨ga, 0, none⟩) (zs.length + 1) d'') xs [] (zs ++ [k1])) := N4
    clear r0 r1 r2 r3 g0 g1 g2 g3
    obtain ⟨⟨r0, r1, r2, r3⟩, g0, g1, g2, g3⟩ := id b04
    obtain ⟨⟨s0, s1, s2, s3⟩, -⟩ := N4.box
    have cR : Calls Tryz.prog 177 #[.agg #[.bool false, .slice a xs.length d, .slice none 0 0, .slice (some ⟨ga, 0, none⟩) (zs.length + 1) d''], .bool true] V4 fun e w' => e = .returned (.bool (rightN false xs [] (zs ++ [k1]) true)) ∧ Below V4.heap.size V4 w' := refNodeRight_any false a none (some ⟨ga, 0, none⟩) d 0 d'' _ 0 _ xs [] (zs ++ [k1]) true V4 rfl rfl (by simp) i1 (isS_nil _) i3
    have raw : Box4 (V3.setCell ⟨w.heap.size + 1, 3, none⟩ (.slice (some ⟨ga, 0, none⟩) (zs.length + 1) d'')) (w.heap.size + 1) (.bool false) (.slice a xs.length d) (.slice none 0 0) (.slice (some ⟨ga, 0, none⟩) (zs.length + 1) d'') := by rw [← HV4.out]; exact N4.box
    have rawb : Box4 (V3.setCell ⟨w.heap.size + 1, 3, none⟩ (.slice (some ⟨ga, 0, none⟩) (zs.length + 1) d'')) w.heap.size (.bool false) (.slice none 0 0) (.slice none 0 0) (.slice none 0 0) := by rw [← HV4.out]; exact b04
    have rawB : Below w.heap.size w (V3.setCell ⟨w.heap.size + 1, 3, none⟩ (.slice (some ⟨ga, 0, none⟩) (zs.length + 1) d'')) := by rw [← HV4.out]; exact HB4
    obtain ⟨⟨x0, x1, x2, x3⟩, -⟩ := raw
    clear l1 l2 hst sx e2 e3 i1 i2 i3 hk1 hp1 hE1 hV4
    by_cases z1 : E1 = 0
    ·
     subst z1
     by_cases hP : p1 = s.size
     ·
      subst hP
      cases hr : rightN false xs [] (zs ++ [k1]) true with
      | true =>
       rw [hr] at cR hfin
       replace hfin : Hid (innR s = .inr (false, xs, [], zs ++ [k1])) := by show _ = _; rw [hfin.out, if_pos rfl, if_pos ⟨rfl, rfl⟩]
       clear hr
       have J1 : Hid (From (w.heap.size + 2) a) := j1
       have J3 : Hid (From (w.heap.size + 2) (some ⟨ga, 0, none⟩)) := j3
       clear j1 j2 j3 N N4 T4 b3 b0
       go_wp2_with (first
        | (go_at_call 134; refine (cC1 _).mono ?_; rintro y w1 ⟨rfl, rfl⟩)
        | (at_builtin; refine Lib.wpList_append_run _ rfl _ _ _ _ rfl _ _ rfl rfl _ _ hrun1 ?_)
        | (go_at_call 177; (try rw [← HV4.out]); refine cR.mono ?_; rintro y w1 ⟨rfl, hb⟩; have NH1 : Hid (NodeAt w1 (w.heap.size + 1) (w.heap.size + 2) false (.slice a xs.length d) (.slice none 0 0) (.slice (some ⟨ga, 0, none⟩) (zs.length + 1) d'') xs [] (zs ++ [k1])) := NH.out.below hb; replace b04 := b04.below hb; replace HB4 := Below.tr HB4 hb; clear r0 r1 r2 r3 g0 g1 g2 g3; obtain ⟨⟨r0, r1, r2, r3⟩, g0, g1, g2, g3⟩ := id b04; clear s0 s1 s2 s3; obtain ⟨⟨s0, s1, s2, s3⟩, -⟩ := NH1.out.box; clear hb))
       have N4 := (((NH1.out.other (k := w.heap.size) (by omega) (by omega) 0 (.bool false)).other (k := w.heap.size) (by omega) (by omega) 1 (.slice a xs.length d)).other (k := w.heap.size) (by omega) (by omega) 2 (.slice none 0 0)).other (k := w.heap.size) (by omega) (by omega) 3 (.slice (some ⟨ga, 0, none⟩) (zs.length + 1) d'')
       obtain ⟨a1, d1, a1', d1', a1'', d1'', e1, e2, e3, i1, i2, i3, -, -, -⟩ := N4.rows X1.out (fun x hx => by cases hx)
       cases e1
       have e3' : a1'' = some ⟨ga, 0, none⟩ ∧ d1'' = d'' := by simp at e3; exact ⟨e3.1.symm, e3.2.symm⟩
       obtain ⟨rfl, rfl⟩ := e3'
       exact bodyPost_ret (v := .tuple #[.agg #[.bool false, .slice a xs.length d, .slice none 0 0, .slice (some ⟨ga, 0, none⟩) (zs.length + 1) d1''], .int .i64 0]) (by simp [results, Tryz.results176, go_sem, r0, r1, r2, r3]) rfl (HQ2.out _ hfin.out _ _ ⟨_, a, d, 0, none, 0, zs.length + 1, some ⟨ga, 0, none⟩, d1'', rfl, rfl, rfl, by simp, i1, isS_nil _, i3, J1.out.mono (by omega), from_nil _, J3.out.mono (by omega), below_put4 HB4 hle _ _ _ _⟩)
      | false =>
       rw [hr] at cR hfin
       replace hfin : Hid (innR s = .inl 4) := by show _ = _; rw [hfin.out, if_pos rfl, if_neg (by simp)]
       clear hr j1 j2 j3 N N4 T4 b3 b0
       go_wp2_with (first
        | (go_at_call 134; refine (cC1 _).mono ?_; rintro y w1 ⟨rfl, rfl⟩)
        | (at_builtin; refine Lib.wpList_append_run _ rfl _ _ _ _ rfl _ _ rfl rfl _ _ hrun1 ?_)
        | (go_at_call 177; (try rw [← HV4.out]); refine cR.mono ?_; rintro y w1 ⟨rfl, hb⟩; replace b04 := b04.below hb; replace HB4 := Below.tr HB4 hb; clear r0 r1 r2 r3 g0 g1 g2 g3; obtain ⟨⟨r0, r1, r2, r3⟩, g0, g1, g2, g3⟩ := id b04; clear hb))
       refine bodyPost_ret (v := .tuple #[.agg #[.bool false, .slice none 0 0, .slice none 0 0, .slice none 0 0], .int .i64 4]) (by simp [results, Tryz.results176, go_sem, r0, r1, r2, r3]) rfl (HQ.out _ hfin.out _ _ (answers_none (below_put4 HB4 hle _ _ _ _)))
     ·
      have hP' : (p1 != (s.size : Int)) = true := by simpa using hP
      replace hfin : Hid (innR s = .inl 4) := by show _ = _; rw [hfin.out, if_pos rfl, if_neg (fun h => hP h.1)]
      clear r0 r1 r2 r3 g0 g1 g2 g3
      obtain ⟨⟨r0, r1, r2, r3⟩, g0, g1, g2, g3⟩ := id rawb
      clear j1 j2 j3 N N4 T4 b3 b0 cR hP
      go_wp2_with (first
       | (go_at_call 134; refine (cC1 _).mono ?_; rintro y w1 ⟨rfl, rfl⟩)
       | (at_builtin; refine Lib.wpList_append_run _ rfl _ _ _ _ rfl _ _ rfl rfl _ _ hrun1 ?_))
      refine bodyPost_ret (v := .tuple #[.agg #[.bool false, .slice none 0 0, .slice none 0 0, .slice none 0 0], .int .i64 4]) (by simp [results, Tryz.results176, go_sem, r0, r1, r2, r3]) rfl (HQ.out _ hfin.out _ _ (answers_none (below_put4 rawB hle _ _ _ _)))
    ·
     have z1' : (E1 != 0) = true := by simpa using z1
     replace hfin : Hid (innR s = .inl E1) := by show _ = _; rw [hfin.out, if_neg z1]
     clear r0 r1 r2 r3 g0 g1 g2 g3
     obtain ⟨⟨r0, r1, r2, r3⟩, g0, g1, g2, g3⟩ := id rawb
     clear j1 j2 j3 N N4 T4 b3 b0 cR z1
     go_wp2_with (first
      | (go_at_call 134; refine (cC1 _).mono ?_; rintro y w1 ⟨rfl, rfl⟩)
      | (at_builtin; refine Lib.wpList_append_run _ rfl _ _ _ _ rfl _ _ rfl rfl _ _ hrun1 ?_))
     refine bodyPost_ret (v := .tuple #[.agg #[.bool false, .slice none 0 0, .slice none 0 0, .slice none 0 0], .int .i64 E1]) (by simp [results, Tryz.results176, go_sem, r0, r1, r2, r3]) rfl (HQ.out _ hfin.out _ _ (answers_none (below_put4 rawB hle _ _ _ _)))
 ·
  have hb' : (getE s 0 1 != 0) = true := by simpa using h0
  have eR : getR s 0 1 = 0 := by unfold getR; rw [if_neg h0]
  have HEE : Hid (innR s = .inl (getE s 0 1)) := by show _ = _; unfold innR; rw [if_neg h0]
  rw [eR] at cG
  generalize getE s 0 1 = E1 at *
  generalize getT s 0 1 = T1 at *
  obtain ⟨⟨r0, r1, r2, r3⟩, g0, g1, g2, g3⟩ := id b0
  clear eR h0 N0 bn hsz
  go_enter Tryz.func176, Tryz.ntmps176
  go_wp2_with (go_at_call 134; rw [← hW]; refine (cG _).mono ?_; rintro y w1 ⟨rfl, rfl⟩)
  rw [← hW]
  clear hW cG
  go_loopw [10] (fun v wr => v = .int .i64 0 ∧ wr = W) (fun _ _ => 0)
  case atStart => exact ⟨rfl, rfl⟩
  case round =>
   obtain ⟨rfl, hwr⟩ := hrel
   subst hwr
   go_wp2
   refine bodyPost_ret (v := .tuple #[.agg #[.bool false, .slice none 0 0, .slice none 0 0, .slice none 0 0], .int .i64 E1]) (by simp [results, Tryz.results176, go_sem, r0, r1, r2, r3]) rfl (HQ.out _ HEE.out _ _ (answers_none (below_put4 hB0 hle _ _ _ _)))
set_option maxHeartbeats 1000000 in
theorem refGetKind_any (kind : Int) (s : ByteArray) (w : World) (h1 : kind ≠ 1) (h2 : kind ≠ 2) :
  Calls Tryz.prog 176 #[.int .i64 kind, .string s] w fun x w' => Answers w x w' false [] [] [] 81 := by
 have k1 : (kind != 1) = true := by simpa using h1
 have k2 : (kind != 2) = true := by simpa using h2
 have b0 := box4_new w (.bool false) (.slice none 0 0) (.slice none 0 0) (.slice none 0 0) 205 rfl
 have hB0 : Below w.heap.size w (w.alloc (.cells #[.bool false, .slice none 0 0, .slice none 0 0, .slice none 0 0] 205)) := (Below.refl _ _).alloc (Nat.le_refl _) _
 obtain ⟨⟨z0, z1, z2, z3⟩, y0, y1, y2, y3⟩ := id b0
 go_enter Tryz.func176, Tryz.ntmps176
 go_wp2
 exact bodyPost_ret (v := .tuple #[.agg #[.bool false, .slice none 0 0, .slice none 0 0, .slice none 0 0], .int .i64 81]) (by simp [results, Tryz.results176, go_sem, z0, z1, z2, z3]) rfl (answers_none hB0)
theorem refNodeGet_any (kind : Int) (s : ByteArray) (w : World) (hs : s.size ≤ maxLen) :
  Calls Tryz.prog 176 #[.int .i64 kind, .string s] w fun x w' => Answers w x w' (gN kind s).1 (gN kind s).2.1 (gN kind s).2.2.1 (gN kind s).2.2.2 (gE kind s) := by
 by_cases h1 : kind = 1
 ·
  subst h1; exact refGetLeaf_any s w hs
 ·
  by_cases h2 : kind = 2
  ·
   subst h2; exact refGetInner_any s w hs
  ·
   have hR : nodeR kind s = .inl 81 := by unfold nodeR; rw [if_neg h1, if_neg h2]
   obtain ⟨g1, g2⟩ := g_inl hR
   rw [g1, g2]
   exact refGetKind_any kind s w h1 h2
end Go.Proofs.YtaobfgplheoefaaGreat
namespace Go.Proofs.YtaobfgplheoefaaGreat
open Go.RowKit Plain
set_option linter.unusedVariables false
theorem right_size {b m : List Bool} (h : ¬ (24 ≤ m.length ∧ m.length ≤ 2048)) : rightA b m = false := by
 rw [Bool.eq_false_iff]
 intro hr
 obtain ⟨_, h1, h2, _⟩ := (rightA_iff b m).1 hr
 exact h ⟨h1, h2⟩
theorem right_place {b m : List Bool} {i : Nat} (hi : i < 10) (h : atB b i = false ∨ atB m i = false) : rightA b m = false := by
 rw [Bool.eq_false_iff]
 intro hr
 obtain ⟨_, _, _, h4⟩ := (rightA_iff b m).1 hr
 obtain ⟨h5, h6⟩ := h4 i hi
 rcases h with h | h
 ·
  rw [h] at h5; cases h5
 ·
  rw [h] at h6; cases h6
set_option maxHeartbeats 1000000 in
theorem allocRefRight_any (a a' : Option Addr) (c c' n n' : Nat) (b m : List Bool) (w : World) (hn : n = b.length) (hn' : n' = m.length) (hB : IsB w a c b) (hB' : IsB w a' c' m) :
  Calls Tryz.prog 107 #[.agg #[.slice a n c, .slice a' n' c']] w fun e w' => e = .returned (.bool (rightA b m)) ∧ Below w.heap.size w w' := by
 have hnb : n ≤ 9223372036854775807 := by rw [hn]; exact Nat.le_trans hB.1 hB.2.1
 have hnb' : n' ≤ 9223372036854775807 := by rw [hn']; exact Nat.le_trans hB'.1 hB'.2.1
 have hB0 : Below w.heap.size w (w.alloc (.cells #[.slice a n c, .slice a' n' c'] 38)) := (Below.refl _ _).alloc (Nat.le_refl _) _
 obtain ⟨⟨q0, q1⟩, -⟩ := box2_new w (.slice a n c) (.slice a' n' c') 38 rfl
 by_cases hl : n = n'
 ·
  subst hl
  by_cases h24 : 24 ≤ n
  ·
   by_cases h48 : n ≤ 2048
   ·
    have h1 : ¬ (n : Int) < 24 := by omega
    have h2 : ¬ (2048 : Int) < n := by omega
    have HB : Hid (IsB _ a c b) := hB.below hB0
    have HB' : Hid (IsB _ a' c' m) := hB'.below hB0
    have HN : Hid (n = b.length ∧ n = m.length) := ⟨hn, hn'⟩
    obtain ⟨b1, o1, rfl, -⟩ := hB.some (by omega)
    obtain ⟨b2, o2, rfl, -⟩ := hB'.some (by omega)
    clear hn hn' hB hB'
    go_enter Tryz.func107, Tryz.ntmps107
    go_wp2
    generalize w.alloc (.cells #[.slice (some ⟨b1, o1, none⟩) n c, .slice (some ⟨b2, o2, none⟩) n c'] 38) = W at q0 q1 hB0 HB HB' ⊢
    go_loopw [3] (fun v wr => ∃ j : Nat, j ≤ 10 ∧ v = .int .i64 j ∧ (∀ i, i < j → atB b i = true ∧ atB m i = true) ∧ W = wr) (fun v _ => 10 - (intOf v).toNat)
    case atStart => exact ⟨0, by omega, rfl, fun i hi => by omega, by trivial⟩
    case round =>
     obtain ⟨j, hj, rfl, hall, rfl⟩ := hrel
     have HA : Hid (∀ i, i < j → atB b i = true ∧ atB m i = true) := hall
     clear hall
     by_cases hlt : j < 10
     ·
      have hlt' : (j : Int) < 10 := by omega
      have hjn : (j : Int) < n := by omega
      obtain ⟨x, hx⟩ : ∃ q, Hid (b[j]? = some q) := ⟨_, List.getElem?_eq_getElem (by rw [← HN.out.1]; omega)⟩
      obtain ⟨y, hy⟩ : ∃ q, Hid (m[j]? = some q) := ⟨_, List.getElem?_eq_getElem (by rw [← HN.out.2]; omega)⟩
      have hc1 := HB.out.at hx.out
      have hc2 := HB'.out.at hy.out
      cases x with
      | false =>
       have hE : Hid (rightA b m = false) := right_place hlt (.inl (atB_some hx.out))
       go_wp2
       go_ret
       exact ⟨ret_bool hE.out.symm, hB0⟩
      | true =>
       cases y with
       | false =>
        have hE : Hid (rightA b m = false) := right_place hlt (.inr (atB_some hy.out))
        go_wp2
        go_ret
        exact ⟨ret_bool hE.out.symm, hB0⟩
       | true =>
        have hnx : Hid (∀ i, i < j + 1 → atB b i = true ∧ atB m i = true) := by
         intro i hi
         by_cases e : i = j
         ·
          rw [e]; exact ⟨atB_some hx.out, atB_some hy.out⟩
         ·
          exact HA.out i (by omega)
        go_wp2
        go_roundw
        case rel => exact ⟨j + 1, by omega, by go_num, hnx.out, by trivial⟩
        case measure => simp [intOf]; omega
     ·
      obtain rfl : j = 10 := by omega
      have hE : Hid (rightA b m = true) := (rightA_iff b m).2 ⟨HN.out.1.symm.trans HN.out.2, by have := HN.out.2; omega, by have := HN.out.2; omega, HA.out⟩
      go_wp2
      go_ret
      exact ⟨ret_bool hE.out.symm, hB0⟩
   ·
    have hE : Hid (rightA b m = false) := right_size (by omega)
    have h1 : ¬ (n : Int) < 24 := by omega
    have h2 : (2048 : Int) < n := by omega
    clear hn hn' hB hB'
    go_enter Tryz.func107, Tryz.ntmps107
    go_wp2
    go_ret
    exact ⟨ret_bool hE.out.symm, hB0⟩
  ·
   have hE : Hid (rightA b m = false) := right_size (by omega)
   have h1 : (n : Int) < 24 := by omega
   clear hn hn' hB hB'
   go_enter Tryz.func107, Tryz.ntmps107
   go_wp2
   go_ret
   exact ⟨ret_bool hE.out.symm, hB0⟩
 ·
  have hE : Hid (rightA b m = false) := right_lens (by omega)
  have hl' : ((n : Int) == n') = false := by rw [beq_eq_false_iff_ne]; omega
  clear hn hn' hB hB'
  go_enter Tryz.func107, Tryz.ntmps107
  go_wp2
  go_ret
  exact ⟨ret_bool hE.out.symm, hB0⟩
def likeA (b m b' m' : List Bool) : Bool := decide (b = b') && decide (m = m')
theorem likeA_same (b m : List Bool) : likeA b m b m = true := by unfold likeA; simp
set_option maxHeartbeats 1000000 in
theorem allocLike_any (a a' d d' : Option Addr) (c c' e e' n n' k k' : Nat) (b m b' m' : List Bool) (w : World) (hn : n = b.length) (hn' : n' = m.length) (hk : k = b'.length) (hk' : k' = m'.length)
  (hB : IsB w a c b) (hB' : IsB w a' c' m) (hD : IsB w d e b') (hD' : IsB w d' e' m') :
  Calls Tryz.prog 83 #[.agg #[.slice a n c, .slice a' n' c'], .agg #[.slice d k e, .slice d' k' e']] w fun x w' => x = .returned (.bool (likeA b m b' m')) ∧ Below w.heap.size w w' := by
 obtain ⟨W, hW⟩ : ∃ W, W = (w.alloc (.cells #[.slice a n c, .slice a' n' c'] 38)).alloc (.cells #[.slice d k e, .slice d' k' e'] 38) := ⟨_, rfl⟩
 obtain ⟨hB0, hWs, bi, bo⟩ := two_box2 hW
 have HB : Below W.heap.size W W := Below.refl _ _
 obtain ⟨x, hx⟩ : ∃ x, x = decide (b = b') := ⟨_, rfl⟩
 obtain ⟨y, hy⟩ : ∃ y, y = decide (m = m') := ⟨_, rfl⟩
 have hE : Hid (likeA b m b' m' = (x && y)) := by show _ = _; unfold likeA; rw [hx, hy]
 have c1 : Calls Tryz.prog 136 #[.slice a n c, .slice d k e] W fun e w' => e = .returned (.bool x) ∧ Below W.heap.size W w' := by
  rw [hn, hk, hx]; exact same_any a d c e b b' W (hB.below hB0) (hD.below hB0)
 have c2 : ∀ V, Below W.heap.size W V → Calls Tryz.prog 136 #[.slice a' n' c', .slice d' k' e'] V fun e w' => e = .returned (.bool y) ∧ Below V.heap.size V w' := by
  intro V hV; rw [hn', hk', hy]; exact same_any a' d' c' e' m m' V (hB'.below (Below.tr hB0 hV)) (hD'.below (Below.tr hB0 hV))
 rw [hW] at c1
 have t1 : True := trivial
 clear hn hn' hk hk' hB hB' hD hD' hx hy
 cases x with
 | false =>
  go_enter Tryz.func83, Tryz.ntmps83
  go_wp2_with (go_at_call 136; refine c1.mono ?_; rintro e w1 ⟨rfl, hb⟩; rw [← hW] at hb)
  go_ret
  exact ⟨ret_bool hE.out.symm, Below.tr hB0 hb⟩
 | true =>
  go_enter Tryz.func83, Tryz.ntmps83
  go_wp2_with (first
   | (go_at_call 136; have _t := t1; refine c1.mono ?_; rintro e w1 ⟨rfl, hb⟩; rw [← hW] at hb; clear t1; replace HB := Below.tr HB hb; obtain ⟨⟨q0, q1⟩, -, -⟩ := bi.below hb; obtain ⟨⟨r0, r1⟩, -, -⟩ := bo.below hb; clear hb)
   | (go_at_call 136; refine (c2 _ HB).mono ?_; rintro e w2 ⟨rfl, hb⟩; replace HB := Below.tr HB hb; clear hb))
  go_ret
  exact ⟨ret_bool hE.out.symm, Below.tr hB0 HB⟩
end Go.Proofs.YtaobfgplheoefaaGreat
