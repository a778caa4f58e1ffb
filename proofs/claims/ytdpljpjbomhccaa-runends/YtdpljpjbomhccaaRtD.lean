/-
  Texts laid together: RunRefOver TaskRefLease RunRefSettle TaskLease RunLease RunAnswer RunTells.
-/
import Derived.Test.YtdpljpjbomhccaaRtA
import Derived.Test.YtdpljpjbomhccaaRtB
import Derived.Test.YtdpljpjbomhccaaRtC
namespace Go.Proofs.Ytdpljpjbomhccaa
open Go.RowKit Plain Anylast
set_option linter.unusedVariables false
def atI (o : Option Nat) : Int := match o with | none => -1 | some j => j
theorem over_take (ss : List StP) (u : Int) (j : Nat) : (List.range (j + 1)).foldl (stepO ss u) none = stepO ss u ((List.range j).foldl (stepO ss u) none) j := by rw [List.range_succ, List.foldl_append]; rfl
theorem stepO_no {ss : List StP} {u : Int} {o : Option Nat} {j : Nat} {s : StP} (hs : ss[j]? = some s) (h : ¬ (s.i = 2 ∧ s.d ≤ u)) : stepO ss u o j = o := by
 unfold stepO; rw [hs]; exact if_neg h
theorem stepO_first {ss : List StP} {u : Int} {j : Nat} {s : StP} (hs : ss[j]? = some s) (h : s.i = 2 ∧ s.d ≤ u) : stepO ss u none j = some j := by
 unfold stepO; rw [hs]; exact if_pos h
theorem stepO_more {ss : List StP} {u : Int} {j f : Nat} {s v : StP} (hs : ss[j]? = some s) (h : s.i = 2 ∧ s.d ≤ u) (hf : ss[f]? = some v) : stepO ss u (some f) j = if s.d < v.d then some j else some f := by
 unfold stepO; rw [hs]; simp only; rw [if_pos h, hf]
def rA (bx : Nat) (sd now u : Int) (d : Bool) : Nat → Value
 | 0 => .pointer (some ⟨bx, 0, none⟩) | 1 => .int .i64 2 | 2 => .bool true | 3 => .bool true | 4 => .pointer (some ⟨bx, 2, none⟩) | 5 => .int .i64 sd | 6 => .int .i64 now | 7 => .int .i64 u | 8 => .bool d | 9 => .bool d | _ => undef
def rB (bx : Nat) (si : Int) : Nat → Value
 | 0 => .pointer (some ⟨bx, 0, none⟩) | 1 => .int .i64 si | 2 => .bool false | 3 => .bool false | 9 => .bool false | _ => undef
set_option maxRecDepth 20000 in
set_option maxHeartbeats 2000000 in
theorem refOver_any (ky nm : ByteArray) (ta : Option Addr) (tn tc : Nat) (is : Int) (sa : Option Addr) (n sc : Nat) (tv : List TaskV) (ss : List StP) (now : Int) (w : World) (hT : IsT w ta tc tv) (htn : tn = tv.length) (hZ : IsZ w sa sc ss) (hn : n = ss.length) (hnow : now ≤ 9223372036854775807) :
  Calls Try.prog 46 #[.agg #[.string ky, .string nm, .slice ta tn tc, .int .i64 is, .slice sa n sc], .int .i64 now] w fun e w' => e = .returned (.int .i64 (atI (overN ss (untF now [])))) ∧ Below w.heap.size w w' := by
 have hB0 : Below w.heap.size w (w.alloc (.cells #[.string ky, .string nm, .slice ta tn tc, .int .i64 is, .slice sa n sc] 27)) := (Below.refl _ _).alloc (Nat.le_refl _) _
 have X0 : RunIn (w.alloc (.cells #[.string ky, .string nm, .slice ta tn tc, .int .i64 is, .slice sa n sc] 27)) w.heap.size ky nm ta tn tc is sa n sc tv ss := ⟨boxL_new w [.string ky, .string nm, .slice ta tn tc, .int .i64 is, .slice sa n sc] _ rfl, hT.below hB0, hZ.below hB0, htn, hn⟩
 have cT := fun W => refTime_any now W hnow
 obtain ⟨u, hu⟩ : ∃ u, u = untF now [] := ⟨_, rfl⟩
 rw [← hu] at cT ⊢
 have hnm : n ≤ 9223372036854775807 := by rw [hn]; exact hZ.size
 have HN : Hid (n = ss.length) := hn
 obtain ⟨FR, hFR⟩ : ∃ FR, FR = atI (overN ss u) := ⟨_, rfl⟩
 rw [← hFR]
 have HFR : Hid (FR = atI (overN ss u)) := hFR
 have x4 := X0.box.1 4 _ rfl
 clear hT htn hZ hn hu hFR
 go_enter Try.func46, Try.ntmps46
 go_wp2
 clear x4
 go_loopw [5, 11] (fun a v wr => ∃ j : Nat, j ≤ n ∧ a = .int .i64 (atI ((List.range j).foldl (stepO ss u) none)) ∧ v = .int .i64 j ∧ RunIn wr w.heap.size ky nm ta tn tc is sa n sc tv ss ∧ Below w.heap.size w wr) (fun _ v _ => n - (intOf v).toNat)
 case atStart => exact ⟨0, Nat.zero_le _, rfl, rfl, X0, hB0⟩
 case round =>
  clear X0 hB0
  obtain ⟨j, hj, rfl, rfl, X, hB⟩ := hrel
  obtain ⟨o, ho⟩ : ∃ o, o = (List.range j).foldl (stepO ss u) none := ⟨_, rfl⟩
  have HO : Hid (o = (List.range j).foldl (stepO ss u) none) := ho
  rw [← ho]
  by_cases hlt : j < n
  ·
   have hlt' : (j : Int) < n := by omega
   obtain ⟨hb1, hb2, hb3, hb4⟩ := X.bounds
   obtain ⟨s, hs⟩ : ∃ s, ss[j]? = some s := ⟨_, List.getElem?_eq_getElem (by rw [← HN.out]; exact hlt)⟩
   obtain ⟨b, ob, rfl, -⟩ := X.hZ.some (by have := HN.out; omega)
   obtain ⟨z0, z1, z2, z3, z4⟩ := X.hZ.at hs
   have hst : Hid ((List.range (j + 1)).foldl (stepO ss u) none = stepO ss u o j) := by show _ = _; rw [over_take, ← ho]
   have hof : ∀ f, o = some f → ∃ sf, ss[f]? = some sf := fun f hf => by
    have := overTo_fold ss u j
    rw [← ho, hf] at this
    obtain ⟨_, v, hv, _⟩ := this
    exact ⟨v, hv⟩
   obtain ⟨Y, hY⟩ : ∃ Y, Y = wr.alloc (.cells #[.int .i64 s.i, .int .i64 s.t, .int .i64 s.d, .int .i64 s.k, .string s.r] 52) := ⟨_, rfl⟩
   have XY : RunIn Y.drew w.heap.size ky nm ta tn tc is (some ⟨b, ob, none⟩) n sc tv ss := by rw [hY]; exact (X.alloc _).drew
   have bS : BoxL Y.drew wr.heap.size [.int .i64 s.i, .int .i64 s.t, .int .i64 s.d, .int .i64 s.k, .string s.r] := by rw [hY]; exact (boxL_new wr [.int .i64 s.i, .int .i64 s.t, .int .i64 s.d, .int .i64 s.k, .string s.r] _ rfl).below (Below.refl _ _).drew
   have hBY : Below w.heap.size w Y.drew := by rw [hY]; exact (hB.alloc hB.size _).drew
   have f0 := bS.1 0 _ rfl
   have f2 := bS.1 2 _ rfl
   clear ho
   obtain ⟨si, st, sd, sk, sr⟩ := s
   dsimp only at *
   by_cases h2 : si = 2
   ·
    subst h2
    by_cases hd : sd ≤ u
    ·
     have hd1 : decide (sd ≤ u) = true := decide_eq_true hd
     cases o with
     | none =>
      have hnx : Hid ((List.range (j + 1)).foldl (stepO ss u) none = some j) := by show _ = _; rw [hst.out]; exact stepO_first hs ⟨rfl, hd⟩
      clear hs hof hst HO X hB
      unfold atI
      go_wp2
      rw [← hY]
      clear hY z0 z1 z2 z3 z4
      refine region_turns (by kernel_rfl) [] (rA wr.heap.size sd now u true) (fun _ V => Hid (V = Y.drew)) (by kernel_rfl) (by kernel_rfl) rfl ?step 10 rfl ?after
      case step =>
       intro i o ho kk a2 wX hkk hmay hS hdf hsz hdep hsame
       match i, ho with
       | 0, ho =>
        cases ho
        have h7 := hsame 7 rfl
        exact val_op rfl (wanted_free rfl) (by clear hdep hsame hsz hdf; (try simp only [rA]); go_simp) rfl hS
       | 1, ho =>
        cases ho
        have h16 := hdep 0 _ 16 rfl rfl rfl
        simp only [rA] at h16
        match kk, hkk, hmay, hS with
        | 0, _, hq, hS => first | (cases hq; done) | ((have hE : wX = Y.drew := hS.out; subst hE); exact val_op rfl (wanted_free rfl) (by clear hdep hsame hsz hdf; (try simp only [rA]); go_simp) rfl hS)
        | kk + 1, hkk, _, _ => simp at hkk
       | 2, ho =>
        cases ho
        have h17 := hdep 1 _ 17 rfl rfl rfl
        simp only [rA] at h17
        exact val_op rfl (wanted_free rfl) (by clear hdep hsame hsz hdf; (try simp only [rA]); go_simp) rfl hS
       | 3, ho =>
        cases ho
        have h18 := hdep 2 _ 18 rfl rfl rfl
        simp only [rA] at h18
        exact val_op rfl (wanted_free rfl) (by clear hdep hsame hsz hdf; (try simp only [rA]); go_simp) rfl hS
       | 4, ho =>
        cases ho
        have h19 := hdep 3 _ 19 rfl rfl rfl
        have h7 := hsame 7 rfl
        simp only [rA] at h19
        exact val_op rfl (wanted_by 3 true 19 rfl rfl h19) (by clear hdep hsame hsz hdf; (try simp only [rA]); go_simp) rfl hS
       | 5, ho =>
        cases ho
        have h19 := hdep 3 _ 19 rfl rfl rfl
        have h20 := hdep 4 _ 20 rfl rfl rfl
        simp only [rA] at h19 h20
        match kk, hkk, hmay, hS with
        | 0, _, hq, hS => first | (cases hq; done) | ((have hE : wX = Y.drew := hS.out; subst hE); exact val_op rfl (wanted_by 3 true 19 rfl rfl h19) (by clear hdep hsame hsz hdf; (try simp only [rA]); go_simp) rfl hS)
        | kk + 1, hkk, _, _ => simp at hkk
       | 6, ho =>
        cases ho
        have h19 := hdep 3 _ 19 rfl rfl rfl
        have h1 := hsame 1 rfl
        simp only [rA] at h19
        exact val_op rfl (wanted_by 3 true 19 rfl rfl h19) (by clear hdep hsame hsz hdf; (try simp only [rA]); go_simp) rfl hS
       | 7, ho =>
        cases ho
        have h19 := hdep 3 _ 19 rfl rfl rfl
        have h22 := hdep 6 _ 22 rfl rfl rfl
        simp only [rA] at h19 h22
        match kk, hkk, hmay, hS with
        | 0, _, hq, hS => first | (cases hq; done) | ((have hE : wX = Y.drew := hS.out; subst hE); exact val_call rfl (wanted_by 3 true 19 rfl rfl h19) (by clear hdep hsame hsz hdf; (try simp only [rA]); go_simp) ((cT _).mono fun e w2 hh => ⟨hh.1, hh.2.symm⟩))
        | kk + 1, hkk, _, _ => simp at hkk
       | 8, ho =>
        cases ho
        have h19 := hdep 3 _ 19 rfl rfl rfl
        have h21 := hdep 5 _ 21 rfl rfl rfl
        have h23 := hdep 7 _ 23 rfl rfl rfl
        simp only [rA] at h19 h21 h23
        exact val_op rfl (wanted_by 3 true 19 rfl rfl h19) (by clear hdep hsame hsz hdf; (try simp only [rA]); go_simp) rfl hS
       | 9, ho =>
        cases ho
        have h19 := hdep 3 _ 19 rfl rfl rfl
        have h24 := hdep 8 _ 24 rfl rfl rfl
        simp only [rA] at h19 h24
        exact val_op rfl (wanted_free rfl) (by clear hdep hsame hsz hdf; (try simp only [rA]); go_simp) rfl hS
       | kk + 10, ho => simp at ho
      case after =>
       rintro V hV
       have hE : V = Y.drew := hV.out
       clear hV
       subst hE
       simp [filledN, rA]
       go_wp2
       go_region
       go_wp2
       go_roundw
       case rel => exact ⟨j + 1, by omega, by rw [hnx.out], by go_num, XY.drew, hBY.drew⟩
       case measure => simp [intOf]; omega
     | some f =>
      obtain ⟨sf, hsf⟩ := hof f rfl
      have hfl := (List.getElem?_eq_some_iff.1 hsf).1
      have hfn : (f : Int) < n := by have := HN.out; omega
      have hf0 : ¬ (f : Int) < 0 := by omega
      have hf1 : ((f : Int) < 0) = False := eq_false hf0
      have y2 := (XY.hZ.at hsf).2.2.1
      obtain ⟨fd, hfd⟩ : ∃ fd, fd = sf.d := ⟨_, rfl⟩
      rw [← hfd] at y2
      have q4 := XY.box.1 4 _ rfl
      by_cases hc : sd < fd
      ·
       have hc1 : (sd < fd) = True := eq_true hc
       have hnx : Hid ((List.range (j + 1)).foldl (stepO ss u) none = some j) := by show _ = _; rw [hst.out, stepO_more hs ⟨rfl, hd⟩ hsf, ← hfd, if_pos hc]
       clear hs hof hst HO X hB hfd hsf hfl hf0 hc
       unfold atI
       go_wp2
       rw [← hY]
       clear hY z0 z1 z2 z3 z4
       refine region_turns (by kernel_rfl) [] (rA wr.heap.size sd now u true) (fun _ V => Hid (V = Y.drew)) (by kernel_rfl) (by kernel_rfl) rfl ?step 10 rfl ?after
       case step =>
        intro i o ho kk a2 wX hkk hmay hS hdf hsz hdep hsame
        match i, ho with
        | 0, ho =>
         cases ho
         have h7 := hsame 7 rfl
         exact val_op rfl (wanted_free rfl) (by clear hdep hsame hsz hdf; (try simp only [rA]); go_simp) rfl hS
        | 1, ho =>
         cases ho
         have h16 := hdep 0 _ 16 rfl rfl rfl
         simp only [rA] at h16
         match kk, hkk, hmay, hS with
         | 0, _, hq, hS => first | (cases hq; done) | ((have hE : wX = Y.drew := hS.out; subst hE); exact val_op rfl (wanted_free rfl) (by clear hdep hsame hsz hdf; (try simp only [rA]); go_simp) rfl hS)
         | kk + 1, hkk, _, _ => simp at hkk
        | 2, ho =>
         cases ho
         have h17 := hdep 1 _ 17 rfl rfl rfl
         simp only [rA] at h17
         exact val_op rfl (wanted_free rfl) (by clear hdep hsame hsz hdf; (try simp only [rA]); go_simp) rfl hS
        | 3, ho =>
         cases ho
         have h18 := hdep 2 _ 18 rfl rfl rfl
         simp only [rA] at h18
         exact val_op rfl (wanted_free rfl) (by clear hdep hsame hsz hdf; (try simp only [rA]); go_simp) rfl hS
        | 4, ho =>
         cases ho
         have h19 := hdep 3 _ 19 rfl rfl rfl
         have h7 := hsame 7 rfl
         simp only [rA] at h19
         exact val_op rfl (wanted_by 3 true 19 rfl rfl h19) (by clear hdep hsame hsz hdf; (try simp only [rA]); go_simp) rfl hS
        | 5, ho =>
         cases ho
         have h19 := hdep 3 _ 19 rfl rfl rfl
         have h20 := hdep 4 _ 20 rfl rfl rfl
         simp only [rA] at h19 h20
         match kk, hkk, hmay, hS with
         | 0, _, hq, hS => first | (cases hq; done) | ((have hE : wX = Y.drew := hS.out; subst hE); exact val_op rfl (wanted_by 3 true 19 rfl rfl h19) (by clear hdep hsame hsz hdf; (try simp only [rA]); go_simp) rfl hS)
         | kk + 1, hkk, _, _ => simp at hkk
        | 6, ho =>
         cases ho
         have h19 := hdep 3 _ 19 rfl rfl rfl
         have h1 := hsame 1 rfl
         simp only [rA] at h19
         exact val_op rfl (wanted_by 3 true 19 rfl rfl h19) (by clear hdep hsame hsz hdf; (try simp only [rA]); go_simp) rfl hS
        | 7, ho =>
         cases ho
         have h19 := hdep 3 _ 19 rfl rfl rfl
         have h22 := hdep 6 _ 22 rfl rfl rfl
         simp only [rA] at h19 h22
         match kk, hkk, hmay, hS with
         | 0, _, hq, hS => first | (cases hq; done) | ((have hE : wX = Y.drew := hS.out; subst hE); exact val_call rfl (wanted_by 3 true 19 rfl rfl h19) (by clear hdep hsame hsz hdf; (try simp only [rA]); go_simp) ((cT _).mono fun e w2 hh => ⟨hh.1, hh.2.symm⟩))
         | kk + 1, hkk, _, _ => simp at hkk
        | 8, ho =>
         cases ho
         have h19 := hdep 3 _ 19 rfl rfl rfl
         have h21 := hdep 5 _ 21 rfl rfl rfl
         have h23 := hdep 7 _ 23 rfl rfl rfl
         simp only [rA] at h19 h21 h23
         exact val_op rfl (wanted_by 3 true 19 rfl rfl h19) (by clear hdep hsame hsz hdf; (try simp only [rA]); go_simp) rfl hS
        | 9, ho =>
         cases ho
         have h19 := hdep 3 _ 19 rfl rfl rfl
         have h24 := hdep 8 _ 24 rfl rfl rfl
         simp only [rA] at h19 h24
         exact val_op rfl (wanted_free rfl) (by clear hdep hsame hsz hdf; (try simp only [rA]); go_simp) rfl hS
        | kk + 10, ho => simp at ho
       case after =>
        rintro V hV
        have hE : V = Y.drew := hV.out
        clear hV
        subst hE
        simp [filledN, rA]
        go_wp2
        go_region
        go_wp2
        go_roundw
        case rel => exact ⟨j + 1, by omega, by rw [hnx.out], by go_num, XY.drew, hBY.drew⟩
        case measure => simp [intOf]; omega
      ·
       have hc1 : (sd < fd) = False := eq_false hc
       have hnx : Hid ((List.range (j + 1)).foldl (stepO ss u) none = some f) := by show _ = _; rw [hst.out, stepO_more hs ⟨rfl, hd⟩ hsf, ← hfd, if_neg hc]
       clear hs hof hst HO X hB hfd hsf hfl hf0 hc
       unfold atI
       go_wp2
       rw [← hY]
       clear hY z0 z1 z2 z3 z4
       refine region_turns (by kernel_rfl) [] (rA wr.heap.size sd now u true) (fun _ V => Hid (V = Y.drew)) (by kernel_rfl) (by kernel_rfl) rfl ?step 10 rfl ?after
       case step =>
        intro i o ho kk a2 wX hkk hmay hS hdf hsz hdep hsame
        match i, ho with
        | 0, ho =>
         cases ho
         have h7 := hsame 7 rfl
         exact val_op rfl (wanted_free rfl) (by clear hdep hsame hsz hdf; (try simp only [rA]); go_simp) rfl hS
        | 1, ho =>
         cases ho
         have h16 := hdep 0 _ 16 rfl rfl rfl
         simp only [rA] at h16
         match kk, hkk, hmay, hS with
         | 0, _, hq, hS => first | (cases hq; done) | ((have hE : wX = Y.drew := hS.out; subst hE); exact val_op rfl (wanted_free rfl) (by clear hdep hsame hsz hdf; (try simp only [rA]); go_simp) rfl hS)
         | kk + 1, hkk, _, _ => simp at hkk
        | 2, ho =>
         cases ho
         have h17 := hdep 1 _ 17 rfl rfl rfl
         simp only [rA] at h17
         exact val_op rfl (wanted_free rfl) (by clear hdep hsame hsz hdf; (try simp only [rA]); go_simp) rfl hS
        | 3, ho =>
         cases ho
         have h18 := hdep 2 _ 18 rfl rfl rfl
         simp only [rA] at h18
         exact val_op rfl (wanted_free rfl) (by clear hdep hsame hsz hdf; (try simp only [rA]); go_simp) rfl hS
        | 4, ho =>
         cases ho
         have h19 := hdep 3 _ 19 rfl rfl rfl
         have h7 := hsame 7 rfl
         simp only [rA] at h19
         exact val_op rfl (wanted_by 3 true 19 rfl rfl h19) (by clear hdep hsame hsz hdf; (try simp only [rA]); go_simp) rfl hS
        | 5, ho =>
         cases ho
         have h19 := hdep 3 _ 19 rfl rfl rfl
         have h20 := hdep 4 _ 20 rfl rfl rfl
         simp only [rA] at h19 h20
         match kk, hkk, hmay, hS with
         | 0, _, hq, hS => first | (cases hq; done) | ((have hE : wX = Y.drew := hS.out; subst hE); exact val_op rfl (wanted_by 3 true 19 rfl rfl h19) (by clear hdep hsame hsz hdf; (try simp only [rA]); go_simp) rfl hS)
         | kk + 1, hkk, _, _ => simp at hkk
        | 6, ho =>
         cases ho
         have h19 := hdep 3 _ 19 rfl rfl rfl
         have h1 := hsame 1 rfl
         simp only [rA] at h19
         exact val_op rfl (wanted_by 3 true 19 rfl rfl h19) (by clear hdep hsame hsz hdf; (try simp only [rA]); go_simp) rfl hS
        | 7, ho =>
         cases ho
         have h19 := hdep 3 _ 19 rfl rfl rfl
         have h22 := hdep 6 _ 22 rfl rfl rfl
         simp only [rA] at h19 h22
         match kk, hkk, hmay, hS with
         | 0, _, hq, hS => first | (cases hq; done) | ((have hE : wX = Y.drew := hS.out; subst hE); exact val_call rfl (wanted_by 3 true 19 rfl rfl h19) (by clear hdep hsame hsz hdf; (try simp only [rA]); go_simp) ((cT _).mono fun e w2 hh => ⟨hh.1, hh.2.symm⟩))
         | kk + 1, hkk, _, _ => simp at hkk
        | 8, ho =>
         cases ho
         have h19 := hdep 3 _ 19 rfl rfl rfl
         have h21 := hdep 5 _ 21 rfl rfl rfl
         have h23 := hdep 7 _ 23 rfl rfl rfl
         simp only [rA] at h19 h21 h23
         exact val_op rfl (wanted_by 3 true 19 rfl rfl h19) (by clear hdep hsame hsz hdf; (try simp only [rA]); go_simp) rfl hS
        | 9, ho =>
         cases ho
         have h19 := hdep 3 _ 19 rfl rfl rfl
         have h24 := hdep 8 _ 24 rfl rfl rfl
         simp only [rA] at h19 h24
         exact val_op rfl (wanted_free rfl) (by clear hdep hsame hsz hdf; (try simp only [rA]); go_simp) rfl hS
        | kk + 10, ho => simp at ho
       case after =>
        rintro V hV
        have hE : V = Y.drew := hV.out
        clear hV
        subst hE
        simp [filledN, rA]
        go_wp2
        go_region
        go_wp2
        go_roundw
        case rel => exact ⟨j + 1, by omega, by rw [hnx.out], by go_num, XY.drew, hBY.drew⟩
        case measure => simp [intOf]; omega
    ·
     have hd1 : decide (sd ≤ u) = false := decide_eq_false hd
     have hnx : Hid ((List.range (j + 1)).foldl (stepO ss u) none = o) := by show _ = _; rw [hst.out]; exact stepO_no hs fun h => hd h.2
     clear hs hof hst X hB
     have HA : Hid (atI o = atI o) := rfl
     obtain ⟨oi, hoi⟩ : ∃ oi, oi = atI o := ⟨_, rfl⟩
     rw [← hoi]
     have HOI : Hid (oi = atI o) := hoi
     clear hoi
     go_wp2
     rw [← hY]
     clear hY z0 z1 z2 z3 z4
     refine region_turns (by kernel_rfl) [] (rA wr.heap.size sd now u false) (fun _ V => Hid (V = Y.drew)) (by kernel_rfl) (by kernel_rfl) rfl ?step 10 rfl ?after
     case step =>
      intro i o ho kk a2 wX hkk hmay hS hdf hsz hdep hsame
      match i, ho with
      | 0, ho =>
       cases ho
       have h7 := hsame 7 rfl
       exact val_op rfl (wanted_free rfl) (by clear hdep hsame hsz hdf; (try simp only [rA]); go_simp) rfl hS
      | 1, ho =>
       cases ho
       have h16 := hdep 0 _ 16 rfl rfl rfl
       simp only [rA] at h16
       match kk, hkk, hmay, hS with
       | 0, _, hq, hS => first | (cases hq; done) | ((have hE : wX = Y.drew := hS.out; subst hE); exact val_op rfl (wanted_free rfl) (by clear hdep hsame hsz hdf; (try simp only [rA]); go_simp) rfl hS)
       | kk + 1, hkk, _, _ => simp at hkk
      | 2, ho =>
       cases ho
       have h17 := hdep 1 _ 17 rfl rfl rfl
       simp only [rA] at h17
       exact val_op rfl (wanted_free rfl) (by clear hdep hsame hsz hdf; (try simp only [rA]); go_simp) rfl hS
      | 3, ho =>
       cases ho
       have h18 := hdep 2 _ 18 rfl rfl rfl
       simp only [rA] at h18
       exact val_op rfl (wanted_free rfl) (by clear hdep hsame hsz hdf; (try simp only [rA]); go_simp) rfl hS
      | 4, ho =>
       cases ho
       have h19 := hdep 3 _ 19 rfl rfl rfl
       have h7 := hsame 7 rfl
       simp only [rA] at h19
       exact val_op rfl (wanted_by 3 true 19 rfl rfl h19) (by clear hdep hsame hsz hdf; (try simp only [rA]); go_simp) rfl hS
      | 5, ho =>
       cases ho
       have h19 := hdep 3 _ 19 rfl rfl rfl
       have h20 := hdep 4 _ 20 rfl rfl rfl
       simp only [rA] at h19 h20
       match kk, hkk, hmay, hS with
       | 0, _, hq, hS => first | (cases hq; done) | ((have hE : wX = Y.drew := hS.out; subst hE); exact val_op rfl (wanted_by 3 true 19 rfl rfl h19) (by clear hdep hsame hsz hdf; (try simp only [rA]); go_simp) rfl hS)
       | kk + 1, hkk, _, _ => simp at hkk
      | 6, ho =>
       cases ho
       have h19 := hdep 3 _ 19 rfl rfl rfl
       have h1 := hsame 1 rfl
       simp only [rA] at h19
       exact val_op rfl (wanted_by 3 true 19 rfl rfl h19) (by clear hdep hsame hsz hdf; (try simp only [rA]); go_simp) rfl hS
      | 7, ho =>
       cases ho
       have h19 := hdep 3 _ 19 rfl rfl rfl
       have h22 := hdep 6 _ 22 rfl rfl rfl
       simp only [rA] at h19 h22
       match kk, hkk, hmay, hS with
       | 0, _, hq, hS => first | (cases hq; done) | ((have hE : wX = Y.drew := hS.out; subst hE); exact val_call rfl (wanted_by 3 true 19 rfl rfl h19) (by clear hdep hsame hsz hdf; (try simp only [rA]); go_simp) ((cT _).mono fun e w2 hh => ⟨hh.1, hh.2.symm⟩))
       | kk + 1, hkk, _, _ => simp at hkk
      | 8, ho =>
       cases ho
       have h19 := hdep 3 _ 19 rfl rfl rfl
       have h21 := hdep 5 _ 21 rfl rfl rfl
       have h23 := hdep 7 _ 23 rfl rfl rfl
       simp only [rA] at h19 h21 h23
       exact val_op rfl (wanted_by 3 true 19 rfl rfl h19) (by clear hdep hsame hsz hdf; (try simp only [rA]); go_simp) rfl hS
      | 9, ho =>
       cases ho
       have h19 := hdep 3 _ 19 rfl rfl rfl
       have h24 := hdep 8 _ 24 rfl rfl rfl
       simp only [rA] at h19 h24
       exact val_op rfl (wanted_free rfl) (by clear hdep hsame hsz hdf; (try simp only [rA]); go_simp) rfl hS
      | kk + 10, ho => simp at ho
     case after =>
      rintro V hV
      have hE : V = Y.drew := hV.out
      clear hV
      subst hE
      simp [filledN, rA]
      go_wp2
      go_roundw
      case rel => exact ⟨j + 1, by omega, by rw [hnx.out]; exact congrArg _ HOI.out, by go_num, XY, hBY⟩
      case measure => simp [intOf]; omega
   ·
    have i2 : (si == 2) = false := by simpa using h2
    have hnx : Hid ((List.range (j + 1)).foldl (stepO ss u) none = o) := by show _ = _; rw [hst.out]; exact stepO_no hs fun h => h2 h.1
    clear hs hof hst X hB
    obtain ⟨oi, hoi⟩ : ∃ oi, oi = atI o := ⟨_, rfl⟩
    rw [← hoi]
    have HOI : Hid (oi = atI o) := hoi
    clear hoi
    go_wp2
    rw [← hY]
    clear hY z0 z1 z2 z3 z4
    refine region_turns (by kernel_rfl) [] (rB wr.heap.size si) (fun _ V => Hid (V = Y.drew)) (by kernel_rfl) (by kernel_rfl) rfl ?step 10 rfl ?after
    case step =>
     intro i o ho kk a2 wX hkk hmay hS hdf hsz hdep hsame
     match i, ho with
     | 0, ho =>
      cases ho
      have h7 := hsame 7 rfl
      exact val_op rfl (wanted_free rfl) (by clear hdep hsame hsz hdf; (try simp only [rB]); go_simp) rfl hS
     | 1, ho =>
      cases ho
      have h16 := hdep 0 _ 16 rfl rfl rfl
      simp only [rB] at h16
      match kk, hkk, hmay, hS with
      | 0, _, hq, hS => first | (cases hq; done) | ((have hE : wX = Y.drew := hS.out; subst hE); exact val_op rfl (wanted_free rfl) (by clear hdep hsame hsz hdf; (try simp only [rB]); go_simp) rfl hS)
      | kk + 1, hkk, _, _ => simp at hkk
     | 2, ho =>
      cases ho
      have h17 := hdep 1 _ 17 rfl rfl rfl
      simp only [rB] at h17
      exact val_op rfl (wanted_free rfl) (by clear hdep hsame hsz hdf; (try simp only [rB]); go_simp) rfl hS
     | 3, ho =>
      cases ho
      have h18 := hdep 2 _ 18 rfl rfl rfl
      simp only [rB] at h18
      exact val_op rfl (wanted_free rfl) (by clear hdep hsame hsz hdf; (try simp only [rB]); go_simp) rfl hS
     | 4, ho =>
      cases ho
      have h19 := hdep 3 _ 19 rfl rfl rfl
      simp only [rB] at h19
      exact val_left rfl (unwanted_by 3 true 19 rfl rfl h19) rfl hS
     | 5, ho =>
      cases ho
      have h19 := hdep 3 _ 19 rfl rfl rfl
      simp only [rB] at h19
      exact val_left rfl (unwanted_by 3 true 19 rfl rfl h19) rfl hS
     | 6, ho =>
      cases ho
      have h19 := hdep 3 _ 19 rfl rfl rfl
      simp only [rB] at h19
      exact val_left rfl (unwanted_by 3 true 19 rfl rfl h19) rfl hS
     | 7, ho =>
      cases ho
      have h19 := hdep 3 _ 19 rfl rfl rfl
      simp only [rB] at h19
      exact val_left rfl (unwanted_by 3 true 19 rfl rfl h19) rfl hS
     | 8, ho =>
      cases ho
      have h19 := hdep 3 _ 19 rfl rfl rfl
      simp only [rB] at h19
      exact val_left rfl (unwanted_by 3 true 19 rfl rfl h19) rfl hS
     | 9, ho =>
      cases ho
      have h19 := hdep 3 _ 19 rfl rfl rfl
      have h24 := hdep 8 _ 24 rfl rfl rfl
      simp only [rB] at h19 h24
      exact val_op rfl (wanted_free rfl) (by clear hdep hsame hsz hdf; (try simp only [rB]); go_simp) rfl hS
     | kk + 10, ho => simp at ho
    case after =>
     rintro V hV
     have hE : V = Y.drew := hV.out
     clear hV
     subst hE
     simp [filledN, rB]
     go_wp2
     go_roundw
     case rel => exact ⟨j + 1, by omega, by rw [hnx.out]; exact congrArg _ HOI.out, by go_num, XY, hBY⟩
     case measure => simp [intOf]; omega
  ·
   obtain rfl : n = j := by omega
   have hx : ¬ (n : Int) < n := by omega
   have hE : Hid (atI o = FR) := by show _ = _; rw [HFR.out, HO.out, HN.out]; rfl
   clear ho HO
   obtain ⟨oi, hoi⟩ : ∃ oi, oi = atI o := ⟨_, rfl⟩
   rw [← hoi]
   have HOI : Hid (oi = atI o) := hoi
   clear hoi
   go_wp2
   go_ret
   exact ⟨by rw [HOI.out, hE.out]; rfl, hB⟩
end Go.Proofs.Ytdpljpjbomhccaa
namespace Go.Proofs.Ytdpljpjbomhccaa
open Go.RowKit Plain
set_option linter.unusedVariables false
theorem box_second (w : World) (i t d k : Int) (r : ByteArray) (ta : Option Addr) (tl tc : Nat) (tr wt le : Int) : BoxL (((w.alloc (.cells #[.slice ta tl tc, .int .i64 tr, .int .i64 wt, .int .i64 le] 50)).alloc (.cells #[.int .i64 i, .int .i64 t, .int .i64 d, .int .i64 k, .string r] 52)).alloc (.cells #[.int .i64 0, .int .i64 0, .int .i64 0, .int .i64 0, .string ⟨#[]⟩] 52)) (w.heap.size + 1) [.int .i64 i, .int .i64 t, .int .i64 d, .int .i64 k, .string r] :=
 (boxL_new (w.alloc (.cells #[.slice ta tl tc, .int .i64 tr, .int .i64 wt, .int .i64 le] 50)) [.int .i64 i, .int .i64 t, .int .i64 d, .int .i64 k, .string r] 52 (by simp)).alloc _
set_option maxRecDepth 20000 in
set_option maxHeartbeats 2000000 in
theorem refExpireT_any (ta : Option Addr) (tl tc : Nat) (tr wt le : Int) (i t d k : Int) (r : ByteArray) (now : Int) (w : World) (hnow : now ≤ 9223372036854775807) (ht : t ≤ 9223372036854775807) (hd : d ≤ 9223372036854775807) :
  Calls Try.prog 48 #[.agg #[.slice ta tl tc, .int .i64 tr, .int .i64 wt, .int .i64 le], .agg #[.int .i64 i, .int .i64 t, .int .i64 d, .int .i64 k, .string r], .int .i64 now] w fun e w' => e = .returned (vT (expireT tr wt ⟨i, t, d, k, r⟩ now)) ∧ Below w.heap.size w w' := by
 have c2 := fun W => refTime_any now W hnow
 have q0 := (box_second w i t d k r ta tl tc tr wt le).1 0 _ rfl
 have q2 := (box_second w i t d k r ta tl tc tr wt le).1 2 _ rfl
 by_cases h : i = 2
 ·
  subst h
  by_cases ho : d ≤ untF now []
  ·
   rw [show expireT tr wt ⟨2, t, d, k, r⟩ now = failT tr wt ⟨2, t, d, k, r⟩ d from if_pos ⟨rfl, ho⟩]
   generalize untF now [] = n0 at *
   have ho' : (d ≤ n0) = True := eq_true ho
   clear ho
   by_cases hl : t < tr
   ·
    rw [show failT tr wt ⟨2, t, d, k, r⟩ d = ⟨1, t, untF d [afterF wt t], 0, r⟩ by unfold failT; rw [if_pos rfl, if_pos hl]]
    have c3 := fun W => refFailLow_any ta tl tc tr wt le t d k r d W ht hd hl
    generalize untF d [afterF wt t] = u at *
    generalize afterF wt t = v at *
    go_enter Try.func48, Try.ntmps48
    go_wp2
    go_region_held3 (fun V => V.cell? ⟨w.heap.size + 1, 0, none⟩ = some (.int .i64 2) ∧ V.cell? ⟨w.heap.size + 1, 2, none⟩ = some (.int .i64 d)) (exact ⟨q0, q2⟩) (first
     | (go_at_call 53; refine (c2 _).mono ?_; rintro e w' ⟨rfl, rfl⟩))
    go_wp2_with (first
     | (go_at_call 66; refine (c3 _).mono ?_; rintro e w' ⟨rfl, rfl⟩))
    exact bodyPost_ret (v := .agg #[.int .i64 1, .int .i64 t, .int .i64 u, .int .i64 0, .string r]) (by simp [results, Try.results48, go_sem]) rfl ⟨rfl, (((((bel4 _ _ _ _ _).alloc (by simp; omega) _).alloc (by simp; omega) _).alloc (by simp; omega) _).alloc (by simp; omega) _).drew⟩
   ·
    rw [show failT tr wt ⟨2, t, d, k, r⟩ d = ⟨4, t, 0, 0, r⟩ by unfold failT; rw [if_pos rfl, if_neg hl]]
    have c3 := fun W => refFailHigh_any ta tl tc tr wt le t d k r d W hl
    go_enter Try.func48, Try.ntmps48
    go_wp2
    go_region_held3 (fun V => V.cell? ⟨w.heap.size + 1, 0, none⟩ = some (.int .i64 2) ∧ V.cell? ⟨w.heap.size + 1, 2, none⟩ = some (.int .i64 d)) (exact ⟨q0, q2⟩) (first
     | (go_at_call 53; refine (c2 _).mono ?_; rintro e w' ⟨rfl, rfl⟩))
    go_wp2_with (first
     | (go_at_call 66; refine (c3 _).mono ?_; rintro e w' ⟨rfl, rfl⟩))
    exact bodyPost_ret (v := .agg #[.int .i64 4, .int .i64 t, .int .i64 0, .int .i64 0, .string r]) (by simp [results, Try.results48, go_sem]) rfl ⟨rfl, ((((bel4 _ _ _ _ _).alloc (by simp; omega) _).alloc (by simp; omega) _).alloc (by simp; omega) _).drew⟩
  ·
   rw [show expireT tr wt ⟨2, t, d, k, r⟩ now = ⟨2, t, d, k, r⟩ from if_neg (fun hh => ho hh.2)]
   generalize untF now [] = n0 at *
   have ho' : (d ≤ n0) = False := eq_false ho
   clear ho
   go_enter Try.func48, Try.ntmps48
   go_wp2
   go_region_held3 (fun V => V.cell? ⟨w.heap.size + 1, 0, none⟩ = some (.int .i64 2) ∧ V.cell? ⟨w.heap.size + 1, 2, none⟩ = some (.int .i64 d)) (exact ⟨q0, q2⟩) (first
    | (go_at_call 53; refine (c2 _).mono ?_; rintro e w' ⟨rfl, rfl⟩))
   go_wp2
   exact bodyPost_ret (v := .agg #[.int .i64 2, .int .i64 t, .int .i64 d, .int .i64 k, .string r]) (by simp [results, Try.results48, go_sem]) rfl ⟨rfl, (bel3 _ _ _ _).drew⟩
 ·
  rw [show expireT tr wt ⟨i, t, d, k, r⟩ now = ⟨i, t, d, k, r⟩ from if_neg (fun hh => h hh.1)]
  have h' : (i == 2) = false := by simpa using h
  go_enter Try.func48, Try.ntmps48
  go_wp2
  go_region
  go_wp2
  exact bodyPost_ret (v := .agg #[.int .i64 i, .int .i64 t, .int .i64 d, .int .i64 k, .string r]) (by simp [results, Try.results48, go_sem]) rfl ⟨rfl, (bel3 _ _ _ _).drew⟩
end Go.Proofs.Ytdpljpjbomhccaa
namespace Go.Proofs.Ytdpljpjbomhccaa
open Go.RowKit Plain Anylast
set_option linter.unusedVariables false
def seV (ky nm : ByteArray) (tb to tn tc : Nat) (is : Int) (b o n c : Nat) (z i : Nat) (tk : Value) (s x : StP) (now : Int) (B : Nat) (zs ms : List StP) (mi : Int) : Nat → Value → World → Prop
 | 0, v, _ => v = .agg #[.string ky, .string nm, .slice (some ⟨tb, to, none⟩) tn tc, .int .i64 is, .slice (some ⟨b, o, none⟩) n c]
 | 1, v, _ => v = .int .i64 i | 2, v, _ => v = .pointer (some ⟨z, 1, none⟩) | 3, v, _ => v = .pointer (some ⟨z, 2, none⟩) | 4, v, _ => v = .slice (some ⟨tb, to, none⟩) tn tc | 5, v, _ => v = .int .i64 i
 | 6, v, _ => v = .pointer (some ⟨tb, to + i * 4, none⟩) | 7, v, _ => v = tk | 8, v, _ => v = .pointer (some ⟨z, 4, none⟩) | 9, v, _ => v = .slice (some ⟨b, o, none⟩) n c | 10, v, _ => v = .int .i64 i
 | 11, v, _ => v = .pointer (some ⟨b, o + i * 5, none⟩) | 12, v, _ => v = vT s | 13, v, _ => v = .int .i64 now | 14, v, _ => v = vT x
 | 15, v, w => ∃ a c, v = .agg #[.string ky, .string nm, .slice (some ⟨tb, to, none⟩) tn tc, .int .i64 is, .slice a n c] ∧ IsZ w a c zs ∧ From B a
 | 16, v, w => ∃ a c, v = .agg #[.string ky, .string nm, .slice (some ⟨tb, to, none⟩) tn tc, .int .i64 mi, .slice a n c] ∧ IsZ w a c ms ∧ From B a
 | _, _, _ => True
theorem seV_mono {ky nm : ByteArray} {tb to tn tc : Nat} {is : Int} {b o n c : Nat} {z i : Nat} {tk : Value} {s x : StP} {now : Int} {B : Nat} {zs ms : List StP} {mi : Int} (hz : z < B) (k : Nat) (v : Value) (X Y : World) (t : Turns (fun k => k = z) X Y) (hv : seV ky nm tb to tn tc is b o n c z i tk s x now B zs ms mi k v X) : seV ky nm tb to tn tc is b o n c z i tk s x now B zs ms mi k v Y := by
 unfold seV at hv ⊢
 split at hv
 all_goals first
  | exact hv
  | (obtain ⟨a, c, e, h, f⟩ := hv; exact ⟨a, c, e, h.turns t fun y hy hk => (by have := f y hy; have hk' : y.block = z := hk; omega), f⟩)
  | trivial
set_option maxRecDepth 20000 in
set_option maxHeartbeats 4000000 in
theorem refSettleF_any (ky nm : ByteArray) (ta : Option Addr) (tn tc : Nat) (is : Int) (sa : Option Addr) (n sc : Nat) (tv : List TaskV) (ss : List StP) (now : Int) (w : World) (hT : IsT w ta tc tv) (htn : tn = tv.length) (hZ : IsZ w sa sc ss) (hn : n = ss.length) (hnow : now ≤ 9223372036854775807) (hOk : RunOk ky nm (plainT tv) ss is) :
  Calls Try.prog 18 #[.agg #[.string ky, .string nm, .slice ta tn tc, .int .i64 is, .slice sa n sc], .int .i64 now] w fun e w' => ∃ a c, e = .returned (.agg #[.string ky, .string nm, .slice ta tn tc, .int .i64 (settleS (plainT tv) (untF now []) (ss, is)).2, .slice a n c]) ∧ IsZ w' a c (settleS (plainT tv) (untF now []) (ss, is)).1 ∧ n = (settleS (plainT tv) (untF now []) (ss, is)).1.length ∧ (a = sa ∨ From w.heap.size a) ∧ Below w.heap.size w w' := by
 have hnt : n = tn := by rw [hn, hOk.st.len, plainT_length, htn]
 subst hnt
 obtain ⟨h10, h0, hin⟩ := inside_of htn hOk.dag
 obtain ⟨tb, to, rfl, -⟩ := hT.some (by omega)
 obtain ⟨SR, hSR⟩ : ∃ SR, SR = settleS (plainT tv) (untF now []) (ss, is) := ⟨_, rfl⟩
 rw [← hSR]
 have HSR : Hid (SR = settleS (plainT tv) (untF now []) (ss, is)) := hSR
 obtain ⟨W0, hW0⟩ : ∃ W0, W0 = (w.alloc (.cells #[.string ky, .string nm, .slice (some ⟨tb, to, none⟩) n tc, .int .i64 is, .slice sa n sc] 27)).alloc (.cells #[.string ⟨#[]⟩, .string ⟨#[]⟩, .slice none 0 0, .int .i64 0, .slice none 0 0] 27) := ⟨_, rfl⟩
 have hB0 : Below w.heap.size w W0 := by rw [hW0]; exact bel2 w _ _
 have BX : BoxL W0 w.heap.size [.string ky, .string nm, .slice (some ⟨tb, to, none⟩) n tc, .int .i64 is, .slice sa n sc] := by rw [hW0]; exact (boxL_new w [.string ky, .string nm, .slice (some ⟨tb, to, none⟩) n tc, .int .i64 is, .slice sa n sc] _ rfl).alloc _
 have BY : BoxL W0 (w.heap.size + 1) [.string ⟨#[]⟩, .string ⟨#[]⟩, .slice none 0 0, .int .i64 0, .slice none 0 0] := by rw [hW0]; exact boxL_new _ [.string ⟨#[]⟩, .string ⟨#[]⟩, .slice none 0 0, .int .i64 0, .slice none 0 0] _ (by simp)
 have HOK : Hid (RunOk ky nm (plainT tv) ss is) := hOk
 have HN : Hid (n = ss.length) := hn
 have HTN : Hid (n = tv.length) := htn
 have HT : Hid (IsT w (some ⟨tb, to, none⟩) tc tv) := hT
 have HIN : Hid (∀ (i : Nat) t, tv[i]? = some t → ∀ x ∈ t.ns, 0 ≤ x ∧ x < n) := hin
 have hZ0 := hZ.below hB0
 have HSA : Hid (∀ y, sa = some y → y.block < w.heap.size) := fun y hy => hZ.lies (by omega) y hy
 have x4 := BX.1 4 _ rfl
 rw [hW0] at x4
 clear hT htn hZ hn hOk hSR hin
 go_enter Try.func18, Try.ntmps18
 go_wp2
 rw [← hW0]
 clear hW0 x4
 go_loopw [9] (fun v wr => ∃ (m : Nat) (a : Option Addr) (c : Nat) (zs : List StP) (js : Int), m ≤ n ∧ v = .int .i64 m ∧ BoxL wr w.heap.size [.string ky, .string nm, .slice (some ⟨tb, to, none⟩) n tc, .int .i64 js, .slice a n c] ∧ BoxL wr (w.heap.size + 1) [.string ⟨#[]⟩, .string ⟨#[]⟩, .slice none 0 0, .int .i64 0, .slice none 0 0] ∧ IsZ wr a c zs ∧ Hid (n = zs.length ∧ RightS (plainT tv) zs js ∧ againS (stepS (plainT tv) (untF now [])) (n - m) (zs, js) = SR) ∧ Hid (a = sa ∨ From (w.heap.size + 2) a) ∧ Below w.heap.size w wr) (fun v _ => n - (intOf v).toNat)
 case atStart => exact ⟨0, sa, sc, ss, is, Nat.zero_le _, rfl, BX, BY, hZ0, ⟨HN.out, HOK.out.st, by rw [HSR.out, Nat.sub_zero, HN.out]; rfl⟩, .inl rfl, hB0⟩
 case round =>
  clear BX BY hZ0 hB0
  obtain ⟨m, a, c, zs, js, hm, rfl, BX, BY, hZ, HK, HA, hB⟩ := hrel
  by_cases hlt : m < n
  ·
   have hlt' : (m : Int) < n := by omega
   have cO := refOver_any ky nm (some ⟨tb, to, none⟩) n tc js a n c tv zs now wr (HT.out.below hB) HTN.out hZ HK.out.1 hnow
   have hag : Hid (againS (stepS (plainT tv) (untF now [])) (n - (m + 1)) (stepS (plainT tv) (untF now []) (zs, js)) = SR) := by
    have := HK.out.2.2
    rw [show n - m = (n - (m + 1)) + 1 by omega] at this
    exact this
   have x0 := BX.1 0 _ rfl; have x1 := BX.1 1 _ rfl; have x2 := BX.1 2 _ rfl; have x3 := BX.1 3 _ rfl; have x4 := BX.1 4 _ rfl
   cases ho : overN zs (untF now []) with
   | none =>
    rw [ho] at cO
    have hst : Hid (stepS (plainT tv) (untF now []) (zs, js) = (zs, js)) := step_fix (x := (zs, js)) ho
    unfold atI at cO
    clear ho
    go_wp2_with (go_at_call 46; refine cO.mono ?_; rintro e w2 ⟨rfl, hb⟩)
    go_roundw
    case rel => exact ⟨m + 1, a, c, zs, js, by omega, by go_num, BX.below hb, BY.below hb, hZ.below hb, ⟨HK.out.1, HK.out.2.1, by rw [← hst.out]; exact hag.out⟩, HA.out, Below.tr hB hb⟩
    case measure => simp [intOf]; omega
   | some ix =>
    rw [ho] at cO
    unfold atI at cO
    obtain ⟨s, hs, h2, hd, -⟩ := overN_some ho
    have hil : ix < zs.length := (List.getElem?_eq_some_iff.1 hs).1
    obtain ⟨t, ht⟩ : ∃ t, tv[ix]? = some t := ⟨_, List.getElem?_eq_getElem (by rw [← HTN.out, HK.out.1]; exact hil)⟩
    have htp := plainT_get ht
    have hrt := (HK.out.2.1.each ix s t.p hs htp).right
    have hst0 := (standT_iff s).1 (right_parts hrt).1
    have hin0 : ix < n := by rw [HK.out.1]; exact hil
    have hin' : (ix : Int) < n := by omega
    have hge : (0 : Int) ≤ ix := by omega
    obtain ⟨b, o, rfl, -⟩ := hZ.some (by have := HK.out.1; omega)
    obtain ⟨xs, hxs⟩ : ∃ xs, xs = failT t.tr t.wt s s.d := ⟨_, rfl⟩
    have hex : expireT t.tr t.wt s now = xs := by rw [hxs]; unfold expireT; rw [if_pos ⟨h2, hd⟩]
    have hXf : xs = failI (plainT tv) zs ix := by unfold failI; rw [hs, htp, hxs]; rfl
    have hXt : xs.r.size ≤ maxLen := by rw [hxs]; exact fail_text (hZ.text hs)
    have cE : ∀ W, Calls Try.prog 48 #[.agg #[.slice t.a t.ns.length t.c, .int .i64 t.tr, .int .i64 t.wt, .int .i64 t.le], .agg #[.int .i64 s.i, .int .i64 s.t, .int .i64 s.d, .int .i64 s.k, .string s.r], .int .i64 now] W fun e w' => e = .returned (vT xs) ∧ Below W.heap.size W w' := by
     intro W
     have := refExpireT_any t.a t.ns.length t.c t.tr t.wt t.le s.i s.t s.d s.k s.r now W hnow (by omega) (by omega)
     rw [show (⟨s.i, s.t, s.d, s.k, s.r⟩ : StP) = s from rfl, hex] at this
     exact this
    obtain ⟨ms, hms⟩ : ∃ ms, ms = (mendS (plainT tv) (zs.set ix xs) js).1 := ⟨_, rfl⟩
    obtain ⟨mi, hmi⟩ : ∃ mi, mi = (mendS (plainT tv) (zs.set ix xs) js).2 := ⟨_, rfl⟩
    have HX : Hid ((ms, mi) = stepS (plainT tv) (untF now []) (zs, js)) := by
     show _ = _
     unfold stepS
     simp only [ho]
     rw [← hXf, hms, hmi]
    have hml : ms.length = n := by rw [hms, mend_len, List.length_set]; exact HK.out.1.symm
    have HM : Hid (n = ms.length ∧ RightS (plainT tv) ms mi ∧ againS (stepS (plainT tv) (untF now [])) (n - (m + 1)) (ms, mi) = SR) := by
     refine ⟨hml.symm, ?_, by rw [HX.out]; exact hag.out⟩
     have := step_right (fun i t hi => by
      have h1 := HOK.out.dag
      unfold plainT at hi
      rw [List.getElem?_map] at hi
      obtain ⟨t', ht', rfl⟩ := Option.map_eq_some_iff.1 hi
      exact (tasks_of h1 (List.mem_of_getElem? ht')).2.1) (u := untF now []) (x := (zs, js)) HK.out.2.1
     rw [← HX.out] at this
     exact this
    obtain ⟨zn, hzn⟩ : ∃ zn, zn = zs.set ix xs := ⟨_, rfl⟩
    have HZn : Hid (zn = setI zs ix ⟨xs.i, xs.t, xs.d, xs.k, xs.r⟩) := by show _ = _; rw [hzn, setI_nat]
    have cM0 : ∀ W a1 c1, Below w.heap.size w W → IsZ W a1 c1 zn → Calls Try.prog 36 #[.agg #[.string ky, .string nm, .slice (some ⟨tb, to, none⟩) n tc, .int .i64 js, .slice a1 n c1]] W fun e w' => ∃ v, e = .returned v ∧ MadeC W ky nm (some ⟨tb, to, none⟩) n tc mi a1 n ms v w' := by
     intro W a1 c1 hW hz
     have := refMend_any ky nm (some ⟨tb, to, none⟩) n tc js a1 n c1 tv zn W (HT.out.below hW) HTN.out hz (by rw [hzn, List.length_set]; exact HK.out.1) rfl h10 HIN.out
     rw [hzn, ← hms, ← hmi] at this
     exact this
    have HNS : Hid (n = zs.length) := HK.out.1
    have HS : Hid (zs[ix]? = some s) := hs
    have HTS : Hid (tv[ix]? = some t) := ht
    have hb1 : n ≤ tc ∧ tc ≤ 9223372036854775807 := by have h1 := HT.out.1; have h2 := HT.out.2.1; rw [← HTN.out] at h1; exact ⟨h1, h2⟩
    have hb2 : n ≤ c ∧ c ≤ 9223372036854775807 := by have h1 := hZ.1; have h2 := hZ.2.1; rw [← HK.out.1] at h1; exact ⟨h1, h2⟩
    obtain ⟨hb11, hb12⟩ := hb1
    obtain ⟨hb21, hb22⟩ := hb2
    obtain ⟨ta, hta⟩ : ∃ ta, ta = t.a := ⟨_, rfl⟩
    obtain ⟨tl, htl⟩ : ∃ tl, tl = t.ns.length := ⟨_, rfl⟩
    obtain ⟨tcc, htcc⟩ : ∃ tcc, tcc = t.c := ⟨_, rfl⟩
    obtain ⟨ttr, httr⟩ : ∃ ttr, ttr = t.tr := ⟨_, rfl⟩
    obtain ⟨twt, htwt⟩ : ∃ twt, twt = t.wt := ⟨_, rfl⟩
    obtain ⟨tle, htle⟩ : ∃ tle, tle = t.le := ⟨_, rfl⟩
    rw [← hta, ← htl, ← htcc, ← httr, ← htwt, ← htle] at cE
    have HTC : Hid (ta = t.a ∧ tl = t.ns.length ∧ tcc = t.c ∧ ttr = t.tr ∧ twt = t.wt ∧ tle = t.le) := ⟨hta, htl, htcc, httr, htwt, htle⟩
    obtain ⟨si, st, sd, sk, sr⟩ := s
    dsimp only at *
    have HSZ : Hid (w.heap.size + 2 ≤ wr.heap.size) := by show _ ≤ _; have := BY.lt (by simp); omega
    clear ho hs h2 hd ht htp hrt hst0 hxs hex hXf hms hmi hml hzn hta htl htcc httr htwt htle hag
    go_wp2_with (go_at_call 46; refine cO.mono ?_; rintro e Y ⟨rfl, hb⟩; clear x0 x1 x2 x3 x4; replace BX := BX.below hb; replace BY := BY.below hb; have HZS : Hid (IsZ Y (some ⟨b, o, none⟩) c zs) := hZ.below hb; have hBY := Below.tr hB hb; have x0 := BX.1 0 _ rfl; have x1 := BX.1 1 _ rfl; have x2 := BX.1 2 _ rfl; have x3 := BX.1 3 _ rfl; have x4 := BX.1 4 _ rfl; obtain ⟨y0, y1, y2, y3, -⟩ := (HT.out.below hBY).at HTS.out; obtain ⟨p0, p1, p2, p3, p4⟩ := HZS.out.at HS.out; dsimp only at p0 p1 p2 p3 p4; rw [← HTC.out.1, ← HTC.out.2.1, ← HTC.out.2.2.1] at y0; rw [← HTC.out.2.2.2.1] at y1; rw [← HTC.out.2.2.2.2.1] at y2; rw [← HTC.out.2.2.2.2.2] at y3; have cM := (fun V a1 c1 (hV : Below Y.heap.size Y V) (hz : IsZ V a1 c1 zn) => cM0 V a1 c1 (Below.tr hBY hV) hz); have hzY : w.heap.size < Y.heap.size := BX.lt (by simp))
    refine region_chain (by kernel_rfl) [17] (seV ky nm tb to n tc js b o n c w.heap.size ix (.agg #[.slice ta tl tcc, .int .i64 ttr, .int .i64 twt, .int .i64 tle]) ⟨si, st, sd, sk, sr⟩ xs now Y.heap.size zn ms mi) (withS Y w.heap.size ky nm (some ⟨tb, to, none⟩) n tc mi n ms) (Turns (fun k => k = w.heap.size)) (by kernel_rfl) (by kernel_rfl) (seV_mono hzY) (Below.refl _ _).drew ?step 18 rfl ?done
    case step =>
     intro i oo ho q a9 X hq hmay hS hdf hsz hdep hsame
     simp only [List.length_cons, List.length_nil] at hq
     match i, ho with
     | 0, ho =>
      cases ho
      have h2 := hsame 2 rfl
      have hq0 : q = 0 := by
       clear hS hdep hsame
       rcases (by omega : q = 0 ∨ q = 1) with rfl | rfl <;> first | rfl | exact absurd hmay (Bool.eq_false_iff.1 (by kernel_rfl))
      subst hq0
      have g0 := cell_below hS x0
      have g1 := cell_below hS x1
      have g2 := cell_below hS x2
      have g3 := cell_below hS x3
      have g4 := cell_below hS x4
      exact op_value rfl (wanted_free rfl) (by clear hdep hsame hsz hdf; go_simp) rfl (by rw [if_neg (by decide)]; exact hS) (Turns.refl _ _)
     | 1, ho =>
      cases ho
      have h5 := hsame 5 rfl
      exact op_value rfl (wanted_free rfl) (by clear hdep hsame hsz hdf; go_simp) rfl (by rw [if_neg (by decide)]; exact hS) (Turns.refl _ _)
     | 2, ho =>
      cases ho
      have h2 := hsame 2 rfl
      exact op_value rfl (wanted_free rfl) (by clear hdep hsame hsz hdf; go_simp) rfl (by rw [if_neg (by decide)]; exact hS) (Turns.refl _ _)
     | 3, ho =>
      cases ho
      obtain ⟨_, h18, rfl⟩ := hdep 2 _ 18 rfl rfl rfl
      exact op_value rfl (wanted_free rfl) (by clear hdep hsame hsz hdf; go_simp) rfl (by rw [if_neg (by decide)]; exact hS) (Turns.refl _ _)
     | 4, ho =>
      cases ho
      obtain ⟨_, h19, rfl⟩ := hdep 3 _ 19 rfl rfl rfl
      have hq0 : q = 0 := by
       clear hS hdep hsame
       rcases (by omega : q = 0 ∨ q = 1) with rfl | rfl <;> first | rfl | exact absurd hmay (Bool.eq_false_iff.1 (by kernel_rfl))
      subst hq0
      have g2 := cell_below hS x2
      exact op_value rfl (wanted_free rfl) (by clear hdep hsame hsz hdf; go_simp) rfl (by rw [if_neg (by decide)]; exact hS) (Turns.refl _ _)
     | 5, ho =>
      cases ho
      have h5 := hsame 5 rfl
      exact op_value rfl (wanted_free rfl) (by clear hdep hsame hsz hdf; go_simp) rfl (by rw [if_neg (by decide)]; exact hS) (Turns.refl _ _)
     | 6, ho =>
      cases ho
      obtain ⟨_, h20, rfl⟩ := hdep 4 _ 20 rfl rfl rfl
      obtain ⟨_, h21, rfl⟩ := hdep 5 _ 21 rfl rfl rfl
      exact op_value rfl (wanted_free rfl) (by clear hdep hsame hsz hdf; go_simp) rfl (by rw [if_neg (by decide)]; exact hS) (Turns.refl _ _)
     | 7, ho =>
      cases ho
      obtain ⟨_, h22, rfl⟩ := hdep 6 _ 22 rfl rfl rfl
      have hq0 : q = 0 := by
       clear hS hdep hsame
       rcases (by omega : q = 0 ∨ q = 1) with rfl | rfl <;> first | rfl | exact absurd hmay (Bool.eq_false_iff.1 (by kernel_rfl))
      subst hq0
      have g0 := cell_below hS y0
      have g1 := cell_below hS y1
      have g2 := cell_below hS y2
      have g3 := cell_below hS y3
      exact op_value rfl (wanted_free rfl) (by clear hdep hsame hsz hdf; go_simp) rfl (by rw [if_neg (by decide)]; exact hS) (Turns.refl _ _)
     | 8, ho =>
      cases ho
      have h2 := hsame 2 rfl
      exact op_value rfl (wanted_free rfl) (by clear hdep hsame hsz hdf; go_simp) rfl (by rw [if_neg (by decide)]; exact hS) (Turns.refl _ _)
     | 9, ho =>
      cases ho
      obtain ⟨_, h24, rfl⟩ := hdep 8 _ 24 rfl rfl rfl
      have hq0 : q = 0 := by
       clear hS hdep hsame
       rcases (by omega : q = 0 ∨ q = 1) with rfl | rfl <;> first | rfl | exact absurd hmay (Bool.eq_false_iff.1 (by kernel_rfl))
      subst hq0
      have g4 := cell_below hS x4
      exact op_value rfl (wanted_free rfl) (by clear hdep hsame hsz hdf; go_simp) rfl (by rw [if_neg (by decide)]; exact hS) (Turns.refl _ _)
     | 10, ho =>
      cases ho
      have h5 := hsame 5 rfl
      exact op_value rfl (wanted_free rfl) (by clear hdep hsame hsz hdf; go_simp) rfl (by rw [if_neg (by decide)]; exact hS) (Turns.refl _ _)
     | 11, ho =>
      cases ho
      obtain ⟨_, h25, rfl⟩ := hdep 9 _ 25 rfl rfl rfl
      obtain ⟨_, h26, rfl⟩ := hdep 10 _ 26 rfl rfl rfl
      exact op_value rfl (wanted_free rfl) (by clear hdep hsame hsz hdf; go_simp) rfl (by rw [if_neg (by decide)]; exact hS) (Turns.refl _ _)
     | 12, ho =>
      cases ho
      obtain ⟨_, h27, rfl⟩ := hdep 11 _ 27 rfl rfl rfl
      have hq0 : q = 0 := by
       clear hS hdep hsame
       rcases (by omega : q = 0 ∨ q = 1) with rfl | rfl <;> first | rfl | exact absurd hmay (Bool.eq_false_iff.1 (by kernel_rfl))
      subst hq0
      have g0 := cell_below hS p0
      have g1 := cell_below hS p1
      have g2 := cell_below hS p2
      have g3 := cell_below hS p3
      have g4 := cell_below hS p4
      exact op_value rfl (wanted_free rfl) (by clear hdep hsame hsz hdf; go_simp) rfl (by rw [if_neg (by decide)]; exact hS) (Turns.refl _ _)
     | 13, ho =>
      cases ho
      have h1 := hsame 1 rfl
      exact op_value rfl (wanted_free rfl) (by clear hdep hsame hsz hdf; go_simp) rfl (by rw [if_neg (by decide)]; exact hS) (Turns.refl _ _)
     | 14, ho =>
      cases ho
      obtain ⟨_, h23, rfl⟩ := hdep 7 _ 23 rfl rfl rfl
      obtain ⟨_, h28, rfl⟩ := hdep 12 _ 28 rfl rfl rfl
      obtain ⟨_, h29, rfl⟩ := hdep 13 _ 29 rfl rfl rfl
      have hq0 : q = 0 := by
       clear hS hdep hsame
       rcases (by omega : q = 0 ∨ q = 1) with rfl | rfl <;> first | rfl | exact absurd hmay (Bool.eq_false_iff.1 (by kernel_rfl))
      subst hq0
      exact op_call rfl (wanted_free rfl) (by clear hdep hsame hsz hdf; go_simp) ((cE X).mono fun e X' hx => ⟨_, hx.1, rfl, by rw [if_neg (by decide)]; exact Below.tr hS hx.2, Turns.of_below hx.2⟩)
     | 15, ho =>
      cases ho
      obtain ⟨_, h16, rfl⟩ := hdep 0 _ 16 rfl rfl rfl
      obtain ⟨_, h17, rfl⟩ := hdep 1 _ 17 rfl rfl rfl
      obtain ⟨_, h30, rfl⟩ := hdep 14 _ 30 rfl rfl rfl
      have hq0 : q = 0 := by
       clear hS hdep hsame
       rcases (by omega : q = 0 ∨ q = 1) with rfl | rfl <;> first | rfl | exact absurd hmay (Bool.eq_false_iff.1 (by kernel_rfl))
      subst hq0
      refine op_call rfl (wanted_free rfl) (by clear hdep hsame hsz hdf; go_simp) ((refWith_any ky nm (some ⟨tb, to, none⟩) n tc js (some ⟨b, o, none⟩) n c zs ix xs.i xs.t xs.d xs.k xs.r X (HZS.out.below hS) HNS.out (by omega) hXt).mono ?_)
      rintro e X' ⟨a1, c1, rfl, hz1, hf1, hb1⟩
      exact ⟨_, rfl, ⟨a1, c1, rfl, by rw [HZn.out]; exact hz1, hf1.mono hS.size⟩, by rw [if_neg (by decide)]; exact Below.tr hS hb1, Turns.of_below hb1⟩
     | 16, ho =>
      cases ho
      obtain ⟨_, h31, a1, c1, rfl, hz1, hf1⟩ := hdep 15 _ 31 rfl rfl rfl
      have hq0 : q = 0 := by
       clear hS hdep hsame
       rcases (by omega : q = 0 ∨ q = 1) with rfl | rfl <;> first | rfl | exact absurd hmay (Bool.eq_false_iff.1 (by kernel_rfl))
      subst hq0
      refine op_call rfl (wanted_free rfl) (by clear hdep hsame hsz hdf hz1 hf1; go_simp) ((cM X a1 c1 hS hz1).mono ?_)
      rintro e X' ⟨v, rfl, a2, c2, rfl, hz2, hl2, hs2, hb2⟩
      exact ⟨_, rfl, ⟨a2, c2, rfl, hz2, hs2.elim (fun e => by rw [e]; exact hf1) (fun h => h.mono hS.size)⟩, by rw [if_neg (by decide)]; exact Below.tr hS hb2, Turns.of_below hb2⟩
     | 17, ho =>
      cases ho
      have h2 := hsame 2 rfl
      obtain ⟨_, h32, a2, c2, rfl, hz2, hf2⟩ := hdep 16 _ 32 rfl rfl rfl
      have hq0 : q = 0 := by
       clear hS hdep hsame
       rcases (by omega : q = 0 ∨ q = 1) with rfl | rfl <;> first | rfl | exact absurd hmay (Bool.eq_false_iff.1 (by kernel_rfl))
      subst hq0
      have GX := BX.below hS
      have g0 := GX.1 0 _ rfl
      have g1 := GX.1 1 _ rfl
      have g2 := GX.1 2 _ rfl
      have g3 := GX.1 3 _ rfl
      have g4 := GX.1 4 _ rfl
      have k0 := GX.2 0 (by simp)
      have k1 := GX.2 1 (by simp)
      have k2 := GX.2 2 (by simp)
      have k3 := GX.2 3 (by simp)
      have k4 := GX.2 4 (by simp)
      exact op_skip (w' := (((((X.setCell ⟨w.heap.size, 0, none⟩ (.string ky)).setCell ⟨w.heap.size, 1, none⟩ (.string nm)).setCell ⟨w.heap.size, 2, none⟩ (.slice (some ⟨tb, to, none⟩) n tc)).setCell ⟨w.heap.size, 3, none⟩ (.int .i64 mi)).setCell ⟨w.heap.size, 4, none⟩ (.slice a2 n c2))) rfl (wanted_free rfl) rfl (by clear hdep hsame hsz hdf hz2 hf2; go_simp) trivial (by rw [if_pos (by decide)]; exact ⟨⟨a2, c2, boxL_set5 GX _ _ _ _ _, hz2.turns (turns_set5 _ _ _ _ _ _ _) (fun y hy hk => by have := hf2 y hy; have hk' : y.block = w.heap.size := hk; omega), hf2⟩, (Turns.of_below hS).trans (turns_set5 _ _ _ _ _ _ _)⟩) (turns_set5 _ _ _ _ _ _ _)
     | k + 18, ho => simp at ho
    case done =>
     intro val V hS hV
     obtain ⟨⟨a1, c1, BV, hzV, hfV⟩, tV⟩ := hS
     have BYV := boxL_turns BY tV (by omega)
     have hBV := Below.turns hBY tV (fun k hk => by omega)
     have HZV : Hid (IsZ V a1 c1 ms) := hzV
     have hyl := BY.lt (by simp)
     have HAV : Hid (a1 = sa ∨ From (w.heap.size + 2) a1) := .inr fun y hy => by have := hfV y hy; omega
     clear hV hzV hfV x0 x1 x2 x3 x4 y0 y1 y2 y3 p0 p1 p2 p3 p4 cM cM0 cE
     simp [filledN]
     go_wp2
     go_roundw
     case rel => exact ⟨m + 1, a1, c1, ms, mi, by omega, by go_num, BV, BYV, HZV.out, HM.out, HAV.out, hBV⟩
     case measure => simp [intOf]; omega
  ·
   obtain rfl : n = m := by omega
   have hx : ¬ (n : Int) < n := by omega
   have HE : Hid (SR = (zs, js)) := by
    show _ = _
    have := HK.out.2.2
    rw [Nat.sub_self] at this
    exact this.symm
   obtain ⟨Z, hZ9⟩ : ∃ Z, Z = (((((wr.setCell ⟨w.heap.size + 1, 0, none⟩ (.string ky)).setCell ⟨w.heap.size + 1, 1, none⟩ (.string nm)).setCell ⟨w.heap.size + 1, 2, none⟩ (.slice (some ⟨tb, to, none⟩) n tc)).setCell ⟨w.heap.size + 1, 3, none⟩ (.int .i64 js)).setCell ⟨w.heap.size + 1, 4, none⟩ (.slice a n c)) := ⟨_, rfl⟩
   have BZ : BoxL Z (w.heap.size + 1) [.string ky, .string nm, .slice (some ⟨tb, to, none⟩) n tc, .int .i64 js, .slice a n c] := by rw [hZ9]; exact boxL_set5 BY _ _ _ _ _
   have TZ : Turns (fun k => k = w.heap.size + 1) wr Z := by rw [hZ9]; exact turns_set5 _ _ _ _ _ _ _
   have hBZ := Below.turns hB TZ (fun k hk => by omega)
   have HF : Hid (IsZ Z a c zs) := hZ.turns TZ fun y hy hk => by
    rcases HA.out with e | e
    ·
     have := HSA.out y (by rw [← e]; exact hy); omega
    ·
     have := e y hy; omega
   have x0 := BX.1 0 _ rfl; have x1 := BX.1 1 _ rfl; have x2 := BX.1 2 _ rfl; have x3 := BX.1 3 _ rfl; have x4 := BX.1 4 _ rfl
   have v0 := BY.1 0 _ rfl; have v1 := BY.1 1 _ rfl; have v2 := BY.1 2 _ rfl; have v3 := BY.1 3 _ rfl; have v4 := BY.1 4 _ rfl
   have d0 := BY.2 0 (by simp); have d1 := BY.2 1 (by simp); have d2 := BY.2 2 (by simp); have d3 := BY.2 3 (by simp); have d4 := BY.2 4 (by simp)
   have r0 := BZ.1 0 _ rfl; have r1 := BZ.1 1 _ rfl; have r2 := BZ.1 2 _ rfl; have r3 := BZ.1 3 _ rfl; have r4 := BZ.1 4 _ rfl
   clear BX BY hZ BZ TZ hB
   go_wp2
   rw [← hZ9]
   refine bodyPost_ret (v := .agg #[.string ky, .string nm, .slice (some ⟨tb, to, none⟩) n tc, .int .i64 js, .slice a n c]) (by simp [results, Try.results18, go_sem, r0, r1, r2, r3, r4]) rfl ?_
   rw [HE.out]
   exact ⟨a, c, rfl, HF.out, HK.out.1, HA.out.imp id (fun h => h.mono (by omega)), hBZ⟩
end Go.Proofs.Ytdpljpjbomhccaa
namespace Go.Proofs.Ytdpljpjbomhccaa
open Go.RowKit Plain
set_option linter.unusedVariables false
end Go.Proofs.Ytdpljpjbomhccaa
namespace Go.Proofs.Ytdpljpjbomhccaa
open Go.RowKit Go.Shelf Plain Anylast
set_option linter.unusedVariables false
attribute [local go_sem] Oper.semAt_some
theorem hideQ {P : Program} {c : Code} {Q : Exit → Act → World → Prop} {a : Act} {w : World} (h : ∀ Q' : Exit → Act → World → Prop, (∀ e a w, Q e a w → Q' e a w) → c.wp P Q' a w) : c.wp P Q a w := h Q fun _ _ _ q => q
theorem tries_one {nm : ByteArray} {tv : List TaskV} (h : rightG nm (plainT tv) = 0) : ∀ (i : Nat) t, (plainT tv)[i]? = some t → 1 ≤ t.tries := fun i t hi => by
 unfold plainT at hi
 rw [List.getElem?_map] at hi
 obtain ⟨t', ht', rfl⟩ := Option.map_eq_some_iff.1 hi
 exact (tasks_of h (List.mem_of_getElem? ht')).2.1
end Go.Proofs.Ytdpljpjbomhccaa
namespace Go.Proofs.Ytdpljpjbomhccaa
open Go.RowKit Plain Anylast
set_option linter.unusedVariables false
def ansE (ts : List TaskP) (R : TaskP → StP → Int) (zs : List StP) (k : Int) : Int :=
 match heldAt zs k with | none => 191 | some i => (match zs[i]?, ts[i]? with | some s, some t => R t s | _, _ => 191)
def ansZ (ts : List TaskP) (A : TaskP → StP → StP) (zs : List StP) (js k : Int) : List StP × Int :=
 match heldAt zs k with | none => (zs, js) | some i => (match zs[i]?, ts[i]? with | some s, some t => mendS ts (zs.set i (A t s)) js | _, _ => (zs, js))
def Answers (w : World) (F q : Nat) (A : TaskP → StP → StP) (R : TaskP → StP → Int) : Prop :=
 ∀ V, Below w.heap.size w V → ∀ (a : Option Addr) (l c : Nat) (t : TaskP) (s : StP), s.t ≤ 9223372036854775807 → Calls Try.prog F #[.agg #[.slice a l c, .int .i64 t.tries, .int .i64 t.wait, .int .i64 t.lease], .agg #[.int .i64 s.i, .int .i64 s.t, .int .i64 s.d, .int .i64 s.k, .string s.r], .pointer (some ⟨q, 0, none⟩)] V fun e w' => e = .returned (.tuple #[vT (A t s), .int .i64 (R t s)]) ∧ Below V.heap.size V w'
def ToldW (w : World) (E : Int) (ky nm : ByteArray) (is : Int) (fs : List TaskP) (zs : List StP) (e : Ending) (w' : World) : Prop :=
 ∃ xk xn xa xm xc xi xs xq xsc xt xz, e = .returned (.tuple #[.agg #[.string xk, .string xn, .slice xa xm xc, .int .i64 xi, .slice xs xq xsc], .int .i64 E]) ∧ (∀ V, Turns (fun k => k < w.heap.size) w' V → XR V xa xm xc xs xq xsc xt xz) ∧
  (E = 0 → ky = xk ∧ nm = xn ∧ is = xi ∧ plainT xt = fs ∧ zs = xz) ∧
  (E ≠ 0 → ⟨#[]⟩ = xk ∧ ⟨#[]⟩ = xn ∧ none = xa ∧ 0 = xm ∧ 0 = xc ∧ 0 = xi ∧ none = xs ∧ 0 = xq ∧ 0 = xsc ∧ [] = xt ∧ [] = xz) ∧ Below w.heap.size w w'
theorem toldW_zero {w w' : World} {E : Int} (hE : E ≠ 0) {ky nm : ByteArray} {is : Int} {fs : List TaskP} {zs : List StP} {e : Ending} (h : e = .returned (.tuple #[.agg #[.string ⟨#[]⟩, .string ⟨#[]⟩, .slice none 0 0, .int .i64 0, .slice none 0 0], .int .i64 E]) ∧ Below w.heap.size w w') : ToldW w E ky nm is fs zs e w' :=
 ⟨_, _, _, _, _, _, _, _, _, [], [], h.1, fun V _ => ⟨isT_nil _ _ _ (Nat.zero_le _), rfl, isZ_nil _ _ _ (Nat.zero_le _), rfl⟩, fun e => absurd e hE, fun _ => ⟨rfl, rfl, rfl, rfl, rfl, rfl, rfl, rfl, rfl, rfl, rfl⟩, h.2⟩
set_option maxRecDepth 20000 in
set_option maxHeartbeats 1000000 in
theorem answerBad_any (F q : Nat) (ky nm : ByteArray) (ta : Option Addr) (tn tc : Nat) (is : Int) (sa : Option Addr) (n sc : Nat) (tv : List TaskV) (ss : List StP) (now k : Int) (w : World) (hky : ky.size ≤ maxLen) (hT : IsT w ta tc tv) (htn : tn = tv.length) (hZ : IsZ w sa sc ss) (hn : n = ss.length) (hno : runB ky nm (plainT tv) ss is = false) (js : Int) (zs : List StP) :
  Calls Try.prog 56 #[.agg #[.string ky, .string nm, .slice ta tn tc, .int .i64 is, .slice sa n sc], .int .i64 now, .int .i64 k, .func (.func F) #[] #[.pointer (some ⟨q, 0, none⟩)]] w fun e w' => ToldW w 1 ky nm js (plainT tv) zs e w' := by
 obtain ⟨W0, hW0⟩ : ∃ W0, W0 = (w.alloc (.cells #[.string ky, .string nm, .slice ta tn tc, .int .i64 is, .slice sa n sc] 27)).alloc (.cells #[.string ⟨#[]⟩, .string ⟨#[]⟩, .slice none 0 0, .int .i64 0, .slice none 0 0] 27) := ⟨_, rfl⟩
 have hB0 : Below w.heap.size w W0 := by rw [hW0]; exact bel2 w _ _
 have BX : BoxL W0 w.heap.size [.string ky, .string nm, .slice ta tn tc, .int .i64 is, .slice sa n sc] := by rw [hW0]; exact (boxL_new w [.string ky, .string nm, .slice ta tn tc, .int .i64 is, .slice sa n sc] _ rfl).alloc _
 have BY : BoxL W0 (w.heap.size + 1) [.string ⟨#[]⟩, .string ⟨#[]⟩, .slice none 0 0, .int .i64 0, .slice none 0 0] := by rw [hW0]; exact boxL_new _ [.string ⟨#[]⟩, .string ⟨#[]⟩, .slice none 0 0, .int .i64 0, .slice none 0 0] _ (by simp)
 have hs0 : W0.heap.size = w.heap.size + 2 := by rw [hW0]; simp
 have cS := settleBad_any ky nm ta tn tc is sa n sc tv ss now W0 hky (hT.below hB0) htn (hZ.below hB0) hn hno
 clear hT htn hZ hn hno
 go_enter Try.func56, Try.ntmps56
 refine wp_seq_k (fun K hK => ?_); have HK : Shut _ := hK; clear hK
 go_wp2
 refine HK.out _ _ ?_; clear HK K
 rw [← hW0]
 clear hW0
 obtain ⟨z0, hz0⟩ : ∃ z, z = w.heap.size := ⟨_, rfl⟩
 obtain ⟨z1, hz1⟩ : ∃ z, z = z0 + 1 := ⟨_, rfl⟩
 rw [← hz0] at BX BY
 rw [← hz0, ← hz1]
 rw [← hz1] at BY
 have HZZ : Hid (z0 = w.heap.size ∧ z1 = z0 + 1 ∧ W0.heap.size = w.heap.size + 2) := ⟨hz0, hz1, hs0⟩
 clear hz0 hz1 hs0
 have f0 := BX.1 0 _ rfl; have f1 := BX.1 1 _ rfl; have f2 := BX.1 2 _ rfl; have f3 := BX.1 3 _ rfl; have f4 := BX.1 4 _ rfl
 refine wp_seq_k (fun K hK => ?_); have HK : Shut _ := hK; clear hK
 go_wp2_with (go_at_call 14; refine cS.mono ?_; rintro e w1 ⟨rfl, hb⟩; have BX1 := BX.below hb; have BY1 := BY.below hb; have hB1 := Below.tr hB0 hb; have v0 := BX1.1 0 _ rfl; have v1 := BX1.1 1 _ rfl; have v2 := BX1.1 2 _ rfl; have v3 := BX1.1 3 _ rfl; have v4 := BX1.1 4 _ rfl; have d0 := BX1.2 0 (by simp); have d1 := BX1.2 1 (by simp); have d2 := BX1.2 2 (by simp); have d3 := BX1.2 3 (by simp); have d4 := BX1.2 4 (by simp))
 refine HK.out _ _ ?_; clear HK K
 obtain ⟨Z, hZ9⟩ : ∃ Z, Z = (((((w1.setCell ⟨z0, 0, none⟩ (.string ⟨#[]⟩)).setCell ⟨z0, 1, none⟩ (.string ⟨#[]⟩)).setCell ⟨z0, 2, none⟩ (.slice none 0 0)).setCell ⟨z0, 3, none⟩ (.int .i64 0)).setCell ⟨z0, 4, none⟩ (.slice none 0 0)) := ⟨_, rfl⟩
 have TZ : Turns (fun k => k = z0) w1 Z := by rw [hZ9]; exact turns_set5 _ _ _ _ _ _ _
 have BZ : BoxL Z z0 [.string ⟨#[]⟩, .string ⟨#[]⟩, .slice none 0 0, .int .i64 0, .slice none 0 0] := by rw [hZ9]; exact boxL_set5 BX1 _ _ _ _ _
 have BYZ := boxL_turns BY1 TZ (by have := HZZ.out; omega)
 have hBZ := Below.turns hB1 TZ (fun k hk => by have := HZZ.out; omega)
 rw [← hZ9]
 clear f0 f1 f2 f3 f4 v0 v1 v2 v3 v4 d0 d1 d2 d3 d4 hZ9
 have y0 := BYZ.1 0 _ rfl; have y1 := BYZ.1 1 _ rfl; have y2 := BYZ.1 2 _ rfl; have y3 := BYZ.1 3 _ rfl; have y4 := BYZ.1 4 _ rfl
 have s0 := BYZ.2 0 (by simp); have s1 := BYZ.2 1 (by simp); have s2 := BYZ.2 2 (by simp); have s3 := BYZ.2 3 (by simp); have s4 := BYZ.2 4 (by simp)
 go_wp2
 obtain ⟨Z2, hZ2⟩ : ∃ Z2, Z2 = (((((Z.setCell ⟨z1, 0, none⟩ (.string ⟨#[]⟩)).setCell ⟨z1, 1, none⟩ (.string ⟨#[]⟩)).setCell ⟨z1, 2, none⟩ (.slice none 0 0)).setCell ⟨z1, 3, none⟩ (.int .i64 0)).setCell ⟨z1, 4, none⟩ (.slice none 0 0)) := ⟨_, rfl⟩
 have BZ2 : BoxL Z2 z1 [.string ⟨#[]⟩, .string ⟨#[]⟩, .slice none 0 0, .int .i64 0, .slice none 0 0] := by rw [hZ2]; exact boxL_set5 BYZ _ _ _ _ _
 have hBZ2 : Below w.heap.size w Z2 := by rw [hZ2]; exact below_setT hBZ (by have := HZZ.out; omega) _ _ _ _ _
 rw [← hZ2]
 clear hZ2
 have r0 := BZ2.1 0 _ rfl; have r1 := BZ2.1 1 _ rfl; have r2 := BZ2.1 2 _ rfl; have r3 := BZ2.1 3 _ rfl; have r4 := BZ2.1 4 _ rfl
 skip
 exact bodyPost_ret (v := .tuple #[.agg #[.string ⟨#[]⟩, .string ⟨#[]⟩, .slice none 0 0, .int .i64 0, .slice none 0 0], .int .i64 1]) (by simp [results, Try.results56, go_sem, r0, r1, r2, r3, r4]) rfl (toldW_zero (by decide) ⟨rfl, hBZ2⟩)
set_option maxRecDepth 20000 in
set_option maxHeartbeats 1000000 in
theorem answerTok_any (F q : Nat) (ky nm : ByteArray) (ta : Option Addr) (tn tc : Nat) (is : Int) (sa : Option Addr) (n sc : Nat) (tv : List TaskV) (ss : List StP) (now k : Int) (w : World) (hk : wfJ k) (hT : IsT w ta tc tv) (htn : tn = tv.length) (hZ : IsZ w sa sc ss) (hn : n = ss.length) (hOk : RunOk ky nm (plainT tv) ss is) (hE : heldAt (settleS (plainT tv) (untF now []) (ss, is)).1 k = none) (js : Int) (ys : List StP) :
  Calls Try.prog 56 #[.agg #[.string ky, .string nm, .slice ta tn tc, .int .i64 is, .slice sa n sc], .int .i64 now, .int .i64 k, .func (.func F) #[] #[.pointer (some ⟨q, 0, none⟩)]] w fun e w' => ToldW w 191 ky nm js (plainT tv) ys e w' := by
 obtain ⟨W0, hW0⟩ : ∃ W0, W0 = (w.alloc (.cells #[.string ky, .string nm, .slice ta tn tc, .int .i64 is, .slice sa n sc] 27)).alloc (.cells #[.string ⟨#[]⟩, .string ⟨#[]⟩, .slice none 0 0, .int .i64 0, .slice none 0 0] 27) := ⟨_, rfl⟩
 have hB0 : Below w.heap.size w W0 := by rw [hW0]; exact bel2 w _ _
 have BX : BoxL W0 w.heap.size [.string ky, .string nm, .slice ta tn tc, .int .i64 is, .slice sa n sc] := by rw [hW0]; exact (boxL_new w [.string ky, .string nm, .slice ta tn tc, .int .i64 is, .slice sa n sc] _ rfl).alloc _
 have BY : BoxL W0 (w.heap.size + 1) [.string ⟨#[]⟩, .string ⟨#[]⟩, .slice none 0 0, .int .i64 0, .slice none 0 0] := by rw [hW0]; exact boxL_new _ [.string ⟨#[]⟩, .string ⟨#[]⟩, .slice none 0 0, .int .i64 0, .slice none 0 0] _ (by simp)
 have hs0 : W0.heap.size = w.heap.size + 2 := by rw [hW0]; simp
 have cS := settle_any ky nm ta tn tc is sa n sc tv ss now W0 (hT.below hB0) htn (hZ.below hB0) hn hOk
 unfold SettledC at cS
 have hR9 := settle_right (tries_one hOk.dag) (u := untF now []) (x := (ss, is)) hOk.st
 have HIN : Hid (∀ (i : Nat) t, tv[i]? = some t → ∀ x ∈ t.ns, 0 ≤ x ∧ x < tn) := (inside_of htn hOk.dag).2.2
 have HTN : Hid (tn = tv.length) := htn
 generalize settleS (plainT tv) (untF now []) (ss, is) = SS at *
 obtain ⟨zs, zi⟩ := SS
 dsimp only at cS hR9 hE ⊢
 have HR : Hid (RightS (plainT tv) zs zi) := hR9
 have HE : Hid _ := hE
 clear hT htn hZ hn hOk hR9 hE
 go_enter Try.func56, Try.ntmps56
 refine wp_seq_k (fun K hK => ?_); have HK : Shut _ := hK; clear hK
 go_wp2
 refine HK.out _ _ ?_; clear HK K
 rw [← hW0]
 clear hW0
 obtain ⟨z0, hz0⟩ : ∃ z, z = w.heap.size := ⟨_, rfl⟩
 obtain ⟨z1, hz1⟩ : ∃ z, z = z0 + 1 := ⟨_, rfl⟩
 rw [← hz0] at BX BY
 rw [← hz0, ← hz1]
 rw [← hz1] at BY
 have HZZ : Hid (z0 = w.heap.size ∧ z1 = z0 + 1 ∧ W0.heap.size = w.heap.size + 2) := ⟨hz0, hz1, hs0⟩
 clear hz0 hz1 hs0
 have f0 := BX.1 0 _ rfl; have f1 := BX.1 1 _ rfl; have f2 := BX.1 2 _ rfl; have f3 := BX.1 3 _ rfl; have f4 := BX.1 4 _ rfl
 refine wp_seq_k (fun K hK => ?_); have HK : Shut _ := hK; clear hK
 go_wp2_with (go_at_call 14; refine cS.mono ?_; rintro e w1 ⟨g, h, m, cap, capS, tw, rfl, htw, hO, hb⟩; have BX1 := BX.below hb; have BY1 := BY.below hb; have hB1 := Below.tr hB0 hb; have HTW : Hid (plainT tw = plainT tv) := htw; clear htw; have v0 := BX1.1 0 _ rfl; have v1 := BX1.1 1 _ rfl; have v2 := BX1.1 2 _ rfl; have v3 := BX1.1 3 _ rfl; have v4 := BX1.1 4 _ rfl; have d0 := BX1.2 0 (by simp); have d1 := BX1.2 1 (by simp); have d2 := BX1.2 2 (by simp); have d3 := BX1.2 3 (by simp); have d4 := BX1.2 4 (by simp))
 refine HK.out _ _ ?_; clear HK K
 obtain ⟨Z, hZ9⟩ : ∃ Z, Z = (((((w1.setCell ⟨z0, 0, none⟩ (.string ky)).setCell ⟨z0, 1, none⟩ (.string nm)).setCell ⟨z0, 2, none⟩ (.slice (some ⟨g, 0, none⟩) m cap)).setCell ⟨z0, 3, none⟩ (.int .i64 zi)).setCell ⟨z0, 4, none⟩ (.slice (some ⟨h, 0, none⟩) m capS)) := ⟨_, rfl⟩
 have TZ : Turns (fun k => k = z0) w1 Z := by rw [hZ9]; exact turns_set5 _ _ _ _ _ _ _
 have BZ : BoxL Z z0 [.string ky, .string nm, .slice (some ⟨g, 0, none⟩) m cap, .int .i64 zi, .slice (some ⟨h, 0, none⟩) m capS] := by rw [hZ9]; exact boxL_set5 BX1 _ _ _ _ _
 have BYZ := boxL_turns BY1 TZ (by have := HZZ.out; omega)
 have hBZ := Below.turns hB1 TZ (fun k hk => by have := HZZ.out; omega)
 rw [← hZ9]
 clear f0 f1 f2 f3 f4 v0 v1 v2 v3 v4 d0 d1 d2 d3 d4 hZ9
 have OZ := hO.turns TZ (fun k hk => by have := HZZ.out; omega)
 have cT : ∀ V, Below Z.heap.size Z V → Calls Try.prog 49 #[.slice (some ⟨h, 0, none⟩) m capS] V fun e w' => ∃ b, e = .returned (.map (some b)) ∧ IsTok w' b (candL [2] zs) ∧ Below V.heap.size V w' := fun V hV => tokens_any _ _ _ zs V (OZ.row.isZ.below hV) OZ.hn fun s hs => by
  obtain ⟨i, hi⟩ := List.mem_iff_getElem?.1 hs
  obtain ⟨t, ht⟩ := HR.out.task hi
  have := (right_held (HR.out.each i s t hi ht).right).1
  exact wfJ_of (by omega)
 have p0 := BZ.1 0 _ rfl; have p1 := BZ.1 1 _ rfl; have p2 := BZ.1 2 _ rfl; have p3 := BZ.1 3 _ rfl; have p4 := BZ.1 4 _ rfl
 clear hO TZ
 refine wp_seq_k (fun K hK => ?_); have HK : Shut _ := hK; clear hK
 go_wp2
 refine HK.out _ _ ?_; clear HK K
 refine wp_seq_k (fun K hK => ?_); have HK : Shut _ := hK; clear hK
 go_wp2_with (go_at_call 49; refine (cT _ (Below.refl _ _)).mono ?_; rintro e w2 ⟨b, rfl, ht, hbT⟩; have hlook := ht.look (x := k) hk; rw [tokF_held (right_apart HR.out)] at hlook; obtain ⟨HA, hHA⟩ : ∃ a, a = heldAt zs k := ⟨_, rfl⟩; rw [← hHA] at hlook; have HHA : Hid (HA = heldAt zs k) := hHA; clear hHA ht)
 refine HK.out _ _ ?_; clear HK K
 clear hlook p0 p1 p2 p3 p4 cT
 replace BZ := BZ.below hbT
 replace BYZ := BYZ.below hbT
 replace OZ := OZ.below hbT
 replace hBZ := Below.tr hBZ hbT
 clear hbT
 obtain rfl : HA = none := by rw [HHA.out]; exact HE.out
 have y0 := BYZ.1 0 _ rfl; have y1 := BYZ.1 1 _ rfl; have y2 := BYZ.1 2 _ rfl; have y3 := BYZ.1 3 _ rfl; have y4 := BYZ.1 4 _ rfl
 have s0 := BYZ.2 0 (by simp); have s1 := BYZ.2 1 (by simp); have s2 := BYZ.2 2 (by simp); have s3 := BYZ.2 3 (by simp); have s4 := BYZ.2 4 (by simp)
 go_wp2
 obtain ⟨Z2, hZ2⟩ : ∃ Z2, Z2 = (((((w2.setCell ⟨z1, 0, none⟩ (.string ⟨#[]⟩)).setCell ⟨z1, 1, none⟩ (.string ⟨#[]⟩)).setCell ⟨z1, 2, none⟩ (.slice none 0 0)).setCell ⟨z1, 3, none⟩ (.int .i64 0)).setCell ⟨z1, 4, none⟩ (.slice none 0 0)) := ⟨_, rfl⟩
 have BZ2 : BoxL Z2 z1 [.string ⟨#[]⟩, .string ⟨#[]⟩, .slice none 0 0, .int .i64 0, .slice none 0 0] := by rw [hZ2]; exact boxL_set5 BYZ _ _ _ _ _
 have hBZ2 : Below w.heap.size w Z2 := by rw [hZ2]; exact below_setT hBZ (by have := HZZ.out; omega) _ _ _ _ _
 rw [← hZ2]
 clear hZ2
 have r0 := BZ2.1 0 _ rfl; have r1 := BZ2.1 1 _ rfl; have r2 := BZ2.1 2 _ rfl; have r3 := BZ2.1 3 _ rfl; have r4 := BZ2.1 4 _ rfl
 skip
 exact bodyPost_ret (v := .tuple #[.agg #[.string ⟨#[]⟩, .string ⟨#[]⟩, .slice none 0 0, .int .i64 0, .slice none 0 0], .int .i64 191]) (by simp [results, Try.results56, go_sem, r0, r1, r2, r3, r4]) rfl (toldW_zero (by decide) ⟨rfl, hBZ2⟩)
def ansV (z g h n cap capS : Nat) (i : Nat) (f t : Value) (s x : StP) (r : Int) : Nat → Value
 | 0 => .pointer (some ⟨z, 4, none⟩) | 1 => .slice (some ⟨h, 0, none⟩) n capS | 2 => .int .i64 i | 3 => f | 4 => .pointer (some ⟨z, 1, none⟩) | 5 => .pointer (some ⟨z, 2, none⟩) | 6 => .slice (some ⟨g, 0, none⟩) n cap
 | 7 => .int .i64 i | 8 => .pointer (some ⟨g, i * 4, none⟩) | 9 => t | 10 => .pointer (some ⟨z, 4, none⟩) | 11 => .slice (some ⟨h, 0, none⟩) n capS | 12 => .int .i64 i
 | 13 => .pointer (some ⟨h, i * 5, none⟩) | 14 => vT s | 15 => .tuple #[vT x, .int .i64 r] | 16 => .tuple #[vT x, .int .i64 r] | 17 => vT x | 18 => .int .i64 r | 19 => .pointer (some ⟨h, i * 5, none⟩) | 21 => .int .i64 r | _ => undef
set_option maxRecDepth 20000 in
set_option maxHeartbeats 2000000 in
theorem answerHeld_any (F q : Nat) (A : TaskP → StP → StP) (R : TaskP → StP → Int) (ky nm : ByteArray) (ta : Option Addr) (tn tc : Nat) (is : Int) (sa : Option Addr) (n sc : Nat) (tv : List TaskV) (ss : List StP) (now k : Int) (w : World) (eg : ∀ args w, (callFunc F args).run Try.prog w = .ok (.enter F args) w) (hA : Answers w F q A R) (hx : ∀ t s, s.r.size ≤ maxLen → (A t s).r.size ≤ maxLen)
  (hk : wfJ k) (hT : IsT w ta tc tv) (htn : tn = tv.length) (hZ : IsZ w sa sc ss) (hn : n = ss.length) (hOk : RunOk ky nm (plainT tv) ss is) (ix : Nat) (hE : heldAt (settleS (plainT tv) (untF now []) (ss, is)).1 k = some ix) :
  Calls Try.prog 56 #[.agg #[.string ky, .string nm, .slice ta tn tc, .int .i64 is, .slice sa n sc], .int .i64 now, .int .i64 k, .func (.func F) #[] #[.pointer (some ⟨q, 0, none⟩)]] w fun e w' => ToldW w (ansE (plainT tv) R (settleS (plainT tv) (untF now []) (ss, is)).1 k) ky nm (ansZ (plainT tv) A (settleS (plainT tv) (untF now []) (ss, is)).1 (settleS (plainT tv) (untF now []) (ss, is)).2 k).2 (plainT tv) (ansZ (plainT tv) A (settleS (plainT tv) (untF now []) (ss, is)).1 (settleS (plainT tv) (untF now []) (ss, is)).2 k).1 e w' := by
 have HAA : Hid (Answers w F q A R) := hA
 have HXX : Hid (∀ t s, s.r.size ≤ maxLen → (A t s).r.size ≤ maxLen) := hx
 have HEG : Hid (∀ args w, (callFunc F args).run Try.prog w = .ok (.enter F args) w) := eg
 clear hA hx eg
 obtain ⟨W0, hW0⟩ : ∃ W0, W0 = (w.alloc (.cells #[.string ky, .string nm, .slice ta tn tc, .int .i64 is, .slice sa n sc] 27)).alloc (.cells #[.string ⟨#[]⟩, .string ⟨#[]⟩, .slice none 0 0, .int .i64 0, .slice none 0 0] 27) := ⟨_, rfl⟩
 have hB0 : Below w.heap.size w W0 := by rw [hW0]; exact bel2 w _ _
 have BX : BoxL W0 w.heap.size [.string ky, .string nm, .slice ta tn tc, .int .i64 is, .slice sa n sc] := by rw [hW0]; exact (boxL_new w [.string ky, .string nm, .slice ta tn tc, .int .i64 is, .slice sa n sc] _ rfl).alloc _
 have BY : BoxL W0 (w.heap.size + 1) [.string ⟨#[]⟩, .string ⟨#[]⟩, .slice none 0 0, .int .i64 0, .slice none 0 0] := by rw [hW0]; exact boxL_new _ [.string ⟨#[]⟩, .string ⟨#[]⟩, .slice none 0 0, .int .i64 0, .slice none 0 0] _ (by simp)
 have hs0 : W0.heap.size = w.heap.size + 2 := by rw [hW0]; simp
 have cS := settle_any ky nm ta tn tc is sa n sc tv ss now W0 (hT.below hB0) htn (hZ.below hB0) hn hOk
 unfold SettledC at cS
 have hR9 := settle_right (tries_one hOk.dag) (u := untF now []) (x := (ss, is)) hOk.st
 have HIN : Hid (∀ (i : Nat) t, tv[i]? = some t → ∀ x ∈ t.ns, 0 ≤ x ∧ x < tn) := (inside_of htn hOk.dag).2.2
 have HTN : Hid (tn = tv.length) := htn
 generalize settleS (plainT tv) (untF now []) (ss, is) = SS at *
 obtain ⟨zs, zi⟩ := SS
 dsimp only at cS hR9 hE ⊢
 have HR : Hid (RightS (plainT tv) zs zi) := hR9
 have HE : Hid _ := hE
 clear hT htn hZ hn hOk hR9 hE
 go_enter Try.func56, Try.ntmps56
 refine wp_seq_k (fun K hK => ?_); have HK : Shut _ := hK; clear hK
 go_wp2
 refine HK.out _ _ ?_; clear HK K
 rw [← hW0]
 clear hW0
 obtain ⟨z0, hz0⟩ : ∃ z, z = w.heap.size := ⟨_, rfl⟩
 obtain ⟨z1, hz1⟩ : ∃ z, z = z0 + 1 := ⟨_, rfl⟩
 rw [← hz0] at BX BY
 rw [← hz0, ← hz1]
 rw [← hz1] at BY
 have HZZ : Hid (z0 = w.heap.size ∧ z1 = z0 + 1 ∧ W0.heap.size = w.heap.size + 2) := ⟨hz0, hz1, hs0⟩
 clear hz0 hz1 hs0
 have f0 := BX.1 0 _ rfl; have f1 := BX.1 1 _ rfl; have f2 := BX.1 2 _ rfl; have f3 := BX.1 3 _ rfl; have f4 := BX.1 4 _ rfl
 refine wp_seq_k (fun K hK => ?_); have HK : Shut _ := hK; clear hK
 go_wp2_with (go_at_call 14; refine cS.mono ?_; rintro e w1 ⟨g, h, m, cap, capS, tw, rfl, htw, hO, hb⟩; have BX1 := BX.below hb; have BY1 := BY.below hb; have hB1 := Below.tr hB0 hb; have HTW : Hid (plainT tw = plainT tv) := htw; clear htw; have v0 := BX1.1 0 _ rfl; have v1 := BX1.1 1 _ rfl; have v2 := BX1.1 2 _ rfl; have v3 := BX1.1 3 _ rfl; have v4 := BX1.1 4 _ rfl; have d0 := BX1.2 0 (by simp); have d1 := BX1.2 1 (by simp); have d2 := BX1.2 2 (by simp); have d3 := BX1.2 3 (by simp); have d4 := BX1.2 4 (by simp))
 refine HK.out _ _ ?_; clear HK K
 obtain ⟨Z, hZ9⟩ : ∃ Z, Z = (((((w1.setCell ⟨z0, 0, none⟩ (.string ky)).setCell ⟨z0, 1, none⟩ (.string nm)).setCell ⟨z0, 2, none⟩ (.slice (some ⟨g, 0, none⟩) m cap)).setCell ⟨z0, 3, none⟩ (.int .i64 zi)).setCell ⟨z0, 4, none⟩ (.slice (some ⟨h, 0, none⟩) m capS)) := ⟨_, rfl⟩
 have TZ : Turns (fun k => k = z0) w1 Z := by rw [hZ9]; exact turns_set5 _ _ _ _ _ _ _
 have BZ : BoxL Z z0 [.string ky, .string nm, .slice (some ⟨g, 0, none⟩) m cap, .int .i64 zi, .slice (some ⟨h, 0, none⟩) m capS] := by rw [hZ9]; exact boxL_set5 BX1 _ _ _ _ _
 have BYZ := boxL_turns BY1 TZ (by have := HZZ.out; omega)
 have hBZ := Below.turns hB1 TZ (fun k hk => by have := HZZ.out; omega)
 rw [← hZ9]
 clear f0 f1 f2 f3 f4 v0 v1 v2 v3 v4 d0 d1 d2 d3 d4 hZ9
 have OZ := hO.turns TZ (fun k hk => by have := HZZ.out; omega)
 have cT : ∀ V, Below Z.heap.size Z V → Calls Try.prog 49 #[.slice (some ⟨h, 0, none⟩) m capS] V fun e w' => ∃ b, e = .returned (.map (some b)) ∧ IsTok w' b (candL [2] zs) ∧ Below V.heap.size V w' := fun V hV => tokens_any _ _ _ zs V (OZ.row.isZ.below hV) OZ.hn fun s hs => by
  obtain ⟨i, hi⟩ := List.mem_iff_getElem?.1 hs
  obtain ⟨t, ht⟩ := HR.out.task hi
  have := (right_held (HR.out.each i s t hi ht).right).1
  exact wfJ_of (by omega)
 have p0 := BZ.1 0 _ rfl; have p1 := BZ.1 1 _ rfl; have p2 := BZ.1 2 _ rfl; have p3 := BZ.1 3 _ rfl; have p4 := BZ.1 4 _ rfl
 clear hO TZ
 refine wp_seq_k (fun K hK => ?_); have HK : Shut _ := hK; clear hK
 go_wp2
 refine HK.out _ _ ?_; clear HK K
 refine wp_seq_k (fun K hK => ?_); have HK : Shut _ := hK; clear hK
 go_wp2_with (go_at_call 49; refine (cT _ (Below.refl _ _)).mono ?_; rintro e w2 ⟨b, rfl, ht, hbT⟩; have hlook := ht.look (x := k) hk; rw [tokF_held (right_apart HR.out)] at hlook; obtain ⟨HA, hHA⟩ : ∃ a, a = heldAt zs k := ⟨_, rfl⟩; rw [← hHA] at hlook; have HHA : Hid (HA = heldAt zs k) := hHA; clear hHA ht)
 refine HK.out _ _ ?_; clear HK K
 clear hlook p0 p1 p2 p3 p4 cT
 replace BZ := BZ.below hbT
 replace BYZ := BYZ.below hbT
 replace OZ := OZ.below hbT
 replace hBZ := Below.tr hBZ hbT
 clear hbT
 obtain rfl : HA = some ix := by rw [HHA.out]; exact HE.out
 refine wp_seq_k (fun K hK => ?_); have HK : Shut _ := hK; clear hK
 go_wp2
 refine HK.out _ _ ?_; clear HK K
 obtain ⟨s, hs, h2, hsk⟩ := held_some HE.out
 have hil : ix < zs.length := (List.getElem?_eq_some_iff.1 hs).1
 obtain ⟨t, htt⟩ : ∃ tt, tw[ix]? = some tt := ⟨_, List.getElem?_eq_getElem (by rw [← OZ.htn, OZ.hn]; exact hil)⟩
 have htp : (plainT tv)[ix]? = some t.p := by rw [← HTW.out]; exact plainT_get htt
 have hst := ((standT_iff s).1 (right_parts (HR.out.each ix s t.p hs htp).right).1).2.1
 have hin : ix < m := by rw [OZ.hn]; exact hil
 have hin' : (ix : Int) < m := by omega
 obtain ⟨y0, y1, y2, y3, -⟩ := OZ.hT.at htt
 obtain ⟨p0, p1, p2, p3, p4⟩ := OZ.row.at hs
 rw [Nat.zero_add] at y0 y1 y2 y3 p0 p1 p2 p3 p4
 obtain ⟨X, hX⟩ : ∃ X, X = A t.p s := ⟨_, rfl⟩
 obtain ⟨EE, hEE⟩ : ∃ EE, EE = R t.p s := ⟨_, rfl⟩
 have hXt : X.r.size ≤ maxLen := by rw [hX]; exact HXX.out _ _ (OZ.row.isZ.text hs)
 have cA : ∀ W, Below w2.heap.size w2 W → Calls Try.prog F #[.agg #[.slice t.a t.ns.length t.c, .int .i64 t.tr, .int .i64 t.wt, .int .i64 t.le], .agg #[.int .i64 s.i, .int .i64 s.t, .int .i64 s.d, .int .i64 s.k, .string s.r], .pointer (some ⟨q, 0, none⟩)] W fun e w' => e = .returned (.tuple #[vT X, .int .i64 EE]) ∧ Below W.heap.size W w' := by
  intro W hW
  have := HAA.out W (Below.tr hBZ hW) t.a t.ns.length t.c t.p s (by omega)
  rw [← hX, ← hEE] at this
  exact this
 have HL : Hid (ansE (plainT tv) R zs k = EE ∧ ansZ (plainT tv) A zs zi k = mendS (plainT tw) (zs.set ix X) zi) := by
  constructor
  ·
   unfold ansE; rw [HE.out]; simp only; rw [hs, htp, hEE]
  ·
   unfold ansZ; rw [HE.out]; simp only; rw [hs, htp, hX, HTW.out]
 have HIN2 : Hid (∀ (i : Nat) t, tw[i]? = some t → ∀ x ∈ t.ns, 0 ≤ x ∧ x < m) := by
  intro i t hi x hx
  have hmt : m = tn := by rw [OZ.htn, HTN.out, ← plainT_length tw, ← plainT_length tv, HTW.out]
  have h1 := plainT_get hi
  rw [HTW.out] at h1
  unfold plainT at h1
  rw [List.getElem?_map] at h1
  obtain ⟨t', ht', e⟩ := Option.map_eq_some_iff.1 h1
  have e2 : t'.ns = t.ns := congrArg TaskP.needs e
  rw [hmt]
  exact HIN.out i t' ht' x (by rw [e2]; exact hx)
 have hb1 : m ≤ cap ∧ cap ≤ 9223372036854775807 := by have h1 := OZ.hT.1; have h2 := OZ.hT.2.1; rw [← OZ.htn] at h1; exact ⟨h1, h2⟩
 have hb2 : m ≤ capS ∧ capS ≤ 9223372036854775807 := by have h1 := OZ.row.isZ.1; have h2 := OZ.row.isZ.2.1; rw [← OZ.hn] at h1; exact ⟨h1, h2⟩
 obtain ⟨hb11, hb12⟩ := hb1
 obtain ⟨hb21, hb22⟩ := hb2
 have x0 := BZ.1 0 _ rfl; have x1 := BZ.1 1 _ rfl; have x2 := BZ.1 2 _ rfl; have x3 := BZ.1 3 _ rfl; have x4 := BZ.1 4 _ rfl
 obtain ⟨si, st, sd, sk, sr⟩ := s
 dsimp only at *
 obtain ⟨ta', hta⟩ : ∃ a, a = t.a := ⟨_, rfl⟩
 obtain ⟨tl, htl⟩ : ∃ a, a = t.ns.length := ⟨_, rfl⟩
 obtain ⟨tcc, htcc⟩ : ∃ a, a = t.c := ⟨_, rfl⟩
 obtain ⟨ttr, httr⟩ : ∃ a, a = t.tr := ⟨_, rfl⟩
 obtain ⟨twt, htwt⟩ : ∃ a, a = t.wt := ⟨_, rfl⟩
 obtain ⟨tle, htle⟩ : ∃ a, a = t.le := ⟨_, rfl⟩
 rw [← hta, ← htl, ← htcc] at y0
 rw [← httr] at y1
 rw [← htwt] at y2
 rw [← htle] at y3
 rw [← hta, ← htl, ← htcc, ← httr, ← htwt, ← htle] at cA
 have hzh : ¬ h = z0 := by have := OZ.hg; have := OZ.hgh; have := HZZ.out; omega
 have hyh : ¬ z1 = h := by have := OZ.hg; have := OZ.hgh; have := HZZ.out; omega
 have HSO : Hid (zs[ix]? = some ⟨si, st, sd, sk, sr⟩) := hs
 have eg := HEG.out
 clear hs h2 hsk htt htp hst hX hEE hta htl htcc httr htwt htle
 have hWd : ∀ {b q : Nat} {v : Value}, w2.cell? ⟨b, q, none⟩ = some v → ∀ V, Below w2.heap.size w2 V → V.cell? ⟨b, q, none⟩ = some v := fun hc V hV => cell_below hV hc
 refine wp_seq_k (fun K hK => ?_); have HK : Shut _ := hK; clear hK
 refine region_turns (by kernel_rfl) [20] (ansV z0 g h m cap capS ix (.func (.func F) #[] #[.pointer (some ⟨q, 0, none⟩)]) (.agg #[.slice ta' tl tcc, .int .i64 ttr, .int .i64 twt, .int .i64 tle]) ⟨si, st, sd, sk, sr⟩ X EE) (StoreS w2 h 0 capS zs ix X) (by kernel_rfl) (by kernel_rfl) (Below.refl _ _).drew ?step 22 rfl ?after
 case step =>
  clear HK
  intro i o ho kk a2 wX hkk hmay hS hdf hsz hdep hsame
  match i, ho with
  | 0, ho =>
   cases ho
   have h4 := hsame 4 rfl
   exact val_op rfl (wanted_free rfl) (by clear hdep hsame hsz hdf; (try simp only [ansV]); go_simp) rfl hS
  | 1, ho =>
   cases ho
   have h35 := hdep 0 _ 35 rfl rfl rfl
   simp only [ansV] at h35
   match kk, hkk, hmay, hS with
   | 0, _, hq, hS => first | (cases hq; done) | ((have a2 := hWd x2 _ hS; have a4 := hWd x4 _ hS; have b0 := hWd y0 _ hS; have b1 := hWd y1 _ hS; have b2 := hWd y2 _ hS; have b3 := hWd y3 _ hS; have c0 := hWd p0 _ hS; have c1 := hWd p1 _ hS; have c2 := hWd p2 _ hS; have c3 := hWd p3 _ hS; have c4 := hWd p4 _ hS; obtain ⟨r0, r1, r2, r3, r4⟩ := (OZ.row.below hS).frees hil; rw [Nat.zero_add] at r0 r1 r2 r3 r4); exact val_op rfl (wanted_free rfl) (by clear hdep hsame hsz hdf; (try simp only [ansV]); go_simp) rfl hS)
   | 1, _, hq, hS => first | (cases hq; done) | ((have a2 := hS.1.cell (p := ⟨z0, 2, none⟩) (fun e => hzh e.symm) x2; have a4 := hS.1.cell (p := ⟨z0, 4, none⟩) (fun e => hzh e.symm) x4); exact val_op rfl (wanted_free rfl) (by clear hdep hsame hsz hdf; (try simp only [ansV]); go_simp) rfl hS)
   | kk + 2, hkk, _, _ => simp at hkk
  | 2, ho =>
   cases ho
   have h11 := hsame 11 rfl
   exact val_op rfl (wanted_free rfl) (by clear hdep hsame hsz hdf; (try simp only [ansV]); go_simp) rfl hS
  | 3, ho =>
   cases ho
   have h3 := hsame 3 rfl
   exact val_op rfl (wanted_free rfl) (by clear hdep hsame hsz hdf; (try simp only [ansV]); go_simp) rfl hS
  | 4, ho =>
   cases ho
   have h4 := hsame 4 rfl
   exact val_op rfl (wanted_free rfl) (by clear hdep hsame hsz hdf; (try simp only [ansV]); go_simp) rfl hS
  | 5, ho =>
   cases ho
   have h39 := hdep 4 _ 39 rfl rfl rfl
   simp only [ansV] at h39
   exact val_op rfl (wanted_free rfl) (by clear hdep hsame hsz hdf; (try simp only [ansV]); go_simp) rfl hS
  | 6, ho =>
   cases ho
   have h40 := hdep 5 _ 40 rfl rfl rfl
   simp only [ansV] at h40
   match kk, hkk, hmay, hS with
   | 0, _, hq, hS => first | (cases hq; done) | ((have a2 := hWd x2 _ hS; have a4 := hWd x4 _ hS; have b0 := hWd y0 _ hS; have b1 := hWd y1 _ hS; have b2 := hWd y2 _ hS; have b3 := hWd y3 _ hS; have c0 := hWd p0 _ hS; have c1 := hWd p1 _ hS; have c2 := hWd p2 _ hS; have c3 := hWd p3 _ hS; have c4 := hWd p4 _ hS; obtain ⟨r0, r1, r2, r3, r4⟩ := (OZ.row.below hS).frees hil; rw [Nat.zero_add] at r0 r1 r2 r3 r4); exact val_op rfl (wanted_free rfl) (by clear hdep hsame hsz hdf; (try simp only [ansV]); go_simp) rfl hS)
   | 1, _, hq, hS => first | (cases hq; done) | ((have a2 := hS.1.cell (p := ⟨z0, 2, none⟩) (fun e => hzh e.symm) x2; have a4 := hS.1.cell (p := ⟨z0, 4, none⟩) (fun e => hzh e.symm) x4); exact val_op rfl (wanted_free rfl) (by clear hdep hsame hsz hdf; (try simp only [ansV]); go_simp) rfl hS)
   | kk + 2, hkk, _, _ => simp at hkk
  | 7, ho =>
   cases ho
   have h11 := hsame 11 rfl
   exact val_op rfl (wanted_free rfl) (by clear hdep hsame hsz hdf; (try simp only [ansV]); go_simp) rfl hS
  | 8, ho =>
   cases ho
   have h41 := hdep 6 _ 41 rfl rfl rfl
   have h42 := hdep 7 _ 42 rfl rfl rfl
   simp only [ansV] at h41 h42
   exact val_op rfl (wanted_free rfl) (by clear hdep hsame hsz hdf; (try simp only [ansV]); go_simp) rfl hS
  | 9, ho =>
   cases ho
   have h43 := hdep 8 _ 43 rfl rfl rfl
   simp only [ansV] at h43
   match kk, hkk, hmay, hS with
   | 0, _, hq, hS => first | (cases hq; done) | ((have a2 := hWd x2 _ hS; have a4 := hWd x4 _ hS; have b0 := hWd y0 _ hS; have b1 := hWd y1 _ hS; have b2 := hWd y2 _ hS; have b3 := hWd y3 _ hS; have c0 := hWd p0 _ hS; have c1 := hWd p1 _ hS; have c2 := hWd p2 _ hS; have c3 := hWd p3 _ hS; have c4 := hWd p4 _ hS; obtain ⟨r0, r1, r2, r3, r4⟩ := (OZ.row.below hS).frees hil; rw [Nat.zero_add] at r0 r1 r2 r3 r4); exact val_op rfl (wanted_free rfl) (by clear hdep hsame hsz hdf; (try simp only [ansV]); go_simp) rfl hS)
   | 1, _, hq, hS => first | (cases hq; done) | ((have a2 := hS.1.cell (p := ⟨z0, 2, none⟩) (fun e => hzh e.symm) x2; have a4 := hS.1.cell (p := ⟨z0, 4, none⟩) (fun e => hzh e.symm) x4); exact val_op rfl (wanted_free rfl) (by clear hdep hsame hsz hdf; (try simp only [ansV]); go_simp) rfl hS)
   | kk + 2, hkk, _, _ => simp at hkk
  | 10, ho =>
   cases ho
   have h4 := hsame 4 rfl
   exact val_op rfl (wanted_free rfl) (by clear hdep hsame hsz hdf; (try simp only [ansV]); go_simp) rfl hS
  | 11, ho =>
   cases ho
   have h45 := hdep 10 _ 45 rfl rfl rfl
   simp only [ansV] at h45
   match kk, hkk, hmay, hS with
   | 0, _, hq, hS => first | (cases hq; done) | ((have a2 := hWd x2 _ hS; have a4 := hWd x4 _ hS; have b0 := hWd y0 _ hS; have b1 := hWd y1 _ hS; have b2 := hWd y2 _ hS; have b3 := hWd y3 _ hS; have c0 := hWd p0 _ hS; have c1 := hWd p1 _ hS; have c2 := hWd p2 _ hS; have c3 := hWd p3 _ hS; have c4 := hWd p4 _ hS; obtain ⟨r0, r1, r2, r3, r4⟩ := (OZ.row.below hS).frees hil; rw [Nat.zero_add] at r0 r1 r2 r3 r4); exact val_op rfl (wanted_free rfl) (by clear hdep hsame hsz hdf; (try simp only [ansV]); go_simp) rfl hS)
   | 1, _, hq, hS => first | (cases hq; done) | ((have a2 := hS.1.cell (p := ⟨z0, 2, none⟩) (fun e => hzh e.symm) x2; have a4 := hS.1.cell (p := ⟨z0, 4, none⟩) (fun e => hzh e.symm) x4); exact val_op rfl (wanted_free rfl) (by clear hdep hsame hsz hdf; (try simp only [ansV]); go_simp) rfl hS)
   | kk + 2, hkk, _, _ => simp at hkk
  | 12, ho =>
   cases ho
   have h11 := hsame 11 rfl
   exact val_op rfl (wanted_free rfl) (by clear hdep hsame hsz hdf; (try simp only [ansV]); go_simp) rfl hS
  | 13, ho =>
   cases ho
   have h46 := hdep 11 _ 46 rfl rfl rfl
   have h47 := hdep 12 _ 47 rfl rfl rfl
   simp only [ansV] at h46 h47
   exact val_op rfl (wanted_free rfl) (by clear hdep hsame hsz hdf; (try simp only [ansV]); go_simp) rfl hS
  | 14, ho =>
   cases ho
   have h48 := hdep 13 _ 48 rfl rfl rfl
   simp only [ansV] at h48
   match kk, hkk, hmay, hS with
   | 0, _, hq, hS => first | (cases hq; done) | ((have a2 := hWd x2 _ hS; have a4 := hWd x4 _ hS; have b0 := hWd y0 _ hS; have b1 := hWd y1 _ hS; have b2 := hWd y2 _ hS; have b3 := hWd y3 _ hS; have c0 := hWd p0 _ hS; have c1 := hWd p1 _ hS; have c2 := hWd p2 _ hS; have c3 := hWd p3 _ hS; have c4 := hWd p4 _ hS; obtain ⟨r0, r1, r2, r3, r4⟩ := (OZ.row.below hS).frees hil; rw [Nat.zero_add] at r0 r1 r2 r3 r4); exact val_op rfl (wanted_free rfl) (by clear hdep hsame hsz hdf; (try simp only [ansV]); go_simp) rfl hS)
   | 1, _, hq, hS => first | (cases hq; done) | ((have a2 := hS.1.cell (p := ⟨z0, 2, none⟩) (fun e => hzh e.symm) x2; have a4 := hS.1.cell (p := ⟨z0, 4, none⟩) (fun e => hzh e.symm) x4); exact val_op rfl (wanted_free rfl) (by clear hdep hsame hsz hdf; (try simp only [ansV]); go_simp) rfl hS)
   | kk + 2, hkk, _, _ => simp at hkk
  | 15, ho =>
   cases ho
   have h38 := hdep 3 _ 38 rfl rfl rfl
   have h44 := hdep 9 _ 44 rfl rfl rfl
   have h49 := hdep 14 _ 49 rfl rfl rfl
   simp only [ansV] at h38 h44 h49
   match kk, hkk, hmay, hS with
   | 0, _, hq, hS => first | (cases hq; done) | ((have a2 := hWd x2 _ hS; have a4 := hWd x4 _ hS; have b0 := hWd y0 _ hS; have b1 := hWd y1 _ hS; have b2 := hWd y2 _ hS; have b3 := hWd y3 _ hS; have c0 := hWd p0 _ hS; have c1 := hWd p1 _ hS; have c2 := hWd p2 _ hS; have c3 := hWd p3 _ hS; have c4 := hWd p4 _ hS; obtain ⟨r0, r1, r2, r3, r4⟩ := (OZ.row.below hS).frees hil; rw [Nat.zero_add] at r0 r1 r2 r3 r4); exact val_call rfl (wanted_free rfl) (by clear hdep hsame hsz hdf; (try simp only [ansV]); go_simp) ((cA wX hS).mono fun e w2 hh => ⟨hh.1, Below.tr hS hh.2⟩))
   | 1, _, hq, hS => first | (cases hq; done) | ((have a2 := hS.1.cell (p := ⟨z0, 2, none⟩) (fun e => hzh e.symm) x2; have a4 := hS.1.cell (p := ⟨z0, 4, none⟩) (fun e => hzh e.symm) x4); exact val_call rfl (wanted_free rfl) (by clear hdep hsame hsz hdf; (try simp only [ansV]); go_simp) ((cA wX hS).mono fun e w2 hh => ⟨hh.1, Below.tr hS hh.2⟩))
   | kk + 2, hkk, _, _ => simp at hkk
  | 16, ho =>
   cases ho
   have h50 := hdep 15 _ 50 rfl rfl rfl
   simp only [ansV] at h50
   exact val_op rfl (wanted_free rfl) (by clear hdep hsame hsz hdf; (try simp only [ansV]); go_simp) rfl hS
  | 17, ho =>
   cases ho
   have h34 := hdep 16 _ 34 rfl rfl rfl
   simp only [ansV] at h34
   exact val_op rfl (wanted_free rfl) (by clear hdep hsame hsz hdf; (try simp only [ansV]); go_simp) rfl hS
  | 18, ho =>
   cases ho
   have h34 := hdep 16 _ 34 rfl rfl rfl
   simp only [ansV] at h34
   exact val_op rfl (wanted_free rfl) (by clear hdep hsame hsz hdf; (try simp only [ansV]); go_simp) rfl hS
  | 19, ho =>
   cases ho
   have h36 := hdep 1 _ 36 rfl rfl rfl
   have h37 := hdep 2 _ 37 rfl rfl rfl
   simp only [ansV] at h36 h37
   exact val_op rfl (wanted_free rfl) (by clear hdep hsame hsz hdf; (try simp only [ansV]); go_simp) rfl hS
  | 20, ho =>
   cases ho
   have h53 := hdep 19 _ 53 rfl rfl rfl
   have h51 := hdep 17 _ 51 rfl rfl rfl
   simp only [ansV] at h53 h51
   match kk, hkk, hmay, hS with
   | 0, _, _, hS =>
    (have a2 := hWd x2 _ hS; have a4 := hWd x4 _ hS; have b0 := hWd y0 _ hS; have b1 := hWd y1 _ hS; have b2 := hWd y2 _ hS; have b3 := hWd y3 _ hS; have c0 := hWd p0 _ hS; have c1 := hWd p1 _ hS; have c2 := hWd p2 _ hS; have c3 := hWd p3 _ hS; have c4 := hWd p4 _ hS; obtain ⟨r0, r1, r2, r3, r4⟩ := (OZ.row.below hS).frees hil; rw [Nat.zero_add] at r0 r1 r2 r3 r4)
    exact val_skip (w' := put5 wX h (ix * 5) X) rfl (wanted_free rfl) rfl (by clear hdep hsame hsz hdf; (try simp only [ansV]); go_simp) ((by have hh := storeS_put OZ.row hil hXt hS; rw [Nat.zero_add] at hh; exact hh))
   | 1, _, hq, _ => cases hq
   | kk + 2, hkk, _, _ => simp at hkk
  | 21, ho =>
   cases ho
   have h52 := hdep 18 _ 52 rfl rfl rfl
   simp only [ansV] at h52
   exact val_op rfl (wanted_free rfl) (by clear hdep hsame hsz hdf; (try simp only [ansV]); go_simp) rfl hS
  | kk + 22, ho => simp at ho
 case after =>
  rintro V ⟨tV, rV⟩
  have OV := OZ.store tV rV (by rw [List.length_set])
  have BXV := boxL_turns BZ tV (fun e => hzh e.symm)
  have BYV := boxL_turns BYZ tV hyh
  have hBV := Below.turns hBZ tV (fun k hk => by have := OZ.hg; have := OZ.hgh; have := HZZ.out; omega)
  have cM := mended_any ky nm (some ⟨g, 0, none⟩) m cap zi h 0 m capS tw (zs.set ix X) V OV.row OV.hn OV.hT OV.htn OV.off rfl HIN2.out
  have hml := mend_len (plainT tw) (zs.set ix X) zi
  obtain ⟨ms, hms⟩ : ∃ ms, ms = (mendS (plainT tw) (zs.set ix X) zi).1 := ⟨_, rfl⟩
  obtain ⟨mi, hmi⟩ : ∃ mi, mi = (mendS (plainT tw) (zs.set ix X) zi).2 := ⟨_, rfl⟩
  rw [← hms, ← hmi] at cM
  have HL2 : Hid (ansE (plainT tv) R zs k = EE ∧ (ansZ (plainT tv) A zs zi k).1 = ms ∧ (ansZ (plainT tv) A zs zi k).2 = mi) := by
   have := HL.out
   exact ⟨this.1, by rw [this.2, hms], by rw [this.2, hmi]⟩
  rw [← hms] at hml
  clear hms hmi
  have HB : Hid (z0 < h ∧ z1 < h ∧ w.heap.size ≤ z0 ∧ w.heap.size ≤ h) := by have := OZ.hg; have := OZ.hgh; have := HZZ.out; exact ⟨by omega, by omega, by omega, by omega⟩
  simp [filledN, ansV]
  refine HK.out _ _ ?_; clear HK K
  clear BZ BYZ hBZ tV rV x0 x1 x2 x3 x4 y0 y1 y2 y3 p0 p1 p2 p3 p4 hWd cA eg OZ
  by_cases h0 : EE = 0
  ·
   subst h0
   refine wp_seq_k (fun K hK => ?_); have HK : Shut _ := hK; clear hK
   go_wp2
   refine HK.out _ _ ?_; clear HK K
   have x0 := BXV.1 0 _ rfl; have x1 := BXV.1 1 _ rfl; have x2 := BXV.1 2 _ rfl; have x3 := BXV.1 3 _ rfl; have x4 := BXV.1 4 _ rfl
   refine wp_seq_k (fun K hK => ?_); have HK : Shut _ := hK; clear hK
   go_wp2_with (go_at_call 30; refine cM.mono ?_; rintro e w5 ⟨rfl, r5, t5⟩; have O5 := OV.store t5 r5 hml; have BY5 := boxL_turns BYV t5 hyh; have hB5 := Below.turns hBV t5 (fun k hk => by have := HB.out; omega); clear cM x0 x1 x2 x3 x4; have y0 := BY5.1 0 _ rfl; have y1 := BY5.1 1 _ rfl; have y2 := BY5.1 2 _ rfl; have y3 := BY5.1 3 _ rfl; have y4 := BY5.1 4 _ rfl; have s0 := BY5.2 0 (by simp); have s1 := BY5.2 1 (by simp); have s2 := BY5.2 2 (by simp); have s3 := BY5.2 3 (by simp); have s4 := BY5.2 4 (by simp))
   refine HK.out _ _ ?_; clear HK K
   obtain ⟨Z2, hZ2⟩ : ∃ Z2, Z2 = (((((w5.setCell ⟨z1, 0, none⟩ (.string ky)).setCell ⟨z1, 1, none⟩ (.string nm)).setCell ⟨z1, 2, none⟩ (.slice (some ⟨g, 0, none⟩) m cap)).setCell ⟨z1, 3, none⟩ (.int .i64 mi)).setCell ⟨z1, 4, none⟩ (.slice (some ⟨h, 0, none⟩) m capS)) := ⟨_, rfl⟩
   have T2 : Turns (fun k => k = z1) w5 Z2 := by rw [hZ2]; exact turns_set5 _ _ _ _ _ _ _
   have BZ2 : BoxL Z2 z1 [.string ky, .string nm, .slice (some ⟨g, 0, none⟩) m cap, .int .i64 mi, .slice (some ⟨h, 0, none⟩) m capS] := by rw [hZ2]; exact boxL_set5 BY5 _ _ _ _ _
   have hBZ2 := Below.turns hB5 T2 (fun k hk => by have := HZZ.out; omega)
   have O6 := O5.turns T2 (fun k hk => by have := HZZ.out; omega)
   rw [← hZ2]
   clear hZ2
   have r0 := BZ2.1 0 _ rfl; have r1 := BZ2.1 1 _ rfl; have r2 := BZ2.1 2 _ rfl; have r3 := BZ2.1 3 _ rfl; have r4 := BZ2.1 4 _ rfl
   refine wp_ret ?_
   rw [HL2.out.1, HL2.out.2.1, HL2.out.2.2]
   exact bodyPost_ret (v := .tuple #[.agg #[.string ky, .string nm, .slice (some ⟨g, 0, none⟩) m cap, .int .i64 mi, .slice (some ⟨h, 0, none⟩) m capS], .int .i64 0]) (by simp [results, Try.results56, go_sem, r0, r1, r2, r3, r4]) rfl ⟨_, _, _, _, _, _, _, _, _, tw, _, rfl, fun V9 t9 => by have O7 := O6.turns t9 (fun k hk => by have := HZZ.out; omega); exact ⟨O7.hT, O7.htn, O7.row.isZ, O7.hn⟩, fun _ => ⟨rfl, rfl, rfl, HTW.out, rfl⟩, fun h => absurd rfl h, hBZ2⟩
  ·
   have hne : (EE != 0) = true := by simpa using h0
   have BYZ := BYV
   have hBZ := hBV
   have y0 := BYZ.1 0 _ rfl; have y1 := BYZ.1 1 _ rfl; have y2 := BYZ.1 2 _ rfl; have y3 := BYZ.1 3 _ rfl; have y4 := BYZ.1 4 _ rfl
   have s0 := BYZ.2 0 (by simp); have s1 := BYZ.2 1 (by simp); have s2 := BYZ.2 2 (by simp); have s3 := BYZ.2 3 (by simp); have s4 := BYZ.2 4 (by simp)
   go_wp2
   obtain ⟨Z2, hZ2⟩ : ∃ Z2, Z2 = (((((V.setCell ⟨z1, 0, none⟩ (.string ⟨#[]⟩)).setCell ⟨z1, 1, none⟩ (.string ⟨#[]⟩)).setCell ⟨z1, 2, none⟩ (.slice none 0 0)).setCell ⟨z1, 3, none⟩ (.int .i64 0)).setCell ⟨z1, 4, none⟩ (.slice none 0 0)) := ⟨_, rfl⟩
   have BZ2 : BoxL Z2 z1 [.string ⟨#[]⟩, .string ⟨#[]⟩, .slice none 0 0, .int .i64 0, .slice none 0 0] := by rw [hZ2]; exact boxL_set5 BYZ _ _ _ _ _
   have hBZ2 : Below w.heap.size w Z2 := by rw [hZ2]; exact below_setT hBZ (by have := HZZ.out; omega) _ _ _ _ _
   rw [← hZ2]
   clear hZ2
   have r0 := BZ2.1 0 _ rfl; have r1 := BZ2.1 1 _ rfl; have r2 := BZ2.1 2 _ rfl; have r3 := BZ2.1 3 _ rfl; have r4 := BZ2.1 4 _ rfl
   rw [HL2.out.1]
   exact bodyPost_ret (v := .tuple #[.agg #[.string ⟨#[]⟩, .string ⟨#[]⟩, .slice none 0 0, .int .i64 0, .slice none 0 0], .int .i64 EE]) (by simp [results, Try.results56, go_sem, r0, r1, r2, r3, r4]) rfl (toldW_zero (h0) ⟨rfl, hBZ2⟩)
theorem answered_any (F q : Nat) (A : TaskP → StP → StP) (R : TaskP → StP → Int) (ky nm : ByteArray) (ta : Option Addr) (tn tc : Nat) (is : Int) (sa : Option Addr) (n sc : Nat) (tv : List TaskV) (ss : List StP) (now k : Int) (w : World) (eg : ∀ args w, (callFunc F args).run Try.prog w = .ok (.enter F args) w) (hA : Answers w F q A R) (hx : ∀ t s, s.r.size ≤ maxLen → (A t s).r.size ≤ maxLen)
  (hky : ky.size ≤ maxLen) (hk : wfJ k) (hT : IsT w ta tc tv) (htn : tn = tv.length) (hZ : IsZ w sa sc ss) (hn : n = ss.length) (E : Int) (hE : E = if runB ky nm (plainT tv) ss is = true then ansE (plainT tv) R (settleS (plainT tv) (untF now []) (ss, is)).1 k else 1) :
  Calls Try.prog 56 #[.agg #[.string ky, .string nm, .slice ta tn tc, .int .i64 is, .slice sa n sc], .int .i64 now, .int .i64 k, .func (.func F) #[] #[.pointer (some ⟨q, 0, none⟩)]] w fun e w' => ToldW w E ky nm (ansZ (plainT tv) A (settleS (plainT tv) (untF now []) (ss, is)).1 (settleS (plainT tv) (untF now []) (ss, is)).2 k).2 (plainT tv) (ansZ (plainT tv) A (settleS (plainT tv) (untF now []) (ss, is)).1 (settleS (plainT tv) (untF now []) (ss, is)).2 k).1 e w' := by
 subst hE
 by_cases h : runB ky nm (plainT tv) ss is = true
 ·
  rw [if_pos h]
  cases hh : heldAt (settleS (plainT tv) (untF now []) (ss, is)).1 k with
  | none =>
   have e : ansE (plainT tv) R (settleS (plainT tv) (untF now []) (ss, is)).1 k = 191 := by unfold ansE; rw [hh]
   rw [e]
   exact answerTok_any F q ky nm ta tn tc is sa n sc tv ss now k w hk hT htn hZ hn (runB_iff.1 h) hh _ _
  | some ix => exact answerHeld_any F q A R ky nm ta tn tc is sa n sc tv ss now k w eg hA hx hk hT htn hZ hn (runB_iff.1 h) ix hh
 ·
  rw [if_neg h]
  exact answerBad_any F q ky nm ta tn tc is sa n sc tv ss now k w hky hT htn hZ hn (by simpa using h) _ _
end Go.Proofs.Ytdpljpjbomhccaa
namespace Go.Proofs.Ytdpljpjbomhccaa
open Go.RowKit Plain
set_option linter.unusedVariables false
set_option maxRecDepth 20000 in
theorem beat1_any (w : World) (q : Nat) (now : Int) (hq : BoxL w q [.int .i64 now]) : Answers w 57 q (fun t s => beatT t.lease s now) (fun _ s => heldE s) := by
 intro V hV a l c t s hst
 have g0 := (hq.below hV).1 0 _ rfl
 obtain ⟨si, st, sd, sk, sr⟩ := s
 obtain ⟨ns, tr, wt, le⟩ := t
 dsimp only at *
 have cB := fun W => beatT_any a l c tr wt le si st sd sk sr now W
 obtain ⟨XX, hXX⟩ : ∃ XX, XX = beatT le ⟨si, st, sd, sk, sr⟩ now := ⟨_, rfl⟩
 obtain ⟨EE, hEE⟩ : ∃ EE, EE = heldE ⟨si, st, sd, sk, sr⟩ := ⟨_, rfl⟩
 rw [← hXX, ← hEE] at cB
 show Calls _ _ _ _ fun e w' => e = .returned (.tuple #[vT (beatT le ⟨si, st, sd, sk, sr⟩ now), .int .i64 (heldE ⟨si, st, sd, sk, sr⟩)]) ∧ _
 rw [← hXX, ← hEE]
 clear hXX hEE hst
 obtain ⟨xi, xt, xd, xk, xr⟩ := XX
 dsimp only [vT] at *
 have g1 : ∀ X, Below V.heap.size V X → X.cell? ⟨q, 0, none⟩ = some (.int .i64 now) := fun X hX => cell_below hX g0
 clear g0
 obtain ⟨W0, hW0⟩ : ∃ W0, W0 = ((V.alloc (.cells #[.slice a l c, .int .i64 tr, .int .i64 wt, .int .i64 le] 50)).alloc (.cells #[.int .i64 si, .int .i64 st, .int .i64 sd, .int .i64 sk, .string sr] 52)).alloc (.cells #[.int .i64 0, .int .i64 0, .int .i64 0, .int .i64 0, .string ⟨#[]⟩] 52) := ⟨_, rfl⟩
 have hB0 : Below V.heap.size V W0 := by rw [hW0]; exact bel3 V _ _ _
 have BT : BoxL W0 V.heap.size [.slice a l c, .int .i64 tr, .int .i64 wt, .int .i64 le] := by rw [hW0]; exact ((boxL_new V [.slice a l c, .int .i64 tr, .int .i64 wt, .int .i64 le] _ rfl).alloc _).alloc _
 have BS : BoxL W0 (V.heap.size + 1) [.int .i64 si, .int .i64 st, .int .i64 sd, .int .i64 sk, .string sr] := by rw [hW0]; exact (boxL_new _ [.int .i64 si, .int .i64 st, .int .i64 sd, .int .i64 sk, .string sr] _ (by simp)).alloc _
 have BR : BoxL W0 (V.heap.size + 1 + 1) [.int .i64 0, .int .i64 0, .int .i64 0, .int .i64 0, .string ⟨#[]⟩] := by rw [hW0]; exact boxL_new _ [.int .i64 0, .int .i64 0, .int .i64 0, .int .i64 0, .string ⟨#[]⟩] _ (by simp)
 go_enter Try.func57, Try.ntmps57
 refine wp_seq_k (fun K hK => ?_); have HK : Shut _ := hK; clear hK
 go_wp2
 refine HK.out _ _ ?_; clear HK K
 rw [← hW0]
 clear hW0
 have g2 := g1 _ hB0
 have t0 := BT.1 0 _ rfl; have t1 := BT.1 1 _ rfl; have t2 := BT.1 2 _ rfl; have t3 := BT.1 3 _ rfl
 have s0 := BS.1 0 _ rfl; have s1 := BS.1 1 _ rfl; have s2 := BS.1 2 _ rfl; have s3 := BS.1 3 _ rfl; have s4 := BS.1 4 _ rfl
 go_wp2_with (go_at_call 58; refine (cB _).mono ?_; rintro e w1 ⟨rfl, hb⟩; have BR1 := BR.below hb; have hB1 := Below.tr hB0 hb; clear g2 t0 t1 t2 t3 s0 s1 s2 s3 s4; have y0 := BR1.1 0 _ rfl; have y1 := BR1.1 1 _ rfl; have y2 := BR1.1 2 _ rfl; have y3 := BR1.1 3 _ rfl; have y4 := BR1.1 4 _ rfl; have d0 := BR1.2 0 (by simp); have d1 := BR1.2 1 (by simp); have d2 := BR1.2 2 (by simp); have d3 := BR1.2 3 (by simp); have d4 := BR1.2 4 (by simp))
 obtain ⟨Z, hZ⟩ : ∃ Z, Z = (((((w1.setCell ⟨V.heap.size + 1 + 1, 0, none⟩ (.int .i64 xi)).setCell ⟨V.heap.size + 1 + 1, 1, none⟩ (.int .i64 xt)).setCell ⟨V.heap.size + 1 + 1, 2, none⟩ (.int .i64 xd)).setCell ⟨V.heap.size + 1 + 1, 3, none⟩ (.int .i64 xk)).setCell ⟨V.heap.size + 1 + 1, 4, none⟩ (.string xr)) := ⟨_, rfl⟩
 have BZ : BoxL Z (V.heap.size + 1 + 1) [.int .i64 xi, .int .i64 xt, .int .i64 xd, .int .i64 xk, .string xr] := by rw [hZ]; exact boxL_set5 BR1 _ _ _ _ _
 have hBZ : Below V.heap.size V Z := by rw [hZ]; exact below_setT hB1 (by omega) _ _ _ _ _
 rw [← hZ]
 clear hZ
 have r0 := BZ.1 0 _ rfl; have r1 := BZ.1 1 _ rfl; have r2 := BZ.1 2 _ rfl; have r3 := BZ.1 3 _ rfl; have r4 := BZ.1 4 _ rfl
 exact bodyPost_ret (v := .tuple #[.agg #[.int .i64 xi, .int .i64 xt, .int .i64 xd, .int .i64 xk, .string xr], .int .i64 EE]) (by simp [results, Try.results57, go_sem, r0, r1, r2, r3, r4]) rfl ⟨rfl, hBZ⟩
set_option maxRecDepth 20000 in
theorem done1_any (w : World) (q : Nat) (x : ByteArray) (hx : x.size ≤ maxLen) (hq : BoxL w q [.string x]) : Answers w 59 q (fun _ s => doneT s x) (fun _ s => doneE s x) := by
 intro V hV a l c t s hst
 have g0 := (hq.below hV).1 0 _ rfl
 obtain ⟨si, st, sd, sk, sr⟩ := s
 obtain ⟨ns, tr, wt, le⟩ := t
 dsimp only at *
 have cB := fun W => doneT_any a l c tr wt le si st sd sk sr x W hx
 obtain ⟨XX, hXX⟩ : ∃ XX, XX = doneT ⟨si, st, sd, sk, sr⟩ x := ⟨_, rfl⟩
 obtain ⟨EE, hEE⟩ : ∃ EE, EE = doneE ⟨si, st, sd, sk, sr⟩ x := ⟨_, rfl⟩
 rw [← hXX, ← hEE] at cB
 show Calls _ _ _ _ fun e w' => e = .returned (.tuple #[vT (doneT ⟨si, st, sd, sk, sr⟩ x), .int .i64 (doneE ⟨si, st, sd, sk, sr⟩ x)]) ∧ _
 rw [← hXX, ← hEE]
 clear hXX hEE hst
 obtain ⟨xi, xt, xd, xk, xr⟩ := XX
 dsimp only [vT] at *
 have g1 : ∀ X, Below V.heap.size V X → X.cell? ⟨q, 0, none⟩ = some (.string x) := fun X hX => cell_below hX g0
 clear g0
 obtain ⟨W0, hW0⟩ : ∃ W0, W0 = ((V.alloc (.cells #[.slice a l c, .int .i64 tr, .int .i64 wt, .int .i64 le] 50)).alloc (.cells #[.int .i64 si, .int .i64 st, .int .i64 sd, .int .i64 sk, .string sr] 52)).alloc (.cells #[.int .i64 0, .int .i64 0, .int .i64 0, .int .i64 0, .string ⟨#[]⟩] 52) := ⟨_, rfl⟩
 have hB0 : Below V.heap.size V W0 := by rw [hW0]; exact bel3 V _ _ _
 have BT : BoxL W0 V.heap.size [.slice a l c, .int .i64 tr, .int .i64 wt, .int .i64 le] := by rw [hW0]; exact ((boxL_new V [.slice a l c, .int .i64 tr, .int .i64 wt, .int .i64 le] _ rfl).alloc _).alloc _
 have BS : BoxL W0 (V.heap.size + 1) [.int .i64 si, .int .i64 st, .int .i64 sd, .int .i64 sk, .string sr] := by rw [hW0]; exact (boxL_new _ [.int .i64 si, .int .i64 st, .int .i64 sd, .int .i64 sk, .string sr] _ (by simp)).alloc _
 have BR : BoxL W0 (V.heap.size + 1 + 1) [.int .i64 0, .int .i64 0, .int .i64 0, .int .i64 0, .string ⟨#[]⟩] := by rw [hW0]; exact boxL_new _ [.int .i64 0, .int .i64 0, .int .i64 0, .int .i64 0, .string ⟨#[]⟩] _ (by simp)
 go_enter Try.func59, Try.ntmps59
 refine wp_seq_k (fun K hK => ?_); have HK : Shut _ := hK; clear hK
 go_wp2
 refine HK.out _ _ ?_; clear HK K
 rw [← hW0]
 clear hW0
 have g2 := g1 _ hB0
 have t0 := BT.1 0 _ rfl; have t1 := BT.1 1 _ rfl; have t2 := BT.1 2 _ rfl; have t3 := BT.1 3 _ rfl
 have s0 := BS.1 0 _ rfl; have s1 := BS.1 1 _ rfl; have s2 := BS.1 2 _ rfl; have s3 := BS.1 3 _ rfl; have s4 := BS.1 4 _ rfl
 go_wp2_with (go_at_call 60; refine (cB _).mono ?_; rintro e w1 ⟨rfl, hb⟩; have BR1 := BR.below hb; have hB1 := Below.tr hB0 hb; clear g2 t0 t1 t2 t3 s0 s1 s2 s3 s4; have y0 := BR1.1 0 _ rfl; have y1 := BR1.1 1 _ rfl; have y2 := BR1.1 2 _ rfl; have y3 := BR1.1 3 _ rfl; have y4 := BR1.1 4 _ rfl; have d0 := BR1.2 0 (by simp); have d1 := BR1.2 1 (by simp); have d2 := BR1.2 2 (by simp); have d3 := BR1.2 3 (by simp); have d4 := BR1.2 4 (by simp))
 obtain ⟨Z, hZ⟩ : ∃ Z, Z = (((((w1.setCell ⟨V.heap.size + 1 + 1, 0, none⟩ (.int .i64 xi)).setCell ⟨V.heap.size + 1 + 1, 1, none⟩ (.int .i64 xt)).setCell ⟨V.heap.size + 1 + 1, 2, none⟩ (.int .i64 xd)).setCell ⟨V.heap.size + 1 + 1, 3, none⟩ (.int .i64 xk)).setCell ⟨V.heap.size + 1 + 1, 4, none⟩ (.string xr)) := ⟨_, rfl⟩
 have BZ : BoxL Z (V.heap.size + 1 + 1) [.int .i64 xi, .int .i64 xt, .int .i64 xd, .int .i64 xk, .string xr] := by rw [hZ]; exact boxL_set5 BR1 _ _ _ _ _
 have hBZ : Below V.heap.size V Z := by rw [hZ]; exact below_setT hB1 (by omega) _ _ _ _ _
 rw [← hZ]
 clear hZ
 have r0 := BZ.1 0 _ rfl; have r1 := BZ.1 1 _ rfl; have r2 := BZ.1 2 _ rfl; have r3 := BZ.1 3 _ rfl; have r4 := BZ.1 4 _ rfl
 exact bodyPost_ret (v := .tuple #[.agg #[.int .i64 xi, .int .i64 xt, .int .i64 xd, .int .i64 xk, .string xr], .int .i64 EE]) (by simp [results, Try.results59, go_sem, r0, r1, r2, r3, r4]) rfl ⟨rfl, hBZ⟩
set_option maxRecDepth 20000 in
theorem fail1_any (w : World) (q : Nat) (now : Int) (hq : BoxL w q [.int .i64 now]) : Answers w 61 q (fun t s => failT t.tries t.wait s now) (fun _ s => heldE s) := by
 intro V hV a l c t s hst
 have g0 := (hq.below hV).1 0 _ rfl
 obtain ⟨si, st, sd, sk, sr⟩ := s
 obtain ⟨ns, tr, wt, le⟩ := t
 dsimp only at *
 have cB := fun W => failT_any a l c tr wt le si st sd sk sr now W hst
 obtain ⟨XX, hXX⟩ : ∃ XX, XX = failT tr wt ⟨si, st, sd, sk, sr⟩ now := ⟨_, rfl⟩
 obtain ⟨EE, hEE⟩ : ∃ EE, EE = heldE ⟨si, st, sd, sk, sr⟩ := ⟨_, rfl⟩
 rw [← hXX, ← hEE] at cB
 show Calls _ _ _ _ fun e w' => e = .returned (.tuple #[vT (failT tr wt ⟨si, st, sd, sk, sr⟩ now), .int .i64 (heldE ⟨si, st, sd, sk, sr⟩)]) ∧ _
 rw [← hXX, ← hEE]
 clear hXX hEE hst
 obtain ⟨xi, xt, xd, xk, xr⟩ := XX
 dsimp only [vT] at *
 have g1 : ∀ X, Below V.heap.size V X → X.cell? ⟨q, 0, none⟩ = some (.int .i64 now) := fun X hX => cell_below hX g0
 clear g0
 obtain ⟨W0, hW0⟩ : ∃ W0, W0 = ((V.alloc (.cells #[.slice a l c, .int .i64 tr, .int .i64 wt, .int .i64 le] 50)).alloc (.cells #[.int .i64 si, .int .i64 st, .int .i64 sd, .int .i64 sk, .string sr] 52)).alloc (.cells #[.int .i64 0, .int .i64 0, .int .i64 0, .int .i64 0, .string ⟨#[]⟩] 52) := ⟨_, rfl⟩
 have hB0 : Below V.heap.size V W0 := by rw [hW0]; exact bel3 V _ _ _
 have BT : BoxL W0 V.heap.size [.slice a l c, .int .i64 tr, .int .i64 wt, .int .i64 le] := by rw [hW0]; exact ((boxL_new V [.slice a l c, .int .i64 tr, .int .i64 wt, .int .i64 le] _ rfl).alloc _).alloc _
 have BS : BoxL W0 (V.heap.size + 1) [.int .i64 si, .int .i64 st, .int .i64 sd, .int .i64 sk, .string sr] := by rw [hW0]; exact (boxL_new _ [.int .i64 si, .int .i64 st, .int .i64 sd, .int .i64 sk, .string sr] _ (by simp)).alloc _
 have BR : BoxL W0 (V.heap.size + 1 + 1) [.int .i64 0, .int .i64 0, .int .i64 0, .int .i64 0, .string ⟨#[]⟩] := by rw [hW0]; exact boxL_new _ [.int .i64 0, .int .i64 0, .int .i64 0, .int .i64 0, .string ⟨#[]⟩] _ (by simp)
 go_enter Try.func61, Try.ntmps61
 refine wp_seq_k (fun K hK => ?_); have HK : Shut _ := hK; clear hK
 go_wp2
 refine HK.out _ _ ?_; clear HK K
 rw [← hW0]
 clear hW0
 have g2 := g1 _ hB0
 have t0 := BT.1 0 _ rfl; have t1 := BT.1 1 _ rfl; have t2 := BT.1 2 _ rfl; have t3 := BT.1 3 _ rfl
 have s0 := BS.1 0 _ rfl; have s1 := BS.1 1 _ rfl; have s2 := BS.1 2 _ rfl; have s3 := BS.1 3 _ rfl; have s4 := BS.1 4 _ rfl
 go_wp2_with (go_at_call 62; refine (cB _).mono ?_; rintro e w1 ⟨rfl, hb⟩; have BR1 := BR.below hb; have hB1 := Below.tr hB0 hb; clear g2 t0 t1 t2 t3 s0 s1 s2 s3 s4; have y0 := BR1.1 0 _ rfl; have y1 := BR1.1 1 _ rfl; have y2 := BR1.1 2 _ rfl; have y3 := BR1.1 3 _ rfl; have y4 := BR1.1 4 _ rfl; have d0 := BR1.2 0 (by simp); have d1 := BR1.2 1 (by simp); have d2 := BR1.2 2 (by simp); have d3 := BR1.2 3 (by simp); have d4 := BR1.2 4 (by simp))
 obtain ⟨Z, hZ⟩ : ∃ Z, Z = (((((w1.setCell ⟨V.heap.size + 1 + 1, 0, none⟩ (.int .i64 xi)).setCell ⟨V.heap.size + 1 + 1, 1, none⟩ (.int .i64 xt)).setCell ⟨V.heap.size + 1 + 1, 2, none⟩ (.int .i64 xd)).setCell ⟨V.heap.size + 1 + 1, 3, none⟩ (.int .i64 xk)).setCell ⟨V.heap.size + 1 + 1, 4, none⟩ (.string xr)) := ⟨_, rfl⟩
 have BZ : BoxL Z (V.heap.size + 1 + 1) [.int .i64 xi, .int .i64 xt, .int .i64 xd, .int .i64 xk, .string xr] := by rw [hZ]; exact boxL_set5 BR1 _ _ _ _ _
 have hBZ : Below V.heap.size V Z := by rw [hZ]; exact below_setT hB1 (by omega) _ _ _ _ _
 rw [← hZ]
 clear hZ
 have r0 := BZ.1 0 _ rfl; have r1 := BZ.1 1 _ rfl; have r2 := BZ.1 2 _ rfl; have r3 := BZ.1 3 _ rfl; have r4 := BZ.1 4 _ rfl
 exact bodyPost_ret (v := .tuple #[.agg #[.int .i64 xi, .int .i64 xt, .int .i64 xd, .int .i64 xk, .string xr], .int .i64 EE]) (by simp [results, Try.results61, go_sem, r0, r1, r2, r3, r4]) rfl ⟨rfl, hBZ⟩
theorem beat_text {le now : Int} {s : StP} (h : s.r.size ≤ maxLen) : (beatT le s now).r.size ≤ maxLen := by unfold beatT; split <;> first | exact h | exact Nat.zero_le _
theorem done_text {x : ByteArray} {s : StP} (hx : x.size ≤ maxLen) : (doneT s x).r.size ≤ maxLen := by
 unfold doneT; split
 ·
  split
  ·
   exact hx
  ·
   exact Nat.zero_le _
 ·
  exact Nat.zero_le _
set_option maxRecDepth 20000 in
set_option maxHeartbeats 1000000 in
theorem beatU_any (ky nm : ByteArray) (ta : Option Addr) (tn tc : Nat) (is : Int) (sa : Option Addr) (n sc : Nat) (tv : List TaskV) (ss : List StP) (now k : Int) (w : World)
  (hky : ky.size ≤ maxLen) (hk : wfJ k) (hT : IsT w ta tc tv) (htn : tn = tv.length) (hZ : IsZ w sa sc ss) (hn : n = ss.length) (E : Int) (hE : E = if runB ky nm (plainT tv) ss is = true then ansE (plainT tv) (fun _ s => heldE s) (settleS (plainT tv) (untF now []) (ss, is)).1 k else 1) :
  Calls Try.prog 23 #[.agg #[.string ky, .string nm, .slice ta tn tc, .int .i64 is, .slice sa n sc], .int .i64 now, .int .i64 k] w fun e w' => ToldU w E ky nm (ansZ (plainT tv) (fun t s => beatT t.lease s now) (settleS (plainT tv) (untF now []) (ss, is)).1 (settleS (plainT tv) (untF now []) (ss, is)).2 k).2 (plainT tv) (ansZ (plainT tv) (fun t s => beatT t.lease s now) (settleS (plainT tv) (untF now []) (ss, is)).1 (settleS (plainT tv) (untF now []) (ss, is)).2 k).1 e w' := by
 obtain ⟨W0, hW0⟩ : ∃ W0, W0 = ((w.alloc (.cells #[.string ky, .string nm, .slice ta tn tc, .int .i64 is, .slice sa n sc] 27)).alloc (.cells #[.int .i64 now] 3)).alloc (.cells #[.string ⟨#[]⟩, .string ⟨#[]⟩, .slice none 0 0, .int .i64 0, .slice none 0 0] 27) := ⟨_, rfl⟩
 have hB0 : Below w.heap.size w W0 := by rw [hW0]; exact bel3 w _ _ _
 have hs0 : W0.heap.size = w.heap.size + 3 := by rw [hW0]; simp
 have BX : BoxL W0 w.heap.size [.string ky, .string nm, .slice ta tn tc, .int .i64 is, .slice sa n sc] := by rw [hW0]; exact ((boxL_new w [.string ky, .string nm, .slice ta tn tc, .int .i64 is, .slice sa n sc] _ rfl).alloc _).alloc _
 have BQ : BoxL W0 (w.heap.size + 1) [.int .i64 now] := by rw [hW0]; exact (boxL_new _ [.int .i64 now] _ (by simp)).alloc _
 have BY : BoxL W0 (w.heap.size + 1 + 1) [.string ⟨#[]⟩, .string ⟨#[]⟩, .slice none 0 0, .int .i64 0, .slice none 0 0] := by rw [hW0]; exact boxL_new _ [.string ⟨#[]⟩, .string ⟨#[]⟩, .slice none 0 0, .int .i64 0, .slice none 0 0] _ (by simp)
 have cS := answered_any 57 (w.heap.size + 1) _ _ ky nm ta tn tc is sa n sc tv ss now k W0 (enters_of Try.func57 (by kernel_rfl) rfl) (beat1_any W0 _ now BQ) (fun t s h => beat_text h) hky hk (hT.below hB0) htn (hZ.below hB0) hn E hE
 obtain ⟨RI, hRI⟩ : ∃ RI, RI = (ansZ (plainT tv) (fun t s => beatT t.lease s now) (settleS (plainT tv) (untF now []) (ss, is)).1 (settleS (plainT tv) (untF now []) (ss, is)).2 k).2 := ⟨_, rfl⟩
 obtain ⟨RZ, hRZ⟩ : ∃ RZ, RZ = (ansZ (plainT tv) (fun t s => beatT t.lease s now) (settleS (plainT tv) (untF now []) (ss, is)).1 (settleS (plainT tv) (untF now []) (ss, is)).2 k).1 := ⟨_, rfl⟩
 rw [← hRI, ← hRZ] at cS ⊢
 clear hT htn hZ hn hE hRI hRZ
 have f0 := BX.1 0 _ rfl; have f1 := BX.1 1 _ rfl; have f2 := BX.1 2 _ rfl; have f3 := BX.1 3 _ rfl; have f4 := BX.1 4 _ rfl
 have g0 := BQ.1 0 _ rfl
 go_enter Try.func23, Try.ntmps23
 refine wp_seq_k (fun K hK => ?_); have HK : Shut _ := hK; clear hK
 go_wp2
 refine HK.out _ _ ?_; clear HK K
 rw [← hW0]
 clear hW0
 go_wp2_with (go_at_call 56; refine cS.mono ?_; rintro e w1 ⟨xk, xn, xa, xm, xc, xi, xs, xq, xsc, xt, xz, rfl, hX, h0, h1, hb⟩; have BY1 := BY.below hb; have hB1 := Below.tr hB0 hb; have HX : Hid (∀ V, Turns (fun k => k < W0.heap.size) w1 V → XR V xa xm xc xs xq xsc xt xz) := hX; have H0 : Hid _ := h0; have H1 : Hid _ := h1; clear f0 f1 f2 f3 f4 g0 hX h0 h1; have y0 := BY1.1 0 _ rfl; have y1 := BY1.1 1 _ rfl; have y2 := BY1.1 2 _ rfl; have y3 := BY1.1 3 _ rfl; have y4 := BY1.1 4 _ rfl; have d0 := BY1.2 0 (by simp); have d1 := BY1.2 1 (by simp); have d2 := BY1.2 2 (by simp); have d3 := BY1.2 3 (by simp); have d4 := BY1.2 4 (by simp))
 obtain ⟨Z, hZ⟩ : ∃ Z, Z = (((((w1.setCell ⟨w.heap.size + 1 + 1, 0, none⟩ (.string xk)).setCell ⟨w.heap.size + 1 + 1, 1, none⟩ (.string xn)).setCell ⟨w.heap.size + 1 + 1, 2, none⟩ (.slice xa xm xc)).setCell ⟨w.heap.size + 1 + 1, 3, none⟩ (.int .i64 xi)).setCell ⟨w.heap.size + 1 + 1, 4, none⟩ (.slice xs xq xsc)) := ⟨_, rfl⟩
 have TZ : Turns (fun k => k = w.heap.size + 1 + 1) w1 Z := by rw [hZ]; exact turns_set5 _ _ _ _ _ _ _
 have BZ : BoxL Z (w.heap.size + 1 + 1) [.string xk, .string xn, .slice xa xm xc, .int .i64 xi, .slice xs xq xsc] := by rw [hZ]; exact boxL_set5 BY1 _ _ _ _ _
 have hBZ := Below.turns hB1 TZ (fun k hk => by omega)
 rw [← hZ]
 clear hZ
 have r0 := BZ.1 0 _ rfl; have r1 := BZ.1 1 _ rfl; have r2 := BZ.1 2 _ rfl; have r3 := BZ.1 3 _ rfl; have r4 := BZ.1 4 _ rfl
 exact bodyPost_ret (v := .tuple #[.agg #[.string xk, .string xn, .slice xa xm xc, .int .i64 xi, .slice xs xq xsc], .int .i64 E]) (by simp [results, Try.results23, go_sem, r0, r1, r2, r3, r4]) rfl ⟨xk, xn, xa, xm, xc, xi, xs, xq, xsc, xt, xz, rfl, HX.out Z (TZ.mono fun k hk => by subst hk; omega), H0.out, H1.out, hBZ⟩
set_option maxRecDepth 20000 in
set_option maxHeartbeats 1000000 in
theorem doneU_any (ky nm : ByteArray) (ta : Option Addr) (tn tc : Nat) (is : Int) (sa : Option Addr) (n sc : Nat) (tv : List TaskV) (ss : List StP) (now k : Int) (x : ByteArray) (w : World) (hx : x.size ≤ maxLen)
  (hky : ky.size ≤ maxLen) (hk : wfJ k) (hT : IsT w ta tc tv) (htn : tn = tv.length) (hZ : IsZ w sa sc ss) (hn : n = ss.length) (E : Int) (hE : E = if runB ky nm (plainT tv) ss is = true then ansE (plainT tv) (fun _ s => doneE s x) (settleS (plainT tv) (untF now []) (ss, is)).1 k else 1) :
  Calls Try.prog 24 #[.agg #[.string ky, .string nm, .slice ta tn tc, .int .i64 is, .slice sa n sc], .int .i64 now, .int .i64 k, .string x] w fun e w' => ToldU w E ky nm (ansZ (plainT tv) (fun _ s => doneT s x) (settleS (plainT tv) (untF now []) (ss, is)).1 (settleS (plainT tv) (untF now []) (ss, is)).2 k).2 (plainT tv) (ansZ (plainT tv) (fun _ s => doneT s x) (settleS (plainT tv) (untF now []) (ss, is)).1 (settleS (plainT tv) (untF now []) (ss, is)).2 k).1 e w' := by
 obtain ⟨W0, hW0⟩ : ∃ W0, W0 = ((w.alloc (.cells #[.string ky, .string nm, .slice ta tn tc, .int .i64 is, .slice sa n sc] 27)).alloc (.cells #[.string x] 9)).alloc (.cells #[.string ⟨#[]⟩, .string ⟨#[]⟩, .slice none 0 0, .int .i64 0, .slice none 0 0] 27) := ⟨_, rfl⟩
 have hB0 : Below w.heap.size w W0 := by rw [hW0]; exact bel3 w _ _ _
 have hs0 : W0.heap.size = w.heap.size + 3 := by rw [hW0]; simp
 have BX : BoxL W0 w.heap.size [.string ky, .string nm, .slice ta tn tc, .int .i64 is, .slice sa n sc] := by rw [hW0]; exact ((boxL_new w [.string ky, .string nm, .slice ta tn tc, .int .i64 is, .slice sa n sc] _ rfl).alloc _).alloc _
 have BQ : BoxL W0 (w.heap.size + 1) [.string x] := by rw [hW0]; exact (boxL_new _ [.string x] _ (by simp)).alloc _
 have BY : BoxL W0 (w.heap.size + 1 + 1) [.string ⟨#[]⟩, .string ⟨#[]⟩, .slice none 0 0, .int .i64 0, .slice none 0 0] := by rw [hW0]; exact boxL_new _ [.string ⟨#[]⟩, .string ⟨#[]⟩, .slice none 0 0, .int .i64 0, .slice none 0 0] _ (by simp)
 have cS := answered_any 59 (w.heap.size + 1) _ _ ky nm ta tn tc is sa n sc tv ss now k W0 (enters_of Try.func59 (by kernel_rfl) rfl) (done1_any W0 _ x hx BQ) (fun t s h => done_text hx) hky hk (hT.below hB0) htn (hZ.below hB0) hn E hE
 obtain ⟨RI, hRI⟩ : ∃ RI, RI = (ansZ (plainT tv) (fun _ s => doneT s x) (settleS (plainT tv) (untF now []) (ss, is)).1 (settleS (plainT tv) (untF now []) (ss, is)).2 k).2 := ⟨_, rfl⟩
 obtain ⟨RZ, hRZ⟩ : ∃ RZ, RZ = (ansZ (plainT tv) (fun _ s => doneT s x) (settleS (plainT tv) (untF now []) (ss, is)).1 (settleS (plainT tv) (untF now []) (ss, is)).2 k).1 := ⟨_, rfl⟩
 rw [← hRI, ← hRZ] at cS ⊢
 clear hT htn hZ hn hE hRI hRZ
 have f0 := BX.1 0 _ rfl; have f1 := BX.1 1 _ rfl; have f2 := BX.1 2 _ rfl; have f3 := BX.1 3 _ rfl; have f4 := BX.1 4 _ rfl
 have g0 := BQ.1 0 _ rfl
 go_enter Try.func24, Try.ntmps24
 refine wp_seq_k (fun K hK => ?_); have HK : Shut _ := hK; clear hK
 go_wp2
 refine HK.out _ _ ?_; clear HK K
 rw [← hW0]
 clear hW0
 go_wp2_with (go_at_call 56; refine cS.mono ?_; rintro e w1 ⟨xk, xn, xa, xm, xc, xi, xs, xq, xsc, xt, xz, rfl, hX, h0, h1, hb⟩; have BY1 := BY.below hb; have hB1 := Below.tr hB0 hb; have HX : Hid (∀ V, Turns (fun k => k < W0.heap.size) w1 V → XR V xa xm xc xs xq xsc xt xz) := hX; have H0 : Hid _ := h0; have H1 : Hid _ := h1; clear f0 f1 f2 f3 f4 g0 hX h0 h1; have y0 := BY1.1 0 _ rfl; have y1 := BY1.1 1 _ rfl; have y2 := BY1.1 2 _ rfl; have y3 := BY1.1 3 _ rfl; have y4 := BY1.1 4 _ rfl; have d0 := BY1.2 0 (by simp); have d1 := BY1.2 1 (by simp); have d2 := BY1.2 2 (by simp); have d3 := BY1.2 3 (by simp); have d4 := BY1.2 4 (by simp))
 obtain ⟨Z, hZ⟩ : ∃ Z, Z = (((((w1.setCell ⟨w.heap.size + 1 + 1, 0, none⟩ (.string xk)).setCell ⟨w.heap.size + 1 + 1, 1, none⟩ (.string xn)).setCell ⟨w.heap.size + 1 + 1, 2, none⟩ (.slice xa xm xc)).setCell ⟨w.heap.size + 1 + 1, 3, none⟩ (.int .i64 xi)).setCell ⟨w.heap.size + 1 + 1, 4, none⟩ (.slice xs xq xsc)) := ⟨_, rfl⟩
 have TZ : Turns (fun k => k = w.heap.size + 1 + 1) w1 Z := by rw [hZ]; exact turns_set5 _ _ _ _ _ _ _
 have BZ : BoxL Z (w.heap.size + 1 + 1) [.string xk, .string xn, .slice xa xm xc, .int .i64 xi, .slice xs xq xsc] := by rw [hZ]; exact boxL_set5 BY1 _ _ _ _ _
 have hBZ := Below.turns hB1 TZ (fun k hk => by omega)
 rw [← hZ]
 clear hZ
 have r0 := BZ.1 0 _ rfl; have r1 := BZ.1 1 _ rfl; have r2 := BZ.1 2 _ rfl; have r3 := BZ.1 3 _ rfl; have r4 := BZ.1 4 _ rfl
 exact bodyPost_ret (v := .tuple #[.agg #[.string xk, .string xn, .slice xa xm xc, .int .i64 xi, .slice xs xq xsc], .int .i64 E]) (by simp [results, Try.results24, go_sem, r0, r1, r2, r3, r4]) rfl ⟨xk, xn, xa, xm, xc, xi, xs, xq, xsc, xt, xz, rfl, HX.out Z (TZ.mono fun k hk => by subst hk; omega), H0.out, H1.out, hBZ⟩
set_option maxRecDepth 20000 in
set_option maxHeartbeats 1000000 in
theorem failU_any (ky nm : ByteArray) (ta : Option Addr) (tn tc : Nat) (is : Int) (sa : Option Addr) (n sc : Nat) (tv : List TaskV) (ss : List StP) (now k : Int) (w : World)
  (hky : ky.size ≤ maxLen) (hk : wfJ k) (hT : IsT w ta tc tv) (htn : tn = tv.length) (hZ : IsZ w sa sc ss) (hn : n = ss.length) (E : Int) (hE : E = if runB ky nm (plainT tv) ss is = true then ansE (plainT tv) (fun _ s => heldE s) (settleS (plainT tv) (untF now []) (ss, is)).1 k else 1) :
  Calls Try.prog 25 #[.agg #[.string ky, .string nm, .slice ta tn tc, .int .i64 is, .slice sa n sc], .int .i64 now, .int .i64 k] w fun e w' => ToldU w E ky nm (ansZ (plainT tv) (fun t s => failT t.tries t.wait s now) (settleS (plainT tv) (untF now []) (ss, is)).1 (settleS (plainT tv) (untF now []) (ss, is)).2 k).2 (plainT tv) (ansZ (plainT tv) (fun t s => failT t.tries t.wait s now) (settleS (plainT tv) (untF now []) (ss, is)).1 (settleS (plainT tv) (untF now []) (ss, is)).2 k).1 e w' := by
 obtain ⟨W0, hW0⟩ : ∃ W0, W0 = ((w.alloc (.cells #[.string ky, .string nm, .slice ta tn tc, .int .i64 is, .slice sa n sc] 27)).alloc (.cells #[.int .i64 now] 3)).alloc (.cells #[.string ⟨#[]⟩, .string ⟨#[]⟩, .slice none 0 0, .int .i64 0, .slice none 0 0] 27) := ⟨_, rfl⟩
 have hB0 : Below w.heap.size w W0 := by rw [hW0]; exact bel3 w _ _ _
 have hs0 : W0.heap.size = w.heap.size + 3 := by rw [hW0]; simp
 have BX : BoxL W0 w.heap.size [.string ky, .string nm, .slice ta tn tc, .int .i64 is, .slice sa n sc] := by rw [hW0]; exact ((boxL_new w [.string ky, .string nm, .slice ta tn tc, .int .i64 is, .slice sa n sc] _ rfl).alloc _).alloc _
 have BQ : BoxL W0 (w.heap.size + 1) [.int .i64 now] := by rw [hW0]; exact (boxL_new _ [.int .i64 now] _ (by simp)).alloc _
 have BY : BoxL W0 (w.heap.size + 1 + 1) [.string ⟨#[]⟩, .string ⟨#[]⟩, .slice none 0 0, .int .i64 0, .slice none 0 0] := by rw [hW0]; exact boxL_new _ [.string ⟨#[]⟩, .string ⟨#[]⟩, .slice none 0 0, .int .i64 0, .slice none 0 0] _ (by simp)
 have cS := answered_any 61 (w.heap.size + 1) _ _ ky nm ta tn tc is sa n sc tv ss now k W0 (enters_of Try.func61 (by kernel_rfl) rfl) (fail1_any W0 _ now BQ) (fun t s h => fail_text h) hky hk (hT.below hB0) htn (hZ.below hB0) hn E hE
 obtain ⟨RI, hRI⟩ : ∃ RI, RI = (ansZ (plainT tv) (fun t s => failT t.tries t.wait s now) (settleS (plainT tv) (untF now []) (ss, is)).1 (settleS (plainT tv) (untF now []) (ss, is)).2 k).2 := ⟨_, rfl⟩
 obtain ⟨RZ, hRZ⟩ : ∃ RZ, RZ = (ansZ (plainT tv) (fun t s => failT t.tries t.wait s now) (settleS (plainT tv) (untF now []) (ss, is)).1 (settleS (plainT tv) (untF now []) (ss, is)).2 k).1 := ⟨_, rfl⟩
 rw [← hRI, ← hRZ] at cS ⊢
 clear hT htn hZ hn hE hRI hRZ
 have f0 := BX.1 0 _ rfl; have f1 := BX.1 1 _ rfl; have f2 := BX.1 2 _ rfl; have f3 := BX.1 3 _ rfl; have f4 := BX.1 4 _ rfl
 have g0 := BQ.1 0 _ rfl
 go_enter Try.func25, Try.ntmps25
 refine wp_seq_k (fun K hK => ?_); have HK : Shut _ := hK; clear hK
 go_wp2
 refine HK.out _ _ ?_; clear HK K
 rw [← hW0]
 clear hW0
 go_wp2_with (go_at_call 56; refine cS.mono ?_; rintro e w1 ⟨xk, xn, xa, xm, xc, xi, xs, xq, xsc, xt, xz, rfl, hX, h0, h1, hb⟩; have BY1 := BY.below hb; have hB1 := Below.tr hB0 hb; have HX : Hid (∀ V, Turns (fun k => k < W0.heap.size) w1 V → XR V xa xm xc xs xq xsc xt xz) := hX; have H0 : Hid _ := h0; have H1 : Hid _ := h1; clear f0 f1 f2 f3 f4 g0 hX h0 h1; have y0 := BY1.1 0 _ rfl; have y1 := BY1.1 1 _ rfl; have y2 := BY1.1 2 _ rfl; have y3 := BY1.1 3 _ rfl; have y4 := BY1.1 4 _ rfl; have d0 := BY1.2 0 (by simp); have d1 := BY1.2 1 (by simp); have d2 := BY1.2 2 (by simp); have d3 := BY1.2 3 (by simp); have d4 := BY1.2 4 (by simp))
 obtain ⟨Z, hZ⟩ : ∃ Z, Z = (((((w1.setCell ⟨w.heap.size + 1 + 1, 0, none⟩ (.string xk)).setCell ⟨w.heap.size + 1 + 1, 1, none⟩ (.string xn)).setCell ⟨w.heap.size + 1 + 1, 2, none⟩ (.slice xa xm xc)).setCell ⟨w.heap.size + 1 + 1, 3, none⟩ (.int .i64 xi)).setCell ⟨w.heap.size + 1 + 1, 4, none⟩ (.slice xs xq xsc)) := ⟨_, rfl⟩
 have TZ : Turns (fun k => k = w.heap.size + 1 + 1) w1 Z := by rw [hZ]; exact turns_set5 _ _ _ _ _ _ _
 have BZ : BoxL Z (w.heap.size + 1 + 1) [.string xk, .string xn, .slice xa xm xc, .int .i64 xi, .slice xs xq xsc] := by rw [hZ]; exact boxL_set5 BY1 _ _ _ _ _
 have hBZ := Below.turns hB1 TZ (fun k hk => by omega)
 rw [← hZ]
 clear hZ
 have r0 := BZ.1 0 _ rfl; have r1 := BZ.1 1 _ rfl; have r2 := BZ.1 2 _ rfl; have r3 := BZ.1 3 _ rfl; have r4 := BZ.1 4 _ rfl
 exact bodyPost_ret (v := .tuple #[.agg #[.string xk, .string xn, .slice xa xm xc, .int .i64 xi, .slice xs xq xsc], .int .i64 E]) (by simp [results, Try.results25, go_sem, r0, r1, r2, r3, r4]) rfl ⟨xk, xn, xa, xm, xc, xi, xs, xq, xsc, xt, xz, rfl, HX.out Z (TZ.mono fun k hk => by subst hk; omega), H0.out, H1.out, hBZ⟩
end Go.Proofs.Ytdpljpjbomhccaa
