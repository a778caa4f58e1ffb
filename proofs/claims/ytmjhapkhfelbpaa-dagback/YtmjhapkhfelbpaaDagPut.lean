/-
  Package dag: number, text, taskBytes, Put.
-/
import Derived.Test.YtmjhapkhfelbpaaDagRight
import Derived.Test.YtmjhapkhfelbpaaDagBytesP
import Derived.Test.YtmjhapkhfelbpaaText
import Derived.Test.YtmjhapkhfelbpaaNodeJoined
import Derived.Deep.RegionHeld3
namespace Go.Proofs.Ytmjhapkhfelbpaa
open Go.RowKit Plain
set_option linter.unusedVariables false

/-- All parts of a row of the call's own. -/
theorem allOwnD {W : World} {base : Nat} {v : Value} {n : Nat} {xs : List ByteArray} (hown : W.ownsRow base 9 1 v n (xs.map Value.string)) (hx : 1 ≤ xs.length) (hl : xs.length ≤ 140737488355328) (hlen : (cat xs).size ≤ 140737488355328) :
    Calls Try.prog 34 #[v] W fun e w' => e = .returned (.string (cat xs)) ∧ Below W.heap.size W w' := by
  have hn : xs.length = n := by simpa using hown.1
  have hlt := hown.lt
  have hcells := fun g => hown.cells (g := g)
  rcases hown.2 with ⟨rfl, rfl⟩ | ⟨g, cap, cur, rfl, hg, hh, hnc, hcm, hcs, htk⟩
  · omega
  · subst hn
    refine all_row g 0 cap xs W (fun j x hj => ?_) (hlt g rfl).2 hl hnc hlen
    have := hcells g rfl j (.string x) (by rw [List.getElem?_map, hj]; rfl)
    rw [at_add] at this
    exact this

theorem isS_threeD (W : World) (x y z : ByteArray) (hx : x.size ≤ maxLen) (hy : y.size ≤ maxLen) (hz : z.size ≤ maxLen) : IsS (W.alloc (.cells #[.string x, .string y, .string z] 9)) (some ⟨W.heap.size, 0, none⟩) 3 [x, y, z] := by
  refine ⟨Nat.le_refl _, by unfold maxLen; omega, fun j d hd => ?_⟩
  match j, hd with
  | 0, hd => simp at hd; subst hd; exact ⟨W.heap.size, 0, rfl, by simp, World.cell?_alloc_at _ _ _ _ rfl, hx⟩
  | 1, hd => simp at hd; subst hd; exact ⟨W.heap.size, 0, rfl, by simp, World.cell?_alloc_at _ _ _ _ rfl, hy⟩
  | 2, hd => simp at hd; subst hd; exact ⟨W.heap.size, 0, rfl, by simp, World.cell?_alloc_at _ _ _ _ rfl, hz⟩

theorem catBound (xs : List ByteArray) (m : Nat) (h : ∀ x ∈ xs, x.size ≤ m) : (cat xs).size ≤ xs.length * m := by
  rw [cat_size]
  induction xs with
  | nil => simp
  | cons x xs ih =>
    have h1 := h x (List.mem_cons_self ..)
    have h2 := ih (fun y hy => h y (List.mem_cons_of_mem _ hy))
    rw [List.map_cons, List.sum_cons, List.length_cons, Nat.succ_mul]
    omega

theorem putS6 (n k : Int) : (putS n k).size ≤ 6 := by
  by_cases h : putOk n k = true
  · have := putS_size h
    have := ((putOk_iff n k).1 h).2.1
    omega
  · rw [putS_bad (by simpa using h)]; exact Nat.zero_le _

theorem dagNumber_any (n k : Int) (w : World) : Calls Try.prog 32 #[.int .i64 n, .int .i64 k] w fun e w' => e = .returned (.string (putS n k)) ∧ Below w.heap.size w w' := by
  have c := fun W => put_any n k W
  go_enter Try.func32, Try.ntmps32
  go_wp2_with (go_at_call 44; refine (c _).mono ?_; rintro e w' ⟨rfl, hb⟩)
  go_ret
  exact ⟨rfl, hb⟩

theorem dagText_any (s : ByteArray) (w : World) (hs : s.size ≤ maxLen) : Calls Try.prog 31 #[.string s] w fun e w' => e = .returned (.string (textS s)) ∧ Below w.heap.size w w' := by
  have c := fun W => text_any s W hs
  go_enter Try.func31, Try.ntmps31
  go_wp2_with (go_at_call 43; refine (c _).mono ?_; rintro e w' ⟨rfl, hb⟩)
  go_ret
  exact ⟨rfl, hb⟩

/-- The parts behind so many needs. -/
def needsTo (ns : List Int) (j : Nat) : List ByteArray := putS ns.length 1 :: needsP (ns.take j)

theorem needsTo_next {ns : List Int} {j : Nat} {x : Int} (h : ns[j]? = some x) : needsTo ns (j + 1) = needsTo ns j ++ [putS x 1] := by
  unfold needsTo
  rw [List.take_add_one, h, Option.toList_some, needsP_append]
  simp [needsP]

set_option maxRecDepth 20000 in
set_option maxHeartbeats 2000000 in
/-- TASK BYTES. -/
theorem taskBytes_any (t : TaskV) (k : Nat) (w : World) (hk : k = t.ns.length) (hI : IsI w t.a t.c t.ns) (h20 : k ≤ 300) :
    Calls Try.prog 33 #[.agg #[.slice t.a k t.c, .int .i64 t.tr, .int .i64 t.wt, .int .i64 t.le]] w fun e w' => e = .returned (.string (cat (taskP t.p))) ∧ Below w.heap.size w w' := by
  obtain ⟨W, hW⟩ : ∃ W, W = w.alloc (.cells #[.slice t.a k t.c, .int .i64 t.tr, .int .i64 t.wt, .int .i64 t.le] 46) := ⟨_, rfl⟩
  have hB0 : Below w.heap.size w W := by rw [hW]; exact (Below.refl _ _).alloc (Nat.le_refl _) _
  have bX : BoxL W w.heap.size [.slice t.a k t.c, .int .i64 t.tr, .int .i64 t.wt, .int .i64 t.le] := by rw [hW]; exact boxL_new _ _ _ rfl
  have zW : W.heap.size = w.heap.size + 1 := by rw [hW]; simp
  have HI : Hid (IsI w t.a t.c t.ns) := hI
  have HK : Hid (k = t.ns.length) := hk
  have HE : Hid (taskP t.p = needsTo t.ns t.ns.length ++ [putS t.tr 1, putS t.wt 3, putS t.le 3]) := by
    show putS t.ns.length 1 :: (needsP t.ns ++ [putS t.tr 1, putS t.wt 3, putS t.le 3]) = _
    unfold needsTo
    rw [List.take_length]
    rfl
  have HP0 : Hid (needsTo t.ns 0 = [putS (k : Int) 1]) := by show _ = _; rw [hk]; rfl
  have HL : Hid ((cat (taskP t.p)).size ≤ 140737488355328 ∧ (taskP t.p).length = k + 4) := by
    refine ⟨?_, ?_⟩
    · have := task_size t.p
      have h2 : t.p.needs.length = k := hk.symm
      omega
    · show (putS t.ns.length 1 :: (needsP t.ns ++ [putS t.tr 1, putS t.wt 3, putS t.le 3])).length = _
      simp [needsP, hk]
  have c0 := fun V => dagNumber_any (k : Int) 1 V
  have z0 := putS6 (k : Int) 1
  rw [HE.out] at HL ⊢
  clear hI hk HE
  obtain ⟨T, hT⟩ : ∃ T, T = cat (needsTo t.ns t.ns.length ++ [putS t.tr 1, putS t.wt 3, putS t.le 3]) := ⟨_, rfl⟩
  rw [← hT]
  have HT : Hid (T = cat (needsTo t.ns t.ns.length ++ [putS t.tr 1, putS t.wt 3, putS t.le 3])) := hT
  clear hT
  generalize t.a = ta at *
  generalize t.c = tc at *
  generalize t.tr = tr at *
  generalize t.wt = wt at *
  generalize t.le = le at *
  generalize t.ns = ns at *
  generalize putS (k : Int) 1 = p0 at *
  have q0 := bX.1 0 _ rfl
  rw [hW] at q0
  go_enter Try.func33, Try.ntmps33
  go_wp2_with (go_at_call 32; refine (c0 _).mono ?_; rintro e w1 ⟨rfl, hb0⟩; rw [← hW] at hb0; have bX1 := bX.below hb0; have x0 := bX1.1 0 _ rfl; have x0' := cell_alloc x0; have hB1 := Below.tr hB0 hb0)
  have hz1 : w.heap.size + 1 ≤ w1.heap.size := by have := hb0.size; omega
  go_loopw [3, 14] (fun b v wr => ∃ (j m : Nat), j ≤ k ∧ v = .int .i64 j ∧ wr.ownsRow (w.heap.size + 1) 9 1 b m ((needsTo ns j).map Value.string) ∧ Hid (m = 1 + j) ∧ BoxL wr w.heap.size [.slice ta k tc, .int .i64 tr, .int .i64 wt, .int .i64 le] ∧ w.heap.size + 1 ≤ wr.heap.size ∧ Below w.heap.size w wr) (fun _ v _ => k - (intOf v).toNat)
  case atStart =>
    refine ⟨0, 1, by omega, rfl, ?_, rfl, bX1.alloc _, by simp; omega, hB1.alloc hB1.size _⟩
    rw [HP0.out]
    exact World.ownsRow_lit _ #[.string p0] 1 hz1 (by unfold maxLen; omega) rfl
  case round =>
    clear hb0 c0 x0 x0' hB1 hz1
    obtain ⟨j, m, hj, rfl, hown, hm, bX, hz, hB⟩ := hrel
    have x0 := bX.1 0 _ rfl
    have hm3 : m ≤ 301 := by have := hm.out; omega
    by_cases hlt : j < k
    · have hlt' : (j : Int) < k := by omega
      obtain ⟨x, hx⟩ : ∃ x, ns[j]? = some x := ⟨_, List.getElem?_eq_getElem (by rw [← HK.out]; exact hlt)⟩
      obtain ⟨b, o, rfl, -, hc⟩ := (HI.out.below hB).2.2 j x hx
      have HX : Hid (needsTo ns (j + 1) = needsTo ns j ++ [putS x 1]) := needsTo_next hx
      have cN := fun V => dagNumber_any x 1 V
      generalize putS x 1 = px at *
      clear hx
      go_wp2_with (first
        | (go_at_call 32; refine (cN _).mono ?_; rintro e w2 ⟨rfl, hb⟩; have hb' := hb; obtain ⟨g, cap, w3, hrun, own3, hgr, -, -, -⟩ := push_S w2 (w.heap.size + 1) _ m _ px ((Turns.of_below (P := fun _ => False) hb).owns hown (fun _ _ x => x)) (Nat.le_trans hz hb.size) (by omega); clear cN)
        | (at_builtin; refine Lib.wpList_append_run _ rfl _ _ _ _ rfl _ _ rfl rfl _ _ hrun ?_)
        )
      have hT3 : Turns (fun i => w.heap.size + 1 ≤ i) wr w3 := ((Turns.of_below hb').alloc _).grown hgr (fun i hi => (hown.lt i hi).1)
      go_roundw
      case rel =>
        refine ⟨j + 1, m + 1, by omega, by go_num, by rw [HX.out]; exact own3, by have := hm.out; show _ = _; omega, ?_, Nat.le_trans hz hT3.size, Below.turns hB hT3 (fun i hi => by omega)⟩
        exact ⟨fun i v hv => hT3.cell (p := ⟨w.heap.size, i, none⟩) (by show ¬ _ ≤ w.heap.size; omega) (bX.1 i v hv), fun i hi => hT3.frozen (p := ⟨w.heap.size, i, none⟩) (bX.lt (by simp)) (by show ¬ _ ≤ w.heap.size; omega) (bX.2 i hi)⟩
      case measure => simp [intOf]; omega
    · obtain rfl : k = j := by omega
      have hx : ¬ (k : Int) < k := by omega
      have cA := fun V => dagNumber_any tr 1 V
      have cB := fun V => dagNumber_any wt 3 V
      have cC := fun V => dagNumber_any le 3 V
      have sA := putS6 tr 1
      have sB := putS6 wt 3
      have sC := putS6 le 3
      have HLN : Hid ((cat (needsTo ns k ++ [putS tr 1, putS wt 3, putS le 3])).size ≤ 140737488355328 ∧ (needsTo ns k ++ [putS tr 1, putS wt 3, putS le 3]).length = k + 4) := by
        have := HL.out
        rw [← HK.out] at this
        exact this
      have HG : Hid (T = cat (needsTo ns k ++ [putS tr 1, putS wt 3, putS le 3])) := by have := HT.out; rw [← HK.out] at this; exact this
      clear HT
      clear HL HP0 x0
      generalize putS tr 1 = a1 at *
      generalize putS wt 3 = a2 at *
      generalize putS le 3 = a3 at *
      have p1 := bX.1 1 _ rfl
      have p2 := bX.1 2 _ rfl
      have p3 := bX.1 3 _ rfl
      have HM : Hid (m = 1 + k) := hm
      have HO : Hid (wr.ownsRow (w.heap.size + 1) 9 1 u3 m ((needsTo ns k).map Value.string)) := hown
      clear hm hown
      have tok1 : True := trivial
      have tok2 : True := trivial
      go_wp2
      have HB' := hB.drew
      have HZ' : w.heap.size + 1 ≤ wr.drew.heap.size := hz
      have HO' : Hid (wr.drew.ownsRow (w.heap.size + 1) 9 1 u3 m ((needsTo ns k).map Value.string)) := (Turns.refl (fun _ => False) wr).drew.owns HO.out (fun _ _ x => x)
      replace p1 : wr.drew.cell? ⟨w.heap.size, 1, none⟩ = some (.int .i64 tr) := p1
      replace p2 : wr.drew.cell? ⟨w.heap.size, 2, none⟩ = some (.int .i64 wt) := p2
      replace p3 : wr.drew.cell? ⟨w.heap.size, 3, none⟩ = some (.int .i64 le) := p3
      clear hB hz bX HO
      go_region_held3 (fun V => V.cell? ⟨w.heap.size, 1, none⟩ = some (.int .i64 tr) ∧ V.cell? ⟨w.heap.size, 2, none⟩ = some (.int .i64 wt) ∧ V.cell? ⟨w.heap.size, 3, none⟩ = some (.int .i64 le)) (first | exact ⟨p1, p2, p3⟩ | exact ⟨cell_alloc p1 _, cell_alloc p2 _, cell_alloc p3 _⟩) (first
        | (go_at_call 32; have _t := tok1; refine (cA _).mono ?_; rintro e w2 ⟨rfl, hb⟩; replace p1 := cell_below hb p1; replace p2 := cell_below hb p2; replace p3 := cell_below hb p3; replace HB' := Below.tr HB' hb; replace HZ' := Nat.le_trans HZ' hb.size; replace HO' : Hid _ := (Turns.of_below (P := fun _ => False) hb).owns HO'.out (fun _ _ h => h); clear hb tok1 _t)
        | (go_at_call 32; have _t := tok2; refine (cB _).mono ?_; rintro e w3 ⟨rfl, hb⟩; replace p1 := cell_below hb p1; replace p2 := cell_below hb p2; replace p3 := cell_below hb p3; replace HB' := Below.tr HB' hb; replace HZ' := Nat.le_trans HZ' hb.size; replace HO' : Hid _ := (Turns.of_below (P := fun _ => False) hb).owns HO'.out (fun _ _ h => h); clear hb tok2 _t)
        | (go_at_call 32; refine (cC _).mono ?_; rintro e w4 ⟨rfl, hb⟩; replace p1 := cell_below hb p1; replace p2 := cell_below hb p2; replace p3 := cell_below hb p3; replace HB' := Below.tr HB' hb; replace HZ' := Nat.le_trans HZ' hb.size; replace HO' : Hid _ := (Turns.of_below (P := fun _ => False) hb).owns HO'.out (fun _ _ h => h); have hoo : w4.ownsRow (w.heap.size + 1) 9 1 u3 m ((needsTo ns k).map Value.string) := HO'.out; obtain ⟨v5, w5, hrun, own5, gr5, -⟩ := append_S (w4.alloc (.cells #[.string a1, .string a2, .string a3] 9)) (w.heap.size + 1) u3 m _ (hoo.alloc _) (Nat.le_trans HZ' (by simp)) (some ⟨w4.heap.size, 0, none⟩) 3 3 [a1, a2, a3] rfl (isS_threeD w4 a1 a2 a3 (by unfold maxLen; omega) (by unfold maxLen; omega) (by unfold maxLen; omega)) (by omega); have hT5 : Turns (fun i => w.heap.size + 1 ≤ i) w4 w5 := ((Turns.refl _ _).alloc _).grown gr5 (fun i hi => (hoo.lt i hi).1); have p1' := hT5.cell (p := ⟨w.heap.size, 1, none⟩) (by show ¬ _ ≤ w.heap.size; omega) p1; have p2' := hT5.cell (p := ⟨w.heap.size, 2, none⟩) (by show ¬ _ ≤ w.heap.size; omega) p2; have p3' := hT5.cell (p := ⟨w.heap.size, 3, none⟩) (by show ¬ _ ≤ w.heap.size; omega) p3; have HB5 := Below.turns HB' hT5 (fun i hi => by omega); have HO5 : Hid _ := own5; clear own5 gr5 hb hoo)
        | (refine Lib.wp_append_run _ _ _ _ _ rfl _ _ rfl rfl _ _ hrun ?_; clear p1 p2 p3; have p1 := p1'; have p2 := p2'; have p3 := p3'; clear p1' p2' p3'))
      have cD : Calls Try.prog 34 #[v5] w5 fun e w' => e = .returned (.string (cat (needsTo ns k ++ [a1, a2, a3]))) ∧ Below w5.heap.size w5 w' := by
        have h1 := HLN.out.2
        exact allOwnD HO5.out (by omega) (by omega) HLN.out.1
      clear HO5 HO' hrun
      go_wp2_with (go_at_call 34; refine cD.mono ?_; rintro e w6 ⟨rfl, hb6⟩)
      go_ret
      exact ⟨by rw [HG.out]; rfl, Below.tr HB5 hb6⟩

/-- The parts of a graph behind so many tasks, each task's bytes as one. -/
def tasksTo (nm : ByteArray) (ts : List TaskP) (j : Nat) : List ByteArray := textS nm :: putS ts.length 1 :: (ts.take j).map fun t => cat (taskP t)

theorem tasksTo_next {nm : ByteArray} {ts : List TaskP} {j : Nat} {t : TaskP} (h : ts[j]? = some t) : tasksTo nm ts (j + 1) = tasksTo nm ts j ++ [cat (taskP t)] := by
  unfold tasksTo
  rw [List.take_add_one, h, Option.toList_some, List.map_append]
  rfl

theorem tasksTo_all (nm : ByteArray) (ts : List TaskP) : cat (tasksTo nm ts ts.length) = putD nm ts := by
  unfold tasksTo putD partsD
  rw [List.take_length, show ∀ (A B : ByteArray) (C : List ByteArray), A :: B :: C = [A] ++ ([B] ++ C) by intros; rfl, cat_append, cat_append, cat_tasks]
  rw [show ∀ (A B : ByteArray) (C : List ByteArray), A :: B :: C = [A] ++ ([B] ++ C) by intros; rfl, cat_append, cat_append]

/-- What Put answers. -/
def putR (nm : ByteArray) (ts : List TaskP) : ByteArray := if rightG nm ts = 0 then putD nm ts else ⟨#[]⟩

set_option maxRecDepth 20000 in
set_option maxHeartbeats 4000000 in
/-- PUT. -/
theorem put16_any (s : ByteArray) (a : Option Addr) (c n : Nat) (ts : List TaskV) (w : World) (hs : s.size ≤ maxLen) (hn : n = ts.length) (hT : IsT w a c ts) :
    Calls Try.prog 17 #[.agg #[.string s, .slice a n c]] w fun e w' => e = .returned (.tuple #[.string (putR s (plainT ts)), .int .i64 (rightG s (plainT ts))]) ∧ Below w.heap.size w w' := by
  obtain ⟨W, hW⟩ : ∃ W, W = w.alloc (.cells #[.string s, .slice a n c] 24) := ⟨_, rfl⟩
  have bX : BoxL W w.heap.size [.string s, .slice a n c] := by rw [hW]; exact boxL_new _ _ _ rfl
  have hB0 : Below w.heap.size w W := by rw [hW]; exact (Below.refl _ _).alloc (Nat.le_refl _) _
  have zW : W.heap.size = w.heap.size + 1 := by rw [hW]; simp
  have cR := right16_any s a c n ts W hn (hT.below hB0)
  obtain ⟨r, hr⟩ : ∃ r, r = rightG s (plainT ts) := ⟨_, rfl⟩
  obtain ⟨T, hTT⟩ : ∃ T, T = putR s (plainT ts) := ⟨_, rfl⟩
  rw [← hr, ← hTT]
  rw [← hr] at cR
  have HR : Hid (r = rightG s (plainT ts)) := hr
  have HT : Hid (T = putR s (plainT ts)) := hTT
  clear hr hTT
  by_cases h0 : r = 0
  · subst h0
    obtain ⟨g1, g2, g3⟩ := right_ok HR.out.symm
    have HP : Hid ((plainT ts).length = n) := by show _ = _; rw [plainT_length]; exact hn.symm
    have hn10 : n ≤ 10 := by have := HP.out; omega
    have HE : Hid (T = cat (tasksTo s (plainT ts) n)) := by
      show _ = _
      rw [HT.out]
      unfold putR
      rw [if_pos HR.out.symm, ← tasksTo_all, HP.out]
    have HZ : Hid ((cat (tasksTo s (plainT ts) n)).size ≤ 200) := by
      have := putD_size HR.out.symm
      rw [← tasksTo_all, HP.out] at this
      exact this
    have HT0 : Hid (tasksTo s (plainT ts) 0 = [textS s, putS (n : Int) 1]) := by show _ = _; unfold tasksTo; rw [HP.out]; rfl
    have HNT : Hid (∀ t ∈ ts, t.ns.length ≤ 10) := fun t ht => (g3 t.p (List.mem_map_of_mem ht)).2
    have HIT : Hid (IsT w a c ts) := hT
    have HN : Hid (n = ts.length) := hn
    have cX := fun V => dagText_any s V hs
    have cN := fun V => dagNumber_any (n : Int) 1 V
    have sX : (textS s).size ≤ 65537 := by
      by_cases h : s.size ≤ 65535
      · rw [textS_size h]; omega
      · rw [textS, if_neg h]; exact Nat.zero_le _
    have sN := putS6 (n : Int) 1
    generalize textS s = x0 at *
    generalize putS (n : Int) 1 = x1 at *
    clear hn hT g1 g2 g3 HT HR
    go_enter Try.func17, Try.ntmps17
    go_wp2_with (go_at_call 12; rw [← hW]; refine cR.mono ?_; rintro e w2 ⟨rfl, hb⟩; have hB2 := Below.tr hB0 hb; have b2 := bX.below hb; have q0 := b2.1 0 _ rfl; have q1 := b2.1 1 _ rfl)
    have hB' := hB2.drew
    have HZ' : w.heap.size + 1 ≤ w2.drew.heap.size := by have := hb.size; show _ ≤ w2.heap.size; omega
    have b' := b2.below (Below.refl _ _).drew
    replace q0 : w2.drew.cell? ⟨w.heap.size, 0, none⟩ = some (.string s) := q0
    replace q1 : w2.drew.cell? ⟨w.heap.size, 1, none⟩ = some (.slice a n c) := q1
    clear hB2 hb b2 hW bX hB0 zW cR
    go_region_held3 (fun V => V.cell? ⟨w.heap.size, 0, none⟩ = some (.string s) ∧ V.cell? ⟨w.heap.size, 1, none⟩ = some (.slice a n c)) (first | exact ⟨q0, q1⟩ | exact ⟨cell_alloc q0 _, cell_alloc q1 _⟩) (first
      | (go_at_call 31; refine (cX _).mono ?_; rintro e w3 ⟨rfl, hb⟩; replace q0 := cell_below hb q0; replace q1 := cell_below hb q1; replace hB' := Below.tr hB' hb; replace HZ' := Nat.le_trans HZ' hb.size; replace b' := b'.below hb; clear hb)
      | (go_at_call 32; refine (cN _).mono ?_; rintro e w4 ⟨rfl, hb⟩; replace q0 := cell_below hb q0; replace q1 := cell_below hb q1; replace hB' := Below.tr hB' hb; replace HZ' := Nat.le_trans HZ' hb.size; replace b' := b'.below hb; clear hb))
    have hB4 : Below w.heap.size w (w4.alloc (.cells #[.string x0, .string x1] 9)) := hB'.alloc hB'.size _
    have b4 := b'.alloc (.cells #[.string x0, .string x1] 9)
    have own4 : (w4.alloc (.cells #[.string x0, .string x1] 9)).ownsRow (w.heap.size + 1) 9 1 (.slice (some ⟨w4.heap.size, 0, none⟩) 2 2) 2 ([x0, x1].map Value.string) := World.ownsRow_lit _ #[.string x0, .string x1] 2 HZ' (by unfold maxLen; omega) rfl
    have y1 := b4.1 1 _ rfl
    go_wp2
    go_loopw [5, 24] (fun b v wr => ∃ (j m : Nat), j ≤ n ∧ v = .int .i64 j ∧ wr.ownsRow (w.heap.size + 1) 9 1 b m ((tasksTo s (plainT ts) j).map Value.string) ∧ Hid (m = 2 + j) ∧ w.heap.size + 1 ≤ wr.heap.size ∧ Below w.heap.size w wr) (fun _ v _ => n - (intOf v).toNat)
    case atStart =>
      refine ⟨0, 2, by omega, rfl, ?_, rfl, by simp; omega, hB4⟩
      rw [HT0.out]
      exact own4
    case round =>
      clear own4 hB4 b4 y1 q0 q1 hB' HZ' b' cX cN HT0
      obtain ⟨j, m, hj, rfl, hown, hm, hz, hB⟩ := hrel
      have hm3 : m ≤ 12 := by have := hm.out; omega
      by_cases hlt : j < n
      · have hlt' : (j : Int) < n := by omega
        obtain ⟨t, ht⟩ : ∃ t, ts[j]? = some t := ⟨_, List.getElem?_eq_getElem (by rw [← HN.out]; exact hlt)⟩
        obtain ⟨b, o, rfl, -, c0, c1, c2, c3⟩ := HIT.out.2.2.2 j t ht
        have z0 := cell_below hB c0
        have z1 := cell_below hB c1
        have z2 := cell_below hB c2
        have z3 := cell_below hB c3
        have HX : Hid (tasksTo s (plainT ts) (j + 1) = tasksTo s (plainT ts) j ++ [cat (taskP t.p)]) := tasksTo_next (plainT_get ht)
        have hI := (HIT.out.2.2.1 t (List.mem_of_getElem? ht)).below hB
        have hk := HNT.out t (List.mem_of_getElem? ht)
        have hal : Below wr.heap.size wr (wr.alloc (.cells #[.slice t.a t.ns.length t.c, .int .i64 t.tr, .int .i64 t.wt, .int .i64 t.le] 46)) := (Below.refl _ _).alloc (Nat.le_refl _) _
        have cT := taskBytes_any t t.ns.length (wr.alloc (.cells #[.slice t.a t.ns.length t.c, .int .i64 t.tr, .int .i64 t.wt, .int .i64 t.le] 46)) rfl (hI.below hal) (by omega)
        have hown1 : Hid (wr.ownsRow (w.heap.size + 1) 9 1 u5 m ((tasksTo s (plainT ts) j).map Value.string)) := hown
        clear c0 c1 c2 c3 ht hI hk hown
        generalize cat (taskP t.p) = tb at *
        generalize t.a = ta at *
        generalize t.ns.length = k at *
        generalize t.c = tc at *
        generalize t.tr = tr at *
        generalize t.wt = wt at *
        generalize t.le = le at *
        go_wp2_with (first
          | (go_at_call 33; refine cT.mono ?_; rintro e w2 ⟨rfl, hb⟩; replace hb := Below.tr hal hb; have hoo : wr.ownsRow (w.heap.size + 1) 9 1 u5 m ((tasksTo s (plainT ts) j).map Value.string) := hown1.out; obtain ⟨g, cap, w3, hrun, own3', hgr, -, -, -⟩ := push_S w2 (w.heap.size + 1) _ m _ tb ((Turns.of_below (P := fun _ => False) hb).owns hoo (fun _ _ x => x)) (Nat.le_trans hz hb.size) (by omega); have hT3 : Turns (fun i => w.heap.size + 1 ≤ i) wr w3 := ((Turns.of_below hb).alloc _).grown hgr (fun i hi => (hoo.lt i hi).1); have own3 : Hid _ := own3'; clear cT hoo own3' hgr)
          | (at_builtin; refine Lib.wpList_append_run _ rfl _ _ _ _ rfl _ _ rfl rfl _ _ hrun ?_)
          )
        go_roundw
        case rel => exact ⟨j + 1, m + 1, by omega, by go_num, by rw [HX.out]; exact own3.out, by have := hm.out; show _ = _; omega, Nat.le_trans hz hT3.size, Below.turns hB hT3 (fun i hi => by omega)⟩
        case measure => simp [intOf]; omega
      · obtain rfl : n = j := by omega
        have hx : ¬ (n : Int) < n := by omega
        have cD : Calls Try.prog 34 #[u5] wr fun e w' => e = .returned (.string T) ∧ Below wr.heap.size wr w' := by
          rw [HE.out]
          refine allOwnD hown ?_ ?_ (by have := HZ.out; omega)
          · show 1 ≤ (textS s :: putS _ 1 :: _).length
            simp
          · show (textS s :: putS _ 1 :: (List.map _ _)).length ≤ _
            simp
            omega
        clear hown HE HZ
        go_wp2_with (go_at_call 34; refine cD.mono ?_; rintro e w6 ⟨rfl, hb6⟩)
        go_ret2
        exact ⟨rfl, Below.tr hB hb6⟩
  · have h0' : (r != 0) = true := by simpa using h0
    have E : Hid (T = ⟨#[]⟩) := by show _ = _; rw [HT.out]; unfold putR; rw [if_neg (by rw [← HR.out]; exact h0)]
    clear hn hT bX HT
    go_enter Try.func17, Try.ntmps17
    go_wp2_with (go_at_call 12; rw [← hW]; refine cR.mono ?_; rintro e w2 ⟨rfl, hb⟩; have hB2 := Below.tr hB0 hb)
    go_ret2
    exact ⟨by rw [E.out]; rfl, hB2⟩

end Go.Proofs.Ytmjhapkhfelbpaa
