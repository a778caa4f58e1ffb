/-
  The document's Put of a dag.
-/
import Derived.Test.YtmjhapkhfelbpaaDagRefNext
import Derived.Test.YtmjhapkhfelbpaaDagPut
namespace Go.Proofs.Ytmjhapkhfelbpaa
open Go.RowKit Plain Anylast
set_option linter.unusedVariables false

theorem catSnoc (xs : List ByteArray) (y : ByteArray) : cat (xs ++ [y]) = cat xs ++ y := by rw [cat_append, cat_one]

set_option maxRecDepth 20000 in
set_option maxHeartbeats 4000000 in
theorem refPut16_any (s : ByteArray) (a : Option Addr) (c n : Nat) (ts : List TaskV) (w : World) (hs : s.size ≤ maxLen) (hn : n = ts.length) (hT : IsT w a c ts) (h0 : rightG s (plainT ts) = 0) :
    Calls Try.prog 20 #[.agg #[.string s, .slice a n c]] w fun e w' => e = .returned (.string (putD s (plainT ts))) ∧ Below w.heap.size w w' := by
  obtain ⟨W, hW⟩ : ∃ W, W = w.alloc (.cells #[.string s, .slice a n c] 24) := ⟨_, rfl⟩
  have bX : BoxL W w.heap.size [.string s, .slice a n c] := by rw [hW]; exact boxL_new _ _ _ rfl
  have hB0 : Below w.heap.size w W := by rw [hW]; exact (Below.refl _ _).alloc (Nat.le_refl _) _
  have zW : W.heap.size = w.heap.size + 1 := by rw [hW]; simp
  obtain ⟨g1, g2, g3⟩ := right_ok h0
  have HN : Hid (n = ts.length) := hn
  have HP : Hid ((plainT ts).length = n) := by show _ = _; rw [plainT_length]; exact hn.symm
  have hn10 : n ≤ 10 := by have := HP.out; omega
  have HNT : Hid (∀ t ∈ ts, t.ns.length ≤ 10) := fun t ht => (g3 t.p (List.mem_map_of_mem ht)).2
  have HIT : Hid (IsT W a c ts) := hT.below hB0
  obtain ⟨OUT, hOUT⟩ : ∃ f : Nat → ByteArray, f = fun j => cat (tasksTo s (plainT ts) j) := ⟨_, rfl⟩
  have HO : Hid (OUT = fun j => cat (tasksTo s (plainT ts) j)) := hOUT
  have hE : Hid (putD s (plainT ts) = OUT n) := by show _ = _; rw [hOUT, ← tasksTo_all, HP.out]
  have hO0 : Hid (textS s ++ putS (n : Int) 1 = OUT 0) := by
    show _ = _
    rw [hOUT]
    have : tasksTo s (plainT ts) 0 = [textS s] ++ [putS (n : Int) 1] := by unfold tasksTo; rw [HP.out]; rfl
    show _ = cat (tasksTo s (plainT ts) 0)
    rw [this, catSnoc, cat_one]
  have HNx : Hid (∀ j t, ts[j]? = some t → OUT (j + 1) = OUT j ++ cat (taskP t.p)) := fun j t ht => by
    rw [hOUT]
    show cat (tasksTo s (plainT ts) (j + 1)) = _
    rw [tasksTo_next (plainT_get ht), catSnoc]
  have cX := fun V => refText_any s V hs
  have cN := fun m k V => refNumber_any m k V
  rw [hE.out]
  have q0 := bX.1 0 _ rfl
  have q1 := bX.1 1 _ rfl
  have zx0 : (textS s).size ≤ 65537 := by
    by_cases h : s.size ≤ 65535
    · rw [textS_size h]; omega
    · rw [textS, if_neg h]; exact Nat.zero_le _
  have zx2 := putS6 (n : Int) 1
  generalize textS s = x0 at *
  generalize textE s = x1 at *
  have cN0 := fun V => cN (n : Int) 1 V
  generalize putS (n : Int) 1 = x2 at *
  have CN : Hid (∀ m k V, Calls Try.prog 38 #[.int .i64 m, .int .i64 k] V fun e w' => e = .returned (.string (putS m k)) ∧ Below V.heap.size V w') := cN
  have HPD : Hid (putD s (plainT ts) = OUT n) := hE
  have hs02 : ¬ 9223372036854775807 < x0.size + x2.size := by omega
  have hX0 : Hid (x0 ++ x2 = OUT 0 ∧ (x0 ++ x2).size ≤ 70000) := ⟨hO0.out, by rw [ByteArray.size_append]; omega⟩
  clear hOUT g1 g2 g3 h0 hT hn cN hE zx0 zx2 hO0
  rw [hW] at q0 q1
  go_enter Try.func20, Try.ntmps20
  go_wp2_with (first
    | (go_at_call 37; rw [← hW]; refine (cX _).mono ?_; rintro e w3 ⟨rfl, hb⟩; have b3 := bX.below hb; have hB3 := Below.tr hB0 hb; have r1 := b3.1 1 _ rfl)
    | (go_at_call 38; refine (cN0 _).mono ?_; rintro e w4 ⟨rfl, hb4⟩; have b4 := b3.below hb4; have hB4 := Below.tr hB3 hb4; have y1 := b4.1 1 _ rfl))
  have HB4 : Hid (Below W.heap.size W w4) := Below.tr hb hb4
  clear hb4 hB4 b4 y1 hb b3 hB3 r1 q0 q1 hW cX cN0 hs02 bX
  go_loopw [5, 25] (fun b v wr => ∃ (j : Nat) (X : ByteArray), j ≤ n ∧ v = .int .i64 j ∧ b = .string X ∧ Hid (X = OUT j) ∧ X.size ≤ 70000 + 100 * j ∧ Below W.heap.size W wr) (fun _ v _ => n - (intOf v).toNat)
  case atStart => exact ⟨0, _, by omega, rfl, rfl, hX0.out.1, by have := hX0.out.2; omega, HB4.out⟩
  case round =>
    obtain ⟨j, X, hj, rfl, rfl, HX, hXs, hB⟩ := hrel
    clear HB4 hX0
    generalize wr = wo at *
    by_cases hlt : j < n
    · have hlt' : (j : Int) < n := by omega
      obtain ⟨t, ht⟩ : ∃ t, ts[j]? = some t := ⟨_, List.getElem?_eq_getElem (by rw [← HN.out]; exact hlt)⟩
      obtain ⟨b, o, rfl, -, c0, c1, c2, c3⟩ := HIT.out.2.2.2 j t ht
      have z0 := cell_below hB c0
      have z1 := cell_below hB c1
      have z2 := cell_below hB c2
      have z3 := cell_below hB c3
      have HT1 := HNx.out j t ht
      have hk := HNT.out t (List.mem_of_getElem? ht)
      obtain ⟨WT, hWT⟩ : ∃ V, V = wo.alloc (.cells #[.slice t.a t.ns.length t.c, .int .i64 t.tr, .int .i64 t.wt, .int .i64 t.le] 46) := ⟨_, rfl⟩
      have bT : BoxL WT wo.heap.size [.slice t.a t.ns.length t.c, .int .i64 t.tr, .int .i64 t.wt, .int .i64 t.le] := by rw [hWT]; exact boxL_new _ _ _ rfl
      have hBT : Below wo.heap.size wo WT := by rw [hWT]; exact (Below.refl _ _).alloc (Nat.le_refl _) _
      have hI : Hid (IsI WT t.a t.c t.ns) := ((HIT.out.2.2.1 t (List.mem_of_getElem? ht)).below hB).below hBT
      have HTP : Hid (OUT (j + 1) = (((X ++ cat (needsTo t.ns t.ns.length)) ++ putS t.tr 1) ++ putS t.wt 3) ++ putS t.le 3) := by
        show _ = _
        rw [HT1, HX.out]
        have : taskP t.p = ((needsTo t.ns t.ns.length ++ [putS t.tr 1]) ++ [putS t.wt 3]) ++ [putS t.le 3] := by
          show putS t.ns.length 1 :: (needsP t.ns ++ [putS t.tr 1, putS t.wt 3, putS t.le 3]) = _
          unfold needsTo
          rw [List.take_length]
          simp
        rw [this, catSnoc, catSnoc, catSnoc]
        simp only [ByteArray.append_assoc]
      have HP0 : Hid (X ++ putS (t.ns.length : Int) 1 = X ++ cat (needsTo t.ns 0)) := by
        show _ = X ++ cat [putS (t.ns.length : Int) 1]
        rw [cat_one]
      clear c0 c1 c2 c3 ht HT1
      generalize t.a = ta at *
      generalize t.c = tc at *
      generalize t.tr = tr at *
      generalize t.wt = wt at *
      generalize t.le = le at *
      generalize t.ns = ns at *
      generalize hk2 : ns.length = k at *
      have HK : Hid (k = ns.length) := hk2.symm
      clear hk2
      have cK := fun V => CN.out (k : Int) 1 V
      have sK := putS6 (k : Int) 1
      generalize putS (k : Int) 1 = pk at *
      have hXk : ¬ 9223372036854775807 < X.size + pk.size := by omega
      have HY0 : Hid ((X ++ pk).size ≤ 70010 + 100 * j) := by show _ ≤ _; rw [ByteArray.size_append]; omega
      have y0 := bT.1 0 _ rfl
      rw [hWT] at y0
      go_wp2_with (go_at_call 38; rw [← hWT]; refine (cK _).mono ?_; rintro e w4 ⟨rfl, hb4⟩; have b4 := bT.below hb4; have x0 := b4.1 0 _ rfl)
      have HB5 : Hid (Below WT.heap.size WT w4) := hb4
      clear hb4 b4 x0 y0 cK sK hXk hWT z0 z1 z2 z3
      go_loopw [5, 38] (fun b v wr => ∃ (i : Nat) (Y : ByteArray), i ≤ k ∧ v = .int .i64 i ∧ b = .string Y ∧ Hid (Y = X ++ cat (needsTo ns i)) ∧ Y.size ≤ 70010 + 100 * j + 6 * i ∧ Below WT.heap.size WT wr) (fun _ v _ => k - (intOf v).toNat)
      case atStart => exact ⟨0, _, by omega, rfl, rfl, HP0.out, by have := HY0.out; omega, HB5.out⟩
      case round =>
        obtain ⟨i, Y, hi, rfl, rfl, HY, hYs, hBi⟩ := hrel
        clear HB5 HY0 HP0
        by_cases hit : i < k
        · have hit' : (i : Int) < k := by omega
          obtain ⟨x, hx⟩ : ∃ x, ns[i]? = some x := ⟨_, List.getElem?_eq_getElem (by rw [← HK.out]; exact hit)⟩
          obtain ⟨b, o, rfl, -, hc⟩ := (hI.out.below hBi).2.2 i x hx
          have HYN : Hid (Y ++ putS x 1 = X ++ cat (needsTo ns (i + 1))) := by
            show _ = _
            rw [needsTo_next hx, catSnoc, HY.out, ByteArray.append_assoc]
          have cN := fun V => CN.out x 1 V
          have sN := putS6 x 1
          generalize putS x 1 = px at *
          have hYp : ¬ 9223372036854775807 < Y.size + px.size := by omega
          have HYS : Hid ((Y ++ px).size ≤ 70010 + 100 * j + 6 * (i + 1)) := by show _ ≤ _; rw [ByteArray.size_append]; omega
          clear hx
          go_wp2_with (go_at_call 38; refine (cN _).mono ?_; rintro e w5 ⟨rfl, hb5⟩)
          have HB6 := Below.tr hBi hb5
          clear hb5
          go_roundw
          case rel => exact ⟨i + 1, _, by omega, by go_num, rfl, HYN, HYS.out, HB6⟩
          case measure => simp [intOf]; omega
        · obtain rfl : k = i := by omega
          have hx : ¬ (k : Int) < k := by omega
          have cA := fun V => CN.out tr 1 V
          have cB := fun V => CN.out wt 3 V
          have cC := fun V => CN.out le 3 V
          have sA := putS6 tr 1
          have sB := putS6 wt 3
          have sC := putS6 le 3
          have HG : Hid (OUT (j + 1) = ((Y ++ putS tr 1) ++ putS wt 3) ++ putS le 3) := by show _ = _; rw [HTP.out, HY.out, HK.out]
          generalize putS tr 1 = a1 at *
          generalize putS wt 3 = a2 at *
          generalize putS le 3 = a3 at *
          have n1 : ¬ 9223372036854775807 < Y.size + a1.size := by omega
          have n2 : ¬ 9223372036854775807 < (Y ++ a1).size + a2.size := by rw [ByteArray.size_append]; omega
          have n3 : ¬ 9223372036854775807 < ((Y ++ a1) ++ a2).size + a3.size := by rw [ByteArray.size_append, ByteArray.size_append]; omega
          have n4 : ¬ 9223372036854775807 < Y.size + a1.size + a2.size := by omega
          have n5 : ¬ 9223372036854775807 < Y.size + a1.size + a2.size + a3.size := by omega
          have HS3 : Hid ((((Y ++ a1) ++ a2) ++ a3).size ≤ 70000 + 100 * (j + 1)) := by show _ ≤ _; rw [ByteArray.size_append, ByteArray.size_append, ByteArray.size_append]; omega
          have bW := bT.below hBi
          have p1 := bW.1 1 _ rfl
          have p2 := bW.1 2 _ rfl
          have p3 := bW.1 3 _ rfl
          clear HTP HY bW hYs
          have tok1 : True := trivial
          have tok2 : True := trivial
          go_wp2
          have HB' := hBi.drew
          replace p1 : wr.drew.cell? ⟨wo.heap.size, 1, none⟩ = some (.int .i64 tr) := p1
          replace p2 : wr.drew.cell? ⟨wo.heap.size, 2, none⟩ = some (.int .i64 wt) := p2
          replace p3 : wr.drew.cell? ⟨wo.heap.size, 3, none⟩ = some (.int .i64 le) := p3
          clear hBi
          go_region_held3 (fun V => V.cell? ⟨wo.heap.size, 1, none⟩ = some (.int .i64 tr) ∧ V.cell? ⟨wo.heap.size, 2, none⟩ = some (.int .i64 wt) ∧ V.cell? ⟨wo.heap.size, 3, none⟩ = some (.int .i64 le)) (first | exact ⟨p1, p2, p3⟩ | exact ⟨cell_alloc p1 _, cell_alloc p2 _, cell_alloc p3 _⟩) (first
            | (go_at_call 38; have _t := tok1; refine (cA _).mono ?_; rintro e w2 ⟨rfl, hb⟩; replace p1 := cell_below hb p1; replace p2 := cell_below hb p2; replace p3 := cell_below hb p3; replace HB' := Below.tr HB' hb; clear hb tok1 _t)
            | (go_at_call 38; have _t := tok2; refine (cB _).mono ?_; rintro e w3 ⟨rfl, hb⟩; replace p1 := cell_below hb p1; replace p2 := cell_below hb p2; replace p3 := cell_below hb p3; replace HB' := Below.tr HB' hb; clear hb tok2 _t)
            | (go_at_call 38; refine (cC _).mono ?_; rintro e w4 ⟨rfl, hb⟩; replace p1 := cell_below hb p1; replace p2 := cell_below hb p2; replace p3 := cell_below hb p3; replace HB' := Below.tr HB' hb; clear hb))
          go_wp2
          go_roundw
          case rel => exact ⟨j + 1, _, by omega, by go_num, rfl, HG.out.symm, HS3.out, Below.tr (Below.tr hB (hBT.mono (by have := hB.size; omega))) HB'⟩
          case measure => simp [intOf]; omega
    · obtain rfl : n = j := by omega
      have hx : ¬ (n : Int) < n := by omega
      go_wp2
      go_ret
      exact ⟨by rw [HX.out]; rfl, Below.tr hB0 hB⟩

end Go.Proofs.Ytmjhapkhfelbpaa
