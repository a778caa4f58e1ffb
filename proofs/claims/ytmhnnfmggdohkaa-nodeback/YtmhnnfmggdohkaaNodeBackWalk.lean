/-
  The walk through the statement NodeBack.
-/
import Derived.Test.YtmhnnfmggdohkaaNodeFewK
import Derived.Test.YtmhnnfmggdohkaaNodePut
import Derived.Test.YtmhnnfmggdohkaaNodeGetB
import Derived.Test.YtmhnnfmggdohkaaNodeLike
namespace Go.Proofs.Ytmhnnfmggdohkaa
open Go.RowKit Plain Anylast
set_option linter.unusedVariables false

theorem nodeR_ne {kind e : Int} {s : ByteArray} (h : nodeR kind s = .inl e) : e ≠ 0 := by
  unfold nodeR at h
  split at h
  · rw [leafR_end] at h
    split at h
    · split at h
      · cases h
      · cases h; decide
    · cases h; assumption
  · split at h
    · rw [innR_end] at h
      split at h
      · split at h
        · cases h
        · cases h; decide
      · cases h; assumption
    · cases h; decide

/-- What the operations of a law's first line yield: a node of few, a text cut. -/
def backV (v u : Value) (s S : ByteArray) (k : Int) : Nat → Value
  | 0 => v
  | 1 => u
  | 2 => .string s
  | 3 => .string s
  | 4 => .int .i64 s.size
  | 5 => .int .i64 k
  | 6 => .string S
  | 8 => .string S
  | _ => undef

def worlds3 (w0 w1 w2 : World) : Nat → World
  | 0 => w0
  | 1 => w1
  | _ => w2

set_option maxRecDepth 20000 in
set_option maxHeartbeats 4000000 in
theorem nodeBack_walk (l : Bool) (a : Option Addr) (c : Nat) (ks : List ByteArray) (a' : Option Addr) (c' : Nat) (vs : List ByteArray) (a'' : Option Addr) (c'' : Nat) (cs : List Int) (kind : Int) (s : ByteArray) (w : World) (hK : IsS w a c ks) (hV : IsS w a' c' vs) (hC : IsI w a'' c'' cs) (hkind : (Lit.int .i64 kind).wf = true) (hs : s.size ≤ maxLen) :
    Calls Try.prog 7 #[.agg #[.bool l, .slice a ks.length c, .slice a' vs.length c', .slice a'' cs.length c''], .int .i64 kind, .string s] w fun e w' => e = .returned (.bool true) ∧ Below w.heap.size w w' := by
  obtain ⟨n, m, xs, hn, hxs, hm, hmin, IX, g1, g2, g3⟩ := few_S hK
  obtain ⟨n', m', ys, hn', hys, hm', hmin', IY, g1', g2', g3'⟩ := few_S hV
  obtain ⟨n'', m'', zs, hn'', hzs, hm'', hmin'', IZ, g1'', g2'', g3''⟩ := few_I hC
  rw [← hn, ← hn', ← hn'']
  obtain ⟨k, hk⟩ : ∃ k : Nat, k = min s.size 5000 := ⟨_, rfl⟩
  have hks : k ≤ s.size := by omega
  have hmn : min (s.size : Int) 5000 = (k : Int) := by omega
  have hmr := min_run hmn
  obtain ⟨S, hS⟩ : ∃ S, S = s.extract 0 k := ⟨_, rfl⟩
  have hSs : S.size ≤ maxLen := by rw [hS, ByteArray.size_extract]; omega
  obtain ⟨W, hW⟩ : ∃ W, W = w.alloc (.cells #[.bool l, .slice a n c, .slice a' n' c', .slice a'' n'' c''] 25) := ⟨_, rfl⟩
  obtain ⟨V0, hV0⟩ : ∃ V, V = W.drew := ⟨_, rfl⟩
  have hB0 : Below w.heap.size w V0 := by rw [hV0, hW]; exact ((Below.refl _ _).alloc (Nat.le_refl _) _).drew
  have hX0 : Box4 V0 w.heap.size (.bool l) (.slice a n c) (.slice a' n' c') (.slice a'' n'' c'') := by rw [hV0, hW]; exact (box4_new _ _ _ _ _ _ rfl).drew
  obtain ⟨V1, hB1, hcall1⟩ := few_known l a a' a'' c c' c'' n n' n'' m m' m'' V0 g1 g1' g1'' g2 g2' g2'' hmin hmin' hmin''
  have hX1 := hX0.below hB1
  have hle : w.heap.size ≤ w.heap.size := Nat.le_refl _
  obtain ⟨V2, hV2⟩ : ∃ V2, V2 = (((V1.setCell ⟨w.heap.size, 0, none⟩ (.bool l)).setCell ⟨w.heap.size, 1, none⟩ (.slice a m c)).setCell ⟨w.heap.size, 2, none⟩ (.slice a' m' c')).setCell ⟨w.heap.size, 3, none⟩ (.slice a'' m'' c'') := ⟨_, rfl⟩
  have hX : Box4 V2 w.heap.size (.bool l) (.slice a m c) (.slice a' m' c') (.slice a'' m'' c'') := by rw [hV2]; exact hX1.put _ _ _ _
  have HB : Below w.heap.size w V2 := by rw [hV2]; exact below_put4 (Below.tr hB0 hB1) hle _ _ _ _
  have hst2 : Hid ((((V1.setCell ⟨w.heap.size, 0, none⟩ (.bool l)).setCell ⟨w.heap.size, 1, none⟩ (.slice a m c)).setCell ⟨w.heap.size, 2, none⟩ (.slice a' m' c')).setCell ⟨w.heap.size, 3, none⟩ (.slice a'' m'' c'') = V2) := hV2.symm
  have HV0 : Hid (V0 = W.drew) := hV0
  have cP : ∀ V, Below w.heap.size w V → Calls Try.prog 10 #[.agg #[.bool l, .slice a m c, .slice a' m' c', .slice a'' m'' c'']] V fun e w' => e = .returned (.tuple #[.string (nPutS l xs ys zs), .int .i64 (nPutE l xs ys zs)]) ∧ Below V.heap.size V w' := fun V h => nodePut_any _ _ _ _ _ _ _ _ _ _ _ _ _ _ hm hm' hm'' (IX.below h) (IY.below h) (IZ.below h)
  have cG2 := fun V => nodeGet_any kind S V hSs
  have cP2 : ∀ V l a d n a' d' n' a'' d'' n'' ks vs cs, n = ks.length → n' = vs.length → n'' = cs.length → IsS V a d ks → IsS V a' d' vs → IsI V a'' d'' cs → Calls Try.prog 10 #[.agg #[.bool l, .slice a n d, .slice a' n' d', .slice a'' n'' d'']] V fun e w' => e = .returned (.tuple #[.string (nPutS l ks vs cs), .int .i64 (nPutE l ks vs cs)]) ∧ Below V.heap.size V w' := fun V l a d n a' d' n' a'' d'' n'' ks vs cs h1 h2 h3 i1 i2 i3 => nodePut_any _ _ _ _ _ _ _ _ _ _ _ _ _ _ h1 h2 h3 i1 i2 i3
  have cR2 : ∀ V l a d n a' d' n' a'' d'' n'' ks vs cs, n = ks.length → n' = vs.length → n'' = cs.length → IsS V a d ks → IsS V a' d' vs → IsI V a'' d'' cs → Calls Try.prog 13 #[.agg #[.bool l, .slice a n d, .slice a' n' d', .slice a'' n'' d''], .bool true] V fun e w' => e = .returned (.bool (rightN l ks vs cs true)) ∧ Below V.heap.size V w' := fun V l a d n a' d' n' a'' d'' n'' ks vs cs h1 h2 h3 i1 i2 i3 => nodeRight_any _ _ _ _ _ _ _ _ _ _ _ _ _ true _ h1 h2 h3 i1 i2 i3
  have cL0 : ∀ V a d n a' d' n' a'' d'' n'', n = ([] : List ByteArray).length → n' = ([] : List ByteArray).length → n'' = ([] : List Int).length → IsS V a d [] → IsS V a' d' [] → IsI V a'' d'' [] → Calls Try.prog 17 #[.agg #[.bool false, .slice a n d, .slice a' n' d', .slice a'' n'' d''], .agg #[.bool false, .slice none 0 0, .slice none 0 0, .slice none 0 0]] V fun e w' => e = .returned (.bool true) ∧ Below V.heap.size V w' := fun V a d n a' d' n' a'' d'' n'' h1 h2 h3 i1 i2 i3 => by
    have := refLike_any false a a' a'' d d' d'' n n' n'' [] [] [] false none none none 0 0 0 0 0 0 [] [] [] V h1 h2 h3 i1 i2 i3 rfl rfl rfl (isS_nil _) (isS_nil _) (isI_nil _)
    rw [likeN_iff.2 ⟨rfl, rfl, rfl, rfl⟩] at this
    exact this
  have cL : ∀ V, Below w.heap.size w V → ∀ a1 d1 n1 a1' d1' n1' a1'' d1'' n1'', n1 = xs.length → n1' = ys.length → n1'' = zs.length → IsS V a1 d1 xs → IsS V a1' d1' ys → IsI V a1'' d1'' zs → Calls Try.prog 17 #[.agg #[.bool l, .slice a1 n1 d1, .slice a1' n1' d1', .slice a1'' n1'' d1''], .agg #[.bool l, .slice a m c, .slice a' m' c', .slice a'' m'' c'']] V fun e w' => e = .returned (.bool true) ∧ Below V.heap.size V w' := fun V h a1 d1 n1 a1' d1' n1' a1'' d1'' n1'' h1 h2 h3 i1 i2 i3 => by
    have := refLike_any l a1 a1' a1'' d1 d1' d1'' n1 n1' n1'' xs ys zs l a a' a'' c c' c'' m m' m'' xs ys zs V h1 h2 h3 i1 i2 i3 hm hm' hm'' (IX.below h) (IY.below h) (IZ.below h)
    rw [likeN_iff.2 ⟨rfl, rfl, rfl, rfl⟩] at this
    exact this
  have hmS : S.size ≤ 9223372036854775807 := hSs
  cases hr : rightN l xs ys zs true with
  | true =>
    have e1 : nPutS l xs ys zs = nodeS l xs ys zs := by unfold nPutS; rw [if_pos hr]
    have e2 : nPutE l xs ys zs = 0 := by unfold nPutE; rw [if_pos hr]
    rw [e1, e2] at cP
    obtain ⟨t, ht⟩ : ∃ t, t = nodeS l xs ys zs := ⟨_, rfl⟩
    have ht4 : (t.size : Int) ≤ 4000 := by rw [ht]; have := node_size hr; omega
    have hts : t.size ≤ maxLen := by unfold maxLen; omega
    have cG1 : ∀ V, Calls Try.prog 15 #[.int .i64 (if l = true then 1 else 2), .string t] V fun x w' => Answers V x w' l xs ys zs 0 := fun V => by
      obtain ⟨g1, g2⟩ := g_inr (node_back hr)
      have := nodeGet_any (if l = true then 1 else 2) t V hts
      rw [ht, g1, g2] at this
      rw [ht]
      exact this
    rw [← ht] at cP
    clear e1 e2 ht hts
    cases hR : nodeR kind S with
    | inr x =>
      obtain ⟨o1, o2, -, -⟩ := node_once hR
      obtain ⟨g1, g2⟩ := g_inr hR
      rw [g1, g2] at cG2
      obtain ⟨lx, kx, vx, cx⟩ := x
      simp only at o1 o2 cG2
      have f1 : nPutS lx kx vx cx = S := by unfold nPutS; rw [if_pos o1, o2]
      have f2 : nPutE lx kx vx cx = 0 := by unfold nPutE; rw [if_pos o1]
      have cP3 := fun V a d n a' d' n' a'' d'' n'' => cP2 V lx a d n a' d' n' a'' d'' n'' kx vx cx
      have cR3 := fun V a d n a' d' n' a'' d'' n'' => cR2 V lx a d n a' d' n' a'' d'' n'' kx vx cx
      rw [f1, f2] at cP3
      rw [o1] at cR3
      clear cP2 cR2 cL0 o1 o2 hR f1 f2 g1 g2
      cases l with
      | true =>
        replace cG1 : ∀ V, Calls Try.prog 15 #[.int .i64 1, .string t] V fun x w' => Answers V x w' true xs ys zs 0 := cG1
        clear hn hxs hmin hn' hys hmin' hn'' hzs hmin'' hK hV hC hm hm' hm'' IX IY IZ g1 g1' g1'' g2 g2' g2'' g3 g3' g3'' hk hmn hSs hs hkind hr hV0 hV2 hB0
        subst hS
        obtain ⟨⟨q0, q1, q2, q3⟩, -⟩ := id hX0
        obtain ⟨⟨q01, q11, q21, q31⟩, f01, f11, f21, f31⟩ := id hX1
        go_enter Try.func7, Try.ntmps7
        go_wp2
        rw [← hW]
        clear hW
        refine region_worlds (by kernel_rfl) [1, 7] (backV (.agg #[.bool true, .slice a n c, .slice a' n' c', .slice a'' n'' c'']) (.agg #[.bool true, .slice a m c, .slice a' m' c', .slice a'' m'' c'']) s (s.extract 0 k) k) (worlds3 V0 V1 V2) (by kernel_rfl) (by kernel_rfl) HV0.out.symm ?step 9 rfl ?done
        case step =>
          intro i o ho kk a2 hkk hmay hdf hsz hdep hsame
          match i, ho with
          | 0, ho =>
            cases ho
            have h3 := (hsame 3 rfl)
            match kk, hkk, hmay with
            | 0, _, hq => first | (cases hq; done) | (exact val_op rfl (wanted_free rfl) (by clear hdep hsame hsz hdf; (try simp only [backV, worlds3]); go_simp) rfl rfl)
            | 1, _, hq => first | (cases hq; done) | (exact val_op rfl (wanted_free rfl) (by clear hdep hsame hsz hdf; (try simp only [backV, worlds3]); go_simp) rfl rfl)
            | 2, _, hq => first | (cases hq; done) | (exact val_op rfl (wanted_free rfl) (by clear hdep hsame hsz hdf; (try simp only [backV, worlds3]); go_simp) rfl rfl)
            | kk + 3, hkk, _ => simp at hkk
          | 1, ho =>
            cases ho
            have h16 := (hdep 0 _ 16 rfl rfl rfl)
            simp only [backV] at h16
            match kk, hkk, hmay with
            | 0, _, _ => exact val_call rfl (wanted_free rfl) (by clear hdep hsame hsz hdf; (try simp only [worlds3]); go_simp) (hcall1.mono fun e w hh => ⟨hh.1, hh.2⟩)
            | 1, _, hq => cases hq
            | 2, _, hq => cases hq
            | kk + 3, hkk, _ => simp at hkk
          | 2, ho =>
            cases ho
            have h2 := (hsame 2 rfl)
            exact val_op rfl (wanted_free rfl) (by clear hdep hsame hsz hdf; (try simp only [backV, worlds3]); go_simp) rfl rfl
          | 3, ho =>
            cases ho
            have h2 := (hsame 2 rfl)
            exact val_op rfl (wanted_free rfl) (by clear hdep hsame hsz hdf; (try simp only [backV, worlds3]); go_simp) rfl rfl
          | 4, ho =>
            cases ho
            have h19 := (hdep 3 _ 19 rfl rfl rfl)
            simp only [backV] at h19
            exact val_op rfl (wanted_free rfl) (by clear hdep hsame hsz hdf; (try simp only [backV, worlds3]); go_simp) rfl rfl
          | 5, ho =>
            cases ho
            have h20 := (hdep 4 _ 20 rfl rfl rfl)
            simp only [backV] at h20
            exact val_op rfl (wanted_free rfl) (by clear hdep hsame hsz hdf; (try simp only [backV, worlds3]); go_simp) rfl rfl
          | 6, ho =>
            cases ho
            have h18 := (hdep 2 _ 18 rfl rfl rfl)
            have h21 := (hdep 5 _ 21 rfl rfl rfl)
            simp only [backV] at h18 h21
            match kk, hkk, hmay with
            | 0, _, hq => first | (cases hq; done) | (exact val_op rfl (wanted_free rfl) (by clear hdep hsame hsz hdf; (try simp only [backV, worlds3]); go_simp) rfl rfl)
            | 1, _, hq => first | (cases hq; done) | (exact val_op rfl (wanted_free rfl) (by clear hdep hsame hsz hdf; (try simp only [backV, worlds3]); go_simp) rfl rfl)
            | 2, _, hq => first | (cases hq; done) | (exact val_op rfl (wanted_free rfl) (by clear hdep hsame hsz hdf; (try simp only [backV, worlds3]); go_simp) rfl rfl)
            | kk + 3, hkk, _ => simp at hkk
          | 7, ho =>
            cases ho
            have h3 := (hsame 3 rfl)
            have h17 := (hdep 1 _ 17 rfl rfl rfl)
            simp only [backV] at h17
            match kk, hkk, hmay with
            | 0, _, hq => cases hq
            | 1, _, _ => exact val_skip rfl (wanted_free rfl) rfl (by clear hdep hsame hsz hdf; simp only [worlds3]; go_simp; try exact hst2.out) rfl
            | 2, _, hq => cases hq
            | kk + 3, hkk, _ => simp at hkk
          | 8, ho =>
            cases ho
            have h22 := (hdep 6 _ 22 rfl rfl rfl)
            simp only [backV] at h22
            exact val_op rfl (wanted_free rfl) (by clear hdep hsame hsz hdf; (try simp only [backV, worlds3]); go_simp) rfl rfl
          | kk + 9, ho => simp at ho
        case done =>
          simp [filledN, backV, worlds3]
          clear q0 q1 q2 q3 q01 q11 q21 q31 f01 f11 f21 f31 hX0 hX1 hcall1 hB1 hst2 HV0 hmr hks
          generalize s.extract 0 k = S at *
          obtain ⟨⟨q0, q1, q2, q3⟩, -⟩ := id hX
          have tokP : True := trivial
          have tokG : True := trivial
          have tokL : True := trivial
          go_wp2_with (first
            | (go_at_call 10; have _t := tokP; refine (cP _ HB).mono ?_; rintro e w1 ⟨rfl, hb⟩; replace HB := Below.tr HB hb; replace hX := hX.below hb; clear q0 q1 q2 q3; obtain ⟨⟨q0, q1, q2, q3⟩, -⟩ := id hX; clear hb tokP _t)
            | (go_at_call 15; have _t := tokG; refine (cG1 _).mono ?_; rintro y w2 ⟨n1, a1, d1, n1', a1', d1', n1'', a1'', d1'', rfl, e1, e2, e3, i1, i2, i3, -, -, -, hb⟩; have E1 : Hid (n1 = xs.length) := e1; have E2 : Hid (n1' = ys.length) := e2; have E3 : Hid (n1'' = zs.length) := e3; have I1 : Hid (IsS w2 a1 d1 xs) := i1; have I2 : Hid (IsS w2 a1' d1' ys) := i2; have I3 : Hid (IsI w2 a1'' d1'' zs) := i3; have hA := (Below.refl w2.heap.size w2).alloc (Nat.le_refl _) (.cells #[.bool true, .slice a1 n1 d1, .slice a1' n1' d1', .slice a1'' n1'' d1''] 25); replace HB := Below.tr (Below.tr HB hb) hA; replace hX := (hX.below hb).below hA; clear q0 q1 q2 q3; obtain ⟨⟨q0, q1, q2, q3⟩, -⟩ := id hX; clear e1 e2 e3 i1 i2 i3 hb tokG _t)
            | (go_at_call 17; have _t := tokL; refine (cL _ HB a1 d1 n1 a1' d1' n1' a1'' d1'' n1'' E1.out E2.out E3.out (I1.out.below hA) (I2.out.below hA) (I3.out.below hA)).mono ?_; rintro y w3 ⟨rfl, hb⟩; replace HB := Below.tr HB hb; replace hX := hX.below hb; clear q0 q1 q2 q3; obtain ⟨⟨q0, q1, q2, q3⟩, -⟩ := id hX; clear hb tokL _t hA I1 I2 I3 E1 E2 E3)
            | (go_at_call 15; refine (cG2 _).mono ?_; rintro y w4 ⟨n2, a2, d2, n2', a2', d2', n2'', a2'', d2'', rfl, e1, e2, e3, i1, i2, i3, -, -, -, hb⟩; have E1 : Hid (n2 = kx.length) := e1; have E2 : Hid (n2' = vx.length) := e2; have E3 : Hid (n2'' = cx.length) := e3; have hA := (Below.refl w4.heap.size w4).alloc (Nat.le_refl _) (.cells #[.bool lx, .slice a2 n2 d2, .slice a2' n2' d2', .slice a2'' n2'' d2''] 25); have I1 : Hid (IsS (w4.alloc (.cells #[.bool lx, .slice a2 n2 d2, .slice a2' n2' d2', .slice a2'' n2'' d2''] 25)) a2 d2 kx) := i1.below hA; have I2 : Hid (IsS (w4.alloc (.cells #[.bool lx, .slice a2 n2 d2, .slice a2' n2' d2', .slice a2'' n2'' d2''] 25)) a2' d2' vx) := i2.below hA; have I3 : Hid (IsI (w4.alloc (.cells #[.bool lx, .slice a2 n2 d2, .slice a2' n2' d2', .slice a2'' n2'' d2''] 25)) a2'' d2'' cx) := i3.below hA; replace HB := Below.tr (Below.tr HB hb) hA; have bM := box4_new w4 (.bool lx) (.slice a2 n2 d2) (.slice a2' n2' d2') (.slice a2'' n2'' d2'') 25 rfl; clear q0 q1 q2 q3; clear e1 e2 e3 i1 i2 i3 hb hA hX)
            | (go_at_call 10; refine (cP3 _ a2 d2 n2 a2' d2' n2' a2'' d2'' n2'' E1.out E2.out E3.out I1.out I2.out I3.out).mono ?_; rintro y w5 ⟨rfl, hb⟩; replace HB := Below.tr HB hb; replace bM := bM.below hb; replace I1 : Hid (IsS w5 a2 d2 kx) := I1.out.below hb; replace I2 : Hid (IsS w5 a2' d2' vx) := I2.out.below hb; replace I3 : Hid (IsI w5 a2'' d2'' cx) := I3.out.below hb; obtain ⟨⟨q0, q1, q2, q3⟩, -⟩ := id bM; clear hb)
            | (go_at_call 12; refine (alive07_any _).mono ?_; rintro y w6 ⟨rfl, hb⟩; replace HB := Below.tr HB hb; replace bM := bM.below hb; replace I1 : Hid (IsS w6 a2 d2 kx) := I1.out.below hb; replace I2 : Hid (IsS w6 a2' d2' vx) := I2.out.below hb; replace I3 : Hid (IsI w6 a2'' d2'' cx) := I3.out.below hb; obtain ⟨⟨p0, p1, p2, p3⟩, -⟩ := id bM; clear hb)
            | (go_at_call 13; refine (cR3 _ a2 d2 n2 a2' d2' n2' a2'' d2'' n2'' E1.out E2.out E3.out I1.out I2.out I3.out).mono ?_; rintro y w7 ⟨rfl, hb⟩; replace HB := Below.tr HB hb; clear hb))
          go_ret
          exact ⟨rfl, HB⟩
      | false =>
        replace cG1 : ∀ V, Calls Try.prog 15 #[.int .i64 2, .string t] V fun x w' => Answers V x w' false xs ys zs 0 := cG1
        clear hn hxs hmin hn' hys hmin' hn'' hzs hmin'' hK hV hC hm hm' hm'' IX IY IZ g1 g1' g1'' g2 g2' g2'' g3 g3' g3'' hk hmn hSs hs hkind hr hV0 hV2 hB0
        subst hS
        obtain ⟨⟨q0, q1, q2, q3⟩, -⟩ := id hX0
        obtain ⟨⟨q01, q11, q21, q31⟩, f01, f11, f21, f31⟩ := id hX1
        go_enter Try.func7, Try.ntmps7
        go_wp2
        rw [← hW]
        clear hW
        refine region_worlds (by kernel_rfl) [1, 7] (backV (.agg #[.bool false, .slice a n c, .slice a' n' c', .slice a'' n'' c'']) (.agg #[.bool false, .slice a m c, .slice a' m' c', .slice a'' m'' c'']) s (s.extract 0 k) k) (worlds3 V0 V1 V2) (by kernel_rfl) (by kernel_rfl) HV0.out.symm ?step 9 rfl ?done
        case step =>
          intro i o ho kk a2 hkk hmay hdf hsz hdep hsame
          match i, ho with
          | 0, ho =>
            cases ho
            have h3 := (hsame 3 rfl)
            match kk, hkk, hmay with
            | 0, _, hq => first | (cases hq; done) | (exact val_op rfl (wanted_free rfl) (by clear hdep hsame hsz hdf; (try simp only [backV, worlds3]); go_simp) rfl rfl)
            | 1, _, hq => first | (cases hq; done) | (exact val_op rfl (wanted_free rfl) (by clear hdep hsame hsz hdf; (try simp only [backV, worlds3]); go_simp) rfl rfl)
            | 2, _, hq => first | (cases hq; done) | (exact val_op rfl (wanted_free rfl) (by clear hdep hsame hsz hdf; (try simp only [backV, worlds3]); go_simp) rfl rfl)
            | kk + 3, hkk, _ => simp at hkk
          | 1, ho =>
            cases ho
            have h16 := (hdep 0 _ 16 rfl rfl rfl)
            simp only [backV] at h16
            match kk, hkk, hmay with
            | 0, _, _ => exact val_call rfl (wanted_free rfl) (by clear hdep hsame hsz hdf; (try simp only [worlds3]); go_simp) (hcall1.mono fun e w hh => ⟨hh.1, hh.2⟩)
            | 1, _, hq => cases hq
            | 2, _, hq => cases hq
            | kk + 3, hkk, _ => simp at hkk
          | 2, ho =>
            cases ho
            have h2 := (hsame 2 rfl)
            exact val_op rfl (wanted_free rfl) (by clear hdep hsame hsz hdf; (try simp only [backV, worlds3]); go_simp) rfl rfl
          | 3, ho =>
            cases ho
            have h2 := (hsame 2 rfl)
            exact val_op rfl (wanted_free rfl) (by clear hdep hsame hsz hdf; (try simp only [backV, worlds3]); go_simp) rfl rfl
          | 4, ho =>
            cases ho
            have h19 := (hdep 3 _ 19 rfl rfl rfl)
            simp only [backV] at h19
            exact val_op rfl (wanted_free rfl) (by clear hdep hsame hsz hdf; (try simp only [backV, worlds3]); go_simp) rfl rfl
          | 5, ho =>
            cases ho
            have h20 := (hdep 4 _ 20 rfl rfl rfl)
            simp only [backV] at h20
            exact val_op rfl (wanted_free rfl) (by clear hdep hsame hsz hdf; (try simp only [backV, worlds3]); go_simp) rfl rfl
          | 6, ho =>
            cases ho
            have h18 := (hdep 2 _ 18 rfl rfl rfl)
            have h21 := (hdep 5 _ 21 rfl rfl rfl)
            simp only [backV] at h18 h21
            match kk, hkk, hmay with
            | 0, _, hq => first | (cases hq; done) | (exact val_op rfl (wanted_free rfl) (by clear hdep hsame hsz hdf; (try simp only [backV, worlds3]); go_simp) rfl rfl)
            | 1, _, hq => first | (cases hq; done) | (exact val_op rfl (wanted_free rfl) (by clear hdep hsame hsz hdf; (try simp only [backV, worlds3]); go_simp) rfl rfl)
            | 2, _, hq => first | (cases hq; done) | (exact val_op rfl (wanted_free rfl) (by clear hdep hsame hsz hdf; (try simp only [backV, worlds3]); go_simp) rfl rfl)
            | kk + 3, hkk, _ => simp at hkk
          | 7, ho =>
            cases ho
            have h3 := (hsame 3 rfl)
            have h17 := (hdep 1 _ 17 rfl rfl rfl)
            simp only [backV] at h17
            match kk, hkk, hmay with
            | 0, _, hq => cases hq
            | 1, _, _ => exact val_skip rfl (wanted_free rfl) rfl (by clear hdep hsame hsz hdf; simp only [worlds3]; go_simp; try exact hst2.out) rfl
            | 2, _, hq => cases hq
            | kk + 3, hkk, _ => simp at hkk
          | 8, ho =>
            cases ho
            have h22 := (hdep 6 _ 22 rfl rfl rfl)
            simp only [backV] at h22
            exact val_op rfl (wanted_free rfl) (by clear hdep hsame hsz hdf; (try simp only [backV, worlds3]); go_simp) rfl rfl
          | kk + 9, ho => simp at ho
        case done =>
          simp [filledN, backV, worlds3]
          clear q0 q1 q2 q3 q01 q11 q21 q31 f01 f11 f21 f31 hX0 hX1 hcall1 hB1 hst2 HV0 hmr hks
          generalize s.extract 0 k = S at *
          obtain ⟨⟨q0, q1, q2, q3⟩, -⟩ := id hX
          have tokP : True := trivial
          have tokG : True := trivial
          have tokL : True := trivial
          go_wp2_with (first
            | (go_at_call 10; have _t := tokP; refine (cP _ HB).mono ?_; rintro e w1 ⟨rfl, hb⟩; replace HB := Below.tr HB hb; replace hX := hX.below hb; clear q0 q1 q2 q3; obtain ⟨⟨q0, q1, q2, q3⟩, -⟩ := id hX; clear hb tokP _t)
            | (go_at_call 15; have _t := tokG; refine (cG1 _).mono ?_; rintro y w2 ⟨n1, a1, d1, n1', a1', d1', n1'', a1'', d1'', rfl, e1, e2, e3, i1, i2, i3, -, -, -, hb⟩; have E1 : Hid (n1 = xs.length) := e1; have E2 : Hid (n1' = ys.length) := e2; have E3 : Hid (n1'' = zs.length) := e3; have I1 : Hid (IsS w2 a1 d1 xs) := i1; have I2 : Hid (IsS w2 a1' d1' ys) := i2; have I3 : Hid (IsI w2 a1'' d1'' zs) := i3; have hA := (Below.refl w2.heap.size w2).alloc (Nat.le_refl _) (.cells #[.bool false, .slice a1 n1 d1, .slice a1' n1' d1', .slice a1'' n1'' d1''] 25); replace HB := Below.tr (Below.tr HB hb) hA; replace hX := (hX.below hb).below hA; clear q0 q1 q2 q3; obtain ⟨⟨q0, q1, q2, q3⟩, -⟩ := id hX; clear e1 e2 e3 i1 i2 i3 hb tokG _t)
            | (go_at_call 17; have _t := tokL; refine (cL _ HB a1 d1 n1 a1' d1' n1' a1'' d1'' n1'' E1.out E2.out E3.out (I1.out.below hA) (I2.out.below hA) (I3.out.below hA)).mono ?_; rintro y w3 ⟨rfl, hb⟩; replace HB := Below.tr HB hb; replace hX := hX.below hb; clear q0 q1 q2 q3; obtain ⟨⟨q0, q1, q2, q3⟩, -⟩ := id hX; clear hb tokL _t hA I1 I2 I3 E1 E2 E3)
            | (go_at_call 15; refine (cG2 _).mono ?_; rintro y w4 ⟨n2, a2, d2, n2', a2', d2', n2'', a2'', d2'', rfl, e1, e2, e3, i1, i2, i3, -, -, -, hb⟩; have E1 : Hid (n2 = kx.length) := e1; have E2 : Hid (n2' = vx.length) := e2; have E3 : Hid (n2'' = cx.length) := e3; have hA := (Below.refl w4.heap.size w4).alloc (Nat.le_refl _) (.cells #[.bool lx, .slice a2 n2 d2, .slice a2' n2' d2', .slice a2'' n2'' d2''] 25); have I1 : Hid (IsS (w4.alloc (.cells #[.bool lx, .slice a2 n2 d2, .slice a2' n2' d2', .slice a2'' n2'' d2''] 25)) a2 d2 kx) := i1.below hA; have I2 : Hid (IsS (w4.alloc (.cells #[.bool lx, .slice a2 n2 d2, .slice a2' n2' d2', .slice a2'' n2'' d2''] 25)) a2' d2' vx) := i2.below hA; have I3 : Hid (IsI (w4.alloc (.cells #[.bool lx, .slice a2 n2 d2, .slice a2' n2' d2', .slice a2'' n2'' d2''] 25)) a2'' d2'' cx) := i3.below hA; replace HB := Below.tr (Below.tr HB hb) hA; have bM := box4_new w4 (.bool lx) (.slice a2 n2 d2) (.slice a2' n2' d2') (.slice a2'' n2'' d2'') 25 rfl; clear q0 q1 q2 q3; clear e1 e2 e3 i1 i2 i3 hb hA hX)
            | (go_at_call 10; refine (cP3 _ a2 d2 n2 a2' d2' n2' a2'' d2'' n2'' E1.out E2.out E3.out I1.out I2.out I3.out).mono ?_; rintro y w5 ⟨rfl, hb⟩; replace HB := Below.tr HB hb; replace bM := bM.below hb; replace I1 : Hid (IsS w5 a2 d2 kx) := I1.out.below hb; replace I2 : Hid (IsS w5 a2' d2' vx) := I2.out.below hb; replace I3 : Hid (IsI w5 a2'' d2'' cx) := I3.out.below hb; obtain ⟨⟨q0, q1, q2, q3⟩, -⟩ := id bM; clear hb)
            | (go_at_call 12; refine (alive07_any _).mono ?_; rintro y w6 ⟨rfl, hb⟩; replace HB := Below.tr HB hb; replace bM := bM.below hb; replace I1 : Hid (IsS w6 a2 d2 kx) := I1.out.below hb; replace I2 : Hid (IsS w6 a2' d2' vx) := I2.out.below hb; replace I3 : Hid (IsI w6 a2'' d2'' cx) := I3.out.below hb; obtain ⟨⟨p0, p1, p2, p3⟩, -⟩ := id bM; clear hb)
            | (go_at_call 13; refine (cR3 _ a2 d2 n2 a2' d2' n2' a2'' d2'' n2'' E1.out E2.out E3.out I1.out I2.out I3.out).mono ?_; rintro y w7 ⟨rfl, hb⟩; replace HB := Below.tr HB hb; clear hb))
          go_ret
          exact ⟨rfl, HB⟩
    | inl e =>
      have he : (e != 0) = true := by simpa using nodeR_ne hR
      obtain ⟨g1, g2⟩ := g_inl hR
      rw [g1, g2] at cG2
      obtain ⟨lx, kx, vx, cx, cG2, cL0⟩ : ∃ (lx : Bool) (kx vx : List ByteArray) (cx : List Int), (∀ V, Calls Try.prog 15 #[.int .i64 kind, .string S] V fun x w' => Answers V x w' lx kx vx cx e) ∧ ∀ V a d n a' d' n' a'' d'' n'', n = kx.length → n' = vx.length → n'' = cx.length → IsS V a d kx → IsS V a' d' vx → IsI V a'' d'' cx → Calls Try.prog 17 #[.agg #[.bool lx, .slice a n d, .slice a' n' d', .slice a'' n'' d''], .agg #[.bool false, .slice none 0 0, .slice none 0 0, .slice none 0 0]] V fun e w' => e = .returned (.bool true) ∧ Below V.heap.size V w' := ⟨false, [], [], [], cG2, cL0⟩
      clear cP2 cR2 hR g1 g2
      cases l with
      | true =>
        replace cG1 : ∀ V, Calls Try.prog 15 #[.int .i64 1, .string t] V fun x w' => Answers V x w' true xs ys zs 0 := cG1
        clear hn hxs hmin hn' hys hmin' hn'' hzs hmin'' hK hV hC hm hm' hm'' IX IY IZ g1 g1' g1'' g2 g2' g2'' g3 g3' g3'' hk hmn hSs hs hkind hr hV0 hV2 hB0
        subst hS
        obtain ⟨⟨q0, q1, q2, q3⟩, -⟩ := id hX0
        obtain ⟨⟨q01, q11, q21, q31⟩, f01, f11, f21, f31⟩ := id hX1
        go_enter Try.func7, Try.ntmps7
        go_wp2
        rw [← hW]
        clear hW
        refine region_worlds (by kernel_rfl) [1, 7] (backV (.agg #[.bool true, .slice a n c, .slice a' n' c', .slice a'' n'' c'']) (.agg #[.bool true, .slice a m c, .slice a' m' c', .slice a'' m'' c'']) s (s.extract 0 k) k) (worlds3 V0 V1 V2) (by kernel_rfl) (by kernel_rfl) HV0.out.symm ?step 9 rfl ?done
        case step =>
          intro i o ho kk a2 hkk hmay hdf hsz hdep hsame
          match i, ho with
          | 0, ho =>
            cases ho
            have h3 := (hsame 3 rfl)
            match kk, hkk, hmay with
            | 0, _, hq => first | (cases hq; done) | (exact val_op rfl (wanted_free rfl) (by clear hdep hsame hsz hdf; (try simp only [backV, worlds3]); go_simp) rfl rfl)
            | 1, _, hq => first | (cases hq; done) | (exact val_op rfl (wanted_free rfl) (by clear hdep hsame hsz hdf; (try simp only [backV, worlds3]); go_simp) rfl rfl)
            | 2, _, hq => first | (cases hq; done) | (exact val_op rfl (wanted_free rfl) (by clear hdep hsame hsz hdf; (try simp only [backV, worlds3]); go_simp) rfl rfl)
            | kk + 3, hkk, _ => simp at hkk
          | 1, ho =>
            cases ho
            have h16 := (hdep 0 _ 16 rfl rfl rfl)
            simp only [backV] at h16
            match kk, hkk, hmay with
            | 0, _, _ => exact val_call rfl (wanted_free rfl) (by clear hdep hsame hsz hdf; (try simp only [worlds3]); go_simp) (hcall1.mono fun e w hh => ⟨hh.1, hh.2⟩)
            | 1, _, hq => cases hq
            | 2, _, hq => cases hq
            | kk + 3, hkk, _ => simp at hkk
          | 2, ho =>
            cases ho
            have h2 := (hsame 2 rfl)
            exact val_op rfl (wanted_free rfl) (by clear hdep hsame hsz hdf; (try simp only [backV, worlds3]); go_simp) rfl rfl
          | 3, ho =>
            cases ho
            have h2 := (hsame 2 rfl)
            exact val_op rfl (wanted_free rfl) (by clear hdep hsame hsz hdf; (try simp only [backV, worlds3]); go_simp) rfl rfl
          | 4, ho =>
            cases ho
            have h19 := (hdep 3 _ 19 rfl rfl rfl)
            simp only [backV] at h19
            exact val_op rfl (wanted_free rfl) (by clear hdep hsame hsz hdf; (try simp only [backV, worlds3]); go_simp) rfl rfl
          | 5, ho =>
            cases ho
            have h20 := (hdep 4 _ 20 rfl rfl rfl)
            simp only [backV] at h20
            exact val_op rfl (wanted_free rfl) (by clear hdep hsame hsz hdf; (try simp only [backV, worlds3]); go_simp) rfl rfl
          | 6, ho =>
            cases ho
            have h18 := (hdep 2 _ 18 rfl rfl rfl)
            have h21 := (hdep 5 _ 21 rfl rfl rfl)
            simp only [backV] at h18 h21
            match kk, hkk, hmay with
            | 0, _, hq => first | (cases hq; done) | (exact val_op rfl (wanted_free rfl) (by clear hdep hsame hsz hdf; (try simp only [backV, worlds3]); go_simp) rfl rfl)
            | 1, _, hq => first | (cases hq; done) | (exact val_op rfl (wanted_free rfl) (by clear hdep hsame hsz hdf; (try simp only [backV, worlds3]); go_simp) rfl rfl)
            | 2, _, hq => first | (cases hq; done) | (exact val_op rfl (wanted_free rfl) (by clear hdep hsame hsz hdf; (try simp only [backV, worlds3]); go_simp) rfl rfl)
            | kk + 3, hkk, _ => simp at hkk
          | 7, ho =>
            cases ho
            have h3 := (hsame 3 rfl)
            have h17 := (hdep 1 _ 17 rfl rfl rfl)
            simp only [backV] at h17
            match kk, hkk, hmay with
            | 0, _, hq => cases hq
            | 1, _, _ => exact val_skip rfl (wanted_free rfl) rfl (by clear hdep hsame hsz hdf; simp only [worlds3]; go_simp; try exact hst2.out) rfl
            | 2, _, hq => cases hq
            | kk + 3, hkk, _ => simp at hkk
          | 8, ho =>
            cases ho
            have h22 := (hdep 6 _ 22 rfl rfl rfl)
            simp only [backV] at h22
            exact val_op rfl (wanted_free rfl) (by clear hdep hsame hsz hdf; (try simp only [backV, worlds3]); go_simp) rfl rfl
          | kk + 9, ho => simp at ho
        case done =>
          simp [filledN, backV, worlds3]
          clear q0 q1 q2 q3 q01 q11 q21 q31 f01 f11 f21 f31 hX0 hX1 hcall1 hB1 hst2 HV0 hmr hks
          generalize s.extract 0 k = S at *
          obtain ⟨⟨q0, q1, q2, q3⟩, -⟩ := id hX
          have tokP : True := trivial
          have tokG : True := trivial
          have tokL : True := trivial
          go_wp2_with (first
            | (go_at_call 10; have _t := tokP; refine (cP _ HB).mono ?_; rintro e w1 ⟨rfl, hb⟩; replace HB := Below.tr HB hb; replace hX := hX.below hb; clear q0 q1 q2 q3; obtain ⟨⟨q0, q1, q2, q3⟩, -⟩ := id hX; clear hb tokP _t)
            | (go_at_call 15; have _t := tokG; refine (cG1 _).mono ?_; rintro y w2 ⟨n1, a1, d1, n1', a1', d1', n1'', a1'', d1'', rfl, e1, e2, e3, i1, i2, i3, -, -, -, hb⟩; have E1 : Hid (n1 = xs.length) := e1; have E2 : Hid (n1' = ys.length) := e2; have E3 : Hid (n1'' = zs.length) := e3; have I1 : Hid (IsS w2 a1 d1 xs) := i1; have I2 : Hid (IsS w2 a1' d1' ys) := i2; have I3 : Hid (IsI w2 a1'' d1'' zs) := i3; have hA := (Below.refl w2.heap.size w2).alloc (Nat.le_refl _) (.cells #[.bool true, .slice a1 n1 d1, .slice a1' n1' d1', .slice a1'' n1'' d1''] 25); replace HB := Below.tr (Below.tr HB hb) hA; replace hX := (hX.below hb).below hA; clear q0 q1 q2 q3; obtain ⟨⟨q0, q1, q2, q3⟩, -⟩ := id hX; clear e1 e2 e3 i1 i2 i3 hb tokG _t)
            | (go_at_call 17; have _t := tokL; refine (cL _ HB a1 d1 n1 a1' d1' n1' a1'' d1'' n1'' E1.out E2.out E3.out (I1.out.below hA) (I2.out.below hA) (I3.out.below hA)).mono ?_; rintro y w3 ⟨rfl, hb⟩; replace HB := Below.tr HB hb; replace hX := hX.below hb; clear q0 q1 q2 q3; obtain ⟨⟨q0, q1, q2, q3⟩, -⟩ := id hX; clear hb tokL _t hA I1 I2 I3 E1 E2 E3)
            | (go_at_call 15; refine (cG2 _).mono ?_; rintro y w4 ⟨n2, a2, d2, n2', a2', d2', n2'', a2'', d2'', rfl, e1, e2, e3, i1, i2, i3, -, -, -, hb⟩; have E1 : Hid (n2 = kx.length) := e1; have E2 : Hid (n2' = vx.length) := e2; have E3 : Hid (n2'' = cx.length) := e3; have hA := (Below.refl w4.heap.size w4).alloc (Nat.le_refl _) (.cells #[.bool lx, .slice a2 n2 d2, .slice a2' n2' d2', .slice a2'' n2'' d2''] 25); have I1 : Hid (IsS (w4.alloc (.cells #[.bool lx, .slice a2 n2 d2, .slice a2' n2' d2', .slice a2'' n2'' d2''] 25)) a2 d2 kx) := i1.below hA; have I2 : Hid (IsS (w4.alloc (.cells #[.bool lx, .slice a2 n2 d2, .slice a2' n2' d2', .slice a2'' n2'' d2''] 25)) a2' d2' vx) := i2.below hA; have I3 : Hid (IsI (w4.alloc (.cells #[.bool lx, .slice a2 n2 d2, .slice a2' n2' d2', .slice a2'' n2'' d2''] 25)) a2'' d2'' cx) := i3.below hA; replace HB := Below.tr (Below.tr HB hb) hA; have bM := box4_new w4 (.bool lx) (.slice a2 n2 d2) (.slice a2' n2' d2') (.slice a2'' n2'' d2'') 25 rfl; clear q0 q1 q2 q3; clear e1 e2 e3 i1 i2 i3 hb hA hX)
            | (go_at_call 12; refine (alive07_any _).mono ?_; rintro y w6 ⟨rfl, hb⟩; replace HB := Below.tr HB hb; replace bM := bM.below hb; replace I1 : Hid (IsS w6 a2 d2 kx) := I1.out.below hb; replace I2 : Hid (IsS w6 a2' d2' vx) := I2.out.below hb; replace I3 : Hid (IsI w6 a2'' d2'' cx) := I3.out.below hb; obtain ⟨⟨p0, p1, p2, p3⟩, -⟩ := id bM; clear hb)
            | (go_at_call 17; refine (cL0 _ a2 d2 n2 a2' d2' n2' a2'' d2'' n2'' E1.out E2.out E3.out I1.out I2.out I3.out).mono ?_; rintro y w7 ⟨rfl, hb⟩; replace HB := Below.tr HB hb; clear hb))
          go_ret
          exact ⟨rfl, HB⟩
      | false =>
        replace cG1 : ∀ V, Calls Try.prog 15 #[.int .i64 2, .string t] V fun x w' => Answers V x w' false xs ys zs 0 := cG1
        clear hn hxs hmin hn' hys hmin' hn'' hzs hmin'' hK hV hC hm hm' hm'' IX IY IZ g1 g1' g1'' g2 g2' g2'' g3 g3' g3'' hk hmn hSs hs hkind hr hV0 hV2 hB0
        subst hS
        obtain ⟨⟨q0, q1, q2, q3⟩, -⟩ := id hX0
        obtain ⟨⟨q01, q11, q21, q31⟩, f01, f11, f21, f31⟩ := id hX1
        go_enter Try.func7, Try.ntmps7
        go_wp2
        rw [← hW]
        clear hW
        refine region_worlds (by kernel_rfl) [1, 7] (backV (.agg #[.bool false, .slice a n c, .slice a' n' c', .slice a'' n'' c'']) (.agg #[.bool false, .slice a m c, .slice a' m' c', .slice a'' m'' c'']) s (s.extract 0 k) k) (worlds3 V0 V1 V2) (by kernel_rfl) (by kernel_rfl) HV0.out.symm ?step 9 rfl ?done
        case step =>
          intro i o ho kk a2 hkk hmay hdf hsz hdep hsame
          match i, ho with
          | 0, ho =>
            cases ho
            have h3 := (hsame 3 rfl)
            match kk, hkk, hmay with
            | 0, _, hq => first | (cases hq; done) | (exact val_op rfl (wanted_free rfl) (by clear hdep hsame hsz hdf; (try simp only [backV, worlds3]); go_simp) rfl rfl)
            | 1, _, hq => first | (cases hq; done) | (exact val_op rfl (wanted_free rfl) (by clear hdep hsame hsz hdf; (try simp only [backV, worlds3]); go_simp) rfl rfl)
            | 2, _, hq => first | (cases hq; done) | (exact val_op rfl (wanted_free rfl) (by clear hdep hsame hsz hdf; (try simp only [backV, worlds3]); go_simp) rfl rfl)
            | kk + 3, hkk, _ => simp at hkk
          | 1, ho =>
            cases ho
            have h16 := (hdep 0 _ 16 rfl rfl rfl)
            simp only [backV] at h16
            match kk, hkk, hmay with
            | 0, _, _ => exact val_call rfl (wanted_free rfl) (by clear hdep hsame hsz hdf; (try simp only [worlds3]); go_simp) (hcall1.mono fun e w hh => ⟨hh.1, hh.2⟩)
            | 1, _, hq => cases hq
            | 2, _, hq => cases hq
            | kk + 3, hkk, _ => simp at hkk
          | 2, ho =>
            cases ho
            have h2 := (hsame 2 rfl)
            exact val_op rfl (wanted_free rfl) (by clear hdep hsame hsz hdf; (try simp only [backV, worlds3]); go_simp) rfl rfl
          | 3, ho =>
            cases ho
            have h2 := (hsame 2 rfl)
            exact val_op rfl (wanted_free rfl) (by clear hdep hsame hsz hdf; (try simp only [backV, worlds3]); go_simp) rfl rfl
          | 4, ho =>
            cases ho
            have h19 := (hdep 3 _ 19 rfl rfl rfl)
            simp only [backV] at h19
            exact val_op rfl (wanted_free rfl) (by clear hdep hsame hsz hdf; (try simp only [backV, worlds3]); go_simp) rfl rfl
          | 5, ho =>
            cases ho
            have h20 := (hdep 4 _ 20 rfl rfl rfl)
            simp only [backV] at h20
            exact val_op rfl (wanted_free rfl) (by clear hdep hsame hsz hdf; (try simp only [backV, worlds3]); go_simp) rfl rfl
          | 6, ho =>
            cases ho
            have h18 := (hdep 2 _ 18 rfl rfl rfl)
            have h21 := (hdep 5 _ 21 rfl rfl rfl)
            simp only [backV] at h18 h21
            match kk, hkk, hmay with
            | 0, _, hq => first | (cases hq; done) | (exact val_op rfl (wanted_free rfl) (by clear hdep hsame hsz hdf; (try simp only [backV, worlds3]); go_simp) rfl rfl)
            | 1, _, hq => first | (cases hq; done) | (exact val_op rfl (wanted_free rfl) (by clear hdep hsame hsz hdf; (try simp only [backV, worlds3]); go_simp) rfl rfl)
            | 2, _, hq => first | (cases hq; done) | (exact val_op rfl (wanted_free rfl) (by clear hdep hsame hsz hdf; (try simp only [backV, worlds3]); go_simp) rfl rfl)
            | kk + 3, hkk, _ => simp at hkk
          | 7, ho =>
            cases ho
            have h3 := (hsame 3 rfl)
            have h17 := (hdep 1 _ 17 rfl rfl rfl)
            simp only [backV] at h17
            match kk, hkk, hmay with
            | 0, _, hq => cases hq
            | 1, _, _ => exact val_skip rfl (wanted_free rfl) rfl (by clear hdep hsame hsz hdf; simp only [worlds3]; go_simp; try exact hst2.out) rfl
            | 2, _, hq => cases hq
            | kk + 3, hkk, _ => simp at hkk
          | 8, ho =>
            cases ho
            have h22 := (hdep 6 _ 22 rfl rfl rfl)
            simp only [backV] at h22
            exact val_op rfl (wanted_free rfl) (by clear hdep hsame hsz hdf; (try simp only [backV, worlds3]); go_simp) rfl rfl
          | kk + 9, ho => simp at ho
        case done =>
          simp [filledN, backV, worlds3]
          clear q0 q1 q2 q3 q01 q11 q21 q31 f01 f11 f21 f31 hX0 hX1 hcall1 hB1 hst2 HV0 hmr hks
          generalize s.extract 0 k = S at *
          obtain ⟨⟨q0, q1, q2, q3⟩, -⟩ := id hX
          have tokP : True := trivial
          have tokG : True := trivial
          have tokL : True := trivial
          go_wp2_with (first
            | (go_at_call 10; have _t := tokP; refine (cP _ HB).mono ?_; rintro e w1 ⟨rfl, hb⟩; replace HB := Below.tr HB hb; replace hX := hX.below hb; clear q0 q1 q2 q3; obtain ⟨⟨q0, q1, q2, q3⟩, -⟩ := id hX; clear hb tokP _t)
            | (go_at_call 15; have _t := tokG; refine (cG1 _).mono ?_; rintro y w2 ⟨n1, a1, d1, n1', a1', d1', n1'', a1'', d1'', rfl, e1, e2, e3, i1, i2, i3, -, -, -, hb⟩; have E1 : Hid (n1 = xs.length) := e1; have E2 : Hid (n1' = ys.length) := e2; have E3 : Hid (n1'' = zs.length) := e3; have I1 : Hid (IsS w2 a1 d1 xs) := i1; have I2 : Hid (IsS w2 a1' d1' ys) := i2; have I3 : Hid (IsI w2 a1'' d1'' zs) := i3; have hA := (Below.refl w2.heap.size w2).alloc (Nat.le_refl _) (.cells #[.bool false, .slice a1 n1 d1, .slice a1' n1' d1', .slice a1'' n1'' d1''] 25); replace HB := Below.tr (Below.tr HB hb) hA; replace hX := (hX.below hb).below hA; clear q0 q1 q2 q3; obtain ⟨⟨q0, q1, q2, q3⟩, -⟩ := id hX; clear e1 e2 e3 i1 i2 i3 hb tokG _t)
            | (go_at_call 17; have _t := tokL; refine (cL _ HB a1 d1 n1 a1' d1' n1' a1'' d1'' n1'' E1.out E2.out E3.out (I1.out.below hA) (I2.out.below hA) (I3.out.below hA)).mono ?_; rintro y w3 ⟨rfl, hb⟩; replace HB := Below.tr HB hb; replace hX := hX.below hb; clear q0 q1 q2 q3; obtain ⟨⟨q0, q1, q2, q3⟩, -⟩ := id hX; clear hb tokL _t hA I1 I2 I3 E1 E2 E3)
            | (go_at_call 15; refine (cG2 _).mono ?_; rintro y w4 ⟨n2, a2, d2, n2', a2', d2', n2'', a2'', d2'', rfl, e1, e2, e3, i1, i2, i3, -, -, -, hb⟩; have E1 : Hid (n2 = kx.length) := e1; have E2 : Hid (n2' = vx.length) := e2; have E3 : Hid (n2'' = cx.length) := e3; have hA := (Below.refl w4.heap.size w4).alloc (Nat.le_refl _) (.cells #[.bool lx, .slice a2 n2 d2, .slice a2' n2' d2', .slice a2'' n2'' d2''] 25); have I1 : Hid (IsS (w4.alloc (.cells #[.bool lx, .slice a2 n2 d2, .slice a2' n2' d2', .slice a2'' n2'' d2''] 25)) a2 d2 kx) := i1.below hA; have I2 : Hid (IsS (w4.alloc (.cells #[.bool lx, .slice a2 n2 d2, .slice a2' n2' d2', .slice a2'' n2'' d2''] 25)) a2' d2' vx) := i2.below hA; have I3 : Hid (IsI (w4.alloc (.cells #[.bool lx, .slice a2 n2 d2, .slice a2' n2' d2', .slice a2'' n2'' d2''] 25)) a2'' d2'' cx) := i3.below hA; replace HB := Below.tr (Below.tr HB hb) hA; have bM := box4_new w4 (.bool lx) (.slice a2 n2 d2) (.slice a2' n2' d2') (.slice a2'' n2'' d2'') 25 rfl; clear q0 q1 q2 q3; clear e1 e2 e3 i1 i2 i3 hb hA hX)
            | (go_at_call 12; refine (alive07_any _).mono ?_; rintro y w6 ⟨rfl, hb⟩; replace HB := Below.tr HB hb; replace bM := bM.below hb; replace I1 : Hid (IsS w6 a2 d2 kx) := I1.out.below hb; replace I2 : Hid (IsS w6 a2' d2' vx) := I2.out.below hb; replace I3 : Hid (IsI w6 a2'' d2'' cx) := I3.out.below hb; obtain ⟨⟨p0, p1, p2, p3⟩, -⟩ := id bM; clear hb)
            | (go_at_call 17; refine (cL0 _ a2 d2 n2 a2' d2' n2' a2'' d2'' n2'' E1.out E2.out E3.out I1.out I2.out I3.out).mono ?_; rintro y w7 ⟨rfl, hb⟩; replace HB := Below.tr HB hb; clear hb))
          go_ret
          exact ⟨rfl, HB⟩
  | false =>
    have e1 : nPutS l xs ys zs = ⟨#[]⟩ := by unfold nPutS; rw [if_neg (by rw [hr]; decide)]
    have e2 : nPutE l xs ys zs = 1 := by unfold nPutE; rw [if_neg (by rw [hr]; decide)]
    rw [e1, e2] at cP
    clear e1 e2 cL
    cases hR : nodeR kind S with
    | inr x =>
      obtain ⟨o1, o2, -, -⟩ := node_once hR
      obtain ⟨g1, g2⟩ := g_inr hR
      rw [g1, g2] at cG2
      obtain ⟨lx, kx, vx, cx⟩ := x
      simp only at o1 o2 cG2
      have f1 : nPutS lx kx vx cx = S := by unfold nPutS; rw [if_pos o1, o2]
      have f2 : nPutE lx kx vx cx = 0 := by unfold nPutE; rw [if_pos o1]
      have cP3 := fun V a d n a' d' n' a'' d'' n'' => cP2 V lx a d n a' d' n' a'' d'' n'' kx vx cx
      have cR3 := fun V a d n a' d' n' a'' d'' n'' => cR2 V lx a d n a' d' n' a'' d'' n'' kx vx cx
      rw [f1, f2] at cP3
      rw [o1] at cR3
      clear cP2 cR2 cL0 o1 o2 hR f1 f2 g1 g2
      clear hn hxs hmin hn' hys hmin' hn'' hzs hmin'' hK hV hC hm hm' hm'' IX IY IZ g1 g1' g1'' g2 g2' g2'' g3 g3' g3'' hk hmn hSs hs hkind hr hV0 hV2 hB0
      subst hS
      obtain ⟨⟨q0, q1, q2, q3⟩, -⟩ := id hX0
      obtain ⟨⟨q01, q11, q21, q31⟩, f01, f11, f21, f31⟩ := id hX1
      go_enter Try.func7, Try.ntmps7
      go_wp2
      rw [← hW]
      clear hW
      refine region_worlds (by kernel_rfl) [1, 7] (backV (.agg #[.bool l, .slice a n c, .slice a' n' c', .slice a'' n'' c'']) (.agg #[.bool l, .slice a m c, .slice a' m' c', .slice a'' m'' c'']) s (s.extract 0 k) k) (worlds3 V0 V1 V2) (by kernel_rfl) (by kernel_rfl) HV0.out.symm ?step 9 rfl ?done
      case step =>
        intro i o ho kk a2 hkk hmay hdf hsz hdep hsame
        match i, ho with
        | 0, ho =>
          cases ho
          have h3 := (hsame 3 rfl)
          match kk, hkk, hmay with
          | 0, _, hq => first | (cases hq; done) | (exact val_op rfl (wanted_free rfl) (by clear hdep hsame hsz hdf; (try simp only [backV, worlds3]); go_simp) rfl rfl)
          | 1, _, hq => first | (cases hq; done) | (exact val_op rfl (wanted_free rfl) (by clear hdep hsame hsz hdf; (try simp only [backV, worlds3]); go_simp) rfl rfl)
          | 2, _, hq => first | (cases hq; done) | (exact val_op rfl (wanted_free rfl) (by clear hdep hsame hsz hdf; (try simp only [backV, worlds3]); go_simp) rfl rfl)
          | kk + 3, hkk, _ => simp at hkk
        | 1, ho =>
          cases ho
          have h16 := (hdep 0 _ 16 rfl rfl rfl)
          simp only [backV] at h16
          match kk, hkk, hmay with
          | 0, _, _ => exact val_call rfl (wanted_free rfl) (by clear hdep hsame hsz hdf; (try simp only [worlds3]); go_simp) (hcall1.mono fun e w hh => ⟨hh.1, hh.2⟩)
          | 1, _, hq => cases hq
          | 2, _, hq => cases hq
          | kk + 3, hkk, _ => simp at hkk
        | 2, ho =>
          cases ho
          have h2 := (hsame 2 rfl)
          exact val_op rfl (wanted_free rfl) (by clear hdep hsame hsz hdf; (try simp only [backV, worlds3]); go_simp) rfl rfl
        | 3, ho =>
          cases ho
          have h2 := (hsame 2 rfl)
          exact val_op rfl (wanted_free rfl) (by clear hdep hsame hsz hdf; (try simp only [backV, worlds3]); go_simp) rfl rfl
        | 4, ho =>
          cases ho
          have h19 := (hdep 3 _ 19 rfl rfl rfl)
          simp only [backV] at h19
          exact val_op rfl (wanted_free rfl) (by clear hdep hsame hsz hdf; (try simp only [backV, worlds3]); go_simp) rfl rfl
        | 5, ho =>
          cases ho
          have h20 := (hdep 4 _ 20 rfl rfl rfl)
          simp only [backV] at h20
          exact val_op rfl (wanted_free rfl) (by clear hdep hsame hsz hdf; (try simp only [backV, worlds3]); go_simp) rfl rfl
        | 6, ho =>
          cases ho
          have h18 := (hdep 2 _ 18 rfl rfl rfl)
          have h21 := (hdep 5 _ 21 rfl rfl rfl)
          simp only [backV] at h18 h21
          match kk, hkk, hmay with
          | 0, _, hq => first | (cases hq; done) | (exact val_op rfl (wanted_free rfl) (by clear hdep hsame hsz hdf; (try simp only [backV, worlds3]); go_simp) rfl rfl)
          | 1, _, hq => first | (cases hq; done) | (exact val_op rfl (wanted_free rfl) (by clear hdep hsame hsz hdf; (try simp only [backV, worlds3]); go_simp) rfl rfl)
          | 2, _, hq => first | (cases hq; done) | (exact val_op rfl (wanted_free rfl) (by clear hdep hsame hsz hdf; (try simp only [backV, worlds3]); go_simp) rfl rfl)
          | kk + 3, hkk, _ => simp at hkk
        | 7, ho =>
          cases ho
          have h3 := (hsame 3 rfl)
          have h17 := (hdep 1 _ 17 rfl rfl rfl)
          simp only [backV] at h17
          match kk, hkk, hmay with
          | 0, _, hq => cases hq
          | 1, _, _ => exact val_skip rfl (wanted_free rfl) rfl (by clear hdep hsame hsz hdf; simp only [worlds3]; go_simp; try exact hst2.out) rfl
          | 2, _, hq => cases hq
          | kk + 3, hkk, _ => simp at hkk
        | 8, ho =>
          cases ho
          have h22 := (hdep 6 _ 22 rfl rfl rfl)
          simp only [backV] at h22
          exact val_op rfl (wanted_free rfl) (by clear hdep hsame hsz hdf; (try simp only [backV, worlds3]); go_simp) rfl rfl
        | kk + 9, ho => simp at ho
      case done =>
        simp [filledN, backV, worlds3]
        clear q0 q1 q2 q3 q01 q11 q21 q31 f01 f11 f21 f31 hX0 hX1 hcall1 hB1 hst2 HV0 hmr hks
        generalize s.extract 0 k = S at *
        obtain ⟨⟨q0, q1, q2, q3⟩, -⟩ := id hX
        have tokP : True := trivial
        have tokG : True := trivial
        have tokL : True := trivial
        go_wp2_with (first
          | (go_at_call 10; have _t := tokP; refine (cP _ HB).mono ?_; rintro e w1 ⟨rfl, hb⟩; replace HB := Below.tr HB hb; replace hX := hX.below hb; clear q0 q1 q2 q3; obtain ⟨⟨q0, q1, q2, q3⟩, -⟩ := id hX; clear hb tokP _t)
          | (go_at_call 15; refine (cG2 _).mono ?_; rintro y w4 ⟨n2, a2, d2, n2', a2', d2', n2'', a2'', d2'', rfl, e1, e2, e3, i1, i2, i3, -, -, -, hb⟩; have E1 : Hid (n2 = kx.length) := e1; have E2 : Hid (n2' = vx.length) := e2; have E3 : Hid (n2'' = cx.length) := e3; have hA := (Below.refl w4.heap.size w4).alloc (Nat.le_refl _) (.cells #[.bool lx, .slice a2 n2 d2, .slice a2' n2' d2', .slice a2'' n2'' d2''] 25); have I1 : Hid (IsS (w4.alloc (.cells #[.bool lx, .slice a2 n2 d2, .slice a2' n2' d2', .slice a2'' n2'' d2''] 25)) a2 d2 kx) := i1.below hA; have I2 : Hid (IsS (w4.alloc (.cells #[.bool lx, .slice a2 n2 d2, .slice a2' n2' d2', .slice a2'' n2'' d2''] 25)) a2' d2' vx) := i2.below hA; have I3 : Hid (IsI (w4.alloc (.cells #[.bool lx, .slice a2 n2 d2, .slice a2' n2' d2', .slice a2'' n2'' d2''] 25)) a2'' d2'' cx) := i3.below hA; replace HB := Below.tr (Below.tr HB hb) hA; have bM := box4_new w4 (.bool lx) (.slice a2 n2 d2) (.slice a2' n2' d2') (.slice a2'' n2'' d2'') 25 rfl; clear q0 q1 q2 q3; clear e1 e2 e3 i1 i2 i3 hb hA hX)
          | (go_at_call 10; refine (cP3 _ a2 d2 n2 a2' d2' n2' a2'' d2'' n2'' E1.out E2.out E3.out I1.out I2.out I3.out).mono ?_; rintro y w5 ⟨rfl, hb⟩; replace HB := Below.tr HB hb; replace bM := bM.below hb; replace I1 : Hid (IsS w5 a2 d2 kx) := I1.out.below hb; replace I2 : Hid (IsS w5 a2' d2' vx) := I2.out.below hb; replace I3 : Hid (IsI w5 a2'' d2'' cx) := I3.out.below hb; obtain ⟨⟨q0, q1, q2, q3⟩, -⟩ := id bM; clear hb)
          | (go_at_call 12; refine (alive07_any _).mono ?_; rintro y w6 ⟨rfl, hb⟩; replace HB := Below.tr HB hb; replace bM := bM.below hb; replace I1 : Hid (IsS w6 a2 d2 kx) := I1.out.below hb; replace I2 : Hid (IsS w6 a2' d2' vx) := I2.out.below hb; replace I3 : Hid (IsI w6 a2'' d2'' cx) := I3.out.below hb; obtain ⟨⟨p0, p1, p2, p3⟩, -⟩ := id bM; clear hb)
          | (go_at_call 13; refine (cR3 _ a2 d2 n2 a2' d2' n2' a2'' d2'' n2'' E1.out E2.out E3.out I1.out I2.out I3.out).mono ?_; rintro y w7 ⟨rfl, hb⟩; replace HB := Below.tr HB hb; clear hb))
        go_ret
        exact ⟨rfl, HB⟩
    | inl e =>
      have he : (e != 0) = true := by simpa using nodeR_ne hR
      obtain ⟨g1, g2⟩ := g_inl hR
      rw [g1, g2] at cG2
      obtain ⟨lx, kx, vx, cx, cG2, cL0⟩ : ∃ (lx : Bool) (kx vx : List ByteArray) (cx : List Int), (∀ V, Calls Try.prog 15 #[.int .i64 kind, .string S] V fun x w' => Answers V x w' lx kx vx cx e) ∧ ∀ V a d n a' d' n' a'' d'' n'', n = kx.length → n' = vx.length → n'' = cx.length → IsS V a d kx → IsS V a' d' vx → IsI V a'' d'' cx → Calls Try.prog 17 #[.agg #[.bool lx, .slice a n d, .slice a' n' d', .slice a'' n'' d''], .agg #[.bool false, .slice none 0 0, .slice none 0 0, .slice none 0 0]] V fun e w' => e = .returned (.bool true) ∧ Below V.heap.size V w' := ⟨false, [], [], [], cG2, cL0⟩
      clear cP2 cR2 hR g1 g2
      clear hn hxs hmin hn' hys hmin' hn'' hzs hmin'' hK hV hC hm hm' hm'' IX IY IZ g1 g1' g1'' g2 g2' g2'' g3 g3' g3'' hk hmn hSs hs hkind hr hV0 hV2 hB0
      subst hS
      obtain ⟨⟨q0, q1, q2, q3⟩, -⟩ := id hX0
      obtain ⟨⟨q01, q11, q21, q31⟩, f01, f11, f21, f31⟩ := id hX1
      go_enter Try.func7, Try.ntmps7
      go_wp2
      rw [← hW]
      clear hW
      refine region_worlds (by kernel_rfl) [1, 7] (backV (.agg #[.bool l, .slice a n c, .slice a' n' c', .slice a'' n'' c'']) (.agg #[.bool l, .slice a m c, .slice a' m' c', .slice a'' m'' c'']) s (s.extract 0 k) k) (worlds3 V0 V1 V2) (by kernel_rfl) (by kernel_rfl) HV0.out.symm ?step 9 rfl ?done
      case step =>
        intro i o ho kk a2 hkk hmay hdf hsz hdep hsame
        match i, ho with
        | 0, ho =>
          cases ho
          have h3 := (hsame 3 rfl)
          match kk, hkk, hmay with
          | 0, _, hq => first | (cases hq; done) | (exact val_op rfl (wanted_free rfl) (by clear hdep hsame hsz hdf; (try simp only [backV, worlds3]); go_simp) rfl rfl)
          | 1, _, hq => first | (cases hq; done) | (exact val_op rfl (wanted_free rfl) (by clear hdep hsame hsz hdf; (try simp only [backV, worlds3]); go_simp) rfl rfl)
          | 2, _, hq => first | (cases hq; done) | (exact val_op rfl (wanted_free rfl) (by clear hdep hsame hsz hdf; (try simp only [backV, worlds3]); go_simp) rfl rfl)
          | kk + 3, hkk, _ => simp at hkk
        | 1, ho =>
          cases ho
          have h16 := (hdep 0 _ 16 rfl rfl rfl)
          simp only [backV] at h16
          match kk, hkk, hmay with
          | 0, _, _ => exact val_call rfl (wanted_free rfl) (by clear hdep hsame hsz hdf; (try simp only [worlds3]); go_simp) (hcall1.mono fun e w hh => ⟨hh.1, hh.2⟩)
          | 1, _, hq => cases hq
          | 2, _, hq => cases hq
          | kk + 3, hkk, _ => simp at hkk
        | 2, ho =>
          cases ho
          have h2 := (hsame 2 rfl)
          exact val_op rfl (wanted_free rfl) (by clear hdep hsame hsz hdf; (try simp only [backV, worlds3]); go_simp) rfl rfl
        | 3, ho =>
          cases ho
          have h2 := (hsame 2 rfl)
          exact val_op rfl (wanted_free rfl) (by clear hdep hsame hsz hdf; (try simp only [backV, worlds3]); go_simp) rfl rfl
        | 4, ho =>
          cases ho
          have h19 := (hdep 3 _ 19 rfl rfl rfl)
          simp only [backV] at h19
          exact val_op rfl (wanted_free rfl) (by clear hdep hsame hsz hdf; (try simp only [backV, worlds3]); go_simp) rfl rfl
        | 5, ho =>
          cases ho
          have h20 := (hdep 4 _ 20 rfl rfl rfl)
          simp only [backV] at h20
          exact val_op rfl (wanted_free rfl) (by clear hdep hsame hsz hdf; (try simp only [backV, worlds3]); go_simp) rfl rfl
        | 6, ho =>
          cases ho
          have h18 := (hdep 2 _ 18 rfl rfl rfl)
          have h21 := (hdep 5 _ 21 rfl rfl rfl)
          simp only [backV] at h18 h21
          match kk, hkk, hmay with
          | 0, _, hq => first | (cases hq; done) | (exact val_op rfl (wanted_free rfl) (by clear hdep hsame hsz hdf; (try simp only [backV, worlds3]); go_simp) rfl rfl)
          | 1, _, hq => first | (cases hq; done) | (exact val_op rfl (wanted_free rfl) (by clear hdep hsame hsz hdf; (try simp only [backV, worlds3]); go_simp) rfl rfl)
          | 2, _, hq => first | (cases hq; done) | (exact val_op rfl (wanted_free rfl) (by clear hdep hsame hsz hdf; (try simp only [backV, worlds3]); go_simp) rfl rfl)
          | kk + 3, hkk, _ => simp at hkk
        | 7, ho =>
          cases ho
          have h3 := (hsame 3 rfl)
          have h17 := (hdep 1 _ 17 rfl rfl rfl)
          simp only [backV] at h17
          match kk, hkk, hmay with
          | 0, _, hq => cases hq
          | 1, _, _ => exact val_skip rfl (wanted_free rfl) rfl (by clear hdep hsame hsz hdf; simp only [worlds3]; go_simp; try exact hst2.out) rfl
          | 2, _, hq => cases hq
          | kk + 3, hkk, _ => simp at hkk
        | 8, ho =>
          cases ho
          have h22 := (hdep 6 _ 22 rfl rfl rfl)
          simp only [backV] at h22
          exact val_op rfl (wanted_free rfl) (by clear hdep hsame hsz hdf; (try simp only [backV, worlds3]); go_simp) rfl rfl
        | kk + 9, ho => simp at ho
      case done =>
        simp [filledN, backV, worlds3]
        clear q0 q1 q2 q3 q01 q11 q21 q31 f01 f11 f21 f31 hX0 hX1 hcall1 hB1 hst2 HV0 hmr hks
        generalize s.extract 0 k = S at *
        obtain ⟨⟨q0, q1, q2, q3⟩, -⟩ := id hX
        have tokP : True := trivial
        have tokG : True := trivial
        have tokL : True := trivial
        go_wp2_with (first
          | (go_at_call 10; have _t := tokP; refine (cP _ HB).mono ?_; rintro e w1 ⟨rfl, hb⟩; replace HB := Below.tr HB hb; replace hX := hX.below hb; clear q0 q1 q2 q3; obtain ⟨⟨q0, q1, q2, q3⟩, -⟩ := id hX; clear hb tokP _t)
          | (go_at_call 15; refine (cG2 _).mono ?_; rintro y w4 ⟨n2, a2, d2, n2', a2', d2', n2'', a2'', d2'', rfl, e1, e2, e3, i1, i2, i3, -, -, -, hb⟩; have E1 : Hid (n2 = kx.length) := e1; have E2 : Hid (n2' = vx.length) := e2; have E3 : Hid (n2'' = cx.length) := e3; have hA := (Below.refl w4.heap.size w4).alloc (Nat.le_refl _) (.cells #[.bool lx, .slice a2 n2 d2, .slice a2' n2' d2', .slice a2'' n2'' d2''] 25); have I1 : Hid (IsS (w4.alloc (.cells #[.bool lx, .slice a2 n2 d2, .slice a2' n2' d2', .slice a2'' n2'' d2''] 25)) a2 d2 kx) := i1.below hA; have I2 : Hid (IsS (w4.alloc (.cells #[.bool lx, .slice a2 n2 d2, .slice a2' n2' d2', .slice a2'' n2'' d2''] 25)) a2' d2' vx) := i2.below hA; have I3 : Hid (IsI (w4.alloc (.cells #[.bool lx, .slice a2 n2 d2, .slice a2' n2' d2', .slice a2'' n2'' d2''] 25)) a2'' d2'' cx) := i3.below hA; replace HB := Below.tr (Below.tr HB hb) hA; have bM := box4_new w4 (.bool lx) (.slice a2 n2 d2) (.slice a2' n2' d2') (.slice a2'' n2'' d2'') 25 rfl; clear q0 q1 q2 q3; clear e1 e2 e3 i1 i2 i3 hb hA hX)
          | (go_at_call 12; refine (alive07_any _).mono ?_; rintro y w6 ⟨rfl, hb⟩; replace HB := Below.tr HB hb; replace bM := bM.below hb; replace I1 : Hid (IsS w6 a2 d2 kx) := I1.out.below hb; replace I2 : Hid (IsS w6 a2' d2' vx) := I2.out.below hb; replace I3 : Hid (IsI w6 a2'' d2'' cx) := I3.out.below hb; obtain ⟨⟨p0, p1, p2, p3⟩, -⟩ := id bM; clear hb)
          | (go_at_call 17; refine (cL0 _ a2 d2 n2 a2' d2' n2' a2'' d2'' n2'' E1.out E2.out E3.out I1.out I2.out I3.out).mono ?_; rintro y w7 ⟨rfl, hb⟩; replace HB := Below.tr HB hb; clear hb))
        go_ret
        exact ⟨rfl, HB⟩

end Go.Proofs.Ytmhnnfmggdohkaa
