/-
  The walk through the statement NodeReads.
-/
import Derived.Test.YtmhnnfmggdohkaaNodePut
import Derived.Test.YtmhnnfmggdohkaaNodeRefGetI
import Derived.Test.YtmhnnfmggdohkaaNodeLike
namespace Go.Proofs.Ytmhnnfmggdohkaa
open Go.RowKit Plain Anylast
set_option linter.unusedVariables false

set_option maxRecDepth 20000 in
set_option maxHeartbeats 4000000 in
theorem nodeReads_walk (kind : Int) (s : ByteArray) (w : World) (hkind : (Lit.int .i64 kind).wf = true) (hs : s.size ≤ maxLen) :
    Calls Try.prog 4 #[.int .i64 kind, .string s] w fun e w' => e = .returned (.bool true) ∧ Below w.heap.size w w' := by
  obtain ⟨k, hk⟩ : ∃ k : Nat, k = min s.size 5000 := ⟨_, rfl⟩
  have hks : k ≤ s.size := by omega
  have hmn : min (s.size : Int) 5000 = (k : Int) := by omega
  have hmr := min_run hmn
  obtain ⟨S, hS⟩ : ∃ S, S = s.extract 0 k := ⟨_, rfl⟩
  have hSs : S.size ≤ maxLen := by rw [hS, ByteArray.size_extract]; omega
  have c1 := fun V => nodeGet_any kind S V hSs
  have c2 := fun V => refNodeGet_any kind S V hSs
  generalize (gN kind S).1 = l at c1 c2
  generalize (gN kind S).2.1 = ks at c1 c2
  generalize (gN kind S).2.2.1 = vs at c1 c2
  generalize (gN kind S).2.2.2 = cs at c1 c2
  generalize gE kind S = E at c1 c2
  have cL : ∀ V a d n a' d' n' a'' d'' n'' a1 d1 n1 a1' d1' n1' a1'' d1'' n1'', n = ks.length → n' = vs.length → n'' = cs.length → IsS V a d ks → IsS V a' d' vs → IsI V a'' d'' cs → n1 = ks.length → n1' = vs.length → n1'' = cs.length → IsS V a1 d1 ks → IsS V a1' d1' vs → IsI V a1'' d1'' cs → Calls Try.prog 17 #[.agg #[.bool l, .slice a n d, .slice a' n' d', .slice a'' n'' d''], .agg #[.bool l, .slice a1 n1 d1, .slice a1' n1' d1', .slice a1'' n1'' d1'']] V fun e w' => e = .returned (.bool true) ∧ Below V.heap.size V w' := fun V a d n a' d' n' a'' d'' n'' a1 d1 n1 a1' d1' n1' a1'' d1'' n1'' h1 h2 h3 i1 i2 i3 h4 h5 h6 i4 i5 i6 => by
    have := refLike_any l a a' a'' d d' d'' n n' n'' ks vs cs l a1 a1' a1'' d1 d1' d1'' n1 n1' n1'' ks vs cs V h1 h2 h3 i1 i2 i3 h4 h5 h6 i4 i5 i6
    rw [likeN_iff.2 ⟨rfl, rfl, rfl, rfl⟩] at this
    exact this
  have hm : s.size ≤ 9223372036854775807 := hs
  have HB := Below.refl w.heap.size w
  have e0 : (E == E) = true := by simp
  clear hk hmn hSs hs hkind
  subst hS
  go_enter Try.func4, Try.ntmps4
  go_wp2_with (first
    | (go_at_call 15; refine (c1 _).mono ?_; rintro y w1 ⟨n, a, d, n', a', d', n'', a'', d'', rfl, e1, e2, e3, i1, i2, i3, -, -, -, hb⟩; have E1 : Hid (n = ks.length) := e1; have E2 : Hid (n' = vs.length) := e2; have E3 : Hid (n'' = cs.length) := e3; have hA := (Below.refl w1.heap.size w1).alloc (Nat.le_refl _) (.cells #[.bool l, .slice a n d, .slice a' n' d', .slice a'' n'' d''] 25); have bM := box4_new w1 (.bool l) (.slice a n d) (.slice a' n' d') (.slice a'' n'' d'') 25 rfl; have I1 : Hid (IsS (w1.alloc (.cells #[.bool l, .slice a n d, .slice a' n' d', .slice a'' n'' d''] 25)) a d ks) := i1.below hA; have I2 : Hid (IsS (w1.alloc (.cells #[.bool l, .slice a n d, .slice a' n' d', .slice a'' n'' d''] 25)) a' d' vs) := i2.below hA; have I3 : Hid (IsI (w1.alloc (.cells #[.bool l, .slice a n d, .slice a' n' d', .slice a'' n'' d''] 25)) a'' d'' cs) := i3.below hA; replace HB := Below.tr (Below.tr HB hb) hA; clear e1 e2 e3 i1 i2 i3 hb hA)
    | (go_at_call 16; refine (c2 _).mono ?_; rintro y w2 ⟨m, b, f, m', b', f', m'', b'', f'', rfl, e1, e2, e3, i1, i2, i3, -, -, -, hb⟩; have F1 : Hid (m = ks.length) := e1; have F2 : Hid (m' = vs.length) := e2; have F3 : Hid (m'' = cs.length) := e3; have hA := (Below.refl w2.heap.size w2).alloc (Nat.le_refl _) (.cells #[.bool l, .slice b m f, .slice b' m' f', .slice b'' m'' f''] 25); replace bM := (bM.below hb).below hA; have bN := box4_new w2 (.bool l) (.slice b m f) (.slice b' m' f') (.slice b'' m'' f'') 25 rfl; replace I1 : Hid (IsS (w2.alloc (.cells #[.bool l, .slice b m f, .slice b' m' f', .slice b'' m'' f''] 25)) a d ks) := (I1.out.below hb).below hA; replace I2 : Hid (IsS (w2.alloc (.cells #[.bool l, .slice b m f, .slice b' m' f', .slice b'' m'' f''] 25)) a' d' vs) := (I2.out.below hb).below hA; replace I3 : Hid (IsI (w2.alloc (.cells #[.bool l, .slice b m f, .slice b' m' f', .slice b'' m'' f''] 25)) a'' d'' cs) := (I3.out.below hb).below hA; have J1 : Hid (IsS (w2.alloc (.cells #[.bool l, .slice b m f, .slice b' m' f', .slice b'' m'' f''] 25)) b f ks) := i1.below hA; have J2 : Hid (IsS (w2.alloc (.cells #[.bool l, .slice b m f, .slice b' m' f', .slice b'' m'' f''] 25)) b' f' vs) := i2.below hA; have J3 : Hid (IsI (w2.alloc (.cells #[.bool l, .slice b m f, .slice b' m' f', .slice b'' m'' f''] 25)) b'' f'' cs) := i3.below hA; replace HB := Below.tr (Below.tr HB hb) hA; clear e1 e2 e3 i1 i2 i3 hb hA)
    | (go_at_call 12; refine (alive07_any _).mono ?_; rintro y w3 ⟨rfl, hb⟩; replace HB := Below.tr HB hb; replace bM := bM.below hb; replace bN := bN.below hb; replace I1 : Hid (IsS w3 a d ks) := I1.out.below hb; replace I2 : Hid (IsS w3 a' d' vs) := I2.out.below hb; replace I3 : Hid (IsI w3 a'' d'' cs) := I3.out.below hb; replace J1 : Hid (IsS w3 b f ks) := J1.out.below hb; replace J2 : Hid (IsS w3 b' f' vs) := J2.out.below hb; replace J3 : Hid (IsI w3 b'' f'' cs) := J3.out.below hb; obtain ⟨⟨p0, p1, p2, p3⟩, -⟩ := id bM; obtain ⟨⟨q0, q1, q2, q3⟩, -⟩ := id bN; clear hb)
    | (go_at_call 17; refine (cL _ a d n a' d' n' a'' d'' n'' b f m b' f' m' b'' f'' m'' E1.out E2.out E3.out I1.out I2.out I3.out F1.out F2.out F3.out J1.out J2.out J3.out).mono ?_; rintro y w4 ⟨rfl, hb⟩; replace HB := Below.tr HB hb; clear hb))
  go_ret
  exact ⟨rfl, HB⟩

end Go.Proofs.Ytmhnnfmggdohkaa
