/-
  Texts laid together: GrowIn.
-/
import Derived.Test.YtaecfbfcjaailaaGreatBaF
namespace Go.Proofs.YtaecfbfcjaailaaGreat
open Go.RowKit Plain
set_option linter.unusedVariables false
def WoodL (V : World) (a : Option Addr) (n c : Nat) (a' : Option Addr) (n' c' : Nat) (b : Option Addr) (p f : Nat) (G : WoodS) : Prop :=
 n = G.base.length ∧ n' = G.now.length ∧ p = G.pages.length ∧ IsB V a c G.base ∧ IsB V a' c' G.now ∧ IsS V b f G.pages
section
variable {V V' : World} {a : Option Addr} {n c : Nat} {a' : Option Addr} {n' c' : Nat} {b : Option Addr} {p f : Nat} {G : WoodS}
theorem WoodL.below (x : WoodL V a n c a' n' c' b p f G) (hb : Below V.heap.size V V') : WoodL V' a n c a' n' c' b p f G :=
 ⟨x.1, x.2.1, x.2.2.1, x.2.2.2.1.below hb, x.2.2.2.2.1.below hb, x.2.2.2.2.2.below hb⟩
theorem WoodL.small (x : WoodL V a n c a' n' c' b p f G) : Calls Tryz.prog 9 #[.agg #[.slice a n c, .slice a' n' c', .slice b p f, .int .i64 G.root, .int .i64 G.gen]] V fun e w' => e = .returned (.bool (decide (n' ≤ 300) && decide (p ≤ 300))) ∧ Below V.heap.size V w' :=
 small09_any a a' b n c n' c' p f G.root G.gen V (by rw [x.2.1]; exact Nat.le_trans x.2.2.2.2.1.1 x.2.2.2.2.1.2.1) (by rw [x.2.2.1]; exact Nat.le_trans x.2.2.2.2.2.1 x.2.2.2.2.2.2.1)
theorem WoodL.right (x : WoodL V a n c a' n' c' b p f G) : Calls Tryz.prog 12 #[.agg #[.slice a n c, .slice a' n' c', .slice b p f, .int .i64 G.root, .int .i64 G.gen]] V fun e w' => e = .returned (.bool G.right) ∧ Below V.heap.size V w' :=
 refRightW_any a a' b n c n' c' p f G.base G.now G.pages G.root G.gen V x.1 x.2.1 x.2.2.1 x.2.2.2.1 x.2.2.2.2.1 x.2.2.2.2.2
def TreeC (V : World) (y : Ending) (w' : World) (t : TreeS) : Prop :=
 ∃ q d r k, y = .returned (.pointer (some ⟨V.heap.size + 1, 0, none⟩)) ∧ Box4 w' (V.heap.size + 1) (.slice q t.pairs.length d) (.slice r t.blocks.length k) (.int .i64 t.height) (.bool t.bad) ∧ (IsQ w' q d t.pairs ∧ IsI w' r k t.blocks) ∧ Below V.heap.size V w'
theorem WoodL.tree (x : WoodL V a n c a' n' c' b p f G) : Calls Tryz.prog 15 #[.agg #[.slice a n c, .slice a' n' c', .slice b p f, .int .i64 G.root, .int .i64 G.gen]] V fun y w' => TreeC V y w' G.tree := by
 refine (tree_any a a' b n c n' c' p f G.now G.pages G.root G.gen V x.2.1 x.2.2.1 x.2.2.2.2.1 x.2.2.2.2.2).mono ?_
 rintro y w' ⟨u1, u2, rfl, T, hb⟩
 obtain ⟨q, d, rfl, hQ, -⟩ := owned_isQ T.r1 rfl tree_sized
 obtain ⟨r, k, rfl, hI⟩ : ∃ r k, u2 = .slice r (treeS G.now G.pages G.root G.gen).blocks.length k ∧ IsI w' r k (treeS G.now G.pages G.root G.gen).blocks := by
  rcases T.r2.2 with ⟨e, hz⟩ | ⟨g, cap, cur, e, hg, hcur, hnc, hcm, hsz, htk⟩
  ·
   refine ⟨none, 0, ?_, ?_⟩
   ·
    rw [hz]; exact e
   ·
    rw [List.length_eq_zero_iff.1 hz]; exact isI_nil _
  ·
   refine ⟨some ⟨g, 0, none⟩, cap, e, hnc, hcm, fun j z hz => ⟨g, 0, rfl, (T.r2.lt g (by rw [e]; rfl)).2, ?_⟩⟩
   have := T.r2.cells (g := g) (by rw [e]; rfl) j (.int .i64 z) (by simp [hz])
   rw [at_add] at this
   exact this
 exact ⟨q, d, r, k, rfl, T.box, ⟨hQ, hI⟩, hb⟩
theorem WoodL.get (x : WoodL V a n c a' n' c' b p f G) (key : ByteArray) (hkey : key.size ≤ maxLen) : Calls Tryz.prog 20 #[.agg #[.slice a n c, .slice a' n' c', .slice b p f, .int .i64 G.root, .int .i64 G.gen], .string key] V fun x w' => ∃ v e, x = .returned (.tuple #[.string v, .int .i64 e]) ∧ GetC G.right key G.tree v e ∧ Below V.heap.size V w' :=
 lookGet_any a a' b n c n' c' p f G.base G.now G.pages G.root G.gen key V x.1 x.2.1 x.2.2.1 x.2.2.2.1 x.2.2.2.2.1 x.2.2.2.2.2 hkey
def getT (P : List (ByteArray × ByteArray)) (key : ByteArray) : ByteArray × Int := if 1 ≤ key.size ∧ key.size ≤ 32 then getP P key else (⟨#[]⟩, 1)
theorem WoodL.getTree (x : WoodL V a n c a' n' c' b p f G) (key : ByteArray) (hkey : key.size ≤ maxLen) (hr : G.right = true) (hb : G.tree.bad = false) : Calls Tryz.prog 20 #[.agg #[.slice a n c, .slice a' n' c', .slice b p f, .int .i64 G.root, .int .i64 G.gen], .string key] V fun x w' => x = .returned (.tuple #[.string (getT G.tree.pairs key).1, .int .i64 (getT G.tree.pairs key).2]) ∧ Below V.heap.size V w' := by
 refine (x.get key hkey).mono ?_
 rintro y w' ⟨v, e, rfl, hg, hbel⟩
 unfold GetC at hg
 unfold getT
 by_cases hk : 1 ≤ key.size ∧ key.size ≤ 32
 ·
  rw [if_pos ⟨hr, hk⟩, if_neg (by rw [hb]; decide)] at hg
  rw [if_pos hk, ← hg]
  exact ⟨rfl, hbel⟩
 ·
  rw [if_neg (fun h => hk h.2)] at hg
  rw [if_neg hk, hg.1, hg.2]
  exact ⟨rfl, hbel⟩
def PutC (w : World) (e : Ending) (w' : World) (R : Int × WoodS) : Prop :=
 ∃ b1 m1 c1 b2 m2 c2 b3 m3 c3, e = .returned (.tuple #[.agg #[.slice b1 m1 c1, .slice b2 m2 c2, .slice b3 m3 c3, .int .i64 R.2.root, .int .i64 R.2.gen], .int .i64 R.1]) ∧ WoodL w' b1 m1 c1 b2 m2 c2 b3 m3 c3 R.2 ∧ Below w.heap.size w w'
theorem AllC.letters {w w' : World} {e : Ending} {R : Int × WoodS} (h : AllC w e w' R) : PutC w e w' R := by
 obtain ⟨a1, c1, a2, c2, b3, c3, rfl, ⟨i1, i2, i3⟩, -, hb⟩ := h
 exact ⟨a1, _, c1, a2, _, c2, b3, _, c3, rfl, ⟨rfl, rfl, rfl, i1, i2, i3⟩, hb⟩
theorem WoodL.put (x : WoodL V a n c a' n' c' b p f G) (key val : ByteArray) (mk : key.size ≤ maxLen) (mv : val.size ≤ maxLen) : Calls Tryz.prog 11 #[.agg #[.slice a n c, .slice a' n' c', .slice b p f, .int .i64 G.root, .int .i64 G.gen], .string key, .string val] V fun e w' => PutC V e w' (allR G [(key, val)]) := by
 obtain ⟨rfl, rfl, rfl, hB, hB', hP⟩ := x
 exact (growPut1_any a a' b c c' f G key val V hB hB' hP mk mv).mono fun e w' h => h.letters
theorem WoodL.all (x : WoodL V a n c a' n' c' b p f G) {d : Option Addr} {k dc : Nat} {ps : List (ByteArray × ByteArray)} (hk : k = ps.length) (hQ : IsQ V d dc ps) : Calls Tryz.prog 21 #[.agg #[.slice a n c, .slice a' n' c', .slice b p f, .int .i64 G.root, .int .i64 G.gen], .slice d k dc] V fun e w' => PutC V e w' (allR G ps) := by
 obtain ⟨rfl, rfl, rfl, hB, hB', hP⟩ := x
 exact (growAll_any a a' b d c c' f k dc G ps V hk hB hB' hP hQ).mono fun e w' h => h.letters
end
theorem treeG_facts {G : WoodS} (hb : G.tree.bad = false) : Rising G.tree.pairs ∧ ∀ q ∈ G.tree.pairs, keyIn q.1 := by
 unfold WoodS.tree treeS at hb ⊢
 split
 ·
  exact ⟨List.Pairwise.nil, fun q hq => by simp [TreeS.none] at hq⟩
 ·
  rename_i hr
  rw [if_neg hr] at hb
  obtain ⟨_, Q, hQ, hp⟩ := below_sub _ 8 TreeS.none G.root ⟨#[]⟩ ⟨#[]⟩ hb
  rw [hp]
  obtain ⟨h1, h2⟩ := sub_rising holds_ing hQ
  exact ⟨h1, fun q hq => (h2 q hq).2⟩
theorem put_answers {G : WoodS} (hr : G.right = true) (hb : G.tree.bad = false) (key val : ByteArray) :
  (isPairB key val = false ∧ allR G [(key, val)] = (1, WoodS.none)) ∨ isPairB key val = true ∧ ((allR G [(key, val)] = (60, WoodS.none) ∧ (G.free : Int) < 2 * G.tree.height + 1) ∨ ∃ G', allR G [(key, val)] = (0, G') ∧ putG G key val = (0, G') ∧ G'.right = true ∧ G'.tree.bad = false ∧ G'.tree.pairs = withP G.tree.pairs key val ∧ KeepsG G G' G.tree.blocks G'.tree.blocks) := by
 rw [allR_one, if_pos hr]
 cases hp : isPairB key val with
 | false =>
  left
  refine ⟨rfl, ?_⟩
  have e : (putG G key val).1 = 1 := by unfold putG; rw [hp]; rfl
  rw [e]
  rfl
 | true =>
  right
  refine ⟨rfl, ?_⟩
  rcases put_tree hr hb hp with ⟨h1, h2⟩ | ⟨G', h1, h2⟩
  ·
   left
   rw [h1]
   exact ⟨rfl, h2⟩
  ·
   right
   refine ⟨G', ?_, h1, h2⟩
   rw [h1]
   rfl
end Go.Proofs.YtaecfbfcjaailaaGreat
