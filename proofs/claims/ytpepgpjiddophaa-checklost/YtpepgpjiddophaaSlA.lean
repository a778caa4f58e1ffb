/-
  Texts laid together: Plain PlainB PlainC PlainE NodePlain LookPlain LookOrder LookFacts NodeCut LookSearch LookWay BitsPlain AllocPlain CheckPlain Core NodeMem Turns Put Mem NodeBuild LookMem Anylast Anychain LookWithin LookTree PlainD SumPlain Shelf Text SumOf SumRef SumSeal SumRefSeal PagePlain RefPut RefText Pad PagePut Get PageGet RefGet PageRefGet NodeReader NodeFew NodeLeaf NodeInner NodeRef.
-/
import Derived.WalkKit
import Derived.Laws.BitsLemmas
import Derived.Lib.Join
import Derived.Lib.Repeat
import Derived.Lib.Strings
import Derived.Test.YtpepgpjiddophaaRows
import Derived.WalkSpells
import Derived.WalkLawsBesides
import Derived.Handy
import Derived.Deep.OwnRows
import Derived.Deep.AppendLies
import Derived.Lib.SmallJoins
import Derived.Lib.SliceRun
import Derived.Orders
import Derived.Below
import Derived.Lib.AppendZeros
import Derived.Laws.BitsAllLaws
import Derived.Shelf.Strings.Builder1
import Derived.Shelf.Strings.Builder2
import Derived.Shelf.Strings.OnBuilder
import Derived.Shelf.Strings.BuilderF
import Derived.Shelf.Strings.Prefix
import Derived.Shelf.Bits.Mul64
import Derived.Shelf.Strings.Repeat
import Derived.Test.YtpepgpjiddophaaProg
import Derived.Deep.RegionHeld3
namespace Go.Proofs.Ytpepgpjiddophaa.Plain
open Go.RowKit
def byteOf (n : Int) (i : Nat) : UInt8 := UInt8.ofNat (n / 2 ^ (8 * i) % 256).toNat
def putL (n : Int) : Nat → List UInt8
 | 0 => []
 | i + 1 => byteOf n i :: putL n i
def cellOf (b : UInt8) : Value := .int .u8 (b.toNat : Int)
theorem pow_succ8 (k : Nat) : (2 : Int) ^ (8 * (k + 1)) = 2 ^ (8 * k) * 256 := by
 rw [Nat.mul_add, Int.pow_add]; rfl
def pw (i : Nat) : Int := 2 ^ (8 * i)
theorem pw_succ (i : Nat) : pw (i + 1) = pw i * 256 := pow_succ8 i
theorem pw_le (i : Nat) (h : i ≤ 6) : pw i ≤ 281474976710656 := by
 match i, h with
 | 0, _ => decide
 | 1, _ => decide
 | 2, _ => decide
 | 3, _ => decide
 | 4, _ => decide
 | 5, _ => decide
 | 6, _ => decide
def getV (s : ByteArray) (p : Nat) : Nat → Int
 | 0 => 0
 | i + 1 => getV s p i * 256 + ((s.data.toList[p + i]?.getD 0).toNat : Int)
theorem getV_bd (s : ByteArray) (p i : Nat) : 0 ≤ getV s p i ∧ getV s p i < pw i := by
 induction i with
 | zero => exact ⟨Int.le_refl _, by show (0 : Int) < 1; decide⟩
 | succ i ih =>
  have hb : (s.data.toList[p + i]?.getD 0).toNat < 256 := UInt8.toNat_lt _
  rw [getV, pw_succ]
  omega
theorem byte_get (s : ByteArray) (j : Nat) (h : j < s.size) : s.data.toList[j]?.getD 0 = s[j] := by
 rw [List.getElem?_eq_getElem (by simpa using h)]
 rfl
theorem getV_succ (s : ByteArray) (p i : Nat) (h : p + i < s.size) : getV s p (i + 1) = getV s p i * 256 + (s[p + i].toNat : Int) := by
 rw [getV, byte_get s _ h]
theorem i64_in (n : Int) (h0 : 0 ≤ n) (h1 : n < 2 ^ 63) : IntKind.i64.wrap n = n := by
 rw [IntKind.wrap_i64]; omega
theorem or_byte (x : Int) (b : UInt8) (h0 : 0 ≤ x) (h1 : x ≤ 281474976710656) : bits .or .i64 (x * 256) (wrap64 (b.toNat : Int)) = x * 256 + (b.toNat : Int) := by
 have hb : b.toNat < 256 := UInt8.toNat_lt b
 have e : wrap64 (b.toNat : Int) = (b.toNat : Int) := by unfold wrap64; omega
 rw [e]
 exact bits_join .i64 63 (by decide) i64_in 8 (x * 256) (b.toNat : Int) (by omega) (by omega) (by omega) (by omega) (by omega) (by omega)
def getE (s : ByteArray) (p k : Int) : Int := if 1 ≤ k ∧ k ≤ 6 ∧ 0 ≤ p ∧ p ≤ s.size then (if (s.size : Int) - p < k then 3 else 0) else 1
def getR (s : ByteArray) (p k : Int) : Int := if getE s p k = 0 then getV s p.toNat k.toNat else 0
def getT (s : ByteArray) (p k : Int) : Int := if getE s p k = 0 then p + k else 0
theorem getE_ok {s : ByteArray} {p k : Int} (h : getE s p k = 0) : 1 ≤ k ∧ k ≤ 6 ∧ 0 ≤ p ∧ p + k ≤ s.size := by
 unfold getE at h
 by_cases h1 : 1 ≤ k ∧ k ≤ 6 ∧ 0 ≤ p ∧ p ≤ s.size
 ·
  rw [if_pos h1] at h
  by_cases h2 : (s.size : Int) - p < k
  ·
   rw [if_pos h2] at h; omega
  ·
   omega
 ·
  rw [if_neg h1] at h; omega
theorem getE_zero {s : ByteArray} {p k : Int} (h : 1 ≤ k ∧ k ≤ 6 ∧ 0 ≤ p ∧ p + k ≤ s.size) : getE s p k = 0 := by
 unfold getE
 rw [if_pos ⟨h.1, h.2.1, h.2.2.1, by omega⟩, if_neg (by omega)]
def cutE (s : ByteArray) (p : Int) : Int := if getE s p 2 = 0 then (if (s.size : Int) - (p + 2) < getV s p.toNat 2 then 3 else 0) else getE s p 2
def cutS (s : ByteArray) (p : Int) : ByteArray := if cutE s p = 0 then s.extract (p + 2).toNat (p + 2 + getV s p.toNat 2).toNat else ⟨#[]⟩
def cutT (s : ByteArray) (p : Int) : Int := if cutE s p = 0 then p + 2 + getV s p.toNat 2 else 0
def cat (ls : List ByteArray) : ByteArray := ⟨(ls.map (·.data.toList)).flatten.toArray⟩
theorem join_flat (ls : List (List UInt8)) : Lib.join ls [] = ls.flatten := by
 cases ls with
 | nil => rfl
 | cons x r =>
  rw [Lib.join_cons, Lib.joinTail]
  simp
theorem repeat_flat (c : Nat) : Lib.repeatL [0] c = List.replicate c 0 := by
 induction c with
 | zero => rfl
 | succ c ih => rw [Lib.repeatL, ih, List.replicate_succ]; rfl
theorem bytes_ext {a b : ByteArray} (h : a.data.toList = b.data.toList) : a = b := by
 cases a; cases b
 simp at h
 simp [h]
theorem size_mk (l : List UInt8) : (⟨l.toArray⟩ : ByteArray).size = l.length := rfl
theorem size_list (a : ByteArray) : a.data.toList.length = a.size := rfl
theorem data_append (a b : ByteArray) : (a ++ b).data.toList = a.data.toList ++ b.data.toList := by
 simp [ByteArray.data_append]
theorem cat_two (a b : ByteArray) : cat [a, b] = a ++ b := by
 apply bytes_ext
 rw [data_append]
 simp [cat]
theorem cat_size (ls : List ByteArray) : (cat ls).size = (ls.map (·.size)).sum := by
 unfold cat
 rw [size_mk, List.length_flatten, List.map_map]
 rfl
theorem cat_append (xs ys : List ByteArray) : cat (xs ++ ys) = cat xs ++ cat ys := by
 apply bytes_ext
 rw [data_append]
 simp [cat]
theorem cat_one (x : ByteArray) : cat [x] = x := by
 apply bytes_ext
 simp [cat]
def zeros (k : Nat) : ByteArray := ⟨(List.replicate k 0).toArray⟩
theorem zeros_size (k : Nat) : (zeros k).size = k := by
 show (List.replicate k (0 : UInt8)).length = k
 simp
def padE (s : ByteArray) (k : Int) : Int := if 0 ≤ k ∧ k ≤ 4096 then (if (s.size : Int) ≤ k then 0 else 2) else 1
def padS (s : ByteArray) (k : Int) : ByteArray := if padE s k = 0 then s ++ zeros (k.toNat - s.size) else ⟨#[]⟩
def trimN (s : ByteArray) : Nat → Nat
 | 0 => 0
 | k + 1 => if s.data.toList[k]?.getD 0 = 0 then trimN s k else k + 1
def trimS (s : ByteArray) : ByteArray := s.extract 0 (trimN s s.size)
theorem trimN_down (s : ByteArray) (k : Nat) (h : k < s.size) (hz : s[k] = 0) : trimN s (k + 1) = trimN s k := by
 rw [trimN, byte_get s k h, if_pos hz]
theorem trimN_stay (s : ByteArray) (k : Nat) (h : k < s.size) (hz : ¬ s[k] = 0) : trimN s (k + 1) = k + 1 := by
 rw [trimN, byte_get s k h, if_neg hz]
theorem trimS_none (s : ByteArray) (h : trimN s s.size = trimN s 0) : trimS s = ByteArray.empty := by
 rw [trimS, h, trimN]
 apply bytes_ext
 simp
theorem extract_data' (s : ByteArray) (i j : Nat) : (s.extract i j).data.toList = (s.data.toList.drop i).take (j - i) := Lib.extract_data s i j
theorem extract_size' (s : ByteArray) (i j : Nat) (h : i ≤ j) (hj : j ≤ s.size) : (s.extract i j).size = j - i := by
 rw [ByteArray.size_extract]; omega
theorem getV_congr (s t : ByteArray) (p q k : Nat) (h : ∀ i, i < k → s.data.toList[p + i]? = t.data.toList[q + i]?) : getV s p k = getV t q k := by
 induction k with
 | zero => rfl
 | succ k ih => rw [getV, getV, ih (fun i hi => h i (by omega)), h k (by omega)]
theorem getV_front (s : ByteArray) (n p k : Nat) (h : p + k ≤ n) : getV (s.extract 0 n) p k = getV s p k := by
 apply getV_congr
 intro i hi
 rw [extract_data', List.drop_zero, Nat.sub_zero, List.getElem?_take_of_lt (by omega)]
end Go.Proofs.Ytpepgpjiddophaa.Plain
namespace Go.Proofs.Ytpepgpjiddophaa.Plain
open Go.RowKit
set_option linter.unusedVariables false
theorem bl_irrefl (x : List UInt8) : Op.bytesLess x x = false := by
 induction x with
 | nil => rfl
 | cons a x ih => simp [Op.bytesLess, ih]
theorem bl_total {x y : List UInt8} (h1 : Op.bytesLess x y = false) (h2 : Op.bytesLess y x = false) : x = y := by
 induction x generalizing y with
 | nil =>
  cases y with
  | nil => rfl
  | cons b y => simp [Op.bytesLess] at h1
 | cons a x ih =>
  cases y with
  | nil => simp [Op.bytesLess] at h2
  | cons b y =>
   simp only [Op.bytesLess, Bool.or_eq_false_iff, Bool.and_eq_false_iff, decide_eq_false_iff_not, beq_eq_false_iff_ne] at h1 h2
   have hab : a = b := by
    apply UInt8.toNat_inj.1
    have g1 := h1.1
    have g2 := h2.1
    rw [UInt8.lt_iff_toNat_lt] at g1 g2
    omega
   subst hab
   rcases h1.2 with h | h
   ·
    exact absurd rfl h
   ·
    rcases h2.2 with g | g
    ·
     exact absurd rfl g
    ·
     rw [ih h g]
theorem bl_trans {x y z : List UInt8} (h1 : Op.bytesLess x y = true) (h2 : Op.bytesLess y z = true) : Op.bytesLess x z = true := by
 induction x generalizing y z with
 | nil =>
  cases z with
  | nil => cases y <;> simp [Op.bytesLess] at h2
  | cons c z => rfl
 | cons a x ih =>
  cases y with
  | nil => simp [Op.bytesLess] at h1
  | cons b y =>
   cases z with
   | nil => simp [Op.bytesLess] at h2
   | cons c z =>
    simp only [Op.bytesLess, Bool.or_eq_true, Bool.and_eq_true, decide_eq_true_eq, beq_iff_eq] at h1 h2 ⊢
    rcases h1 with h1 | ⟨rfl, h1⟩
    ·
     rcases h2 with h2 | ⟨rfl, h2⟩
     ·
      left
      rw [UInt8.lt_iff_toNat_lt] at *
      omega
     ·
      exact .inl h1
    ·
     rcases h2 with h2 | ⟨rfl, h2⟩
     ·
      exact .inl h2
     ·
      exact .inr ⟨rfl, ih h1 h2⟩
theorem toList_inj {a b : ByteArray} (h : a.toList = b.toList) : a = b := by
 apply bytes_ext
 rw [← ByteArray.toList_eq, ← ByteArray.toList_eq]; exact h
def ltB (a b : ByteArray) : Bool := Op.bytesLess a.toList b.toList
theorem ltB_irrefl (a : ByteArray) : ltB a a = false := bl_irrefl _
theorem ltB_trans {a b c : ByteArray} (h1 : ltB a b = true) (h2 : ltB b c = true) : ltB a c = true := bl_trans h1 h2
theorem ltB_total {a b : ByteArray} (h1 : ltB a b = false) (h2 : ltB b a = false) : a = b := toList_inj (bl_total h1 h2)
theorem ltB_asymm {a b : ByteArray} (h : ltB a b = true) : ltB b a = false := by
 cases hb : ltB b a with
 | false => rfl
 | true => have := ltB_trans h hb; rw [ltB_irrefl] at this; cases this
theorem ltB_le {a b c : ByteArray} (h1 : ltB a b = true) (h2 : ltB c b = false) : ltB a c = true := by
 cases hc : ltB a c with
 | true => rfl
 | false =>
  cases hd : ltB c a with
  | true => rw [ltB_trans hd h1] at h2; cases h2
  | false =>
   rw [ltB_total hc hd] at h1
   rw [h1] at h2; cases h2
def headUp (x : ByteArray) : List ByteArray → Bool
 | [] => true
 | y :: _ => ltB x y
def risingK : List ByteArray → Bool
 | [] => true
 | x :: r => headUp x r && risingK r
theorem rising_pair {ks : List ByteArray} (h : risingK ks = true) : ks.Pairwise fun x y => ltB x y = true := by
 induction ks with
 | nil => exact .nil
 | cons x r ih =>
  rw [risingK, Bool.and_eq_true] at h
  have hr := ih h.2
  refine .cons ?_ hr
  cases r with
  | nil => intro y hy; cases hy
  | cons z r =>
   intro y hy
   rcases List.mem_cons.1 hy with rfl | hy
   ·
    exact h.1
   ·
    exact ltB_trans h.1 ((List.pairwise_cons.1 hr).1 y hy)
theorem rising_of {ks : List ByteArray} (h : ks.Pairwise fun x y => ltB x y = true) : risingK ks = true := by
 induction ks with
 | nil => rfl
 | cons x r ih =>
  rw [List.pairwise_cons] at h
  rw [risingK, Bool.and_eq_true]
  refine ⟨?_, ih h.2⟩
  cases r with
  | nil => rfl
  | cons z r => exact h.1 z (by simp)
theorem rising_iff {ks : List ByteArray} : risingK ks = true ↔ ∀ (i j : Nat) (x y : ByteArray), i < j → ks[i]? = some x → ks[j]? = some y → ltB x y = true := by
 constructor
 ·
  intro h i j x y hij hx hy
  have hp := rising_pair h
  rw [List.pairwise_iff_getElem] at hp
  obtain ⟨h1, e1⟩ := List.getElem?_eq_some_iff.1 hx
  obtain ⟨h2, e2⟩ := List.getElem?_eq_some_iff.1 hy
  rw [← e1, ← e2]
  exact hp i j h1 h2 hij
 ·
  intro h
  apply rising_of
  rw [List.pairwise_iff_getElem]
  intro i j h1 h2 hij
  exact h i j _ _ hij (List.getElem?_eq_getElem h1) (List.getElem?_eq_getElem h2)
theorem rising_next {ks : List ByteArray} : risingK ks = true ↔ ∀ (i : Nat) (x y : ByteArray), ks[i]? = some x → ks[i + 1]? = some y → ltB x y = true := by
 constructor
 ·
  intro h i x y hx hy
  exact rising_iff.1 h i (i + 1) x y (by omega) hx hy
 ·
  intro h
  induction ks with
  | nil => rfl
  | cons x r ih =>
   rw [risingK, Bool.and_eq_true]
   refine ⟨?_, ih fun i a b ha hb => h (i + 1) a b (by simpa using ha) (by simpa using hb)⟩
   cases r with
   | nil => rfl
   | cons z r => exact h 0 x z rfl rfl
def keyOk (k : ByteArray) : Bool := decide (1 ≤ k.size) && decide (k.size ≤ 32)
def valOk (v : ByteArray) : Bool := decide (v.size ≤ 200)
def kidOk (c : Int) : Bool := decide (10 ≤ c) && decide (c ≤ 2047)
def shapeN (l : Bool) (k v c : Nat) : Bool := if l = true then decide (v = k) && decide (c = 0) else decide (v = 0) && decide (1 ≤ k) && decide (c = k + 1)
def standsN (l : Bool) (ks vs : List ByteArray) (cs : List Int) : Bool :=
 decide (ks.length ≤ 9) && ks.all keyOk && risingK ks && vs.all valOk && cs.all kidOk && shapeN l ks.length vs.length cs.length
def rightN (l : Bool) (ks vs : List ByteArray) (cs : List Int) (root : Bool) : Bool := standsN l ks vs cs && decide (ks.length ≤ 8) && (root || decide (4 ≤ ks.length))
theorem standsN_iff {l : Bool} {ks vs : List ByteArray} {cs : List Int} : standsN l ks vs cs = true ↔
  ks.length ≤ 9 ∧ (∀ k ∈ ks, 1 ≤ k.size ∧ k.size ≤ 32) ∧ risingK ks = true ∧ (∀ v ∈ vs, v.size ≤ 200) ∧ (∀ c ∈ cs, 10 ≤ c ∧ c ≤ 2047) ∧ shapeN l ks.length vs.length cs.length = true := by
 unfold standsN keyOk valOk kidOk
 simp only [Bool.and_eq_true, List.all_eq_true, decide_eq_true_eq]
 constructor
 ·
  rintro ⟨⟨⟨⟨⟨h1, h2⟩, h3⟩, h4⟩, h5⟩, h6⟩; exact ⟨h1, h2, h3, h4, h5, h6⟩
 ·
  rintro ⟨h1, h2, h3, h4, h5, h6⟩; exact ⟨⟨⟨⟨⟨h1, h2⟩, h3⟩, h4⟩, h5⟩, h6⟩
theorem shape_leaf {k v c : Nat} : shapeN true k v c = true ↔ v = k ∧ c = 0 := by unfold shapeN; simp
theorem shape_inner {k v c : Nat} : shapeN false k v c = true ↔ v = 0 ∧ 1 ≤ k ∧ c = k + 1 := by unfold shapeN; simp [and_assoc]
theorem rightN_iff {l : Bool} {ks vs : List ByteArray} {cs : List Int} {root : Bool} : rightN l ks vs cs root = true ↔ standsN l ks vs cs = true ∧ ks.length ≤ 8 ∧ (root = true ∨ 4 ≤ ks.length) := by
 unfold rightN
 simp only [Bool.and_eq_true, Bool.or_eq_true, decide_eq_true_eq, and_assoc]
abbrev NodeS := Bool × List ByteArray × List ByteArray × List Int
structure TreeS where
 pairs : List (ByteArray × ByteArray)
 blocks : List Int
 height : Int
 bad : Bool
def TreeS.none : TreeS := ⟨[], [], 0, false⟩
def TreeS.spoil (t : TreeS) : TreeS := ⟨t.pairs, t.blocks, t.height, true⟩
def withinS (key low high : ByteArray) : Bool := !ltB key low && (decide (high.size = 0) || ltB key high)
def kidFrom (low : ByteArray) (ks : List ByteArray) (i : Nat) : ByteArray := if i = 0 then low else ks.getD (i - 1) ⟨#[]⟩
def kidTo (high : ByteArray) (ks : List ByteArray) (i : Nat) : ByteArray := if i < ks.length then ks.getD i ⟨#[]⟩ else high
def kidsT (low high : ByteArray) (ks : List ByteArray) (cs : List Int) : List (Int × ByteArray × ByteArray) := cs.mapIdx fun i b => (b, kidFrom low ks i, kidTo high ks i)
def TreeS.node (t : TreeS) (block : Int) (low high : ByteArray) (n : NodeS) : TreeS :=
 ⟨if n.1 then t.pairs ++ n.2.1.zip n.2.2.1 else t.pairs, t.blocks ++ [block], t.height, n.2.1.any fun k => !withinS k low high⟩
def TreeS.leaf (t : TreeS) (deep : Int) : TreeS := ⟨t.pairs, t.blocks, deep, t.bad || (decide (t.height ≠ 0) && decide (t.height ≠ deep))⟩
def belowS (H : Int → Bool → Option NodeS) : Nat → TreeS → Int → ByteArray → ByteArray → TreeS
 | 0, t, _, _, _ => t.spoil
 | k + 1, t, block, low, high =>
  if t.blocks.contains block || t.bad then t.spoil
  else match H block (decide (k = 7)) with
   | Option.none => t.spoil
   | some n =>
    if n.1 && n.2.1.isEmpty then t.spoil
    else if n.1 then (t.node block low high n).leaf (8 - (k : Int))
    else (kidsT low high n.2.1 n.2.2.2).foldl (fun t x => if t.bad then t else belowS H k t x.1 x.2.1 x.2.2) (t.node block low high n)
theorem kidsT_length (low high : ByteArray) (ks : List ByteArray) (cs : List Int) : (kidsT low high ks cs).length = cs.length := by simp [kidsT]
theorem kidsT_get {low high : ByteArray} {ks : List ByteArray} {cs : List Int} {i : Nat} {b : Int} (h : cs[i]? = some b) : (kidsT low high ks cs)[i]? = some (b, kidFrom low ks i, kidTo high ks i) := by
 simp [kidsT, h]
def TreeS.more (t t' : TreeS) (m : Nat) : Prop := t'.blocks.length ≤ t.blocks.length + m ∧ t'.pairs.length ≤ t.pairs.length + 9 * m
theorem any_within {ks : List ByteArray} {low high : ByteArray} (h : (ks.any fun k => !withinS k low high) = false) : ∀ x ∈ ks, withinS x low high = true := by
 intro x hx
 have := List.any_eq_false.1 h x hx
 simpa using this
theorem within_low {x low high : ByteArray} (h : withinS x low high = true) : ltB x low = false := by
 unfold withinS at h
 cases hh : ltB x low with
 | false => rfl
 | true => rw [hh] at h; simp at h
theorem within_high {x low high : ByteArray} (h : withinS x low high = true) : high.size = 0 ∨ ltB x high = true := by
 unfold withinS at h
 simp only [Bool.and_eq_true, Bool.or_eq_true, decide_eq_true_eq] at h
 exact h.2
theorem within_of {x low high : ByteArray} (h1 : ltB x low = false) (h2 : high.size = 0 ∨ ltB x high = true) : withinS x low high = true := by
 unfold withinS
 simp only [Bool.and_eq_true, Bool.or_eq_true, decide_eq_true_eq]
 exact ⟨by rw [h1]; rfl, h2⟩
theorem not_below {x y low : ByteArray} (h1 : ltB x y = false) (h2 : ltB y low = false) : ltB x low = false := by
 cases hh : ltB x low with
 | false => rfl
 | true => rw [ltB_le hh h2] at h1; cases h1
def keyIn (x : ByteArray) : Prop := 1 ≤ x.size ∧ x.size ≤ 32
def Holding (H : Int → Bool → Option NodeS) : Prop :=
 ∀ b r (n : NodeS), H b r = some n → risingK n.2.1 = true ∧ (∀ x ∈ n.2.1, keyIn x) ∧ (n.1 = true → n.2.2.1.length = n.2.1.length) ∧ (n.1 = false → n.2.2.2.length = n.2.1.length + 1)
def withinK (ks : List ByteArray) (low high : ByteArray) : Bool :=
 !ks.isEmpty && (!ltB (ks.getD 0 ⟨#[]⟩) low && (decide (high.size = 0) || ltB (ks.getD (ks.length - 1) ⟨#[]⟩) high))
theorem withinK_iff {ks : List ByteArray} {low high : ByteArray} (hr : risingK ks = true) : withinK ks low high = true ↔ ks ≠ [] ∧ ∀ x ∈ ks, withinS x low high = true := by
 have hR := rising_iff.1 hr
 cases ks with
 | nil => simp [withinK]
 | cons k ks =>
  have h0 : (k :: ks)[0]? = some k := rfl
  have hlt : (k :: ks).length - 1 < (k :: ks).length := by simp
  obtain ⟨z, hz⟩ : ∃ z, (k :: ks)[(k :: ks).length - 1]? = some z := ⟨_, List.getElem?_eq_getElem hlt⟩
  have hd : (k :: ks).getD ((k :: ks).length - 1) ⟨#[]⟩ = z := by rw [List.getD_eq_getElem?_getD, hz]; rfl
  unfold withinK
  rw [hd]
  simp only [List.isEmpty_cons, Bool.not_false, Bool.true_and, List.getD_cons_zero, Bool.and_eq_true, Bool.or_eq_true, decide_eq_true_eq, ne_eq, reduceCtorEq, not_false_eq_true, true_and, Bool.not_eq_true']
  constructor
  ·
   rintro ⟨h1, h2⟩ x hx
   obtain ⟨i, hi⟩ := List.mem_iff_getElem?.1 hx
   have hil := (List.getElem?_eq_some_iff.1 hi).1
   refine within_of ?_ ?_
   ·
    by_cases e : i = 0
    ·
     subst e; rw [h0] at hi; cases hi; exact h1
    ·
     exact not_below (ltB_asymm (hR 0 i _ _ (by omega) h0 hi)) h1
   ·
    rcases h2 with h2 | h2
    ·
     exact .inl h2
    ·
     by_cases e : i = (k :: ks).length - 1
     ·
      subst e; rw [hz] at hi; cases hi; exact .inr h2
     ·
      exact .inr (ltB_trans (hR i _ _ _ (by omega) hi hz) h2)
  ·
   intro h
   have h1 := h k (by simp)
   have h2 := h z (List.mem_of_getElem? hz)
   exact ⟨within_low h1, within_high h2⟩
def Keyed (H : Int → Bool → Option NodeS) : Prop := ∀ b r (n : NodeS), H b r = some n → n.1 = false → n.2.1 ≠ []
end Go.Proofs.Ytpepgpjiddophaa.Plain
namespace Go.Proofs.Ytpepgpjiddophaa.Plain
open Go.RowKit
def bn (b : Bool) : Nat := if b then 1 else 0
theorem bn_lt (b : Bool) : bn b < 2 := by cases b <;> decide
def atB (l : List Bool) (i : Nat) : Bool := l[i]?.getD false
theorem atB_past {l : List Bool} {i : Nat} (h : l.length ≤ i) : atB l i = false := by
 unfold atB; rw [List.getElem?_eq_none h]; rfl
theorem atB_some {l : List Bool} {i : Nat} {x : Bool} (h : l[i]? = some x) : atB l i = x := by unfold atB; rw [h]; rfl
def lowB (l : List Bool) (p : Nat) : Nat → Nat
 | 0 => 0
 | k + 1 => lowB l p k + 2 ^ k * bn (atB l (p + k))
def longest : List (List Bool) → Nat
 | [] => 0
 | l :: ls => max l.length (longest ls)
theorem longest_le {ls : List (List Bool)} {l : List Bool} (h : l ∈ ls) : l.length ≤ longest ls := by
 induction ls with
 | nil => cases h
 | cons x xs ih =>
  rw [longest]
  rcases List.mem_cons.1 h with rfl | h
  ·
   omega
  ·
   have := ih h; omega
def howB (ls : List (List Bool)) (i : Nat) : Nat := ls.countP (fun l => atB l i)
theorem howB_all {ls : List (List Bool)} {i : Nat} : howB ls i = ls.length ↔ ∀ l ∈ ls, atB l i = true := List.countP_eq_length
def countN (ls : List (List Bool)) : Nat → Nat
 | 0 => 0
 | n + 1 => countN ls n + bn (decide (howB ls n = ls.length))
def countB (ls : List (List Bool)) : Nat := countN ls (longest ls)
theorem countN_past {ls : List (List Bool)} {l : List Bool} (hl : l ∈ ls) (n : Nat) (h : l.length ≤ n) : countN ls n = countN ls l.length := by
 induction n with
 | zero => congr 1; omega
 | succ n ih =>
  by_cases e : l.length = n + 1
  ·
   rw [e]
  ·
   rw [countN, ih (by omega), decide_eq_false, bn]
   ·
    rfl
   ·
    rw [howB_all]
    intro hh
    have := hh l hl
    rw [atB_past (by omega)] at this
    cases this
end Go.Proofs.Ytpepgpjiddophaa.Plain
namespace Go.Proofs.Ytpepgpjiddophaa.Plain
open Go.RowKit
set_option linter.unusedVariables false
def rightA (b n : List Bool) : Bool := decide (b.length = n.length) && decide (24 ≤ n.length) && decide (n.length ≤ 2048) && (List.range 10).all fun i => atB b i && atB n i
theorem rightA_iff (b n : List Bool) : rightA b n = true ↔ b.length = n.length ∧ 24 ≤ n.length ∧ n.length ≤ 2048 ∧ ∀ i, i < 10 → atB b i = true ∧ atB n i = true := by
 unfold rightA
 simp only [Bool.and_eq_true, decide_eq_true_eq, List.all_eq_true, List.mem_range]
 constructor
 ·
  rintro ⟨⟨⟨h1, h2⟩, h3⟩, h4⟩; exact ⟨h1, h2, h3, h4⟩
 ·
  rintro ⟨h1, h2, h3, h4⟩; exact ⟨⟨⟨h1, h2⟩, h3⟩, h4⟩
def freeB (b n : List Bool) (i : Nat) : Bool := decide (i < n.length) && (!atB n i && !atB b i)
theorem freeB_iff (b n : List Bool) (i : Nat) : freeB b n i = true ↔ i < n.length ∧ atB n i = false ∧ atB b i = false := by
 unfold freeB
 simp
def howN (f : Nat → Bool) : Nat → Nat
 | 0 => 0
 | k + 1 => howN f k + bn (f k)
theorem howN_le (f : Nat → Bool) (k : Nat) : howN f k ≤ k := by
 induction k with
 | zero => exact Nat.le_refl _
 | succ k ih => rw [howN]; have := bn_lt (f k); omega
theorem howN_congr {f g : Nat → Bool} {k : Nat} (h : ∀ i, i < k → f i = g i) : howN f k = howN g k := by
 induction k with
 | zero => rfl
 | succ k ih => rw [howN, howN, ih fun i hi => h i (by omega), h k (by omega)]
theorem howN_zero {f : Nat → Bool} {k : Nat} : howN f k = 0 ↔ ∀ i, i < k → f i = false := by
 induction k with
 | zero => exact ⟨fun _ i hi => by omega, fun _ => rfl⟩
 | succ k ih =>
  rw [howN]
  constructor
  ·
   intro h i hi
   by_cases e : i = k
   ·
    subst e
    cases hf : f i with
    | false => rfl
    | true => rw [hf] at h; simp [bn] at h
   ·
    exact ih.1 (by omega) i (by omega)
  ·
   intro h
   rw [ih.2 fun i hi => h i (by omega), h k (by omega)]; rfl
theorem howN_one {f g : Nat → Bool} {k p : Nat} (hp : p < k) (hf : f p = true) (hg : g p = false) (h : ∀ i, i < k → i ≠ p → f i = g i) : howN f k = howN g k + 1 := by
 induction k with
 | zero => omega
 | succ k ih =>
  rw [howN, howN]
  by_cases e : p = k
  ·
   subst e
   rw [hf, hg, howN_congr fun i hi => h i (by omega) (by omega)]
   simp [bn]
  ·
   rw [ih (by omega) fun i hi hn => h i (by omega) hn, h k (by omega) (fun hh => e hh.symm)]
   omega
theorem howN_or {f g h : Nat → Bool} {k : Nat} (hh : ∀ i, i < k → h i = (f i || g i) ∧ ¬ (f i = true ∧ g i = true)) : howN h k = howN f k + howN g k := by
 induction k with
 | zero => rfl
 | succ k ih =>
  rw [howN, howN, howN, ih fun i hi => hh i (by omega), (hh k (by omega)).1]
  have := (hh k (by omega)).2
  cases hf : f k <;> cases hg : g k <;> simp_all [bn] <;> omega
theorem howN_all {f : Nat → Bool} {k : Nat} (h : ∀ i, i < k → f i = true) : howN f k = k := by
 induction k with
 | zero => rfl
 | succ k ih => rw [howN, ih fun i hi => h i (by omega), h k (by omega)]; rfl
def freshL (k : Nat) : List Bool := (List.range k).map fun i => decide (i < 10)
theorem freshL_length (k : Nat) : (freshL k).length = k := by simp [freshL]
theorem freshL_at {k i : Nat} (h : i < k) : atB (freshL k) i = decide (i < 10) := by
 apply atB_some
 unfold freshL
 rw [List.getElem?_map, List.getElem?_range h]; rfl
theorem freshL_succ (k : Nat) : freshL (k + 1) = freshL k ++ [decide (k < 10)] := by unfold freshL; rw [List.range_succ, List.map_append]; rfl
theorem atB_setB (l : List Bool) (p i : Nat) (x : Bool) : atB (l.set p x) i = if p = i ∧ i < l.length then x else atB l i := by
 unfold atB
 rw [List.getElem?_set]
 by_cases e : p = i
 ·
  subst e
  by_cases hl : p < l.length
  ·
   rw [if_pos rfl, if_pos hl, if_pos ⟨rfl, hl⟩]; rfl
  ·
   rw [if_pos rfl, if_neg hl, if_neg (fun h => hl h.2), List.getElem?_eq_none (by omega)]
 ·
  rw [if_neg e, if_neg (fun h => e h.1)]
theorem right_set {b n : List Bool} (h : rightA b n = true) {p : Nat} (hp : 10 ≤ p) (x : Bool) : rightA b (n.set p x) = true := by
 rw [rightA_iff] at h ⊢
 rw [List.length_set]
 refine ⟨h.1, h.2.1, h.2.2.1, fun i hi => ⟨(h.2.2.2 i hi).1, ?_⟩⟩
 rw [atB_setB, if_neg (fun hh => by omega)]
 exact (h.2.2.2 i hi).2
theorem free_taken {b n : List Bool} {p : Nat} (hp : freeB b n p = true) : freeB b (n.set p true) p = false ∧ (∀ i, i ≠ p → freeB b (n.set p true) i = freeB b n i) ∧ howN (freeB b n) n.length = howN (freeB b (n.set p true)) n.length + 1 := by
 have hl := ((freeB_iff b n p).1 hp).1
 have h1 : freeB b (n.set p true) p = false := by
  unfold freeB
  rw [atB_setB, if_pos ⟨rfl, hl⟩]; simp
 have h2 : ∀ i, i ≠ p → freeB b (n.set p true) i = freeB b n i := by
  intro i hi
  unfold freeB
  rw [List.length_set, atB_setB, if_neg (fun h => hi h.1.symm)]
 exact ⟨h1, h2, howN_one hl hp h1 fun i _ hn => (h2 i hn).symm⟩
structure ClimbS where
 held : List Bool
 pairs : Nat
 height : Int
 blocks : Nat
def holdL : List Bool → List Int → Bool × List Bool
 | l, [] => (true, l)
 | l, b :: bs => if 0 ≤ b ∧ b < l.length ∧ atB l b.toNat = false then holdL (l.set b.toNat true) bs else (false, l)
def leafC (m : Nat) (d : Int) (c : ClimbS) : Int × ClimbS :=
 if c.height = 0 ∨ c.height = d then (0, ⟨c.held, c.pairs + m, d, c.blocks⟩) else (81, c)
def ClimbS.take (c : ClimbS) (block : Int) : ClimbS := ⟨c.held.set block.toNat true, c.pairs, c.height, c.blocks + 1⟩
def climbS (H : Int → Bool → Option NodeS) : Nat → ClimbS → Int → ByteArray → ByteArray → Int × ClimbS
 | 0, c, _, _, _ => (81, c)
 | k + 1, c, block, low, high => match H block (decide (k = 7)) with
  | none => (81, c)
  | some n => if withinK n.2.1 low high = true ∧ 0 ≤ block ∧ block < c.held.length ∧ atB c.held block.toNat = false then
    (if n.1 = true then leafC n.2.1.length (8 - (k : Int)) (c.take block)
     else (kidsT low high n.2.1 n.2.2.2).foldl (fun (r : Int × ClimbS) (x : Int × ByteArray × ByteArray) => if r.1 = 0 then climbS H k r.2 x.1 x.2.1 x.2.2 else r) (0, c.take block))
   else (81, c)
theorem atB_put (l : List Bool) (p i : Nat) (x : Bool) : atB (l.set p x) i = if p = i ∧ p < l.length then x else atB l i := by
 unfold atB
 rw [List.getElem?_set]
 by_cases e : p = i
 ·
  subst e
  by_cases hl : p < l.length
  ·
   rw [if_pos rfl, if_pos hl, if_pos ⟨rfl, hl⟩]; rfl
  ·
   rw [if_pos rfl, if_neg hl, if_neg (fun h => hl h.2), List.getElem?_eq_none (by omega)]
 ·
  rw [if_neg e, if_neg (fun h => e h.1)]
def HeldBy (n : Nat) (held : List Bool) (l : List Int) : Prop := held.length = n ∧ ∀ i, i < n → atB held i = (decide (i < 10) || l.contains (i : Int))
theorem HeldBy.free {n : Nat} {held : List Bool} {l : List Int} (h : HeldBy n held l) {b : Int} (h1 : 10 ≤ b) (h2 : b < n) : atB held b.toNat = l.contains b := by
 rw [h.2 b.toNat (by omega), decide_eq_false (by omega), Bool.false_or, Int.toNat_of_nonneg (by omega)]
theorem HeldBy.take {n : Nat} {held : List Bool} {l l' : List Int} (h : HeldBy n held l) {b : Int} (h1 : 10 ≤ b) (h2 : b < n) (hl : ∀ x, l'.contains x = (l.contains x || decide (x = b))) : HeldBy n (held.set b.toNat true) l' := by
 refine ⟨by rw [List.length_set]; exact h.1, fun i hi => ?_⟩
 rw [atB_put, hl]
 by_cases e : b.toNat = i
 ·
  rw [if_pos ⟨e, by rw [h.1]; omega⟩, decide_eq_true (show (i : Int) = b by omega)]
  simp
 ·
  rw [if_neg (fun hh => e hh.1), h.2 i hi, decide_eq_false (show ¬ (i : Int) = b by omega), Bool.or_false]
structure Agree (n : Nat) (c : ClimbS) (t : TreeS) : Prop where
 held : HeldBy n c.held t.blocks
 pairs : c.pairs = t.pairs.length
 height : c.height = t.height
 blocks : c.blocks = t.blocks.length
theorem contains_snoc (l : List Int) (b x : Int) : (l ++ [b]).contains x = (l.contains x || decide (x = b)) := by
 simp
theorem climb_below {H : Int → Bool → Option NodeS} (hH : Holding H) (hI : Keyed H) {N : Nat} (hR : ∀ b r (n : NodeS), H b r = some n → 10 ≤ b ∧ b < N) : ∀ (k : Nat) (c : ClimbS) (t : TreeS) (block : Int) (low high : ByteArray), Agree N c t → t.bad = false →
  ((belowS H k t block low high).bad = false → (climbS H k c block low high).1 = 0 ∧ Agree N (climbS H k c block low high).2 (belowS H k t block low high)) ∧ ((belowS H k t block low high).bad = true → (climbS H k c block low high).1 = 81)
 | 0, c, t, block, low, high, ha, ht => ⟨fun h => (by cases h), fun _ => rfl⟩
 | k + 1, c, t, block, low, high, ha, ht => by
  have fold : ∀ (l : List (Int × ByteArray × ByteArray)) (c0 : ClimbS) (t0 : TreeS), Agree N c0 t0 → t0.bad = false →
    ((l.foldl (fun t x => if t.bad then t else belowS H k t x.1 x.2.1 x.2.2) t0).bad = false → (l.foldl (fun (r : Int × ClimbS) (x : Int × ByteArray × ByteArray) => if r.1 = 0 then climbS H k r.2 x.1 x.2.1 x.2.2 else r) (0, c0)).1 = 0 ∧ Agree N (l.foldl (fun (r : Int × ClimbS) (x : Int × ByteArray × ByteArray) => if r.1 = 0 then climbS H k r.2 x.1 x.2.1 x.2.2 else r) (0, c0)).2 (l.foldl (fun t x => if t.bad then t else belowS H k t x.1 x.2.1 x.2.2) t0)) ∧
    ((l.foldl (fun t x => if t.bad then t else belowS H k t x.1 x.2.1 x.2.2) t0).bad = true → (l.foldl (fun (r : Int × ClimbS) (x : Int × ByteArray × ByteArray) => if r.1 = 0 then climbS H k r.2 x.1 x.2.1 x.2.2 else r) (0, c0)).1 = 81) := by
   intro l
   induction l with
   | nil => exact fun c0 t0 h0 h1 => ⟨fun _ => ⟨rfl, h0⟩, fun h => by rw [List.foldl_nil, h1] at h; cases h⟩
   | cons x l ih =>
    intro c0 t0 h0 h1
    rw [List.foldl_cons, List.foldl_cons, if_neg (by rw [h1]; decide), if_pos rfl]
    obtain ⟨a1, a2⟩ := climb_below hH hI hR k c0 t0 x.1 x.2.1 x.2.2 h0 h1
    cases hb : (belowS H k t0 x.1 x.2.1 x.2.2).bad with
    | false =>
     obtain ⟨a3, a4⟩ := a1 hb
     have := ih _ _ a4 hb
     rw [show climbS H k c0 x.1 x.2.1 x.2.2 = (0, (climbS H k c0 x.1 x.2.1 x.2.2).2) from Prod.ext a3 rfl]
     exact this
    | true =>
     have a3 := a2 hb
     have e1 : l.foldl (fun t x => if t.bad then t else belowS H k t x.1 x.2.1 x.2.2) (belowS H k t0 x.1 x.2.1 x.2.2) = belowS H k t0 x.1 x.2.1 x.2.2 := by
      clear ih a1 a2 a3
      induction l with
      | nil => rfl
      | cons y l ih => rw [List.foldl_cons, if_pos hb]; exact ih
     have e2 : l.foldl (fun (r : Int × ClimbS) (x : Int × ByteArray × ByteArray) => if r.1 = 0 then climbS H k r.2 x.1 x.2.1 x.2.2 else r) (climbS H k c0 x.1 x.2.1 x.2.2) = climbS H k c0 x.1 x.2.1 x.2.2 := by
      clear ih a1 a2 e1
      induction l with
      | nil => rfl
      | cons y l ih => rw [List.foldl_cons, if_neg (by rw [a3]; decide)]; exact ih
     rw [e1, e2]
     exact ⟨fun h => (by rw [hb] at h; cases h), fun _ => a3⟩
  rw [belowS, climbS]
  cases hn : H block (decide (k = 7)) with
  | none =>
   refine ⟨fun h => ?_, fun _ => rfl⟩
   split at h <;> cases h
  | some nd =>
   obtain ⟨l, ks, vs, cs⟩ := nd
   obtain ⟨hb1, hb2⟩ := hR _ _ _ hn
   obtain ⟨hr, -, hv, -⟩ := hH _ _ _ hn
   replace hr : risingK ks = true := hr
   replace hv : l = true → vs.length = ks.length := hv
   have hfree := ha.held.free hb1 hb2
   have hl : block < c.held.length := by rw [ha.held.1]; exact hb2
   simp only
   rw [ht, Bool.or_false]
   cases hc : t.blocks.contains block with
   | true =>
    rw [hc] at hfree
    rw [if_pos rfl, if_neg (fun h => by rw [hfree] at h; exact absurd h.2.2.2 (by decide))]
    exact ⟨fun h => (by cases h), fun _ => rfl⟩
   | false =>
    rw [hc] at hfree
    rw [if_neg (by decide)]
    have hA : Agree N (c.take block) ⟨t.pairs, t.blocks ++ [block], t.height, false⟩ := ⟨ha.held.take hb1 hb2 (contains_snoc _ _), ha.pairs, ha.height, by show c.blocks + 1 = _; rw [ha.blocks, List.length_append]; rfl⟩
    cases hw : withinK ks low high with
    | true =>
     obtain ⟨hne, hall⟩ := (withinK_iff hr).1 hw
     have hany : (ks.any fun k => !withinS k low high) = false := List.any_eq_false.2 fun x hx => by rw [hall x hx]; decide
     have hem : ks.isEmpty = false := by cases ks with | nil => exact absurd rfl hne | cons _ _ => rfl
     rw [if_neg (show ¬ (l && ks.isEmpty) = true by rw [hem, Bool.and_false]; decide), if_pos (show true = true ∧ 0 ≤ block ∧ block < c.held.length ∧ atB c.held block.toNat = false from ⟨rfl, by omega, hl, hfree⟩)]
     cases l with
     | true =>
      rw [if_pos rfl, if_pos rfl]
      have hlen : (ks.zip vs).length = ks.length := by rw [List.length_zip, hv rfl, Nat.min_self]
      have e0 : (t.node block low high (true, ks, vs, cs)).leaf (8 - (k : Int)) = ⟨t.pairs ++ ks.zip vs, t.blocks ++ [block], 8 - (k : Int), decide (t.height ≠ 0) && decide (t.height ≠ 8 - (k : Int))⟩ := by
       unfold TreeS.leaf TreeS.node
       simp only [if_true, hany, Bool.false_or]
      rw [e0]
      unfold leafC
      have hh : (c.take block).height = t.height := ha.height
      rw [hh]
      by_cases hg : t.height = 0 ∨ t.height = 8 - (k : Int)
      ·
       rw [if_pos hg]
       refine ⟨fun _ => ⟨rfl, hA.held, ?_, rfl, hA.blocks⟩, fun h => ?_⟩
       ·
        show c.pairs + ks.length = _
        rw [List.length_append, hlen, ha.pairs]
       ·
        exfalso
        simp only [Bool.and_eq_true, decide_eq_true_eq] at h
        rcases hg with e | e
        ·
         exact h.1 e
        ·
         exact h.2 e
      ·
       rw [if_neg hg]
       refine ⟨fun h => ?_, fun _ => rfl⟩
       exfalso
       simp only [Bool.and_eq_false_iff, decide_eq_false_iff_not, Decidable.not_not] at h
       exact hg h
     | false =>
      rw [if_neg (by decide), if_neg (by decide)]
      have e0 : t.node block low high (false, ks, vs, cs) = ⟨t.pairs, t.blocks ++ [block], t.height, false⟩ := by
       unfold TreeS.node
       simp only [Bool.false_eq_true, if_false, hany]
      rw [e0]
      exact fold _ _ _ hA rfl
    | false =>
     rw [if_neg (show ¬ (false = true ∧ 0 ≤ block ∧ block < c.held.length ∧ atB c.held block.toNat = false) from fun h => by cases h.1)]
     refine ⟨fun h => ?_, fun _ => rfl⟩
     exfalso
     have hno : ¬ (ks ≠ [] ∧ ∀ x ∈ ks, withinS x low high = true) := fun h => by rw [(withinK_iff hr).2 h] at hw; cases hw
     cases l with
     | true =>
      simp only [Bool.true_and] at h
      split at h
      ·
       cases h
      ·
       rename_i hem
       simp only [if_true] at h
       have h2 : ((ks.any fun k => !withinS k low high) || (decide (t.height ≠ 0) && decide (t.height ≠ 8 - (k : Int)))) = false := h
       exact hno ⟨fun e => hem (by rw [e]; rfl), any_within (Bool.or_eq_false_iff.1 h2).1⟩
     | false =>
      simp only [Bool.false_and, Bool.false_eq_true, if_false] at h
      have hb0 : (t.node block low high (false, ks, vs, cs)).bad = false := by
       cases hb : (t.node block low high (false, ks, vs, cs)).bad with
       | false => rfl
       | true =>
        have e1 : ∀ (l : List (Int × ByteArray × ByteArray)), l.foldl (fun t x => if t.bad then t else belowS H k t x.1 x.2.1 x.2.2) (t.node block low high (false, ks, vs, cs)) = t.node block low high (false, ks, vs, cs) := by
         intro l
         induction l with
         | nil => rfl
         | cons y l ih => rw [List.foldl_cons, if_pos hb]; exact ih
        rw [e1] at h
        rw [hb] at h
        cases h
      exact hno ⟨hI _ _ _ hn rfl, any_within hb0⟩
theorem below_blocks {H : Int → Bool → Option NodeS} {P : Int → Prop} (hP : ∀ b r (n : NodeS), H b r = some n → P b) : ∀ (k : Nat) (t : TreeS) (block : Int) (low high : ByteArray), (∀ b ∈ t.blocks, P b) → ∀ b ∈ (belowS H k t block low high).blocks, P b
 | 0, t, block, low, high, h => h
 | k + 1, t, block, low, high, h => by
  rw [belowS]
  split
  ·
   exact h
  ·
   split
   ·
    exact h
   ·
    rename_i n hn
    have h1 : ∀ b ∈ (t.node block low high n).blocks, P b := fun b hb => by
     rcases List.mem_append.1 (show b ∈ t.blocks ++ [block] from hb) with hb | hb
     ·
      exact h b hb
     ·
      simp at hb; subst hb; exact hP _ _ _ hn
    split
    ·
     exact h
    ·
     split
     ·
      exact h1
     ·
      have fold : ∀ (l : List (Int × ByteArray × ByteArray)) (t0 : TreeS), (∀ b ∈ t0.blocks, P b) → ∀ b ∈ (l.foldl (fun t x => if t.bad then t else belowS H k t x.1 x.2.1 x.2.2) t0).blocks, P b := by
       intro l
       induction l with
       | nil => exact fun t0 h0 => h0
       | cons x l ih =>
        intro t0 h0
        rw [List.foldl_cons]
        refine ih _ ?_
        split
        ·
         exact h0
        ·
         exact below_blocks hP k t0 _ _ _ h0
      exact fold _ _ h1
theorem below_mono {H H' : Int → Bool → Option NodeS} (hH : ∀ b r (n : NodeS), H b r = some n → H' b r = some n) : ∀ (k : Nat) (t : TreeS) (block : Int) (low high : ByteArray), (belowS H k t block low high).bad = false → belowS H' k t block low high = belowS H k t block low high
 | 0, t, block, low, high, h => by cases h
 | k + 1, t, block, low, high, h => by
  have fold : ∀ (l : List (Int × ByteArray × ByteArray)) (t0 : TreeS), (l.foldl (fun t x => if t.bad then t else belowS H k t x.1 x.2.1 x.2.2) t0).bad = false → l.foldl (fun t x => if t.bad then t else belowS H' k t x.1 x.2.1 x.2.2) t0 = l.foldl (fun t x => if t.bad then t else belowS H k t x.1 x.2.1 x.2.2) t0 := by
   intro l
   induction l with
   | nil => exact fun t0 h0 => rfl
   | cons x l ih =>
    intro t0 h0
    rw [List.foldl_cons] at h0 ⊢
    rw [List.foldl_cons]
    by_cases hb : t0.bad = true
    ·
     rw [if_pos hb] at h0 ⊢
     rw [if_pos hb]
     exact ih _ h0
    ·
     rw [if_neg hb] at h0 ⊢
     rw [if_neg hb]
     have h1 : (belowS H k t0 x.1 x.2.1 x.2.2).bad = false := by
      cases hc : (belowS H k t0 x.1 x.2.1 x.2.2).bad with
      | false => rfl
      | true =>
       have e1 : l.foldl (fun t x => if t.bad then t else belowS H k t x.1 x.2.1 x.2.2) (belowS H k t0 x.1 x.2.1 x.2.2) = belowS H k t0 x.1 x.2.1 x.2.2 := by
        clear ih h0
        induction l with
        | nil => rfl
        | cons y l ih => rw [List.foldl_cons, if_pos hc]; exact ih
       rw [e1, hc] at h0
       cases h0
     rw [below_mono hH k t0 _ _ _ h1]
     exact ih _ h0
  rw [belowS] at h ⊢
  rw [belowS]
  split at h
  ·
   cases h
  ·
   rename_i hb
   rw [if_neg hb, if_neg hb]
   split at h
   ·
    cases h
   ·
    rename_i n hn
    rw [hH _ _ _ hn]
    simp only
    split at h
    ·
     cases h
    ·
     rename_i hem
     rw [if_neg hem, if_neg hem]
     split at h
     ·
      rename_i hl
      rw [if_pos hl, if_pos hl]
     ·
      rename_i hl
      rw [if_neg hl, if_neg hl]
      exact fold _ _ h
def blocksL (n : Nat) (l : List Int) : List Int := ((List.range n).filter fun (i : Nat) => l.contains (i : Int)).map fun (i : Nat) => (i : Int)
theorem blocksL_mem {n : Nat} {l : List Int} {b : Int} : b ∈ blocksL n l ↔ 0 ≤ b ∧ b < n ∧ b ∈ l := by
 unfold blocksL
 simp only [List.mem_map, List.mem_filter, List.mem_range, List.contains_iff_mem]
 constructor
 ·
  rintro ⟨i, ⟨h1, h2⟩, rfl⟩; exact ⟨by omega, by omega, h2⟩
 ·
  rintro ⟨h1, h2, h3⟩; exact ⟨b.toNat, ⟨by omega, by rw [Int.toNat_of_nonneg h1]; exact h3⟩, by omega⟩
def moreL (n : Nat) : List Int → List Int → Option (List Int)
 | l, [] => some l
 | l, b :: bs => if b < 10 ∨ (n : Int) ≤ b ∨ b ∈ l then none else moreL n (l ++ [b]) bs
def justL (ns : List Bool) (l : List Int) : Bool := (List.range ns.length).all fun (i : Nat) => atB ns i == (decide (i < 10) || l.contains (i : Int))
theorem just_iff {ns : List Bool} {l : List Int} : justL ns l = true ↔ HeldBy ns.length ns l := by
 unfold justL HeldBy
 simp only [List.all_eq_true, List.mem_range, beq_iff_eq]
 exact ⟨fun h => ⟨trivial, h⟩, fun h => h.2⟩
theorem held_ext {n : Nat} {a b : List Bool} {l : List Int} (ha : HeldBy n a l) (hb : HeldBy n b l) : a = b := by
 apply List.ext_getElem (by rw [ha.1, hb.1])
 intro i h1 h2
 have e1 := ha.2 i (by rw [← ha.1]; exact h1)
 have e2 := hb.2 i (by rw [← hb.1]; exact h2)
 rw [atB_some (List.getElem?_eq_getElem h1)] at e1
 rw [atB_some (List.getElem?_eq_getElem h2)] at e2
 rw [e1, e2]
theorem hold_more {n : Nat} : ∀ (more : List Int) (held : List Bool) (l : List Int), 10 ≤ n → HeldBy n held l → ((moreL n l more = none → (holdL held more).1 = false) ∧ ∀ l', moreL n l more = some l' → (holdL held more).1 = true ∧ HeldBy n (holdL held more).2 l')
 | [], held, l, hn, h => ⟨fun e => (by cases e), fun l' e => by cases e; exact ⟨rfl, h⟩⟩
 | b :: bs, held, l, hn, h => by
  rw [moreL, holdL]
  by_cases hc : b < 10 ∨ (n : Int) ≤ b ∨ b ∈ l
  ·
   rw [if_pos hc, if_neg]
   ·
    exact ⟨fun _ => rfl, fun l' e => by cases e⟩
   ·
    rintro ⟨h1, h2, h3⟩
    rw [h.1] at h2
    rw [h.2 b.toNat (by omega)] at h3
    rw [Bool.or_eq_false_iff, decide_eq_false_iff_not, Int.toNat_of_nonneg h1] at h3
    rcases hc with e | e | e
    ·
     omega
    ·
     omega
    ·
     rw [List.contains_iff_mem.2 e] at h3; exact absurd h3.2 (by decide)
  ·
   rw [if_neg hc]
   have h1 : 10 ≤ b := by omega
   have h2 : b < n := by omega
   have h3 : l.contains b = false := by
    cases hh : l.contains b with
    | false => rfl
    | true => exact absurd (.inr (.inr (List.contains_iff_mem.1 hh))) hc
   rw [if_pos ⟨by omega, by rw [h.1]; exact h2, by rw [h.free h1 h2, h3]⟩]
   exact hold_more bs _ _ hn (h.take h1 h2 (contains_snoc _ _))
def checkOK (ns : List Bool) (t : TreeS) (more : List Int) : Bool :=
 match moreL ns.length (blocksL ns.length t.blocks) more with
 | none => false
 | some l => justL ns l
theorem held_blocks {n : Nat} {held : List Bool} {l : List Int} (h : HeldBy n held l) : HeldBy n held (blocksL n l) := by
 refine ⟨h.1, fun i hi => ?_⟩
 rw [h.2 i hi]
 congr 1
 cases hc : l.contains (i : Int) with
 | true => exact (List.contains_iff_mem.2 (blocksL_mem.2 ⟨by omega, by omega, List.contains_iff_mem.1 hc⟩)).symm
 | false =>
  cases hd : (blocksL n l).contains (i : Int) with
  | false => rfl
  | true => rw [List.contains_iff_mem.2 (blocksL_mem.1 (List.contains_iff_mem.1 hd)).2.2] at hc; cases hc
theorem check_held {ns held : List Bool} {t : TreeS} {more : List Int} (h10 : 10 ≤ ns.length) (h : HeldBy ns.length held t.blocks) : checkOK ns t more = ((holdL held more).1 && decide ((holdL held more).2 = ns)) := by
 obtain ⟨a1, a2⟩ := hold_more more held _ h10 (held_blocks h)
 unfold checkOK
 cases hm : moreL ns.length (blocksL ns.length t.blocks) more with
 | none => rw [a1 hm]; rfl
 | some l =>
  obtain ⟨b1, b2⟩ := a2 l hm
  rw [b1, Bool.true_and]
  simp only
  cases hj : justL ns l with
  | true => exact (decide_eq_true (held_ext b2 (just_iff.1 hj))).symm
  | false => exact (decide_eq_false (fun e => by rw [e] at b2; rw [just_iff.2 b2] at hj; cases hj)).symm
def checkE (right : Bool) (ns : List Bool) (t : TreeS) (more : List Int) : Int := if right = true then (if t.bad = false ∧ checkOK ns t more = true then 0 else 81) else 1
def checkP (right : Bool) (ns : List Bool) (t : TreeS) (more : List Int) : Int := if checkE right ns t more = 0 then (t.pairs.length : Int) else 0
def checkH (right : Bool) (ns : List Bool) (t : TreeS) (more : List Int) : Int := if checkE right ns t more = 0 then t.height else 0
def checkB (right : Bool) (ns : List Bool) (t : TreeS) (more : List Int) : Int := if checkE right ns t more = 0 then (t.blocks.length : Int) else 0
end Go.Proofs.Ytpepgpjiddophaa.Plain
namespace Go.Proofs.Ytpepgpjiddophaa
open Go.RowKit Plain Go.ChangeShapes Go.WideShapes
set_option linter.unusedVariables false
theorem Try.info5 : (Try.prog.info? 5).map (fun i => (i.zero, i.size, i.bytes)) = some (some (.int .u8 0), 1, 1) := by kernel_rfl
theorem Try.info4 : (Try.prog.info? 4).map (fun i => (i.zero, i.size, i.bytes)) = some (some (.bool false), 1, 1) := by kernel_rfl
theorem Try.info3 : (Try.prog.info? 3).map (fun i => (i.zero, i.size, i.bytes)) = some (some (.int .i64 0), 1, 8) := by kernel_rfl
theorem Try.info9 : (Try.prog.info? 9).map (fun i => (i.zero, i.size, i.bytes)) = some (some (.string ⟨#[]⟩), 1, 16) := by kernel_rfl
theorem ret_bool {a b : Bool} (h : a = b) : Ending.returned (.bool a) = .returned (.bool b) := by rw [h]
theorem ret_str {a b : ByteArray} (h : a = b) : Ending.returned (.string a) = .returned (.string b) := by rw [h]
theorem ret_int {a b : Int} (h : a = b) : Ending.returned (.int .i64 a) = .returned (.int .i64 b) := by rw [h]
theorem Below.tr {w a b : World} (h : Below w.heap.size w a) (k : Below a.heap.size a b) : Below w.heap.size w b := h.trans (k.mono h.size)
theorem cell_lt {w : World} {p : Addr} {v : Value} (h : w.cell? p = some v) : p.block < w.heap.size := by
 refine Nat.lt_of_not_le fun hn => ?_
 unfold World.cell? at h
 rw [Array.getElem?_eq_none hn] at h
 cases h
theorem cell_below {w w' : World} {p : Addr} {v : Value} (hb : Below w.heap.size w w') (h : w.cell? p = some v) : w'.cell? p = some v := by
 rw [hb.cell (cell_lt h)]; exact h
theorem cell_alloc {w : World} {p : Addr} {v : Value} (h : w.cell? p = some v) : ∀ o, (w.alloc o).cell? p = some v := fun o => Lib.cell?_alloc_some _ h
theorem at_add (g o j : Nat) : (⟨g, o, none⟩ : Addr).add j = ⟨g, o + j, none⟩ := by
 unfold Addr.add; split <;> simp_all
theorem made_one (z : Value) (n : Nat) : madeCells #[z] n = (List.replicate n z).toArray := by
 apply Array.ext'
 rw [toList_madeCells_one]
theorem spot_none {w : World} {x : Addr} {v : Value} (h : w.cell? (x.add 0) = some v) : ∃ b o, x = ⟨b, o, none⟩ ∧ b < w.heap.size := by
 obtain ⟨b, o, s⟩ := x
 have hs : s = none := by simpa [Addr.add] using World.cell?_spot h
 subst hs
 rw [at_add] at h
 exact ⟨b, o, rfl, cell_lt h⟩
theorem heap_new (w : World) (o : Obj) : (w.alloc o).heap[w.heap.size]? = some o := by
 show (w.heap.push o)[w.heap.size]? = some o
 simp
def IsI (w : World) (a : Option Addr) (c : Nat) (ms : List Int) : Prop :=
 ms.length ≤ c ∧ c ≤ maxLen ∧ ∀ j m, ms[j]? = some m → ∃ b o, a = some ⟨b, o, none⟩ ∧ b < w.heap.size ∧ w.cell? ⟨b, o + j, none⟩ = some (.int .i64 m)
theorem IsI.below {w w' : World} {a : Option Addr} {c : Nat} {ms : List Int} (h : IsI w a c ms) (hb : Below w.heap.size w w') : IsI w' a c ms := by
 refine ⟨h.1, h.2.1, fun j x hx => ?_⟩
 obtain ⟨b, o, ha, hlt, hc⟩ := h.2.2 j x hx
 exact ⟨b, o, ha, Nat.lt_of_lt_of_le hlt hb.size, by rw [hb.cell (p := ⟨b, o + j, none⟩) hlt]; exact hc⟩
theorem isI_one (W : World) (m : Int) : IsI (W.alloc (.cells #[.int .i64 m] 3)) (some ⟨W.heap.size, 0, none⟩) 1 [m] := by
 refine ⟨Nat.le_refl _, by unfold maxLen; omega, fun j d hd => ?_⟩
 match j, hd with
 | 0, hd =>
  simp at hd
  subst hd
  exact ⟨W.heap.size, 0, rfl, by simp, World.cell?_alloc_at _ _ _ _ rfl⟩
theorem min_run {x y z : Int} (h : min x y = z) (W : World) : (Builtin.min_ #[3, 3] 3 #[.int .i64 x, .int .i64 y]).run Try.prog W = .ok (.int .i64 z) W := by
 simp [Builtin.min_, Builtin.min2]
 split <;> omega
theorem str_beq {a b : ByteArray} : (a.toList == b.toList) = true ↔ a = b := by
 rw [beq_iff_eq, ByteArray.toList_eq, ByteArray.toList_eq]
 exact ⟨bytes_ext, fun h => by rw [h]⟩
theorem str_eq_true {a b : ByteArray} (h : a = b) : (a.toList == b.toList) = true := str_beq.2 h
theorem str_eq_false {a b : ByteArray} (h : ¬ a = b) : (a.toList == b.toList) = false := by
 rw [Bool.eq_false_iff]; exact fun hh => h (str_beq.1 hh)
theorem str_ne_false {a b : ByteArray} (h : a = b) : (!a.toList == b.toList) = false := by rw [str_eq_true h]; rfl
theorem str_ne_true {a b : ByteArray} (h : ¬ a = b) : (!a.toList == b.toList) = true := by rw [str_eq_false h]; rfl
def IsS (w : World) (a : Option Addr) (c : Nat) (bs : List ByteArray) : Prop :=
 bs.length ≤ c ∧ c ≤ maxLen ∧ ∀ j x, bs[j]? = some x → ∃ b o, a = some ⟨b, o, none⟩ ∧ b < w.heap.size ∧ w.cell? ⟨b, o + j, none⟩ = some (.string x) ∧ x.size ≤ maxLen
theorem IsS.below {w w' : World} {a : Option Addr} {c : Nat} {bs : List ByteArray} (h : IsS w a c bs) (hb : Below w.heap.size w w') : IsS w' a c bs := by
 refine ⟨h.1, h.2.1, fun j x hx => ?_⟩
 obtain ⟨b, o, ha, hlt, hc, hs⟩ := h.2.2 j x hx
 exact ⟨b, o, ha, Nat.lt_of_lt_of_le hlt hb.size, by rw [hb.cell (p := ⟨b, o + j, none⟩) hlt]; exact hc, hs⟩
theorem isS_nil (w : World) : IsS w none 0 [] := ⟨Nat.le_refl _, Nat.zero_le _, fun j m hj => by simp at hj⟩
theorem isI_nil (w : World) : IsI w none 0 [] := ⟨Nat.le_refl _, Nat.zero_le _, fun j m hj => by simp at hj⟩
theorem IsS.size {w : World} {a : Option Addr} {c : Nat} {bs : List ByteArray} (h : IsS w a c bs) : bs.length ≤ 9223372036854775807 := Nat.le_trans h.1 h.2.1
theorem IsI.size {w : World} {a : Option Addr} {c : Nat} {bs : List Int} (h : IsI w a c bs) : bs.length ≤ 9223372036854775807 := Nat.le_trans h.1 h.2.1
theorem open_S {H : Type} {enc : TypeId × Value → H} {w : World} {fuel : Nat} {v : Value} {x : DataW H × List MemPlace}
  (h : DataW.trod enc Try.prog w 0 (fun _ => true) true fuel 25 [v] = some x) : ∃ a c bs, v = .slice a bs.length c ∧ IsS w a c bs := by
 rcases open_strings Try.underlying25 Try.underlying9 (by kernel_rfl) h with ⟨hcs, _⟩ | ⟨a, l, c, ss, hcs, _, hl, hm, hz, _, hcell, hwz⟩
 ·
  simp at hcs
  exact ⟨none, 0, [], hcs, isS_nil _⟩
 ·
  simp at hcs
  simp at hz
  refine ⟨some a, c, ss.take l, by rw [List.length_take, hz, Nat.min_eq_left hl]; exact hcs, by rw [List.length_take]; omega, hm, fun j y hy => ?_⟩
  have hjl : j < ss.length := by
   have := (List.getElem?_eq_some_iff.1 hy).1
   rw [List.length_take] at this; omega
  have hyy : ss[j]? = some y := by
   rw [List.getElem?_take] at hy
   split at hy
   ·
    exact hy
   ·
    cases hy
  have hc := hcell j hjl
  rw [List.getD_eq_getElem?_getD, hyy] at hc
  obtain ⟨b, o, rfl, hb⟩ := spot_none (hcell 0 (by omega))
  rw [at_add] at hc
  exact ⟨b, o, rfl, hb, hc, hwz y (List.mem_of_getElem? hyy)⟩
def Box4 (w : World) (h : Nat) (v0 v1 v2 v3 : Value) : Prop :=
 (w.cell? ⟨h, 0, none⟩ = some v0 ∧ w.cell? ⟨h, 1, none⟩ = some v1 ∧ w.cell? ⟨h, 2, none⟩ = some v2 ∧ w.cell? ⟨h, 3, none⟩ = some v3) ∧ w.frozen? ⟨h, 0, none⟩ = false ∧ w.frozen? ⟨h, 1, none⟩ = false ∧ w.frozen? ⟨h, 2, none⟩ = false ∧ w.frozen? ⟨h, 3, none⟩ = false
theorem box4_new (w : World) (v0 v1 v2 v3 : Value) (t : TypeId) {h : Nat} (hh : h = w.heap.size) : Box4 (w.alloc (.cells #[v0, v1, v2, v3] t)) h v0 v1 v2 v3 := by
 subst hh
 refine ⟨⟨World.cell?_alloc_at _ _ _ _ rfl, World.cell?_alloc_at _ _ _ _ rfl, World.cell?_alloc_at _ _ _ _ rfl, World.cell?_alloc_at _ _ _ _ rfl⟩, ?_, ?_, ?_, ?_⟩
 ·
  exact (World.frozen?_alloc_mark w _ _ _ _ 0).trans (by simp)
 ·
  exact (World.frozen?_alloc_mark w _ _ _ _ 1).trans (by simp)
 ·
  exact (World.frozen?_alloc_mark w _ _ _ _ 2).trans (by simp)
 ·
  exact (World.frozen?_alloc_mark w _ _ _ _ 3).trans (by simp)
theorem Box4.lt {w : World} {h : Nat} {v0 v1 v2 v3 : Value} (b : Box4 w h v0 v1 v2 v3) : h < w.heap.size := cell_lt b.1.1
theorem Box4.below {w w' : World} {h : Nat} {v0 v1 v2 v3 : Value} (b : Box4 w h v0 v1 v2 v3) (hb : Below w.heap.size w w') : Box4 w' h v0 v1 v2 v3 := by
 have hl := b.lt
 obtain ⟨⟨c0, c1, c2, c3⟩, f0, f1, f2, f3⟩ := b
 exact ⟨⟨cell_below hb c0, cell_below hb c1, cell_below hb c2, cell_below hb c3⟩, by rw [hb.frozen (p := ⟨h, 0, none⟩) hl]; exact f0, by rw [hb.frozen (p := ⟨h, 1, none⟩) hl]; exact f1, by rw [hb.frozen (p := ⟨h, 2, none⟩) hl]; exact f2, by rw [hb.frozen (p := ⟨h, 3, none⟩) hl]; exact f3⟩
theorem Box4.alloc {w : World} {h : Nat} {v0 v1 v2 v3 : Value} (b : Box4 w h v0 v1 v2 v3) (o : Obj) : Box4 (w.alloc o) h v0 v1 v2 v3 := b.below ((Below.refl _ _).alloc (Nat.le_refl _) o)
theorem Box4.drew {w : World} {h : Nat} {v0 v1 v2 v3 : Value} (b : Box4 w h v0 v1 v2 v3) : Box4 w.drew h v0 v1 v2 v3 := b.below (Below.refl _ _).drew
end Go.Proofs.Ytpepgpjiddophaa
namespace Go.Proofs.Ytpepgpjiddophaa
open Go.RowKit Plain
set_option linter.unusedVariables false
structure Turns (P : Nat → Prop) (w w' : World) : Prop where
 os : w'.os = w.os
 tape : w'.tape = w.tape
 output : w'.output = w.output
 size : w.heap.size ≤ w'.heap.size
 block : ∀ k, k < w.heap.size → ¬ P k → w'.heap[k]? = w.heap[k]?
theorem Turns.refl (P : Nat → Prop) (w : World) : Turns P w w := ⟨rfl, rfl, rfl, Nat.le_refl _, fun _ _ _ => rfl⟩
theorem Turns.trans {P : Nat → Prop} {a b c : World} (h : Turns P a b) (k : Turns P b c) : Turns P a c :=
 ⟨k.os.trans h.os, k.tape.trans h.tape, k.output.trans h.output, Nat.le_trans h.size k.size, fun i hi hp => (k.block i (Nat.lt_of_lt_of_le hi h.size) hp).trans (h.block i hi hp)⟩
theorem Turns.mono {P Q : Nat → Prop} {w w' : World} (h : Turns P w w') (hq : ∀ k, P k → Q k) : Turns Q w w' :=
 ⟨h.os, h.tape, h.output, h.size, fun k hk hp => h.block k hk fun x => hp (hq k x)⟩
theorem Turns.mono' {P Q : Nat → Prop} {w w' : World} (h : Turns P w w') (hq : ∀ k, k < w.heap.size → P k → Q k) : Turns Q w w' :=
 ⟨h.os, h.tape, h.output, h.size, fun k hk hp => h.block k hk fun x => hp (hq k hk x)⟩
theorem Turns.of_below {P : Nat → Prop} {w w' : World} (h : Below w.heap.size w w') : Turns P w w' :=
 ⟨h.os, h.tape, h.output, h.size, fun k hk _ => h.block k hk⟩
theorem Turns.drew {P : Nat → Prop} {a w : World} (h : Turns P a w) : Turns P a w.drew := ⟨h.os, h.tape, h.output, h.size, h.block⟩
theorem Turns.alloc {P : Nat → Prop} {a w : World} (h : Turns P a w) (o : Obj) : Turns P a (w.alloc o) :=
 h.trans (Turns.of_below ((Below.refl _ _).alloc (Nat.le_refl _) o))
theorem Turns.setCell {P : Nat → Prop} {a w : World} (h : Turns P a w) {p : Addr} (hp : P p.block) (u : Value) : Turns P a (w.setCell p u) :=
 h.trans ⟨rfl, rfl, rfl, by simp [World.setCell], fun k hk hn => Below.heap_setCell _ _ _ _ (fun e => hn (e ▸ hp))⟩
theorem Turns.grown {P : Nat → Prop} {a w w' : World} {row : Option Nat} (h : Turns P a w) (hg : w.grownBy w' row) (hr : ∀ k, row = some k → P k) : Turns P a w' :=
 h.trans ⟨hg.os, hg.tape, hg.output, hg.size, fun k hk hn => hg.block k hk fun e => hn (hr k e.symm)⟩
theorem Turns.tr {P : Nat → Prop} {a w w' : World} (h : Turns P a w) (hb : Below w.heap.size w w') : Turns P a w' := h.trans (Turns.of_below hb)
theorem Turns.cell {P : Nat → Prop} {w w' : World} (h : Turns P w w') {p : Addr} {v : Value} (hn : ¬ P p.block) (hc : w.cell? p = some v) : w'.cell? p = some v := by
 rw [World.cell?_of_block (w := w) (h.block p.block (cell_lt hc) hn)]; exact hc
theorem Turns.frozen {P : Nat → Prop} {w w' : World} (h : Turns P w w') {p : Addr} (hl : p.block < w.heap.size) (hn : ¬ P p.block) (hc : w.frozen? p = false) : w'.frozen? p = false := by
 rw [World.frozen?_of_block (w := w) (h.block p.block hl hn)]; exact hc
theorem Below.turns {P : Nat → Prop} {w a b : World} (h : Below w.heap.size w a) (k : Turns P a b) (hP : ∀ i, P i → w.heap.size ≤ i) : Below w.heap.size w b :=
 ⟨k.os.trans h.os, k.tape.trans h.tape, k.output.trans h.output, Nat.le_trans h.size k.size, fun i hi => (k.block i (Nat.lt_of_lt_of_le hi h.size) fun x => by have := hP i x; omega).trans (h.block i hi)⟩
theorem Turns.owns {P : Nat → Prop} {w w' : World} {B : Nat} {e : TypeId} {s : Nat} {v : Value} {n : Nat} {xs : List Value} (h : Turns P w w') (ho : w.ownsRow B e s v n xs) (hn : ∀ g, v.ownBlock = some g → ¬ P g) : w'.ownsRow B e s v n xs := by
 obtain ⟨h1, h2⟩ := ho
 refine ⟨h1, ?_⟩
 rcases h2 with h2 | ⟨g, cap, cur, hv, hg, hh, r⟩
 ·
  exact .inl h2
 ·
  have hl : g < w.heap.size := by
   refine Nat.lt_of_not_le fun hx => ?_
   rw [Array.getElem?_eq_none hx] at hh
   cases hh
  exact .inr ⟨g, cap, cur, hv, hg, by rw [h.block g hl (hn g (by rw [hv]; rfl))]; exact hh, r⟩
def From (base : Nat) (a : Option Addr) : Prop := ∀ x, a = some x → base ≤ x.block
theorem from_nil (base : Nat) : From base none := fun x h => by cases h
theorem From.mono {base base' : Nat} {a : Option Addr} (h : From base a) (hb : base' ≤ base) : From base' a := fun x e => Nat.le_trans hb (h x e)
theorem IsI.turns {P : Nat → Prop} {w w' : World} {a : Option Addr} {c : Nat} {ms : List Int} (h : IsI w a c ms) (t : Turns P w w') (hp : ∀ x, a = some x → ¬ P x.block) : IsI w' a c ms := by
 refine ⟨h.1, h.2.1, fun j x hx => ?_⟩
 obtain ⟨b, o, ha, hlt, hc⟩ := h.2.2 j x hx
 exact ⟨b, o, ha, Nat.lt_of_lt_of_le hlt t.size, t.cell (p := ⟨b, o + j, none⟩) (hp ⟨b, o, none⟩ ha) hc⟩
theorem IsS.turns {P : Nat → Prop} {w w' : World} {a : Option Addr} {c : Nat} {ms : List ByteArray} (h : IsS w a c ms) (t : Turns P w w') (hp : ∀ x, a = some x → ¬ P x.block) : IsS w' a c ms := by
 refine ⟨h.1, h.2.1, fun j x hx => ?_⟩
 obtain ⟨b, o, ha, hlt, hc, hs⟩ := h.2.2 j x hx
 exact ⟨b, o, ha, Nat.lt_of_lt_of_le hlt t.size, t.cell (p := ⟨b, o + j, none⟩) (hp ⟨b, o, none⟩ ha) hc, hs⟩
def Apart (u v : Value) : Prop := ∀ g, u.ownBlock = some g → v.ownBlock ≠ some g
theorem Apart.symm {u v : Value} (h : Apart u v) : Apart v u := fun g h1 h2 => h g h2 h1
theorem apart_nil (v : Value) (c : Nat) : Apart (.slice none 0 c) v := fun g h => by simp [Value.ownBlock] at h
theorem apart_grown {v u : Value} {g n cap H : Nat} (h : Apart v u) (hg : v.ownBlock = some g ∨ g = H) (hu : ∀ k, u.ownBlock = some k → k < H) : Apart (.slice (some ⟨g, 0, none⟩) n cap) u := by
 intro k h1 h2
 simp [Value.ownBlock] at h1
 subst h1
 rcases hg with hg | hg
 ·
  exact h g hg h2
 ·
  have := hu g h2; omega
theorem push_S (W : World) (base : Nat) (v : Value) (n : Nat) (l : List ByteArray) (x : ByteArray) (hown : W.ownsRow base 9 1 v n (l.map Value.string)) (hb : base ≤ W.heap.size) (hn : n ≤ 4096) :
  ∃ g cap w', (Builtin.append_ #[25, 25] 25 #[v, .slice (some ⟨W.heap.size, 0, none⟩) 1 1]).run Try.prog (W.alloc (.cells #[.string x] 9)) = .ok (.slice (some ⟨g, 0, none⟩) (n + 1) cap) w' ∧
   w'.ownsRow base 9 1 (.slice (some ⟨g, 0, none⟩) (n + 1) cap) (n + 1) ((l ++ [x]).map Value.string) ∧ (W.alloc (.cells #[.string x] 9)).grownBy w' v.ownBlock ∧ (v.ownBlock = some g ∨ g = W.heap.size + 1) ∧ base ≤ g ∧ g < w'.heap.size := by
 obtain ⟨i0, hi, hz0, hz1, hz2⟩ := info_parts Try.info9
 obtain ⟨g, cap, w', h1, h2, h3, h4, h5⟩ := run_append_lies (P := Try.prog) (W.alloc (.cells #[.string x] 9)) 25 25 base 9 i0 _ 1 16 Try.underlying25 hi hz0 hz1 hz2 rfl (by decide) v n (l.map Value.string) (hown.alloc _) ⟨W.heap.size, 0, none⟩ 1 1 [.string x] rfl
  (by
   intro j u hj
   match j, hj with
   | 0, hj => simp at hj; subst hj; rw [at_add]; exact World.cell?_alloc_at _ _ _ _ rfl)
  (by intro u hu; simp at hu; subst hu; rfl) (by omega) (by unfold maxLen; omega) (by omega) (by simp; omega) (W.heap.size + 1) (by simp)
 refine ⟨g, cap, w', h1, by rw [List.map_append]; exact h2, h3, h4, (h2.lt g rfl).1, h5⟩
theorem owns_S {w : World} {base : Nat} {v : Value} {n : Nat} {l : List ByteArray} (h : w.ownsRow base 9 1 v n (l.map Value.string)) (hl : ∀ x ∈ l, x.size ≤ maxLen) : ∃ a c, v = .slice a n c ∧ n = l.length ∧ IsS w a c l ∧ From base a := by
 have hlen : l.length = n := by simpa using h.1
 have hcells := fun g => h.cells (g := g)
 have hlt := h.lt
 rcases h.2 with ⟨rfl, rfl⟩ | ⟨g, cap, cur, rfl, hg, hh, hnc, hcm, hcs, htk⟩
 ·
  obtain rfl : l = [] := List.length_eq_zero_iff.1 hlen
  exact ⟨none, 0, rfl, rfl, ⟨Nat.le_refl _, Nat.zero_le _, fun j m hj => by simp at hj⟩, from_nil _⟩
 ·
  refine ⟨_, _, rfl, hlen.symm, ⟨by omega, hcm, fun j x hx => ⟨g, 0, rfl, (hlt g rfl).2, ?_, hl x (List.mem_of_getElem? hx)⟩⟩, fun x hx => by cases hx; exact hg⟩
  have := hcells g rfl j (.string x) (by rw [List.getElem?_map, hx]; rfl)
  rw [at_add] at this
  exact this
theorem push_Z (W : World) (base : Nat) (v : Value) (n : Nat) (l : List Int) (x : Int) (hown : W.ownsRow base 3 1 v n (l.map (Value.int .i64))) (hb : base ≤ W.heap.size) (hn : n ≤ 4096) :
  ∃ g cap w', (Builtin.append_ #[28, 28] 28 #[v, .slice (some ⟨W.heap.size, 0, none⟩) 1 1]).run Try.prog (W.alloc (.cells #[.int .i64 x] 3)) = .ok (.slice (some ⟨g, 0, none⟩) (n + 1) cap) w' ∧
   w'.ownsRow base 3 1 (.slice (some ⟨g, 0, none⟩) (n + 1) cap) (n + 1) ((l ++ [x]).map (Value.int .i64)) ∧ (W.alloc (.cells #[.int .i64 x] 3)).grownBy w' v.ownBlock ∧ (v.ownBlock = some g ∨ g = W.heap.size + 1) ∧ base ≤ g ∧ g < w'.heap.size := by
 obtain ⟨i0, hi, hz0, hz1, hz2⟩ := info_parts Try.info3
 obtain ⟨g, cap, w', h1, h2, h3, h4, h5⟩ := run_append_lies (P := Try.prog) (W.alloc (.cells #[.int .i64 x] 3)) 28 28 base 3 i0 _ 1 8 Try.underlying28 hi hz0 hz1 hz2 rfl (by decide) v n (l.map (Value.int .i64)) (hown.alloc _) ⟨W.heap.size, 0, none⟩ 1 1 [.int .i64 x] rfl
  (by
   intro j u hj
   match j, hj with
   | 0, hj => simp at hj; subst hj; rw [at_add]; exact World.cell?_alloc_at _ _ _ _ rfl)
  (by intro u hu; simp at hu; subst hu; rfl) (by omega) (by unfold maxLen; omega) (by omega) (by simp; omega) (W.heap.size + 1) (by simp)
 refine ⟨g, cap, w', h1, by rw [List.map_append]; exact h2, h3, h4, (h2.lt g rfl).1, h5⟩
theorem owns_I {w : World} {base : Nat} {v : Value} {n : Nat} {l : List Int} (h : w.ownsRow base 3 1 v n (l.map (Value.int .i64))) : ∃ a c, v = .slice a n c ∧ n = l.length ∧ IsI w a c l ∧ From base a := by
 have hlen : l.length = n := by simpa using h.1
 have hcells := fun g => h.cells (g := g)
 have hlt := h.lt
 rcases h.2 with ⟨rfl, rfl⟩ | ⟨g, cap, cur, rfl, hg, hh, hnc, hcm, hcs, htk⟩
 ·
  obtain rfl : l = [] := List.length_eq_zero_iff.1 hlen
  exact ⟨none, 0, rfl, rfl, ⟨Nat.le_refl _, Nat.zero_le _, fun j m hj => by simp at hj⟩, from_nil _⟩
 ·
  refine ⟨_, _, rfl, hlen.symm, ⟨by omega, hcm, fun j x hx => ⟨g, 0, rfl, (hlt g rfl).2, ?_⟩⟩, fun x hx => by cases hx; exact hg⟩
  have := hcells g rfl j (.int .i64 x) (by rw [List.getElem?_map, hx]; rfl)
  rw [at_add] at this
  exact this
end Go.Proofs.Ytpepgpjiddophaa
namespace Go.Proofs.Ytpepgpjiddophaa
open Go.RowKit Plain
theorem conv_row (w : World) (l : List UInt8) (m : Nat) (hm : l.length = m) (cap : Nat) :
  (convert 100 9 (.slice (some ⟨w.heap.size, 0, none⟩) m cap)).run Try.prog (w.alloc (.cells ((l.map cellOf).toArray) 5)) = .ok (.string ⟨l.toArray⟩) (w.alloc (.cells ((l.map cellOf).toArray) 5)) := by
 subst hm
 refine run_convert_bytes_back (P := Try.prog) _ 100 9 5 ⟨w.heap.size, 0, none⟩ cap l Try.underlying100 Try.underlying5 Try.underlying9 fun j hj => ?_
 have e : (⟨w.heap.size, 0, none⟩ : Addr).add j = ⟨w.heap.size, j, none⟩ := by
  by_cases h : j = 0 <;> simp [Addr.add, h]
 rw [e, World.cell?_alloc_at _ _ _ _ rfl]
 simp [cellOf, hj]
end Go.Proofs.Ytpepgpjiddophaa
namespace Go.Proofs.Ytpepgpjiddophaa
open Go.RowKit Plain Go.ChangeShapes Go.WideShapes
set_option linter.unusedVariables false
def Box3 (w : World) (h : Nat) (v0 v1 v2 : Value) : Prop :=
 (w.cell? ⟨h, 0, none⟩ = some v0 ∧ w.cell? ⟨h, 1, none⟩ = some v1 ∧ w.cell? ⟨h, 2, none⟩ = some v2) ∧ w.frozen? ⟨h, 0, none⟩ = false ∧ w.frozen? ⟨h, 1, none⟩ = false ∧ w.frozen? ⟨h, 2, none⟩ = false
theorem box3_new (w : World) (v0 v1 v2 : Value) (t : TypeId) : Box3 (w.alloc (.cells #[v0, v1, v2] t)) w.heap.size v0 v1 v2 := by
 refine ⟨⟨World.cell?_alloc_at _ _ _ _ rfl, World.cell?_alloc_at _ _ _ _ rfl, World.cell?_alloc_at _ _ _ _ rfl⟩, ?_, ?_, ?_⟩
 ·
  exact (World.frozen?_alloc_mark w _ _ _ _ 0).trans (by simp)
 ·
  exact (World.frozen?_alloc_mark w _ _ _ _ 1).trans (by simp)
 ·
  exact (World.frozen?_alloc_mark w _ _ _ _ 2).trans (by simp)
theorem Box3.below {w w' : World} {h : Nat} {v0 v1 v2 : Value} (b : Box3 w h v0 v1 v2) (hb : Below w.heap.size w w') : Box3 w' h v0 v1 v2 := by
 obtain ⟨⟨c0, c1, c2⟩, f0, f1, f2⟩ := b
 have hl := cell_lt c0
 exact ⟨⟨cell_below hb c0, cell_below hb c1, cell_below hb c2⟩, by rw [hb.frozen (p := ⟨h, 0, none⟩) hl]; exact f0, by rw [hb.frozen (p := ⟨h, 1, none⟩) hl]; exact f1, by rw [hb.frozen (p := ⟨h, 2, none⟩) hl]; exact f2⟩
end Go.Proofs.Ytpepgpjiddophaa
namespace Go.Proofs.Ytpepgpjiddophaa
open Go.RowKit Plain
set_option linter.unusedVariables false
theorem Box4.turns {P : Nat → Prop} {w w' : World} {h : Nat} {v0 v1 v2 v3 : Value} (b : Box4 w h v0 v1 v2 v3) (t : Turns P w w') (hp : ¬ P h) : Box4 w' h v0 v1 v2 v3 := by
 have hl := b.lt
 obtain ⟨⟨c0, c1, c2, c3⟩, f0, f1, f2, f3⟩ := b
 exact ⟨⟨t.cell hp c0, t.cell hp c1, t.cell hp c2, t.cell hp c3⟩, t.frozen (p := ⟨h, 0, none⟩) hl hp f0, t.frozen (p := ⟨h, 1, none⟩) hl hp f1, t.frozen (p := ⟨h, 2, none⟩) hl hp f2, t.frozen (p := ⟨h, 3, none⟩) hl hp f3⟩
theorem Box3.lt {w : World} {h : Nat} {v0 v1 v2 : Value} (b : Box3 w h v0 v1 v2) : h < w.heap.size := cell_lt b.1.1
theorem Box3.turns {P : Nat → Prop} {w w' : World} {h : Nat} {v0 v1 v2 : Value} (b : Box3 w h v0 v1 v2) (t : Turns P w w') (hp : ¬ P h) : Box3 w' h v0 v1 v2 := by
 have hl := b.lt
 obtain ⟨⟨c0, c1, c2⟩, f0, f1, f2⟩ := b
 exact ⟨⟨t.cell hp c0, t.cell hp c1, t.cell hp c2⟩, t.frozen (p := ⟨h, 0, none⟩) hl hp f0, t.frozen (p := ⟨h, 1, none⟩) hl hp f1, t.frozen (p := ⟨h, 2, none⟩) hl hp f2⟩
theorem Box3.set12 {w : World} {h : Nat} {v0 v1 v2 : Value} (b : Box3 w h v0 v1 v2) (u1 u2 : Value) : Box3 ((w.setCell ⟨h, 1, none⟩ u1).setCell ⟨h, 2, none⟩ u2) h v0 u1 u2 := by
 obtain ⟨⟨c0, c1, c2⟩, f0, f1, f2⟩ := b
 refine ⟨⟨?_, ?_, ?_⟩, ?_, ?_, ?_⟩
 ·
  rw [World.cell?_setCell_other _ _ _ _ (fun hh => by cases hh), World.cell?_setCell_other _ _ _ _ (fun hh => by cases hh)]; exact c0
 ·
  rw [World.cell?_setCell_other _ _ _ _ (fun hh => by cases hh)]; exact World.cell?_setCell_same _ _ _ c1
 ·
  have c2' : (w.setCell ⟨h, 1, none⟩ u1).cell? ⟨h, 2, none⟩ = some v2 := by rw [World.cell?_setCell_other _ _ _ _ (fun hh => by cases hh)]; exact c2
  exact World.cell?_setCell_same _ _ _ c2'
 ·
  rw [World.frozen?_setCell, World.frozen?_setCell]; exact f0
 ·
  rw [World.frozen?_setCell, World.frozen?_setCell]; exact f1
 ·
  rw [World.frozen?_setCell, World.frozen?_setCell]; exact f2
def Off (h : Nat) (u : Value) : Prop := ∀ g, u.ownBlock = some g → g ≠ h
theorem off_nil (h c : Nat) : Off h (.slice none 0 c) := fun g hg => by simp [Value.ownBlock] at hg
theorem off_grown {h g n cap H : Nat} {v : Value} (ho : Off h v) (hg : v.ownBlock = some g ∨ g = H) (hh : h < H) : Off h (.slice (some ⟨g, 0, none⟩) n cap) := by
 intro k hk
 simp [Value.ownBlock] at hk
 subst hk
 rcases hg with hg | hg
 ·
  exact ho g hg
 ·
  omega
theorem owns_off {w : World} {B : Nat} {e : TypeId} {s : Nat} {v : Value} {n h : Nat} {xs : List Value} (ho : w.ownsRow B e s v n xs) (hf : Off h v) (i : Nat) (u : Value) : (w.setCell ⟨h, i, none⟩ u).ownsRow B e s v n xs :=
 Turns.owns (P := fun k => k = h) (Turns.setCell (P := fun k => k = h) (Turns.refl _ _) (p := ⟨h, i, none⟩) rfl u) ho fun g hg e => hf g hg e
structure NodeAt (w : World) (h B : Nat) (l : Bool) (u1 u2 u3 : Value) (xs ys : List ByteArray) (zs : List Int) : Prop where
 box : Box4 w h (.bool l) u1 u2 u3
 r1 : w.ownsRow B 9 1 u1 xs.length (xs.map Value.string)
 r2 : w.ownsRow B 9 1 u2 ys.length (ys.map Value.string)
 r3 : w.ownsRow B 3 1 u3 zs.length (zs.map (Value.int .i64))
 a12 : Apart u1 u2
 a13 : Apart u1 u3
 a23 : Apart u2 u3
 o1 : Off h u1
 o2 : Off h u2
 o3 : Off h u3
 le : B ≤ w.heap.size
theorem NodeAt.turns {P : Nat → Prop} {w w' : World} {h B : Nat} {l : Bool} {u1 u2 u3 : Value} {xs ys : List ByteArray} {zs : List Int} (n : NodeAt w h B l u1 u2 u3 xs ys zs) (t : Turns P w w') (hp : ¬ P h) (hb : ∀ k, P k → k < B) : NodeAt w' h B l u1 u2 u3 xs ys zs :=
 ⟨n.box.turns t hp, t.owns n.r1 fun g hg x => by have := (n.r1.lt g hg).1; have := hb g x; omega, t.owns n.r2 fun g hg x => by have := (n.r2.lt g hg).1; have := hb g x; omega, t.owns n.r3 fun g hg x => by have := (n.r3.lt g hg).1; have := hb g x; omega, n.a12, n.a13, n.a23, n.o1, n.o2, n.o3, Nat.le_trans n.le t.size⟩
theorem NodeAt.below {w w' : World} {h B : Nat} {l : Bool} {u1 u2 u3 : Value} {xs ys : List ByteArray} {zs : List Int} (n : NodeAt w h B l u1 u2 u3 xs ys zs) (hb : Below w.heap.size w w') : NodeAt w' h B l u1 u2 u3 xs ys zs :=
 n.turns (P := fun _ => False) (Turns.of_below hb) id (fun _ x => x.elim)
theorem NodeAt.drew {w : World} {h B : Nat} {l : Bool} {u1 u2 u3 : Value} {xs ys : List ByteArray} {zs : List Int} (n : NodeAt w h B l u1 u2 u3 xs ys zs) : NodeAt w.drew h B l u1 u2 u3 xs ys zs := n.below (Below.refl _ _).drew
theorem NodeAt.alloc {w : World} {h B : Nat} {l : Bool} {u1 u2 u3 : Value} {xs ys : List ByteArray} {zs : List Int} (n : NodeAt w h B l u1 u2 u3 xs ys zs) (o : Obj) : NodeAt (w.alloc o) h B l u1 u2 u3 xs ys zs := n.below ((Below.refl _ _).alloc (Nat.le_refl _) o)
def Own (h B : Nat) (k : Nat) : Prop := k = h ∨ B ≤ k
theorem NodeAt.push1 {w : World} {h B : Nat} {l : Bool} {u1 u2 u3 : Value} {xs ys : List ByteArray} {zs : List Int} (n : NodeAt w h B l u1 u2 u3 xs ys zs) (x : ByteArray) (hl : xs.length ≤ 4096) :
  ∃ g cap w', (Builtin.append_ #[25, 25] 25 #[u1, .slice (some ⟨w.heap.size, 0, none⟩) 1 1]).run Try.prog (w.alloc (.cells #[.string x] 9)) = .ok (.slice (some ⟨g, 0, none⟩) (xs.length + 1) cap) w' ∧ Box4 w' h (.bool l) u1 u2 u3 ∧
   NodeAt (w'.setCell ⟨h, 1, none⟩ (.slice (some ⟨g, 0, none⟩) (xs.length + 1) cap)) h B l (.slice (some ⟨g, 0, none⟩) (xs.length + 1) cap) u2 u3 (xs ++ [x]) ys zs ∧ Turns (Own h B) w (w'.setCell ⟨h, 1, none⟩ (.slice (some ⟨g, 0, none⟩) (xs.length + 1) cap)) := by
 obtain ⟨g, cap, w', hrun, hown, hgr, hat, hge, hlt⟩ := push_S w B u1 xs.length xs x n.r1 n.le hl
 have t0 : Turns (fun k => u1.ownBlock = some k) w w' := ((Turns.refl _ _).alloc _).grown hgr (fun k hk => hk)
 have hbox : Box4 w' h (.bool l) u1 u2 u3 := n.box.turns t0 fun hk => n.o1 h hk rfl
 have hh : h < w.heap.size + 1 := by have := n.box.lt; omega
 refine ⟨g, cap, w', hrun, hbox, ⟨?_, ?_, ?_, ?_, ?_, ?_, n.a23, off_grown n.o1 hat hh, n.o2, n.o3, ?_⟩, ?_⟩
 ·
  obtain ⟨⟨c0, c1, c2, c3⟩, f0, f1, f2, f3⟩ := hbox
  refine ⟨⟨?_, World.cell?_setCell_same _ _ _ c1, ?_, ?_⟩, ?_, ?_, ?_, ?_⟩
  ·
   rw [World.cell?_setCell_other _ _ _ _ (fun hh => by cases hh)]; exact c0
  ·
   rw [World.cell?_setCell_other _ _ _ _ (fun hh => by cases hh)]; exact c2
  ·
   rw [World.cell?_setCell_other _ _ _ _ (fun hh => by cases hh)]; exact c3
  ·
   rw [World.frozen?_setCell]; exact f0
  ·
   rw [World.frozen?_setCell]; exact f1
  ·
   rw [World.frozen?_setCell]; exact f2
  ·
   rw [World.frozen?_setCell]; exact f3
 ·
  rw [List.length_append]
  exact owns_off hown (off_grown n.o1 hat hh) 1 _
 ·
  exact owns_off (t0.owns n.r2 fun k h2 h1 => n.a12 k h1 h2) n.o2 1 _
 ·
  exact owns_off (t0.owns n.r3 fun k h2 h1 => n.a13 k h1 h2) n.o3 1 _
 ·
  exact apart_grown n.a12 hat fun k hk => by have := (n.r2.lt k hk).2; omega
 ·
  exact apart_grown n.a13 hat fun k hk => by have := (n.r3.lt k hk).2; omega
 ·
  have := t0.size
  have := n.le
  simp; omega
 ·
  exact (t0.mono fun k hk => .inr (n.r1.lt k hk).1).setCell (p := ⟨h, 1, none⟩) (.inl rfl) _
theorem NodeAt.push2 {w : World} {h B : Nat} {l : Bool} {u1 u2 u3 : Value} {xs ys : List ByteArray} {zs : List Int} (n : NodeAt w h B l u1 u2 u3 xs ys zs) (x : ByteArray) (hl : ys.length ≤ 4096) :
  ∃ g cap w', (Builtin.append_ #[25, 25] 25 #[u2, .slice (some ⟨w.heap.size, 0, none⟩) 1 1]).run Try.prog (w.alloc (.cells #[.string x] 9)) = .ok (.slice (some ⟨g, 0, none⟩) (ys.length + 1) cap) w' ∧ Box4 w' h (.bool l) u1 u2 u3 ∧
   NodeAt (w'.setCell ⟨h, 2, none⟩ (.slice (some ⟨g, 0, none⟩) (ys.length + 1) cap)) h B l u1 (.slice (some ⟨g, 0, none⟩) (ys.length + 1) cap) u3 xs (ys ++ [x]) zs ∧ Turns (Own h B) w (w'.setCell ⟨h, 2, none⟩ (.slice (some ⟨g, 0, none⟩) (ys.length + 1) cap)) := by
 obtain ⟨g, cap, w', hrun, hown, hgr, hat, hge, hlt⟩ := push_S w B u2 ys.length ys x n.r2 n.le hl
 have t0 : Turns (fun k => u2.ownBlock = some k) w w' := ((Turns.refl _ _).alloc _).grown hgr (fun k hk => hk)
 have hbox : Box4 w' h (.bool l) u1 u2 u3 := n.box.turns t0 fun hk => n.o2 h hk rfl
 have hh : h < w.heap.size + 1 := by have := n.box.lt; omega
 refine ⟨g, cap, w', hrun, hbox, ⟨?_, ?_, ?_, ?_, ?_, n.a13, ?_, n.o1, off_grown n.o2 hat hh, n.o3, ?_⟩, ?_⟩
 ·
  obtain ⟨⟨c0, c1, c2, c3⟩, f0, f1, f2, f3⟩ := hbox
  refine ⟨⟨?_, ?_, World.cell?_setCell_same _ _ _ c2, ?_⟩, ?_, ?_, ?_, ?_⟩
  ·
   rw [World.cell?_setCell_other _ _ _ _ (fun hh => by cases hh)]; exact c0
  ·
   rw [World.cell?_setCell_other _ _ _ _ (fun hh => by cases hh)]; exact c1
  ·
   rw [World.cell?_setCell_other _ _ _ _ (fun hh => by cases hh)]; exact c3
  ·
   rw [World.frozen?_setCell]; exact f0
  ·
   rw [World.frozen?_setCell]; exact f1
  ·
   rw [World.frozen?_setCell]; exact f2
  ·
   rw [World.frozen?_setCell]; exact f3
 ·
  exact owns_off (t0.owns n.r1 fun k h2 h1 => n.a12 k h2 h1) n.o1 2 _
 ·
  rw [List.length_append]
  exact owns_off hown (off_grown n.o2 hat hh) 2 _
 ·
  exact owns_off (t0.owns n.r3 fun k h2 h1 => n.a23 k h1 h2) n.o3 2 _
 ·
  exact (apart_grown n.a12.symm hat fun k hk => by have := (n.r1.lt k hk).2; omega).symm
 ·
  exact apart_grown n.a23 hat fun k hk => by have := (n.r3.lt k hk).2; omega
 ·
  have := t0.size
  have := n.le
  simp; omega
 ·
  exact (t0.mono fun k hk => .inr (n.r2.lt k hk).1).setCell (p := ⟨h, 2, none⟩) (.inl rfl) _
theorem NodeAt.push3 {w : World} {h B : Nat} {l : Bool} {u1 u2 u3 : Value} {xs ys : List ByteArray} {zs : List Int} (n : NodeAt w h B l u1 u2 u3 xs ys zs) (x : Int) (hl : zs.length ≤ 4096) :
  ∃ g cap w', (Builtin.append_ #[28, 28] 28 #[u3, .slice (some ⟨w.heap.size, 0, none⟩) 1 1]).run Try.prog (w.alloc (.cells #[.int .i64 x] 3)) = .ok (.slice (some ⟨g, 0, none⟩) (zs.length + 1) cap) w' ∧ Box4 w' h (.bool l) u1 u2 u3 ∧
   NodeAt (w'.setCell ⟨h, 3, none⟩ (.slice (some ⟨g, 0, none⟩) (zs.length + 1) cap)) h B l u1 u2 (.slice (some ⟨g, 0, none⟩) (zs.length + 1) cap) xs ys (zs ++ [x]) ∧ Turns (Own h B) w (w'.setCell ⟨h, 3, none⟩ (.slice (some ⟨g, 0, none⟩) (zs.length + 1) cap)) := by
 obtain ⟨g, cap, w', hrun, hown, hgr, hat, hge, hlt⟩ := push_Z w B u3 zs.length zs x n.r3 n.le hl
 have t0 : Turns (fun k => u3.ownBlock = some k) w w' := ((Turns.refl _ _).alloc _).grown hgr (fun k hk => hk)
 have hbox : Box4 w' h (.bool l) u1 u2 u3 := n.box.turns t0 fun hk => n.o3 h hk rfl
 have hh : h < w.heap.size + 1 := by have := n.box.lt; omega
 refine ⟨g, cap, w', hrun, hbox, ⟨?_, ?_, ?_, ?_, n.a12, ?_, ?_, n.o1, n.o2, off_grown n.o3 hat hh, ?_⟩, ?_⟩
 ·
  obtain ⟨⟨c0, c1, c2, c3⟩, f0, f1, f2, f3⟩ := hbox
  refine ⟨⟨?_, ?_, ?_, World.cell?_setCell_same _ _ _ c3⟩, ?_, ?_, ?_, ?_⟩
  ·
   rw [World.cell?_setCell_other _ _ _ _ (fun hh => by cases hh)]; exact c0
  ·
   rw [World.cell?_setCell_other _ _ _ _ (fun hh => by cases hh)]; exact c1
  ·
   rw [World.cell?_setCell_other _ _ _ _ (fun hh => by cases hh)]; exact c2
  ·
   rw [World.frozen?_setCell]; exact f0
  ·
   rw [World.frozen?_setCell]; exact f1
  ·
   rw [World.frozen?_setCell]; exact f2
  ·
   rw [World.frozen?_setCell]; exact f3
 ·
  exact owns_off (t0.owns n.r1 fun k h2 h1 => n.a13 k h2 h1) n.o1 3 _
 ·
  exact owns_off (t0.owns n.r2 fun k h2 h1 => n.a23 k h2 h1) n.o2 3 _
 ·
  rw [List.length_append]
  exact owns_off hown (off_grown n.o3 hat hh) 3 _
 ·
  exact (apart_grown n.a13.symm hat fun k hk => by have := (n.r1.lt k hk).2; omega).symm
 ·
  exact (apart_grown n.a23.symm hat fun k hk => by have := (n.r2.lt k hk).2; omega).symm
 ·
  have := t0.size
  have := n.le
  simp; omega
 ·
  exact (t0.mono fun k hk => .inr (n.r3.lt k hk).1).setCell (p := ⟨h, 3, none⟩) (.inl rfl) _
theorem NodeAt.rows {w : World} {h B : Nat} {l : Bool} {u1 u2 u3 : Value} {xs ys : List ByteArray} {zs : List Int} (n : NodeAt w h B l u1 u2 u3 xs ys zs) (hx : ∀ x ∈ xs, x.size ≤ maxLen) (hy : ∀ x ∈ ys, x.size ≤ maxLen) :
  ∃ a c a' c' a'' c'', u1 = .slice a xs.length c ∧ u2 = .slice a' ys.length c' ∧ u3 = .slice a'' zs.length c'' ∧ IsS w a c xs ∧ IsS w a' c' ys ∧ IsI w a'' c'' zs ∧ From B a ∧ From B a' ∧ From B a'' := by
 obtain ⟨a, c, e1, _, i1, j1⟩ := owns_S n.r1 hx
 obtain ⟨a', c', e2, _, i2, j2⟩ := owns_S n.r2 hy
 obtain ⟨a'', c'', e3, _, i3, j3⟩ := owns_I n.r3
 exact ⟨a, c, a', c', a'', c'', e1, e2, e3, i1, i2, i3, j1, j2, j3⟩
theorem nodeAt_new {w : World} {h B : Nat} {l : Bool} (b : Box4 w h (.bool l) (.slice none 0 0) (.slice none 0 0) (.slice none 0 0)) (le : B ≤ w.heap.size) : NodeAt w h B l (.slice none 0 0) (.slice none 0 0) (.slice none 0 0) [] [] [] :=
 ⟨b, World.ownsRow_nil _ _ _ _, World.ownsRow_nil _ _ _ _, World.ownsRow_nil _ _ _ _, apart_nil _ _, apart_nil _ _, apart_nil _ _, off_nil _ _, off_nil _ _, off_nil _ _, le⟩
theorem NodeAt.other {w : World} {h B : Nat} {l : Bool} {u1 u2 u3 : Value} {xs ys : List ByteArray} {zs : List Int} (n : NodeAt w h B l u1 u2 u3 xs ys zs) {k : Nat} (hk : k < B) (hn : k ≠ h) (i : Nat) (v : Value) : NodeAt (w.setCell ⟨k, i, none⟩ v) h B l u1 u2 u3 xs ys zs :=
 n.turns (P := fun x => x = k) (Turns.setCell (P := fun x => x = k) (Turns.refl _ _) (p := ⟨k, i, none⟩) rfl v) (fun e => hn e.symm) (fun x e => by omega)
def cellsQ (ps : List (ByteArray × ByteArray)) : List Value := ps.flatMap fun p => [.string p.1, .string p.2]
structure Grows (h : Nat) (u1 u2 : Value) (V : World) (u1' u2' : Value) (V' : World) : Prop where
 t : Turns (fun k => k = h ∨ u1.ownBlock = some k ∨ u2.ownBlock = some k) V V'
 g1 : ∀ g, u1'.ownBlock = some g → u1.ownBlock = some g ∨ V.heap.size ≤ g
 g2 : ∀ g, u2'.ownBlock = some g → u2.ownBlock = some g ∨ V.heap.size ≤ g
structure Loc (lo : Nat) (V1 V : World) (u1 u2 : Value) : Prop where
 st : Turns (fun k => k < lo) V1 V
 fr : ∀ g, (u1.ownBlock = some g ∨ u2.ownBlock = some g) → g < lo ∨ V1.heap.size ≤ g
theorem Loc.step {lo h : Nat} {V1 V V' : World} {u1 u2 u1' u2' : Value} (l : Loc lo V1 V u1 u2) (g : Grows h u1 u2 V u1' u2' V') (hh : h < lo) : Loc lo V1 V' u1' u2' := by
 have hs := l.st.size
 refine ⟨⟨g.t.os.trans l.st.os, g.t.tape.trans l.st.tape, g.t.output.trans l.st.output, Nat.le_trans l.st.size g.t.size, fun k hk hp => ?_⟩, fun k hk => ?_⟩
 ·
  refine (g.t.block k (Nat.lt_of_lt_of_le hk hs) ?_).trans (l.st.block k hk hp)
  rintro (e | e)
  ·
   exact hp (by omega)
  ·
   rcases l.fr k e with e | e
   ·
    exact hp e
   ·
    omega
 ·
  rcases hk with e | e
  ·
   rcases g.g1 k e with e | e
   ·
    exact l.fr k (.inl e)
   ·
    exact .inr (by omega)
  ·
   rcases g.g2 k e with e | e
   ·
    exact l.fr k (.inr e)
   ·
    exact .inr (by omega)
structure TreeAt (w : World) (h B : Nat) (u1 u2 : Value) (t : TreeS) : Prop where
 box : Box4 w h u1 u2 (.int .i64 t.height) (.bool t.bad)
 r1 : w.ownsRow B 71 2 u1 t.pairs.length (cellsQ t.pairs)
 r2 : w.ownsRow B 3 1 u2 t.blocks.length (t.blocks.map (Value.int .i64))
 a12 : Apart u1 u2
 hb : h < B
 le : B ≤ w.heap.size
theorem Grows.low {h B S : Nat} {u1 u2 u1' u2' : Value} {t : TreeS} {w V V' : World} (n : TreeAt V h B u1 u2 t) (g : Grows h u1 u2 V u1' u2' V') (hB : Below w.heap.size w V) (h1 : w.heap.size ≤ h) : Below w.heap.size w V' := by
 have := n.hb
 refine Below.turns hB g.t fun i hi => ?_
 rcases hi with e | e | e
 ·
  omega
 ·
  have := (n.r1.lt i e).1; omega
 ·
  have := (n.r2.lt i e).1; omega
end Go.Proofs.Ytpepgpjiddophaa
namespace Go.Proofs.Ytpepgpjiddophaa.Anylast
open Go
def fit (ops : Array Oper) (n : Nat) : Bool :=
 (List.range ops.size).all fun i => match ops[i]? with
  | none => true
  | some o => (o.after.toList.all fun e => !Region.binds .any e || decide (e.on < i)) &&
   match o.dst with
   | none => true
   | some d => decide (d < n) && (List.range ops.size).all fun j => match ops[j]? with
    | none => true
    | some oj => oj.dst != some d || j == i
theorem fit_spec {ops : Array Oper} {n : Nat} (h : fit ops n = true) {i : Nat} {o : Oper} (hi : ops[i]? = some o) :
  (∀ e ∈ o.after, Region.binds .any e = true → e.on < i) ∧ ∀ d, o.dst = some d → d < n ∧ ∀ j oj, ops[j]? = some oj → oj.dst = some d → j = i := by
 have hlt : i < ops.size := (Array.getElem?_eq_some_iff.1 hi).1
 unfold fit at h
 rw [List.all_eq_true] at h
 have h1 := h i (List.mem_range.2 hlt)
 rw [hi] at h1
 simp only [Bool.and_eq_true, List.all_eq_true] at h1
 obtain ⟨ha, hb⟩ := h1
 refine ⟨fun e he hbn => ?_, fun d hd => ?_⟩
 ·
  have h3 := ha e (Array.mem_toList_iff.2 he)
  rw [hbn] at h3
  simpa using h3
 rw [hd] at hb
 simp only [Bool.and_eq_true, List.all_eq_true, decide_eq_true_eq] at hb
 refine ⟨hb.1, fun j oj hj hdj => ?_⟩
 have hjlt : j < ops.size := (Array.getElem?_eq_some_iff.1 hj).1
 have h2 := hb.2 j (List.mem_range.2 hjlt)
 rw [hj] at h2
 simp only [hdj] at h2
 simpa using h2
def waits (o : Oper) (j : Nat) : Bool := o.after.toList.any fun e => Region.binds .any e && e.on == j
theorem waits_spec {o : Oper} {j : Nat} : waits o j = true ↔ ∃ e ∈ o.after, Region.binds .any e = true ∧ e.on = j := by
 unfold waits
 rw [List.any_eq_true]
 constructor
 ·
  rintro ⟨e, he, h⟩
  rw [Bool.and_eq_true, beq_iff_eq] at h
  exact ⟨e, Array.mem_toList_iff.1 he, h.1, h.2⟩
 ·
  rintro ⟨e, he, h1, h2⟩
  exact ⟨e, Array.mem_toList_iff.2 he, by rw [Bool.and_eq_true, beq_iff_eq]; exact ⟨h1, h2⟩⟩
def free (ops : Array Oper) (i d : Nat) : Bool :=
 (List.range ops.size).all fun j => match ops[j]? with
  | none => true
  | some oj => oj.dst != some d || j == i || waits oj i
theorem free_spec {ops : Array Oper} {i d : Nat} (h : free ops i d = true) {j : Nat} {oj : Oper} (hj : ops[j]? = some oj) (hd : oj.dst = some d) : j = i ∨ ∃ e ∈ oj.after, Region.binds .any e = true ∧ e.on = i := by
 unfold free at h
 rw [List.all_eq_true] at h
 have h1 := h j (List.mem_range.2 (Array.getElem?_eq_some_iff.1 hj).1)
 rw [hj] at h1
 simp only [hd] at h1
 rw [← waits_spec]
 simpa using h1
def Amid (ops : Array Oper) (a0 : Act) (V : Nat → Value → World → Prop) (S : Array Bool → World → Prop) (listed : Array Bool) (a : Act) (w : World) : Prop :=
 (S listed w) ∧
 (a.defers = a0.defers) ∧
 (a.tmps.size = a0.tmps.size) ∧
 (listed.size = ops.size) ∧
 (∀ (j : Nat) (oj : Oper), ops[j]? = some oj → listed.getD j false = true → ∀ e ∈ oj.after, Region.binds .any e = true → listed.getD e.on false = true) ∧
 (∀ d : Nat, (∀ (j : Nat) (oj : Oper), ops[j]? = some oj → oj.dst = some d → listed.getD j false = false) → a.tmps[d]? = a0.tmps[d]?) ∧
 (∀ (j : Nat) (oj : Oper) (d : Nat), ops[j]? = some oj → oj.dst = some d → listed.getD j false = true → ∃ v, a.tmps[d]? = some v ∧ V j v w)
theorem Amid.held {ops : Array Oper} {a0 : Act} {V : Nat → Value → World → Prop} {S : Array Bool → World → Prop} {listed : Array Bool} {a : Act} {w : World} (h : Amid ops a0 V S listed a w) : S listed w := h.1
theorem Amid.defers {ops : Array Oper} {a0 : Act} {V : Nat → Value → World → Prop} {S : Array Bool → World → Prop} {listed : Array Bool} {a : Act} {w : World} (h : Amid ops a0 V S listed a w) : a.defers = a0.defers := h.2.1
theorem Amid.size {ops : Array Oper} {a0 : Act} {V : Nat → Value → World → Prop} {S : Array Bool → World → Prop} {listed : Array Bool} {a : Act} {w : World} (h : Amid ops a0 V S listed a w) : a.tmps.size = a0.tmps.size := h.2.2.1
theorem Amid.lsize {ops : Array Oper} {a0 : Act} {V : Nat → Value → World → Prop} {S : Array Bool → World → Prop} {listed : Array Bool} {a : Act} {w : World} (h : Amid ops a0 V S listed a w) : listed.size = ops.size := h.2.2.2.1
theorem Amid.closed {ops : Array Oper} {a0 : Act} {V : Nat → Value → World → Prop} {S : Array Bool → World → Prop} {listed : Array Bool} {a : Act} {w : World} (h : Amid ops a0 V S listed a w) : ∀ (j : Nat) (oj : Oper), ops[j]? = some oj → listed.getD j false = true → ∀ e ∈ oj.after, Region.binds .any e = true → listed.getD e.on false = true := h.2.2.2.2.1
theorem Amid.same {ops : Array Oper} {a0 : Act} {V : Nat → Value → World → Prop} {S : Array Bool → World → Prop} {listed : Array Bool} {a : Act} {w : World} (h : Amid ops a0 V S listed a w) : ∀ d : Nat, (∀ (j : Nat) (oj : Oper), ops[j]? = some oj → oj.dst = some d → listed.getD j false = false) → a.tmps[d]? = a0.tmps[d]? := h.2.2.2.2.2.1
theorem Amid.val {ops : Array Oper} {a0 : Act} {V : Nat → Value → World → Prop} {S : Array Bool → World → Prop} {listed : Array Bool} {a : Act} {w : World} (h : Amid ops a0 V S listed a w) : ∀ (j : Nat) (oj : Oper) (d : Nat), ops[j]? = some oj → oj.dst = some d → listed.getD j false = true → ∃ v, a.tmps[d]? = some v ∧ V j v w := h.2.2.2.2.2.2
theorem getD_set (listed : Array Bool) (i j : Nat) (hi : i < listed.size) (b : Bool) : (listed.setIfInBounds i true).getD j b = if j = i then true else listed.getD j b := by
 simp only [Array.getD_eq_getD_getElem?, Array.getElem?_setIfInBounds]
 by_cases h : i = j
 ·
  subst h; simp [hi]
 ·
  rw [if_neg h, if_neg (fun e => h e.symm)]
def left (listed : Array Bool) : Nat := listed.toList.countP (fun b => !b)
theorem left_set (listed : Array Bool) (i : Nat) (hi : i < listed.size) (h : listed.getD i true = false) : left (listed.setIfInBounds i true) + 1 = left listed := by
 unfold left
 rw [Array.toList_setIfInBounds]
 have hl : i < listed.toList.length := by simpa using hi
 have hv : listed.toList[i] = false := by
  simp only [Array.getD_eq_getD_getElem?, Array.getElem?_eq_getElem hi, Option.getD_some] at h
  simpa using h
 have hpos : 0 < listed.toList.countP (fun b => !b) := by
  rw [List.countP_pos_iff]
  exact ⟨false, by rw [← hv]; exact List.getElem_mem hl, rfl⟩
 rw [List.countP_set hl, hv]
 have e1 : (!false) = true := rfl
 have e2 : (!true) = false := rfl
 simp only [e1, e2, if_true, Bool.false_eq_true, if_false, Nat.add_zero]
 omega
theorem getD_both {listed : Array Bool} {i : Nat} (hi : i < listed.size) (b c : Bool) : listed.getD i b = listed.getD i c := by
 simp [Array.getD_eq_getD_getElem?, hi]
theorem any_inv {P : Program} {ops : Array Oper} {Q : Exit → Act → World → Prop} {a0 : Act} (V : Nat → Value → World → Prop) (S : Array Bool → World → Prop) (R : World → World → Prop)
  (hfit : fit ops a0.tmps.size = true)
  (hmono : ∀ i v w w', R w w' → V i v w → V i v w')
  (hstep : ∀ i o, ops[i]? = some o → ∀ listed a w, i < listed.size → listed.getD i false = false → (∀ (j : Nat) (oj : Oper), ops[j]? = some oj → listed.getD j false = true → ∀ e ∈ oj.after, Region.binds .any e = true → listed.getD e.on false = true) → (∀ e ∈ o.after, Region.binds .any e = true → listed.getD e.on false = true) → S listed w → a.defers = a0.defers → a.tmps.size = a0.tmps.size →
   (∀ j oj d, ops[j]? = some oj → oj.dst = some d → waits o j = true → ∃ v, a.tmps[d]? = some v ∧ V j v w) →
   (∀ d, free ops i d = true → a.tmps[d]? = a0.tmps[d]?) →
   wpOp P ops Q i (fun a' w' => ∃ v, a' = a.put o.dst v ∧ V i v w' ∧ S (listed.setIfInBounds i true) w' ∧ R w w') a w)
  (hdone : ∀ listed a w, (∀ i, i < ops.size → listed.getD i false = true) → S listed w → a.defers = a0.defers → a.tmps.size = a0.tmps.size →
   (∀ d, (∀ (j : Nat) (oj : Oper), ops[j]? = some oj → oj.dst ≠ some d) → a.tmps[d]? = a0.tmps[d]?) →
   (∀ j oj d, ops[j]? = some oj → oj.dst = some d → ∃ v, a.tmps[d]? = some v ∧ V j v w) → Q .normal a w) :
  ∀ (fuel : Nat) (listed : Array Bool) (a : Act) (w : World), left listed = fuel → Amid ops a0 V S listed a w → wpAny P .any ops Q fuel listed a w := by
 have hend : ∀ (listed : Array Bool) (a : Act) (w : World), Amid ops a0 V S listed a w → Region.ready .any ops listed = [] → Q .normal a w := by
  intro listed a w hI hr
  have hall : ∀ i, i < ops.size → listed.getD i false = true := by
   intro i
   induction i using Nat.strongRecOn with
   | _ i ih =>
    intro hi
    have hi' : i < listed.size := by rw [hI.lsize]; exact hi
    cases hc : listed.getD i false with
    | true => rfl
    | false =>
     exfalso
     have hm : i ∈ Region.ready .any ops listed := by
      rw [mem_ready]
      refine ⟨by rw [getD_both hi' true false]; exact hc, _, Array.getElem?_eq_getElem hi, fun e he hbn => ?_⟩
      have hlt := (fit_spec hfit (Array.getElem?_eq_getElem hi)).1 e he hbn
      exact ih e.on hlt (by omega)
     rw [hr] at hm
     cases hm
  refine hdone listed a w hall hI.held hI.defers hI.size (fun d hd => hI.same d fun j oj hj hdj => absurd hdj (hd j oj hj)) fun j oj d hj hd => hI.val j oj d hj hd (hall j (Array.getElem?_eq_some_iff.1 hj).1)
 have hone : ∀ (listed : Array Bool) (a : Act) (w : World) (i : Nat), Amid ops a0 V S listed a w → i ∈ Region.ready .any ops listed → wpOp P ops Q i (Amid ops a0 V S (listed.setIfInBounds i true)) a w := by
  intro listed a w i hI hi
  obtain ⟨h0, o, ho, hall⟩ := mem_ready.1 hi
  have hlt : i < ops.size := (Array.getElem?_eq_some_iff.1 ho).1
  have hlt' : i < listed.size := by rw [hI.lsize]; exact hlt
  have h0' : listed.getD i false = false := by rw [getD_both hlt' false true]; exact h0
  obtain ⟨_, hdst⟩ := fit_spec hfit ho
  refine wpOp_mono ?_ (hstep i o ho listed a w hlt' h0' hI.closed hall hI.held hI.defers hI.size ?_ ?_)
  ·
   rintro a' w' ⟨v, rfl, hV, hS, hR⟩
   refine ⟨hS, ?_, ?_, by rw [Array.size_setIfInBounds]; exact hI.lsize, ?_, ?_, ?_⟩
   ·
    cases hd : o.dst <;> exact hI.defers
   ·
    cases hd : o.dst with
    | none => exact hI.size
    | some d => simpa [Act.put] using hI.size
   ·
    intro j oj hj hl e he hb
    rw [getD_set _ _ _ hlt']
    by_cases hji : j = i
    ·
     subst hji
     rw [ho] at hj
     cases hj
     have := hall e he hb
     split
     ·
      rfl
     ·
      exact this
    ·
     rw [getD_set _ _ _ hlt', if_neg hji] at hl
     split
     ·
      rfl
     ·
      exact hI.closed j oj hj hl e he hb
   ·
    intro d hd
    have hne : o.dst ≠ some d := by
     intro e
     have := hd i o ho e
     rw [getD_set _ _ _ hlt', if_pos rfl] at this
     cases this
    have hs := hI.same d fun j oj hj hdj => by
     have h := hd j oj hj hdj
     rw [getD_set _ _ _ hlt'] at h
     split at h
     ·
      cases h
     ·
      exact h
    cases hdd : o.dst with
    | none => exact hs
    | some d' =>
     have : d' ≠ d := fun e => hne (by rw [hdd, e])
     simp only [Act.put]
     rw [Array.getElem?_setIfInBounds_ne this]
     exact hs
   ·
    intro j oj d hj hd hl
    by_cases hji : j = i
    ·
     subst hji
     rw [ho] at hj
     cases hj
     refine ⟨v, ?_, hV⟩
     rw [hd]
     have := (hdst d hd).1
     simp only [Act.put]
     rw [Array.getElem?_setIfInBounds_self_of_lt (by rw [hI.size]; exact this)]
    ·
     rw [getD_set _ _ _ hlt', if_neg hji] at hl
     obtain ⟨u, hu, hVu⟩ := hI.val j oj d hj hd hl
     refine ⟨u, ?_, hmono j u _ _ hR hVu⟩
     cases hdd : o.dst with
     | none => exact hu
     | some d' =>
      have : d' ≠ d := fun e => hji ((hdst d' hdd).2 j oj hj (by rw [hd, e]))
      simp only [Act.put]
      rw [Array.getElem?_setIfInBounds_ne this]
      exact hu
  ·
   intro j oj d hj hd hwt
   obtain ⟨e, he, hb, rfl⟩ := waits_spec.1 hwt
   exact hI.val _ oj d hj hd (hall e he hb)
  ·
   intro d hd
   refine hI.same d fun j oj hj hdj => ?_
   cases hc : listed.getD j false with
   | false => rfl
   | true =>
    exfalso
    rcases free_spec hd hj hdj with hji | ⟨e, he, hb, hei⟩
    ·
     subst hji
     rw [h0'] at hc
     cases hc
    ·
     have := hI.closed j oj hj hc e he hb
     rw [hei, h0'] at this
     cases this
 intro fuel
 induction fuel with
 | zero =>
  intro listed a w hl hI
  have hr : Region.ready .any ops listed = [] := by
   cases hr : Region.ready .any ops listed with
   | nil => rfl
   | cons i r =>
    exfalso
    have hi : i ∈ Region.ready .any ops listed := by rw [hr]; exact List.mem_cons_self
    obtain ⟨h0, o, ho, _⟩ := mem_ready.1 hi
    have hlt : i < listed.size := by rw [hI.lsize]; exact (Array.getElem?_eq_some_iff.1 ho).1
    have := left_set listed i hlt h0
    omega
  exact ⟨hr, hend listed a w hI hr⟩
 | succ fuel ih =>
  intro listed a w hl hI
  refine ⟨hend listed a w hI, fun i hi => ?_⟩
  obtain ⟨h0, o, ho, _⟩ := mem_ready.1 hi
  have hlt : i < listed.size := by rw [hI.lsize]; exact (Array.getElem?_eq_some_iff.1 ho).1
  have hls := left_set listed i hlt h0
  exact wpOp_mono (fun a' w' h' => ih _ a' w' (by omega) h') (hone listed a w i hI hi)
theorem region_inv {P : Program} {ops : Array Oper} {Q : Exit → Act → World → Prop} {id : Nat} {a0 : Act} {w0 : World} (hm : P.follows .mixedOrders = true) (V : Nat → Value → World → Prop) (S : Array Bool → World → Prop) (R : World → World → Prop)
  (hfit : fit ops a0.tmps.size = true)
  (hmono : ∀ i v w w', R w w' → V i v w → V i v w')
  (hS : S (Array.replicate ops.size false) w0.drew)
  (hstep : ∀ i o, ops[i]? = some o → ∀ listed a w, i < listed.size → listed.getD i false = false → (∀ (j : Nat) (oj : Oper), ops[j]? = some oj → listed.getD j false = true → ∀ e ∈ oj.after, Region.binds .any e = true → listed.getD e.on false = true) → (∀ e ∈ o.after, Region.binds .any e = true → listed.getD e.on false = true) → S listed w → a.defers = a0.defers → a.tmps.size = a0.tmps.size →
   (∀ j oj d, ops[j]? = some oj → oj.dst = some d → waits o j = true → ∃ v, a.tmps[d]? = some v ∧ V j v w) →
   (∀ d, free ops i d = true → a.tmps[d]? = a0.tmps[d]?) →
   wpOp P ops Q i (fun a' w' => ∃ v, a' = a.put o.dst v ∧ V i v w' ∧ S (listed.setIfInBounds i true) w' ∧ R w w') a w)
  (hdone : ∀ listed a w, (∀ i, i < ops.size → listed.getD i false = true) → S listed w → a.defers = a0.defers → a.tmps.size = a0.tmps.size →
   (∀ d, (∀ (j : Nat) (oj : Oper), ops[j]? = some oj → oj.dst ≠ some d) → a.tmps[d]? = a0.tmps[d]?) →
   (∀ j oj d, ops[j]? = some oj → oj.dst = some d → ∃ v, a.tmps[d]? = some v ∧ V j v w) → Q .normal a w) :
  (Code.region id ops true).wp P Q a0 w0 := by
 refine wp_region_any hm (any_inv V S R hfit hmono hstep hdone ops.size (Array.replicate ops.size false) a0 _ ?_ ?_)
 ·
  unfold left
  rw [Array.toList_replicate, List.countP_replicate]
  simp
 ·
  have hf : ∀ j, (Array.replicate ops.size false).getD j false = false := by
   intro j
   simp only [Array.getD_eq_getD_getElem?, Array.getElem?_replicate]
   split <;> rfl
  refine ⟨hS, rfl, rfl, by simp, ?_, fun d _ => rfl, ?_⟩
  ·
   intro j oj _ hl
   rw [hf] at hl
   cases hl
  ·
   intro j oj d _ _ hl
   rw [hf] at hl
   cases hl
theorem wanted_free {ops : Array Oper} {o : Oper} {tmps : Array Value} (h : o.guard = none) : Region.wanted o (yielded ops tmps) = true := by
 unfold Region.wanted
 rw [h]
theorem eval_tmp {a : Act} {d : Nat} {v : Value} (h : a.tmps[d]? = some v) : a.eval (.tmp d) = v := by
 simp [Act.eval, h]
def filledN (ops : Array Oper) (val : Nat → Value) (tmps : Array Value) : Nat → Array Value
 | 0 => tmps
 | n + 1 =>
  match (ops[n]?).bind (·.dst) with
  | some d => (filledN ops val tmps n).setIfInBounds d (val n)
  | none => filledN ops val tmps n
theorem filledN_size (ops : Array Oper) (val : Nat → Value) (tmps : Array Value) (n : Nat) : (filledN ops val tmps n).size = tmps.size := by
 induction n with
 | zero => rfl
 | succ n ih =>
  unfold filledN
  split
  ·
   rw [Array.size_setIfInBounds]; exact ih
  ·
   exact ih
theorem filledN_none {ops : Array Oper} {val : Nat → Value} {tmps : Array Value} {d : Nat} (n : Nat) (h : ∀ (j : Nat) (oj : Oper), j < n → ops[j]? = some oj → oj.dst ≠ some d) : (filledN ops val tmps n)[d]? = tmps[d]? := by
 induction n with
 | zero => rfl
 | succ n ih =>
  have ih' := ih fun j oj hj => h j oj (by omega)
  unfold filledN
  split
  ·
   rename_i d' hd'
   obtain ⟨o, ho, hod⟩ := Option.bind_eq_some_iff.1 hd'
   rw [Array.getElem?_setIfInBounds_ne (fun e => h n o (by omega) ho (by rw [hod, e]))]
   exact ih'
  ·
   exact ih'
theorem filledN_some {ops : Array Oper} {val : Nat → Value} {tmps : Array Value} {d j : Nat} {oj : Oper} (hj : ops[j]? = some oj) (hd : oj.dst = some d) (hlt : d < tmps.size) (hun : ∀ (i : Nat) (oi : Oper), ops[i]? = some oi → oi.dst = some d → i = j) (n : Nat) (hn : j < n) :
  (filledN ops val tmps n)[d]? = some (val j) := by
 induction n with
 | zero => omega
 | succ n ih =>
  unfold filledN
  by_cases hjn : j = n
  ·
   subst hjn
   have e : (ops[j]?).bind (·.dst) = some d := by rw [hj]; exact hd
   rw [e]
   simp only
   rw [Array.getElem?_setIfInBounds_self_of_lt (by rw [filledN_size]; exact hlt)]
  ·
   have ih' := ih (by omega)
   split
   ·
    rename_i d' hd'
    obtain ⟨o, ho, hod⟩ := Option.bind_eq_some_iff.1 hd'
    rw [Array.getElem?_setIfInBounds_ne (fun e => hjn (hun n o ho (by rw [hod, e])).symm)]
    exact ih'
   ·
    exact ih'
theorem val_op {P : Program} {ops : Array Oper} {Q : Exit → Act → World → Prop} {i : Nat} {o : Oper} {a : Act} {w w' : World} {v u : Value} {S : World → Prop} (hi : ops[i]? = some o) (hw : Region.wanted o (yielded ops a.tmps) = true)
  (hr : (execOp a.eval o).run P w = .ok (.value v) w') (hv : v = u) (hS : S w') :
  wpOp P ops Q i (fun a' w' => ∃ v, a' = a.put o.dst v ∧ (o.dst.isSome = true → v = u) ∧ S w' ∧ True) a w := by
 unfold wpOp
 simp only [hi, hw, if_true]
 refine .inl ?_
 unfold Oper.wp
 rw [hr]
 exact ⟨v, rfl, fun _ => hv, hS, trivial⟩
theorem val_skip {P : Program} {ops : Array Oper} {Q : Exit → Act → World → Prop} {i : Nat} {o : Oper} {a : Act} {w w' : World} {u : Value} {S : World → Prop} (hi : ops[i]? = some o) (hw : Region.wanted o (yielded ops a.tmps) = true) (hd : o.dst = none)
  (hr : (execOp a.eval o).run P w = .ok .skip w') (hS : S w') :
  wpOp P ops Q i (fun a' w' => ∃ v, a' = a.put o.dst v ∧ (o.dst.isSome = true → v = u) ∧ S w' ∧ True) a w := by
 unfold wpOp
 simp only [hi, hw, if_true]
 refine .inl ?_
 unfold Oper.wp
 rw [hr]
 refine ⟨undef, ?_, (fun h => by rw [hd] at h; cases h), hS, trivial⟩
 rw [hd]
theorem val_call {P : Program} {ops : Array Oper} {Q : Exit → Act → World → Prop} {i : Nat} {o : Oper} {a : Act} {w w' : World} {f : FuncId} {args : Array Value} {u : Value} {S : World → Prop} (hi : ops[i]? = some o) (hw : Region.wanted o (yielded ops a.tmps) = true)
  (hr : (execOp a.eval o).run P w = .ok (.enter f args) w')
  (hc : Calls P f args w' fun e w'' => e = .returned u ∧ S w'') :
  wpOp P ops Q i (fun a' w' => ∃ v, a' = a.put o.dst v ∧ (o.dst.isSome = true → v = u) ∧ S w' ∧ True) a w := by
 unfold wpOp
 simp only [hi, hw, if_true]
 refine .inl ?_
 unfold Oper.wp
 rw [hr]
 refine Calls.mono hc ?_
 rintro e w'' ⟨rfl, hS⟩
 exact ⟨u, rfl, fun _ => rfl, hS, trivial⟩
def chained (ops : Array Oper) (cs : List Nat) : Bool :=
 (List.range cs.length).all fun j => match cs[j]? with
  | none => true
  | some c => match ops[c]? with
   | none => false
   | some o => (j == 0 || (match cs[j - 1]? with | some c' => waits o c' | none => true)) && ((List.range cs.length).all fun i => i == j || cs[i]? != some c)
theorem chained_spec {ops : Array Oper} {cs : List Nat} (h : chained ops cs = true) {j c : Nat} (hj : cs[j]? = some c) :
  ∃ o, ops[c]? = some o ∧ (∀ c', 0 < j → cs[j - 1]? = some c' → waits o c' = true) ∧ ∀ i, cs[i]? = some c → i = j := by
 have hlt : j < cs.length := (List.getElem?_eq_some_iff.1 hj).1
 unfold chained at h
 rw [List.all_eq_true] at h
 have h1 := h j (List.mem_range.2 hlt)
 rw [hj] at h1
 simp only at h1
 cases ho : ops[c]? with
 | none => rw [ho] at h1; cases h1
 | some o =>
  rw [ho] at h1
  simp only [Bool.and_eq_true, Bool.or_eq_true, List.all_eq_true] at h1
  refine ⟨o, rfl, fun c' h0 hc' => ?_, fun i hi => ?_⟩
  ·
   rw [hc'] at h1
   rcases h1.1 with h2 | h2
   ·
    rw [beq_iff_eq] at h2; omega
   ·
    exact h2
  ·
   have h2 := h1.2 i (List.mem_range.2 (List.getElem?_eq_some_iff.1 hi).1)
   rw [hi] at h2
   simpa using h2
def mayAt (ops : Array Oper) (cs : List Nat) (i k : Nat) : Bool :=
 if cs.contains i then cs[k]? == some i
 else (List.range k).all fun j => match cs[j]? with
  | none => true
  | some c => match ops[c]? with
   | none => true
   | some o => !waits o i
theorem region_chain {P : Program} {ops : Array Oper} {Q : Exit → Act → World → Prop} {id : Nat} {a0 : Act} {w0 : World} (hm : P.follows .mixedOrders = true) (cs : List Nat) (V : Nat → Value → World → Prop) (S : Nat → World → Prop) (R : World → World → Prop)
  (hfit : fit ops a0.tmps.size = true) (hch : chained ops cs = true)
  (hmono : ∀ i v w w', R w w' → V i v w → V i v w')
  (hS : S 0 w0.drew)
  (hstep : ∀ i o, ops[i]? = some o → ∀ k a w, k ≤ cs.length → mayAt ops cs i k = true → S k w → a.defers = a0.defers → a.tmps.size = a0.tmps.size →
   (∀ j oj d, ops[j]? = some oj → oj.dst = some d → waits o j = true → ∃ v, a.tmps[d]? = some v ∧ V j v w) →
   (∀ d, free ops i d = true → a.tmps[d]? = a0.tmps[d]?) →
   wpOp P ops Q i (fun a' w' => ∃ v, a' = a.put o.dst v ∧ V i v w' ∧ S (if cs.contains i = true then k + 1 else k) w' ∧ R w w') a w)
  (n : Nat) (hn : ops.size = n)
  (hdone : ∀ (val : Nat → Value) (w : World), S cs.length w → (∀ j oj, ops[j]? = some oj → oj.dst.isSome = true → V j (val j) w) → Q .normal ⟨filledN ops val a0.tmps n, a0.defers⟩ w) :
  (Code.region id ops true).wp P Q a0 w0 := by
 refine region_inv hm V (fun listed w => ∃ k, k ≤ cs.length ∧ S k w ∧ ∀ j c, cs[j]? = some c → (listed.getD c false = true ↔ j < k)) R hfit hmono ?_ ?_ ?_
 ·
  refine ⟨0, Nat.zero_le _, hS, fun j c _ => ?_⟩
  have hf : (Array.replicate ops.size false).getD c false = false := by
   simp only [Array.getD_eq_getD_getElem?, Array.getElem?_replicate]
   split <;> rfl
  rw [hf]
  simp
 ·
  rintro i o ho listed a w hil h0 hcl hall ⟨k, hk, hs, hlist⟩ hdf hsz hdep hsame
  by_cases hc : i ∈ cs
  ·
   obtain ⟨j, hj⟩ := List.mem_iff_getElem?.1 hc
   obtain ⟨oc, hoc, hw, hun⟩ := chained_spec hch hj
   rw [ho] at hoc
   cases hoc
   have h1 : ¬ j < k := fun h => by rw [(hlist j i hj).2 h] at h0; cases h0
   have h2 : j ≤ k := by
    rcases Nat.eq_zero_or_pos j with hz | hz
    ·
     omega
    ·
     have hjl := (List.getElem?_eq_some_iff.1 hj).1
     have hp : cs[j - 1]? = some cs[j - 1] := List.getElem?_eq_getElem (by omega)
     obtain ⟨e, he, hb, hei⟩ := waits_spec.1 (hw _ hz hp)
     have := hall e he hb
     rw [hei] at this
     have := (hlist _ _ hp).1 this
     omega
   obtain rfl : j = k := by omega
   have hjl := (List.getElem?_eq_some_iff.1 hj).1
   have hcc : cs.contains i = true := by simpa using hc
   refine wpOp_mono ?_ (hstep i o ho j a w hk (by unfold mayAt; rw [if_pos hcc, hj]; simp) hs hdf hsz hdep hsame)
   rintro a' w' ⟨v, e1, e2, e3, e4⟩
   rw [if_pos hcc] at e3
   refine ⟨v, e1, e2, ⟨j + 1, by omega, e3, fun j' c hc' => ?_⟩, e4⟩
   rw [getD_set _ _ _ hil]
   by_cases hci : c = i
   ·
    subst hci
    rw [if_pos rfl]
    have := hun j' hc'
    constructor
    ·
     intro _; omega
    ·
     intro _; rfl
   ·
    rw [if_neg hci, hlist j' c hc']
    have hne : j' ≠ j := fun e => by rw [e, hj] at hc'; cases hc'; exact hci rfl
    omega
  ·
   have hcc : cs.contains i = false := by simpa using hc
   refine wpOp_mono ?_ (hstep i o ho k a w hk ?_ hs hdf hsz hdep hsame)
   ·
    rintro a' w' ⟨v, e1, e2, e3, e4⟩
    rw [if_neg (by rw [hcc]; decide)] at e3
    refine ⟨v, e1, e2, ⟨k, hk, e3, fun j' c hc' => ?_⟩, e4⟩
    rw [getD_set _ _ _ hil, if_neg (fun e => hc (by rw [← e]; exact List.mem_of_getElem? hc'))]
    exact hlist j' c hc'
   ·
    unfold mayAt
    rw [if_neg (by rw [hcc]; decide), List.all_eq_true]
    intro j hj
    have hjk := List.mem_range.1 hj
    have hjc : cs[j]? = some cs[j] := List.getElem?_eq_getElem (by omega)
    obtain ⟨oc, hoc, -, -⟩ := chained_spec hch hjc
    rw [hjc]
    simp only [hoc]
    cases hw : waits oc i with
    | false => rfl
    | true =>
     exfalso
     obtain ⟨e, he, hb, hei⟩ := waits_spec.1 hw
     have := hcl _ oc hoc ((hlist j _ hjc).2 hjk) e he hb
     rw [hei, h0] at this
     cases this
 ·
  rintro listed a w hall ⟨k, hk, hs, hlist⟩ hdf hsz hsame hval
  have hke : k = cs.length := by
   rcases Nat.lt_or_ge k cs.length with h | h
   ·
    exfalso
    have hp : cs[k]? = some cs[k] := List.getElem?_eq_getElem h
    obtain ⟨oc, hoc, -, -⟩ := chained_spec hch hp
    have := (hlist k _ hp).1 (hall _ (Array.getElem?_eq_some_iff.1 hoc).1)
    omega
   ·
    omega
  subst hke
  obtain ⟨val, hv⟩ : ∃ val : Nat → Value, ∀ j oj d, ops[j]? = some oj → oj.dst = some d → a.tmps[d]? = some (val j) ∧ V j (val j) w := by
   refine ⟨fun j => ((ops[j]?).bind (·.dst)).bind (fun d => a.tmps[d]?) |>.getD undef, fun j oj d hj hd => ?_⟩
   obtain ⟨v, h1, h2⟩ := hval j oj d hj hd
   have e : (((ops[j]?).bind (·.dst)).bind (fun d => a.tmps[d]?)).getD undef = v := by rw [hj]; simp [hd, h1]
   show a.tmps[d]? = some ((((ops[j]?).bind (·.dst)).bind (fun d => a.tmps[d]?)).getD undef) ∧ V j ((((ops[j]?).bind (·.dst)).bind (fun d => a.tmps[d]?)).getD undef) w
   rw [e]
   exact ⟨h1, h2⟩
  have e : a = ⟨filledN ops val a0.tmps ops.size, a0.defers⟩ := by
   obtain ⟨tm, df⟩ := a
   simp only at hdf hsz hsame hv
   subst hdf
   congr 1
   apply Array.ext_getElem?
   intro d
   by_cases hx : ∃ (j : Nat) (oj : Oper), ops[j]? = some oj ∧ oj.dst = some d
   ·
    obtain ⟨j, oj, hj, hd⟩ := hx
    rw [(hv j oj d hj hd).1]
    obtain ⟨hdl, hun⟩ := (fit_spec hfit hj).2 d hd
    exact (filledN_some hj hd hdl (fun i oi hi hdi => hun i oi hi hdi) _ (Array.getElem?_eq_some_iff.1 hj).1).symm
   ·
    rw [hsame d fun j oj hj hd => hx ⟨j, oj, hj, hd⟩]
    exact (filledN_none _ fun j oj _ hj hd => hx ⟨j, oj, hj, hd⟩).symm
  rw [e, hn]
  refine hdone val w hs fun j oj hj hd => ?_
  obtain ⟨d, hd'⟩ := Option.isSome_iff_exists.1 hd
  exact (hv j oj d hj hd').2
theorem filledN_congr {ops : Array Oper} {f g : Nat → Value} {tmps : Array Value} (n : Nat) (h : ∀ j oj, ops[j]? = some oj → oj.dst.isSome = true → f j = g j) : filledN ops f tmps n = filledN ops g tmps n := by
 induction n with
 | zero => rfl
 | succ n ih =>
  unfold filledN
  cases hd : (ops[n]?).bind (·.dst) with
  | none => exact ih
  | some d =>
   obtain ⟨o, ho, hod⟩ := Option.bind_eq_some_iff.1 hd
   simp only
   rw [ih, h n o ho (by rw [hod]; rfl)]
theorem region_worlds {P : Program} {ops : Array Oper} {Q : Exit → Act → World → Prop} {id : Nat} {a0 : Act} {w0 : World} (hm : P.follows .mixedOrders = true) (cs : List Nat) (val : Nat → Value) (Wd : Nat → World)
  (hfit : fit ops a0.tmps.size = true) (hch : chained ops cs = true)
  (hS : w0.drew = Wd 0)
  (hstep : ∀ i o, ops[i]? = some o → ∀ k a, k ≤ cs.length → mayAt ops cs i k = true → a.defers = a0.defers → a.tmps.size = a0.tmps.size →
   (∀ j oj d, ops[j]? = some oj → oj.dst = some d → waits o j = true → a.tmps[d]? = some (val j)) →
   (∀ d, free ops i d = true → a.tmps[d]? = a0.tmps[d]?) →
   wpOp P ops Q i (fun a' w' => ∃ v, a' = a.put o.dst v ∧ (o.dst.isSome = true → v = val i) ∧ w' = Wd (if cs.contains i = true then k + 1 else k) ∧ True) a (Wd k))
  (n : Nat) (hn : ops.size = n)
  (hdone : Q .normal ⟨filledN ops val a0.tmps n, a0.defers⟩ (Wd cs.length)) :
  (Code.region id ops true).wp P Q a0 w0 := by
 refine region_chain hm cs (fun i v _ => ∀ o, ops[i]? = some o → o.dst.isSome = true → v = val i) (fun k w => w = Wd k) (fun _ _ => True) hfit hch (fun i v w w' _ h => h) hS ?_ n hn ?_
 ·
  rintro i o ho k a w hk hmay rfl hdf hsz hdep hsame
  refine wpOp_mono ?_ (hstep i o ho k a hk hmay hdf hsz ?_ hsame)
  ·
   rintro a' w' ⟨v, h1, h2, h3, _⟩
   refine ⟨v, h1, fun o' ho' hd' => ?_, h3, trivial⟩
   rw [ho] at ho'
   cases ho'
   exact h2 hd'
  ·
   intro j oj d hj hd hw
   obtain ⟨v, hv, hV⟩ := hdep j oj d hj hd hw
   rw [hv, hV oj hj (by rw [hd]; rfl)]
 ·
  rintro val' w rfl hV
  rw [filledN_congr n fun j oj hj hd => hV j oj hj hd oj hj hd]
  exact hdone
theorem val_append {P : Program} {ops : Array Oper} {Q : Exit → Act → World → Prop} {i : Nat} {o : Oper} {a : Act} {w w' : World} {v u vs vx : Value} {S : World → Prop} {s x : Operand} {t t' : TypeId} (hi : ops[i]? = some o) (hw : Region.wanted o (yielded ops a.tmps) = true)
  (ho : o.op = .call { callee := .builtin .append, args := #[s, x], argTypes := #[t, t'] }) (hs : a.eval s = vs) (hx : a.eval x = vx)
  (hr : (Builtin.append_ #[t, t'] o.type #[vs, vx]).run P w = .ok v w') (hv : v = u) (hS : S w') :
  wpOp P ops Q i (fun a' w' => ∃ v, a' = a.put o.dst v ∧ (o.dst.isSome = true → v = u) ∧ S w' ∧ True) a w := by
 unfold wpOp
 simp only [hi, hw, if_true]
 refine .inl ?_
 unfold Oper.wp execOp
 simp only [ho, resolve, invoke, builtin, Sem.run_bind, Sem.run_pure, Result.andThen_ok, List.map_toArray, List.map_cons, List.map_nil, hs, hx, hr]
 exact ⟨v, rfl, fun _ => hv, hS, trivial⟩
end Go.Proofs.Ytpepgpjiddophaa.Anylast
namespace Go.Proofs.Ytpepgpjiddophaa
open Go.RowKit Plain
set_option linter.unusedVariables false
def WoodBox (V : World) (h : Nat) (v0 v1 v2 v3 v4 : Value) : Prop :=
 V.cell? ⟨h, 0, none⟩ = some v0 ∧ V.cell? ⟨h, 1, none⟩ = some v1 ∧ V.cell? ⟨h, 2, none⟩ = some v2 ∧ V.cell? ⟨h, 3, none⟩ = some v3 ∧ V.cell? ⟨h, 4, none⟩ = some v4
theorem woodBox_new (w : World) (v0 v1 v2 v3 v4 : Value) (t : TypeId) {h : Nat} (hh : h = w.heap.size) : WoodBox (w.alloc (.cells #[v0, v1, v2, v3, v4] t)) h v0 v1 v2 v3 v4 := by
 subst hh
 exact ⟨World.cell?_alloc_at _ _ _ _ rfl, World.cell?_alloc_at _ _ _ _ rfl, World.cell?_alloc_at _ _ _ _ rfl, World.cell?_alloc_at _ _ _ _ rfl, World.cell?_alloc_at _ _ _ _ rfl⟩
theorem WoodBox.turns {P : Nat → Prop} {V V' : World} {h : Nat} {v0 v1 v2 v3 v4 : Value} (b : WoodBox V h v0 v1 v2 v3 v4) (t : Turns P V V') (hp : ¬ P h) : WoodBox V' h v0 v1 v2 v3 v4 :=
 ⟨t.cell (p := ⟨h, 0, none⟩) hp b.1, t.cell (p := ⟨h, 1, none⟩) hp b.2.1, t.cell (p := ⟨h, 2, none⟩) hp b.2.2.1, t.cell (p := ⟨h, 3, none⟩) hp b.2.2.2.1, t.cell (p := ⟨h, 4, none⟩) hp b.2.2.2.2⟩
theorem WoodBox.below {V V' : World} {h : Nat} {v0 v1 v2 v3 v4 : Value} (b : WoodBox V h v0 v1 v2 v3 v4) (hb : Below V.heap.size V V') : WoodBox V' h v0 v1 v2 v3 v4 :=
 b.turns (P := fun _ => False) (Turns.of_below hb) id
structure NodeLo (V : World) (lo h : Nat) (l : Bool) (a : Option Addr) (m c : Nat) (a' : Option Addr) (m' c' : Nat) (a'' : Option Addr) (m'' c'' : Nat) (ks vs : List ByteArray) (cs : List Int) : Prop where
 box : Box4 V h (.bool l) (.slice a m c) (.slice a' m' c') (.slice a'' m'' c'')
 e1 : m = ks.length
 e2 : m' = vs.length
 e3 : m'' = cs.length
 i1 : IsS V a c ks
 i2 : IsS V a' c' vs
 i3 : IsI V a'' c'' cs
 j0 : lo ≤ h
 j1 : From lo a
 j2 : From lo a'
 j3 : From lo a''
theorem NodeLo.stay {V V' : World} {lo h : Nat} {l : Bool} {a : Option Addr} {m c : Nat} {a' : Option Addr} {m' c' : Nat} {a'' : Option Addr} {m'' c'' : Nat} {ks vs : List ByteArray} {cs : List Int} (n : NodeLo V lo h l a m c a' m' c' a'' m'' c'' ks vs cs) (t : Turns (fun k => k < lo) V V') : NodeLo V' lo h l a m c a' m' c' a'' m'' c'' ks vs cs :=
 ⟨n.box.turns t (by have := n.j0; omega), n.e1, n.e2, n.e3, n.i1.turns t (fun x hx e => by have := n.j1 x hx; omega), n.i2.turns t (fun x hx e => by have := n.j2 x hx; omega), n.i3.turns t (fun x hx e => by have := n.j3 x hx; omega), n.j0, n.j1, n.j2, n.j3⟩
theorem nodeLo_new (V : World) (lo h : Nat) (l : Bool) {a : Option Addr} {m c : Nat} {a' : Option Addr} {m' c' : Nat} {a'' : Option Addr} {m'' c'' : Nat} {ks vs : List ByteArray} {cs : List Int} (hh : h = V.heap.size) (hl : lo ≤ h) (e1 : m = ks.length) (e2 : m' = vs.length) (e3 : m'' = cs.length) (i1 : IsS V a c ks) (i2 : IsS V a' c' vs) (i3 : IsI V a'' c'' cs) (j1 : From lo a) (j2 : From lo a') (j3 : From lo a'') :
  NodeLo (V.alloc (.cells #[.bool l, .slice a m c, .slice a' m' c', .slice a'' m'' c''] 62)) lo h l a m c a' m' c' a'' m'' c'' ks vs cs := by
 subst hh
 have hA := (Below.refl V.heap.size V).alloc (Nat.le_refl _) (.cells #[.bool l, .slice a m c, .slice a' m' c', .slice a'' m'' c''] 62)
 exact ⟨box4_new _ _ _ _ _ _ rfl, e1, e2, e3, i1.below hA, i2.below hA, i3.below hA, hl, j1, j2, j3⟩
theorem get_some {α : Type} {xs : List α} {i : Nat} (h : i < xs.length) : ∃ x, Hid (xs[i]? = some x) := ⟨_, List.getElem?_eq_getElem h⟩
end Go.Proofs.Ytpepgpjiddophaa
namespace Go.Proofs.Ytpepgpjiddophaa
open Go.RowKit Plain Anylast
set_option linter.unusedVariables false
end Go.Proofs.Ytpepgpjiddophaa
namespace Go.Proofs.Ytpepgpjiddophaa.Plain
open Go.RowKit
theorem xor_mod2 (a b : Nat) : (a ^^^ b) % 2 = (a + b) % 2 := by
 have h : (a ^^^ b) % 2 ^ 1 = a % 2 ^ 1 ^^^ b % 2 ^ 1 := Nat.xor_mod_two_pow
 rw [Nat.pow_one] at h
 rw [h, Nat.add_mod]
 have ha := Nat.mod_lt a (by decide : 2 > 0)
 have hb := Nat.mod_lt b (by decide : 2 > 0)
 rcases Nat.lt_succ_iff_lt_or_eq.1 ha with h1 | h1
 ·
  have h1' : a % 2 = 0 := by omega
  rw [h1', Nat.zero_xor, Nat.zero_add, Nat.mod_mod]
 ·
  rcases Nat.lt_succ_iff_lt_or_eq.1 hb with h2 | h2
  ·
   have h2' : b % 2 = 0 := by omega
   rw [h2', Nat.xor_zero, Nat.add_zero, Nat.mod_mod]
  ·
   rw [h1, h2]; decide
def poly : Nat := 2197175160
def zed (c : Nat) : Nat := if c % 2 = 0 then c / 2 else c / 2 ^^^ poly
theorem zed_lt {c : Nat} (h : c < 4294967296) : zed c < 4294967296 := by
 unfold zed
 split
 ·
  omega
 ·
  exact Nat.xor_lt_two_pow (n := 32) (by omega) (by decide)
def zedN : Nat → Nat → Nat
 | 0, c => c
 | n + 1, c => zedN n (zed c)
theorem zedN_add (m n c : Nat) : zedN (m + n) c = zedN n (zedN m c) := by
 induction m generalizing c with
 | zero => rw [Nat.zero_add]; rfl
 | succ m ih => rw [Nat.succ_add]; exact ih (zed c)
theorem zedN_succ (n c : Nat) : zedN (n + 1) c = zed (zedN n c) := zedN_add n 1 c
theorem zedN_lt (n : Nat) {c : Nat} (h : c < 4294967296) : zedN n c < 4294967296 := by
 induction n generalizing c with
 | zero => exact h
 | succ n ih => exact ih (zed_lt h)
def takeN (c : Nat) (b : UInt8) : Nat := zedN 8 (c ^^^ b.toNat)
def reg (c : Nat) : List UInt8 → Nat
 | [] => c
 | b :: l => reg (takeN c b) l
theorem reg_append (c : Nat) (l m : List UInt8) : reg c (l ++ m) = reg (reg c l) m := by
 induction l generalizing c with
 | nil => rfl
 | cons b l ih => exact ih _
theorem byte_lt32 (b : UInt8) : b.toNat < 4294967296 := by have := b.toNat_lt; omega
theorem takeN_lt {c : Nat} (h : c < 4294967296) (b : UInt8) : takeN c b < 4294967296 :=
 zedN_lt 8 (Nat.xor_lt_two_pow (n := 32) h (byte_lt32 b))
theorem reg_lt {c : Nat} (h : c < 4294967296) (l : List UInt8) : reg c l < 4294967296 := by
 induction l generalizing c with
 | nil => exact h
 | cons b l ih => exact ih (takeN_lt h b)
theorem low_xor (m y : Nat) (k : Nat) (hm : m < 2 ^ k) : m ^^^ 2 ^ k * y = m + 2 ^ k * y := by
 induction k generalizing m with
 | zero =>
  have : m = 0 := by simp at hm; exact hm
  subst this; simp
 | succ k ih =>
  rw [Nat.pow_succ] at hm
  have e : 2 ^ (k + 1) * y = 2 * (2 ^ k * y) := by rw [Nat.pow_succ]; ac_rfl
  have h := ih (m / 2) (by omega)
  have e1 : (m ^^^ 2 ^ (k + 1) * y) / 2 = m / 2 + 2 ^ k * y := by
   rw [Nat.xor_div_two, e, Nat.mul_div_cancel_left _ (by decide : 0 < 2), h]
  have e2 : (m ^^^ 2 ^ (k + 1) * y) % 2 = m % 2 := by rw [xor_mod2, e]; omega
  omega
def full : Nat := 4294967295
theorem full_lt : full < 4294967296 := by decide
theorem flip_eq {c : Nat} (h : c < 4294967296) : full - c = full ^^^ c := by
 have h1 : ∀ n c, c < 2 ^ n → 2 ^ n - 1 - c = (2 ^ n - 1) ^^^ c := by
  intro n
  induction n with
  | zero =>
   intro c hc
   have : c = 0 := by simp at hc; exact hc
   subst this
   rfl
  | succ n ih =>
   intro c hc
   rw [Nat.pow_succ] at hc
   have hp : 0 < 2 ^ n := Nat.pow_pos (by decide)
   have e1 : ((2 ^ (n + 1) - 1) ^^^ c) / 2 = 2 ^ n - 1 - c / 2 := by
    rw [Nat.xor_div_two, ih _ (by omega)]; congr 1; rw [Nat.pow_succ]; omega
   have e2 : ((2 ^ (n + 1) - 1) ^^^ c) % 2 = (1 + c) % 2 := by
    rw [xor_mod2, Nat.pow_succ]; omega
   rw [Nat.pow_succ] at e1 e2 ⊢
   omega
 exact h1 32 c h
def sumOn (n : Nat) (l : List UInt8) : Nat := full - reg (full - n) l
def sumOf (l : List UInt8) : Nat := sumOn 0 l
theorem sumOn_lt (n : Nat) (l : List UInt8) : sumOn n l < 4294967296 := by
 unfold sumOn full; omega
theorem sumOf_lt (l : List UInt8) : sumOf l < 4294967296 := sumOn_lt 0 l
theorem sumOn_nil {n : Nat} (h : n < 4294967296) : sumOn n [] = n := by
 unfold sumOn reg full; omega
theorem sumOn_append {n : Nat} (h : n < 4294967296) (l m : List UInt8) : sumOn n (l ++ m) = sumOn (sumOn n l) m := by
 unfold sumOn
 have hr : reg (full - n) l < 4294967296 := reg_lt (by unfold full; omega) l
 have he : ∀ x, x < 4294967296 → full - (full - x) = x := by intro x hx; unfold full; omega
 rw [reg_append, he _ hr]
theorem sumOf_append (l m : List UInt8) : sumOf (l ++ m) = sumOn (sumOf l) m := sumOn_append (by decide) l m
def onS (n : Nat) (s : ByteArray) : Nat := sumOn n s.data.toList
def ofS (s : ByteArray) : Nat := sumOf s.data.toList
theorem ofS_lt (s : ByteArray) : ofS s < 4294967296 := sumOf_lt _
def le4 (n : Nat) : List UInt8 := [UInt8.ofNat (n % 256), UInt8.ofNat (n / 256 % 256), UInt8.ofNat (n / 65536 % 256), UInt8.ofNat (n / 16777216 % 256)]
end Go.Proofs.Ytpepgpjiddophaa.Plain
namespace Go.Proofs
open Go.Shelf
def Try.lays156_ren : Go.Shelf.Ren := ⟨fun | 156 => 76 | 165 => 79 | 166 => 80 | 169 => 82 | 240 => 87 | 241 => 88 | 276 => 90 | 277 => 91 | n => n, fun | 31 => 25 | 9 => 9 | 3 => 3 | 4 => 4 | 0 => 0 | 20 => 20 | 72 => 122 | 76 => 126 | 70 => 120 | 37 => 100 | 75 => 125 | 127 => 134 | 164 => 136 | 5 => 5 | 80 => 115 | n => n, fun | n => n⟩
theorem Try.lays156 : Go.Proofs.Lays.n156 Try.prog Try.lays156_ren := {
 mixed := by kernel_rfl
 f156 := Try.func76.trans (congrArg some (by kernel_rfl))
 f165 := Try.func79.trans (congrArg some (by kernel_rfl))
 f166 := Try.func80.trans (congrArg some (by kernel_rfl))
 f169 := Try.func82.trans (congrArg some (by kernel_rfl))
 f240 := Try.func87.trans (congrArg some (by kernel_rfl))
 f241 := Try.func88.trans (congrArg some (by kernel_rfl))
 f276 := Try.func90.trans (congrArg some (by kernel_rfl))
 f277 := Try.func91.trans (congrArg some (by kernel_rfl))
 t0 := Try.underlying0
 a0 := Try.isAgg0
 z0 := Try.sizeOf0
 v0 := Try.zeroValue0
 t3 := Try.underlying3
 a3 := Try.isAgg3
 z3 := Try.sizeOf3
 v3 := Try.zeroValue3
 t4 := Try.underlying4
 a4 := Try.isAgg4
 z4 := Try.sizeOf4
 v4 := Try.zeroValue4
 t9 := Try.underlying9
 a9 := Try.isAgg9
 z9 := Try.sizeOf9
 v9 := Try.zeroValue9
 t20 := Try.underlying20
 a20 := Try.isAgg20
 z20 := Try.sizeOf20
 v20 := Try.zeroValue20
 t31 := Try.underlying25
 a31 := Try.isAgg25
 z31 := Try.sizeOf25
 v31 := Try.zeroValue25
 t37 := Try.underlying100
 a37 := Try.isAgg100
 z37 := Try.sizeOf100
 v37 := Try.zeroValue100
 t70 := Try.underlying120
 a70 := Try.isAgg120
 z70 := Try.sizeOf120
 v70 := Try.zeroValue120
 t72 := Try.underlying122
 a72 := Try.isAgg122
 z72 := Try.sizeOf122
 v72 := Try.zeroValue122
 t75 := Try.underlying125
 a75 := Try.isAgg125
 z75 := Try.sizeOf125
 v75 := Try.zeroValue125
 t76 := Try.underlying126
 a76 := Try.isAgg126
 z76 := Try.sizeOf126
 v76 := Try.zeroValue126
 t127 := Try.underlying134
 a127 := Try.isAgg134
 z127 := Try.sizeOf134
 v127 := Try.zeroValue134
 t164 := Try.underlying136
 a164 := Try.isAgg136
 z164 := Try.sizeOf136
 v164 := Try.zeroValue136 }
theorem Try.Builder_Extra_156 : Builder.Extra Try.prog Try.lays156_ren := {
 sizeBuilder := by kernel_rfl
 liesBuilder := by kernel_rfl
 t5 := Try.underlying5
 a5 := Try.isAgg5
 z5 := Try.sizeOf5
 v5 := Try.zeroValue5
 infoByte := by kernel_rfl
 cellsByte := by kernel_rfl
 sizeByte := by kernel_rfl
 neB5 := by decide }
open Go.RowKit in
theorem Try.strings_Join (bk o c : Nat) (xs : List ByteArray) (sep : ByteArray) (w : World) (hcells : ∀ (j : Nat) x, xs[j]? = some x → w.cell? ⟨bk, o + j, none⟩ = some (.string x)) (hbk : bk < w.heap.size) (hN : xs.length ≤ 140737488355328) (hcap : xs.length ≤ c) (hlen : (Lib.join (xs.map (·.data.toList)) sep.data.toList).length ≤ 140737488355328) :
  Calls Try.prog 76 #[.slice (some ⟨bk, o, none⟩) xs.length c, .string sep] w fun e w' => e = .returned (.string ⟨(Lib.join (xs.map (·.data.toList)) sep.data.toList).toArray⟩) ∧ Below w.heap.size w w' := Any.strings_Join Try.lays156 Try.Builder_Extra_156 bk o c xs sep w hcells hbk hN hcap hlen
def Try.lays105_ren : Go.Shelf.Ren := ⟨fun | 105 => 70 | 212 => 77 | 99 => 78 | 165 => 79 | 166 => 80 | 170 => 81 | 169 => 82 | 263 => 84 | 264 => 85 | 206 => 86 | 240 => 87 | 241 => 88 | 276 => 90 | 277 => 91 | n => n, fun | 9 => 9 | 3 => 3 | 4 => 4 | 20 => 20 | 0 => 0 | 46 => 112 | 109 => 117 | 5 => 5 | 72 => 122 | 76 => 126 | 51 => 101 | 146 => 129 | 53 => 131 | 148 => 132 | 70 => 120 | 37 => 100 | 75 => 125 | 127 => 134 | 164 => 136 | 80 => 115 | n => n, fun | n => n⟩
theorem Try.lays105 : Go.Proofs.Lays.n105 Try.prog Try.lays105_ren := {
 mixed := by kernel_rfl
 f99 := Try.func78.trans (congrArg some (by kernel_rfl))
 f105 := Try.func70.trans (congrArg some (by kernel_rfl))
 f165 := Try.func79.trans (congrArg some (by kernel_rfl))
 f166 := Try.func80.trans (congrArg some (by kernel_rfl))
 f169 := Try.func82.trans (congrArg some (by kernel_rfl))
 f170 := Try.func81.trans (congrArg some (by kernel_rfl))
 f206 := Try.func86.trans (congrArg some (by kernel_rfl))
 f212 := Try.func77.trans (congrArg some (by kernel_rfl))
 f240 := Try.func87.trans (congrArg some (by kernel_rfl))
 f241 := Try.func88.trans (congrArg some (by kernel_rfl))
 f263 := Try.func84.trans (congrArg some (by kernel_rfl))
 f264 := Try.func85.trans (congrArg some (by kernel_rfl))
 f276 := Try.func90.trans (congrArg some (by kernel_rfl))
 f277 := Try.func91.trans (congrArg some (by kernel_rfl))
 t0 := Try.underlying0
 a0 := Try.isAgg0
 z0 := Try.sizeOf0
 v0 := Try.zeroValue0
 t3 := Try.underlying3
 a3 := Try.isAgg3
 z3 := Try.sizeOf3
 v3 := Try.zeroValue3
 t4 := Try.underlying4
 a4 := Try.isAgg4
 z4 := Try.sizeOf4
 v4 := Try.zeroValue4
 t5 := Try.underlying5
 a5 := Try.isAgg5
 z5 := Try.sizeOf5
 v5 := Try.zeroValue5
 t9 := Try.underlying9
 a9 := Try.isAgg9
 z9 := Try.sizeOf9
 v9 := Try.zeroValue9
 t20 := Try.underlying20
 a20 := Try.isAgg20
 z20 := Try.sizeOf20
 v20 := Try.zeroValue20
 t37 := Try.underlying100
 a37 := Try.isAgg100
 z37 := Try.sizeOf100
 v37 := Try.zeroValue100
 t46 := Try.underlying112
 a46 := Try.isAgg112
 z46 := Try.sizeOf112
 v46 := Try.zeroValue112
 t51 := Try.underlying101
 a51 := Try.isAgg101
 z51 := Try.sizeOf101
 v51 := Try.zeroValue101
 t53 := Try.underlying131
 a53 := Try.isAgg131
 z53 := Try.sizeOf131
 v53 := Try.zeroValue131
 t70 := Try.underlying120
 a70 := Try.isAgg120
 z70 := Try.sizeOf120
 v70 := Try.zeroValue120
 t72 := Try.underlying122
 a72 := Try.isAgg122
 z72 := Try.sizeOf122
 v72 := Try.zeroValue122
 t75 := Try.underlying125
 a75 := Try.isAgg125
 z75 := Try.sizeOf125
 v75 := Try.zeroValue125
 t76 := Try.underlying126
 a76 := Try.isAgg126
 z76 := Try.sizeOf126
 v76 := Try.zeroValue126
 t109 := Try.underlying117
 a109 := Try.isAgg117
 z109 := Try.sizeOf117
 v109 := Try.zeroValue117
 t127 := Try.underlying134
 a127 := Try.isAgg134
 z127 := Try.sizeOf134
 v127 := Try.zeroValue134
 t146 := Try.underlying129
 a146 := Try.isAgg129
 z146 := Try.sizeOf129
 v146 := Try.zeroValue129
 t148 := Try.underlying132
 a148 := Try.isAgg132
 z148 := Try.sizeOf132
 v148 := Try.zeroValue132
 t164 := Try.underlying136
 a164 := Try.isAgg136
 z164 := Try.sizeOf136
 v164 := Try.zeroValue136 }
theorem Try.Builder_Extra_105 : Builder.Extra Try.prog Try.lays105_ren := {
 sizeBuilder := by kernel_rfl
 liesBuilder := by kernel_rfl
 t5 := Try.underlying5
 a5 := Try.isAgg5
 z5 := Try.sizeOf5
 v5 := Try.zeroValue5
 infoByte := by kernel_rfl
 cellsByte := by kernel_rfl
 sizeByte := by kernel_rfl
 neB5 := by decide }
open Go.RowKit Go.Lib in
theorem Try.strings_Repeat (s : ByteArray) (c : Nat) (w : World) (hc : c ≤ 9223372036854775807) (hlen : s.size * c ≤ 140737488355328) :
  Calls Try.prog 70 #[.string s, .int .i64 c] w fun e w' => e = .returned (.string ⟨(Lib.repeatL s.data.toList c).toArray⟩) ∧ Below w.heap.size w w' := Any.strings_Repeat Try.lays105 Try.Builder_Extra_105 s c w hc hlen
end Go.Proofs
namespace Go.Proofs.Ytpepgpjiddophaa
open Go.RowKit Plain
set_option linter.unusedVariables false
set_option maxHeartbeats 400000 in
theorem all_row (bk o c : Nat) (xs : List ByteArray) (w : World) (hcells : ∀ (j : Nat) x, xs[j]? = some x → w.cell? ⟨bk, o + j, none⟩ = some (.string x)) (hbk : bk < w.heap.size) (hN : xs.length ≤ 140737488355328) (hcap : xs.length ≤ c) (hlen : (cat xs).size ≤ 140737488355328) :
  Calls Try.prog 69 #[.slice (some ⟨bk, o, none⟩) xs.length c] w fun e w' => e = .returned (.string (cat xs)) ∧ Below w.heap.size w w' := by
 have h := Try.strings_Join bk o c xs ⟨#[]⟩ w hcells hbk hN hcap (by
  show (Lib.join _ []).length ≤ _
  rw [join_flat]
  simpa [cat, ByteArray.size] using hlen)
 have e1 : (⟨(Lib.join (xs.map (·.data.toList)) (⟨#[]⟩ : ByteArray).data.toList).toArray⟩ : ByteArray) = cat xs := by
  show (⟨(Lib.join _ []).toArray⟩ : ByteArray) = _
  rw [join_flat]; rfl
 rw [e1] at h
 clear hcells hlen e1
 go_enter Try.func69, Try.ntmps69
 go_wp2_with (go_at_call 76; refine h.mono ?_; rintro e w' ⟨rfl, hb⟩)
 go_ret
 exact ⟨rfl, hb⟩
theorem all_two (a b : ByteArray) (w : World) (hlen : a.size + b.size ≤ 140737488355328) :
  Calls Try.prog 69 #[.slice (some ⟨w.heap.size, 0, none⟩) 2 2] (w.alloc (.cells #[.string a, .string b] 9)) fun e w' => e = .returned (.string (cat [a, b])) ∧ Below w.heap.size w w' := by
 refine (all_row w.heap.size 0 2 [a, b] _ ?_ (by simp) (by simp) (by simp) (by rw [cat_size]; simpa using hlen)).mono fun e w' ⟨he, hb⟩ => ⟨he, ((Below.refl _ _).alloc (Nat.le_refl _) _).trans (hb.mono (by simp))⟩
 intro j x hj
 rw [Nat.zero_add, World.cell?_alloc_at _ _ _ _ rfl]
 match j, hj with
 | 0, hj => simp at hj; subst hj; rfl
 | 1, hj => simp at hj; subst hj; rfl
end Go.Proofs.Ytpepgpjiddophaa
namespace Go.Proofs.Ytpepgpjiddophaa
open Go.RowKit Plain
theorem and_one (x : Nat) (h : x < 4294967296) : bits .and .u32 (x : Int) 1 = ((x % 2 : Nat) : Int) := by
 rw [show (1 : Int) = ((1 : Nat) : Int) from rfl, u32_and_nat _ _ h (by decide), nat_mask1]
theorem xor_poly (x : Nat) (h : x < 4294967296) : bits .xor .u32 (x : Int) 2197175160 = ((x ^^^ poly : Nat) : Int) := by
 rw [show (2197175160 : Int) = ((poly : Nat) : Int) from rfl, u32_xor_nat _ _ h (by decide)]
theorem xor_byte (c : Nat) (b : UInt8) (h : c < 4294967296) : bits .xor .u32 (c : Int) ((b.toNat : Int) % 4294967296) = ((c ^^^ b.toNat : Nat) : Int) := by
 have := byte_lt32 b
 rw [show ((b.toNat : Int) % 4294967296) = ((b.toNat : Nat) : Int) by omega, u32_xor_nat _ _ h this]
theorem zed_odd {x : Nat} (h : x % 2 = 1) : zed x = x / 2 ^^^ poly := by unfold zed; rw [if_neg (by omega)]
theorem zed_even {x : Nat} (h : x % 2 = 0) : zed x = x / 2 := by unfold zed; rw [if_pos (by omega)]
set_option maxHeartbeats 400000 in
theorem take_ok (c : Nat) (b : UInt8) (w : World) (hc : c < 4294967296) :
  Calls Try.prog 89 #[.int .u32 c, .int .u8 b.toNat] w fun e w' => e = .returned (.int .u32 (takeN c b)) ∧ w = w' := by
 go_enter Try.func89, Try.ntmps89
 go_wp2
 go_loop [0, 10] (fun r v => ∃ i : Nat, i ≤ 8 ∧ v = .int .i64 i ∧ r = .int .u32 (zedN i (c ^^^ b.toNat) : Nat)) (fun _ v => 8 - (intOf v).toNat)
 case atStart => exact ⟨0, by omega, rfl, by rw [xor_byte c b hc]; rfl⟩
 case round =>
  obtain ⟨i, hi, rfl, rfl⟩ := hrel
  by_cases hlt : i < 8
  ·
   have hx : zedN i (c ^^^ b.toNat) < 4294967296 := zedN_lt i (Nat.xor_lt_two_pow (n := 32) hc (byte_lt32 b))
   have hs : Hid (zedN (i + 1) (c ^^^ b.toNat) = zed (zedN i (c ^^^ b.toNat))) := zedN_succ i _
   generalize zedN i (c ^^^ b.toNat) = x at hx hs
   by_cases hp : x % 2 = 1
   ·
    have hand : bits .and .u32 (x : Int) 1 = 1 := by rw [and_one x hx, hp]; rfl
    go_wp2
    go_round
    case rel => 
     refine ⟨i + 1, by omega, by go_num, ?_⟩
     rw [hs.out, zed_odd hp, ← xor_poly _ (by omega)]
     rfl
    case measure => simp [intOf]; omega
   ·
    have hand : bits .and .u32 (x : Int) 1 = 0 := by rw [and_one x hx]; omega
    go_wp2
    go_round
    case rel => 
     refine ⟨i + 1, by omega, by go_num, ?_⟩
     rw [hs.out, zed_even (by omega)]
     rfl
    case measure => simp [intOf]; omega
  ·
   obtain rfl : i = 8 := by omega
   go_wp2
   go_ret
   exact ⟨rfl, rfl⟩
theorem getElem_list (s : ByteArray) (i : Nat) (h : i < s.size) : s.data.toList[i]? = some s[i] := by
 rw [List.getElem?_eq_getElem (by exact h)]
 rfl
theorem reg_take (c : Nat) (s : ByteArray) (i : Nat) (h : i < s.size) : reg c (s.data.toList.take (i + 1)) = takeN (reg c (s.data.toList.take i)) s[i] := by
 rw [List.take_add_one, getElem_list s i h, reg_append]
 rfl
theorem reg_all (c : Nat) (s : ByteArray) : reg c (s.data.toList.take s.size) = reg c s.data.toList := by
 rw [List.take_of_length_le (by exact Nat.le_refl _)]
theorem xor_max (n : Nat) (h : n < 4294967296) : bits .xor .u32 IntKind.u32.max (n : Int) = ((full - n : Nat) : Int) := by
 rw [show IntKind.u32.max = ((full : Nat) : Int) from rfl, u32_xor_nat _ _ full_lt h, flip_eq h]
set_option maxHeartbeats 400000 in
theorem on_ok (n : Nat) (s : ByteArray) (w : World) (hn : n < 4294967296) (hs : s.size ≤ maxLen) :
  Calls Try.prog 83 #[.int .u32 n, .string s] w fun e w' => e = .returned (.int .u32 (onS n s)) ∧ w = w' := by
 unfold maxLen at hs
 have hmx : ¬ IntKind.u32.signed = true := by decide
 go_enter Try.func83, Try.ntmps83
 go_wp2
 go_loop [5, 11] (fun r v => ∃ i : Nat, i ≤ s.size ∧ v = .int .i64 i ∧ r = .int .u32 (reg (full - n) (s.data.toList.take i) : Nat)) (fun _ v => s.size - (intOf v).toNat)
 case atStart => refine ⟨0, by omega, rfl, ?_⟩; rw [xor_max n hn]; rfl
 case round =>
  obtain ⟨i, hi, rfl, rfl⟩ := hrel
  by_cases hlt : i < s.size
  ·
   have hx : reg (full - n) (s.data.toList.take i) < 4294967296 := reg_lt (by unfold full; omega) _
   have hst : Hid (reg (full - n) (s.data.toList.take (i + 1)) = takeN (reg (full - n) (s.data.toList.take i)) s[i]) := reg_take _ s i hlt
   generalize reg (full - n) (s.data.toList.take i) = x at hx hst
   go_wp2_with (go_at_call 89; refine (take_ok x _ _ hx).mono ?_; rintro e w' ⟨rfl, rfl⟩)
   go_round
   case rel =>
    refine ⟨i + 1, by omega, by go_num, ?_⟩
    rw [hst.out]
   case measure => simp [intOf]; omega
  ·
   obtain rfl : i = s.size := by omega
   rw [reg_all]
   have hx : reg (full - n) s.data.toList < 4294967296 := reg_lt (by unfold full; omega) _
   go_wp2
   go_ret
   refine ⟨?_, rfl⟩
   show Ending.returned (.int .u32 (bits .xor .u32 IntKind.u32.max (reg (full - n) s.data.toList : Nat))) = _
   rw [xor_max _ hx]
   rfl
theorem sumOf_take (xs : List ByteArray) (j : Nat) (x : ByteArray) (h : xs[j]? = some x) : ofS (cat (xs.take (j + 1))) = onS (ofS (cat (xs.take j))) x := by
 unfold ofS onS
 rw [List.take_add_one, h, cat_append, data_append, sumOf_append]
 show sumOn _ (cat [x]).data.toList = _
 rw [cat_one]
set_option maxHeartbeats 400000 in
theorem of_row (bk o c : Nat) (xs : List ByteArray) (w : World) (hcells : ∀ (j : Nat) x, xs[j]? = some x → w.cell? ⟨bk, o + j, none⟩ = some (.string x)) (hcap : xs.length ≤ c) (hc : c ≤ maxLen) (hsz : ∀ x ∈ xs, x.size ≤ maxLen) :
  Calls Try.prog 73 #[.slice (some ⟨bk, o, none⟩) xs.length c] w fun e w' => e = .returned (.int .u32 (ofS (cat xs))) ∧ w = w' := by
 unfold maxLen at hc
 have HC : Hid (∀ (j : Nat) x, xs[j]? = some x → w.cell? ⟨bk, o + j, none⟩ = some (.string x)) := hcells
 clear hcells
 have HZ : Hid (∀ x ∈ xs, x.size ≤ maxLen) := hsz
 clear hsz
 go_enter Try.func73, Try.ntmps73
 go_wp2
 go_loop [3, 8] (fun r v => ∃ j : Nat, j ≤ xs.length ∧ v = .int .i64 j ∧ r = .int .u32 (ofS (cat (xs.take j)) : Nat)) (fun _ v => xs.length - (intOf v).toNat)
 case atStart =>
  refine ⟨0, by omega, rfl, ?_⟩
  rw [List.take_zero, show ofS (cat []) = 0 from sumOn_nil (by decide)]
  rfl
 case round =>
  obtain ⟨j, hj, rfl, rfl⟩ := hrel
  by_cases hlt : j < xs.length
  ·
   obtain ⟨x, hx⟩ : ∃ x, xs[j]? = some x := ⟨_, List.getElem?_eq_getElem hlt⟩
   have hcell := HC.out j x hx
   have hxs := HZ.out x (List.mem_of_getElem? hx)
   have hst : Hid (ofS (cat (xs.take (j + 1))) = onS (ofS (cat (xs.take j))) x) := sumOf_take xs j x hx
   have hlt32 := ofS_lt (cat (xs.take j))
   clear hx
   generalize ofS (cat (xs.take j)) = y at hlt32 hst
   go_wp2_with (go_at_call 83; refine (on_ok _ _ _ hlt32 hxs).mono ?_; rintro e w' ⟨rfl, rfl⟩)
   go_round
   case rel =>
    refine ⟨j + 1, by omega, by go_num, ?_⟩
    rw [hst.out]
   case measure => simp [intOf]; omega
  ·
   obtain rfl : j = xs.length := by omega
   rw [List.take_length]
   go_wp2
   go_ret
   exact ⟨rfl, rfl⟩
theorem of_one (s : ByteArray) (w : World) (hs : s.size ≤ maxLen) :
  Calls Try.prog 73 #[.slice (some ⟨w.heap.size, 0, none⟩) 1 1] (w.alloc (.cells #[.string s] 9)) fun e w' => e = .returned (.int .u32 (ofS s)) ∧ Below w.heap.size w w' := by
 have h := of_row w.heap.size 0 1 [s] (w.alloc (.cells #[.string s] 9)) ?_ (by simp) (by decide) (by simpa using hs)
 ·
  rw [cat_one] at h
  refine h.mono fun e w' ⟨he, hw⟩ => ⟨he, hw ▸ (Below.refl _ _).alloc (Nat.le_refl _) _⟩
 intro j x hj
 rw [Nat.zero_add, World.cell?_alloc_at _ _ _ _ rfl]
 match j, hj with
 | 0, hj => simp at hj; subst hj; rfl
end Go.Proofs.Ytpepgpjiddophaa
namespace Go.Proofs.Ytpepgpjiddophaa
open Go.RowKit Plain
set_option linter.unusedVariables false
def le4C (n i : Nat) : Array Value := (((le4 n).take i ++ List.replicate (4 - i) 0).map cellOf).toArray
theorem le4C_zero (n : Nat) : le4C n 0 = madeCells #[.int .u8 0] 4 := by
 apply Array.toList_inj.1
 rw [toList_madeCells_one]
 simp [le4C, cellOf]
theorem le4C_full (n : Nat) : le4C n 4 = ((le4 n).map cellOf).toArray := by
 simp [le4C, le4]
theorem cell_mod (x : Nat) : (Value.int .u8 ((x : Int) % 256)) = cellOf (UInt8.ofNat (x % 256)) := by
 unfold cellOf
 rw [UInt8.toNat_ofNat']
 congr 1
 omega
theorem le4C_succ (n i : Nat) (h : i < 4) : (le4C n i).setIfInBounds i (.int .u8 ((n : Int) / 2 ^ (8 * i) % 256)) = le4C n (i + 1) := by
 have e : ((n : Int) / 2 ^ (8 * i)) = ((n / 2 ^ (8 * i) : Nat) : Int) := by
  rw [Int.natCast_ediv]; simp
 rw [e, cell_mod]
 match i, h with
 | 0, _ => simp [le4C, le4]
 | 1, _ => simp [le4C, le4]
 | 2, _ => simp [le4C, le4]
 | 3, _ => simp [le4C, le4]
theorem le4C_get (n i : Nat) (h : i < 4) : ∃ x : Int, (le4C n i)[i]? = some (.int .u8 x) := by
 match i, h with
 | 0, _ => exact ⟨_, rfl⟩
 | 1, _ => exact ⟨_, rfl⟩
 | 2, _ => exact ⟨_, rfl⟩
 | 3, _ => exact ⟨_, rfl⟩
def le4S (n : Nat) : ByteArray := ⟨(le4 n).toArray⟩
set_option maxHeartbeats 400000 in
theorem bytesOf_ok (n : Nat) (w : World) (hn : n < 4294967296) :
  Calls Try.prog 72 #[.int .u32 n] w fun e w' => e = .returned (.string (le4S n)) ∧ Below w.heap.size w w' := by
 have hmk : ∀ W : World, (Instr.makeSlice 100 (.int .i64 4) (.int .i64 4)).run Try.prog W = .ok (.slice (some ⟨W.heap.size, 0, none⟩) 4 4) (W.alloc (.cells (madeCells #[.int .u8 0] 4) 5)) := fun W => run_make_row' (P := Try.prog) 100 5 (.int .u8 0) 1 Try.underlying100 Try.info5 rfl .i64 .i64 4 (by omega) (by omega) W
 go_enter Try.func72, Try.ntmps72
 go_wp2
 go_loopw [6] (fun v wr => ∃ i : Nat, i ≤ 4 ∧ v = .int .i64 i ∧ wr = w.alloc (.cells (le4C n i) 5)) (fun v _ => 4 - (intOf v).toNat)
 case atStart => exact ⟨0, by omega, rfl, by rw [le4C_zero]⟩
 case round =>
  obtain ⟨i, hi, rfl, rfl⟩ := hrel
  by_cases hlt : i < 4
  ·
   obtain ⟨x, hx⟩ := le4C_get n i hlt
   have HS : Hid ((le4C n i).setIfInBounds i (.int .u8 ((n : Int) / 2 ^ (8 * i) % 256)) = le4C n (i + 1)) := le4C_succ n i hlt
   go_wp2
   go_roundw
   case rel => exact ⟨i + 1, by omega, by go_num, by rw [HS.out]⟩
   case measure => simp [intOf]; omega
  ·
   obtain rfl : i = 4 := by omega
   rw [le4C_full]
   have hcv := conv_row w (le4 n) 4 rfl 4
   go_wp2
   go_ret
   exact ⟨rfl, (Below.refl _ _).alloc (Nat.le_refl _) _⟩
def sealS (s : ByteArray) : ByteArray := s ++ le4S (ofS s)
def headS (s : ByteArray) : ByteArray := s.extract 0 (s.size - 4)
def tailS (s : ByteArray) : ByteArray := s.extract (s.size - 4) s.size
def openE (s : ByteArray) : Int := if s.size < 4 then 3 else if tailS s = le4S (ofS (headS s)) then 0 else 41
def openS (s : ByteArray) : ByteArray := if openE s = 0 then headS s else ⟨#[]⟩
theorem of_one_from (w W : World) (hB : Below w.heap.size w W) (s : ByteArray) (hs : s.size ≤ maxLen) :
  Calls Try.prog 73 #[.slice (some ⟨W.heap.size, 0, none⟩) 1 1] (W.alloc (.cells #[.string s] 9)) fun e w' => e = .returned (.int .u32 (ofS s)) ∧ Below w.heap.size w w' :=
 (of_one s W hs).mono fun e w' ⟨he, hb'⟩ => ⟨he, Below.tr hB hb'⟩
theorem bytesOf_from (w W : World) (hB : Below w.heap.size w W) (n : Nat) (hn : n < 4294967296) :
  Calls Try.prog 72 #[.int .u32 n] W fun e w' => e = .returned (.string (le4S n)) ∧ Below w.heap.size w w' :=
 (bytesOf_ok n W hn).mono fun e w' ⟨he, hb'⟩ => ⟨he, Below.tr hB hb'⟩
set_option maxHeartbeats 1000000 in
theorem open_any (s : ByteArray) (w : World) (hs : s.size ≤ maxLen) :
  Calls Try.prog 56 #[.string s] w fun e w' => e = .returned (.tuple #[.string (openS s), .int .i64 (openE s)]) ∧ Below w.heap.size w w' := by
 have hB : Below w.heap.size w w := Below.refl _ _
 have hm : Hid ((headS s).size ≤ maxLen) := by
  show (s.extract 0 (s.size - 4)).size ≤ maxLen
  rw [ByteArray.size_extract]; omega
 unfold maxLen at hs
 by_cases h4 : s.size < 4
 ·
  have e1 : openE s = 3 := by unfold openE; rw [if_pos h4]
  have e2 : openS s = ⟨#[]⟩ := by unfold openS; rw [if_neg (by rw [e1]; decide)]
  rw [e1, e2]
  have h4' : (s.size : Int) < 4 := by omega
  go_enter Try.func56, Try.ntmps56
  go_wp2
  go_ret2
  exact ⟨rfl, hB⟩
 ·
  have h4' : ¬ (s.size : Int) < 4 := by omega
  obtain ⟨m, hm4⟩ : ∃ m : Nat, s.size - 4 = m := ⟨_, rfl⟩
  have ez : (s.size : Int) - 4 = (m : Int) := by omega
  have b1 : (0 : Int) ≤ (m : Int) := by omega
  have b2 : (m : Int) ≤ s.size := by omega
  unfold headS at hm
  rw [hm4] at hm
  have eh : headS s = s.extract 0 m := by unfold headS; rw [hm4]
  have et : tailS s = s.extract m s.size := by unfold tailS; rw [hm4]
  by_cases hq : s.extract m s.size = le4S (ofS (s.extract 0 m))
  ·
   have e1 : openE s = 0 := by unfold openE; rw [if_neg h4, et, eh, if_pos hq]
   have e2 : openS s = s.extract 0 m := by unfold openS; rw [if_pos e1, eh]
   rw [e1, e2]
   have hq' : (!(s.extract m s.size).toList == (le4S (ofS (s.extract 0 m))).toList) = false := str_ne_false hq
   clear hq eh et e1 e2
   go_enter Try.func56, Try.ntmps56
   go_wp2
   replace hB := Below.drew hB
   go_region_held3 (fun _ => True) (trivial) (first
    | (go_at_call 73; refine (of_one_from w _ hB (s.extract 0 m) hm.out).mono ?_; rintro e w' ⟨rfl, hb'⟩; clear hB; have hB := hb'; clear hb')
    | (go_at_call 72; refine (bytesOf_from w _ hB _ (ofS_lt _)).mono ?_; rintro e w' ⟨rfl, hb'⟩; clear hB; have hB := hb'; clear hb'))
   go_wp2
   go_ret2
   exact ⟨rfl, hB⟩
  ·
   have e1 : openE s = 41 := by unfold openE; rw [if_neg h4, et, eh, if_neg hq]
   have e2 : openS s = ⟨#[]⟩ := by unfold openS; rw [if_neg (by rw [e1]; decide)]
   rw [e1, e2]
   have hq' : (!(s.extract m s.size).toList == (le4S (ofS (s.extract 0 m))).toList) = true := str_ne_true hq
   clear hq eh et e1 e2
   go_enter Try.func56, Try.ntmps56
   go_wp2
   replace hB := Below.drew hB
   go_region_held3 (fun _ => True) (trivial) (first
    | (go_at_call 73; refine (of_one_from w _ hB (s.extract 0 m) hm.out).mono ?_; rintro e w' ⟨rfl, hb'⟩; clear hB; have hB := hb'; clear hb')
    | (go_at_call 72; refine (bytesOf_from w _ hB _ (ofS_lt _)).mono ?_; rintro e w' ⟨rfl, hb'⟩; clear hB; have hB := hb'; clear hb'))
   go_wp2
   go_ret2
   exact ⟨rfl, hB⟩
theorem split_text (s : ByteArray) (h : 4 ≤ s.size) : headS s ++ tailS s = s := by
 apply bytes_ext
 rw [data_append]
 unfold headS tailS
 simp only [ByteArray.data_extract, Array.toList_extract, List.extract_eq_take_drop]
 simp
 have : s.data.toList.length = s.size := rfl
 conv => rhs; rw [← List.take_append_drop (s.size - 4) s.data.toList]
 congr 1
 apply List.take_of_length_le
 simp
theorem sealed_head (s : ByteArray) (h : 4 ≤ s.size) : sealS (headS s) = s ↔ tailS s = le4S (ofS (headS s)) := by
 have hs := split_text s h
 unfold sealS
 constructor
 ·
  intro he
  have h2 : (headS s).data.toList ++ (le4S (ofS (headS s))).data.toList = (headS s).data.toList ++ (tailS s).data.toList := by
   rw [← data_append, ← data_append, he, hs]
  exact (bytes_ext (List.append_cancel_left h2)).symm
 ·
  intro he
  rw [← he, hs]
end Go.Proofs.Ytpepgpjiddophaa
namespace Go.Proofs.Ytpepgpjiddophaa.Plain
open Go.RowKit
def fN (F : ByteArray) : Nat := (getV F 7 2).toNat
def fK (F : ByteArray) : Int := getV F 0 1
def fG (F : ByteArray) : Int := getV F 1 6
def fB (F : ByteArray) : ByteArray := F.extract 9 (9 + fN F)
def fSealed (F : ByteArray) : Bool := decide (sealS (F.extract 0 (9 + fN F)) = F.extract 0 (13 + fN F))
theorem fSealed_iff (F : ByteArray) : fSealed F = true ↔ sealS (F.extract 0 (9 + fN F)) = F.extract 0 (13 + fN F) := by simp [fSealed]
def fRest (F : ByteArray) : ByteArray := F.extract (13 + fN F) F.size
def fE (F : ByteArray) : Int :=
 if 4000 < fN F then 4 else if fSealed F then (if 1 ≤ fK F ∧ fK F ≤ 5 then (if fG F ≤ 1099511627776 ∧ trimS (fRest F) = ⟨#[]⟩ then 0 else 4) else 40) else 41
def fullS (s : ByteArray) : ByteArray := s ++ zeros (4096 - s.size)
def readE (s : ByteArray) : Int := if s.size ≤ 4096 then fE (fullS s) else 1
def readK (s : ByteArray) : Int := if readE s = 0 then fK (fullS s) else 0
def readG (s : ByteArray) : Int := if readE s = 0 then fG (fullS s) else 0
def readB (s : ByteArray) : ByteArray := if readE s = 0 then fB (fullS s) else ⟨#[]⟩
theorem fullS_size {s : ByteArray} (h : s.size ≤ 4096) : (fullS s).size = 4096 := by
 rw [fullS, ByteArray.size_append, zeros_size]; omega
end Go.Proofs.Ytpepgpjiddophaa.Plain
namespace Go.Proofs.Ytpepgpjiddophaa
open Go.RowKit Plain
end Go.Proofs.Ytpepgpjiddophaa
namespace Go.Proofs.Ytpepgpjiddophaa
open Go.RowKit Plain
set_option linter.unusedVariables false
set_option maxHeartbeats 400000 in
theorem trim_any (s : ByteArray) (w : World) (hs : s.size ≤ maxLen) :
  Calls Try.prog 60 #[.string s] w fun e w' => e = .returned (.string (trimS s)) ∧ w = w' := by
 unfold maxLen at hs
 go_enter Try.func60, Try.ntmps60
 go_wp2
 go_loop [3] (fun v => ∃ k : Nat, k ≤ s.size ∧ v = .int .i64 k ∧ trimN s s.size = trimN s k) (fun v => (intOf v).toNat)
 case atStart => exact ⟨s.size, by omega, rfl, rfl⟩
 case round =>
  obtain ⟨k, hk, rfl, HT⟩ := hrel
  have HT' : Hid (trimN s s.size = trimN s k) := HT
  clear HT
  match k, hk, HT' with
  | 0, hk, HT' =>
   have e0 : Hid (trimS s = ByteArray.empty) := trimS_none s HT'.out
   go_wp2
   go_ret
   exact ⟨ret_str e0.out.symm, rfl⟩
  | k + 1, hk, HT' =>
   have ek : (((k + 1 : Nat) : Int)) = (k : Int) + 1 := by omega
   rw [ek]
   by_cases hz : s[k] = 0
   ·
    have ht : Hid (trimN s (k + 1) = trimN s k) := trimN_down s k (by omega) hz
    have hz' : ((s[k].toNat : Int) == 0) = true := by rw [hz]; rfl
    clear hz
    go_wp2
    go_round
    case rel => exact ⟨k, by omega, rfl, by rw [HT'.out, ht.out]⟩
    case measure => simp [intOf]
   ·
    have ht : Hid (trimN s (k + 1) = k + 1) := trimN_stay s k (by omega) hz
    have hz' : ((s[k].toNat : Int) == 0) = false := by
     have : s[k].toNat ≠ 0 := fun h => hz (UInt8.toNat_inj.1 h)
     simpa using this
    clear hz
    go_wp2
    go_ret
    exact ⟨ret_str (by rw [trimS, HT'.out, ht.out]), rfl⟩
theorem repeat_any (c : Nat) (w : World) (h : c ≤ 4096) :
  Calls Try.prog 70 #[.string ⟨#[0]⟩, .int .i64 c] w fun e w' => e = .returned (.string (zeros c)) ∧ Below w.heap.size w w' := by
 have h := Try.strings_Repeat ⟨#[0]⟩ c w (by omega) (by show 1 * c ≤ _; omega)
 have e1 : (⟨(Lib.repeatL (⟨#[0]⟩ : ByteArray).data.toList c).toArray⟩ : ByteArray) = zeros c := by
  show (⟨(Lib.repeatL [0] c).toArray⟩ : ByteArray) = _
  rw [repeat_flat]; rfl
 rw [e1] at h
 exact h
set_option maxHeartbeats 400000 in
theorem pad_any (s : ByteArray) (k : Int) (w : World) (hs : s.size ≤ maxLen) :
  Calls Try.prog 54 #[.string s, .int .i64 k] w fun e w' => e = .returned (.tuple #[.string (padS s k), .int .i64 (padE s k)]) ∧ Below w.heap.size w w' := by
 unfold maxLen at hs
 have hB : Below w.heap.size w w := Below.refl _ _
 by_cases h : 0 ≤ k ∧ k ≤ 4096
 ·
  obtain ⟨h0, h1⟩ := h
  obtain ⟨m, rfl⟩ : ∃ m : Nat, k = m := ⟨k.toNat, by omega⟩
  have hk0 : ¬ (m : Int) < 0 := by omega
  have hk1 : ¬ (4096 : Int) < m := by omega
  by_cases hl : s.size ≤ m
  ·
   have hE : padE s m = 0 := by unfold padE; rw [if_pos ⟨h0, h1⟩, if_pos (by omega)]
   have hl' : ¬ m < s.size := by omega
   have ed : (m : Int) - (s.size : Int) = ((m - s.size : Nat) : Int) := by omega
   have hz : s.size + (zeros (m - s.size)).size ≤ 140737488355328 := by
    rw [zeros_size]; omega
   have hr := fun w => repeat_any (m - s.size) w (by omega)
   rw [padS, hE, if_pos rfl, ← cat_two]
   show Calls _ _ _ _ fun e w' => e = .returned (.tuple #[.string (cat [s, zeros (m - s.size)]), .int .i64 0]) ∧ _
   generalize m - s.size = d at ed hz hr
   clear hE
   go_enter Try.func54, Try.ntmps54
   go_wp2_with (first
    | (go_at_call 70; refine (hr _).mono ?_; rintro e w' ⟨rfl, hb⟩; replace hB := Below.tr hB hb; clear hb)
    | (go_at_call 69; refine (all_two _ _ _ hz).mono ?_; rintro e w' ⟨rfl, hb⟩; replace hB := Below.tr hB hb; clear hb))
   go_ret2
   exact ⟨rfl, hB⟩
  ·
   have hE : padE s m = 2 := by unfold padE; rw [if_pos ⟨h0, h1⟩, if_neg (by omega)]
   rw [padS, hE, if_neg (by decide)]
   have hl' : m < s.size := by omega
   clear hE
   go_enter Try.func54, Try.ntmps54
   go_wp2
   go_ret2
   exact ⟨rfl, hB⟩
 ·
  have hE : padE s k = 1 := by unfold padE; rw [if_neg h]
  rw [padS, hE, if_neg (by decide)]
  clear hE
  by_cases h0 : k < 0
  ·
   go_enter Try.func54, Try.ntmps54
   go_wp2
   go_ret2
   exact ⟨rfl, hB⟩
  ·
   have h1 : 4096 < k := by omega
   clear h
   go_enter Try.func54, Try.ntmps54
   go_wp2
   go_ret2
   exact ⟨rfl, hB⟩
def isKind (k : Int) : Bool := decide (1 ≤ k) && decide (k ≤ 5)
def isGen (g : Int) : Bool := decide (0 ≤ g) && decide (g ≤ 1099511627776)
theorem isKind_any (k : Int) (w : World) :
  Calls Try.prog 58 #[.int .i64 k] w fun e w' => e = .returned (.bool (isKind k)) ∧ w = w' := by
 by_cases h : 1 ≤ k
 ·
  go_enter Try.func58, Try.ntmps58
  go_wp2
  go_ret
  exact ⟨ret_bool (by simp [isKind, h]), rfl⟩
 ·
  go_enter Try.func58, Try.ntmps58
  go_wp2
  go_ret
  exact ⟨ret_bool (by rw [isKind, decide_eq_false (by omega)]; rfl), rfl⟩
theorem isGen_any (g : Int) (w : World) :
  Calls Try.prog 59 #[.int .i64 g] w fun e w' => e = .returned (.bool (isGen g)) ∧ w = w' := by
 by_cases h : 0 ≤ g
 ·
  go_enter Try.func59, Try.ntmps59
  go_wp2
  go_ret
  exact ⟨ret_bool (by simp [isGen, h]), rfl⟩
 ·
  go_enter Try.func59, Try.ntmps59
  go_wp2
  go_ret
  exact ⟨ret_bool (by rw [isGen, decide_eq_false (by omega)]; rfl), rfl⟩
theorem below_box {w w' : World} {o : Obj} (hb : Below (w.alloc o).heap.size (w.alloc o) w') : Below w.heap.size w w' :=
 ((Below.refl _ _).alloc (Nat.le_refl _) _).trans (hb.mono (by simp))
set_option maxHeartbeats 400000 in
theorem get_ok (s : ByteArray) (p k : Nat) (w : World) (hs : s.size ≤ maxLen) (h1 : 1 ≤ k) (h6 : k ≤ 6) (hp : p + k ≤ s.size) :
  Calls Try.prog 55 #[.string s, .int .i64 p, .int .i64 k] w fun e w' => e = .returned (.tuple #[.int .i64 (getV s p k), .int .i64 (p + k), .int .i64 0]) ∧ w = w' := by
 unfold maxLen at hs
 have hsp : ¬ s.size < p := by omega
 have hp0 : ¬ (p : Int) < 0 := by omega
 have hk1 : 1 ≤ (k : Int) := by omega
 have hk6 : (k : Int) ≤ 6 := by omega
 have hle : ¬ (s.size : Int) - (p : Int) < (k : Int) := by omega
 go_enter Try.func55, Try.ntmps55
 go_wp2
 go_loop [9, 31] (fun n v => ∃ i : Nat, i ≤ k ∧ v = .int .i64 i ∧ n = .int .i64 (getV s p i)) (fun _ v => k - (intOf v).toNat)
 case atStart => exact ⟨0, by omega, rfl, rfl⟩
 case round =>
  obtain ⟨i, hi, rfl, rfl⟩ := hrel
  obtain ⟨g0, g1⟩ := getV_bd s p i
  have g2 := pw_le i (by omega)
  by_cases hlt : i < k
  ·
   have HS : Hid (getV s p (i + 1) = getV s p i * 256 + (s[p + i].toNat : Int)) := getV_succ s p i (by omega)
   have ho := or_byte (getV s p i) s[p + i] g0 (by omega)
   go_wp2
   go_round
   case rel => exact ⟨i + 1, by omega, by go_num, by rw [HS.out]⟩
   case measure => simp [intOf]; omega
  ·
   obtain rfl : i = k := by omega
   go_wp2
   go_ret3
   exact ⟨rfl, rfl⟩
set_option maxHeartbeats 1000000 in
theorem get_arg (s : ByteArray) (p k : Int) (w : World) (hs : s.size ≤ maxLen) (h : ¬ (1 ≤ k ∧ k ≤ 6 ∧ 0 ≤ p ∧ p ≤ s.size)) :
  Calls Try.prog 55 #[.string s, .int .i64 p, .int .i64 k] w fun e w' => e = .returned (.tuple #[.int .i64 0, .int .i64 0, .int .i64 1]) ∧ w = w' := by
 unfold maxLen at hs
 by_cases h1 : 1 ≤ k
 ·
  by_cases h6 : k ≤ 6
  ·
   by_cases h0 : p < 0
   ·
    clear h
    go_enter Try.func55, Try.ntmps55
    go_wp2
    go_ret3
    exact ⟨rfl, rfl⟩
   ·
    obtain ⟨q, rfl⟩ : ∃ q : Nat, p = q := ⟨p.toNat, by omega⟩
    have hq : s.size < q := by omega
    clear h
    go_enter Try.func55, Try.ntmps55
    go_wp2
    go_ret3
    exact ⟨rfl, rfl⟩
  ·
   clear h
   go_enter Try.func55, Try.ntmps55
   go_wp2
   go_ret3
   exact ⟨rfl, rfl⟩
 ·
  clear h
  go_enter Try.func55, Try.ntmps55
  go_wp2
  go_ret3
  exact ⟨rfl, rfl⟩
set_option maxHeartbeats 400000 in
theorem get_short (s : ByteArray) (p k : Nat) (w : World) (hs : s.size ≤ maxLen) (h1 : 1 ≤ k) (h6 : k ≤ 6) (hp : p ≤ s.size) (hsh : (s.size : Int) - (p : Int) < (k : Int)) :
  Calls Try.prog 55 #[.string s, .int .i64 p, .int .i64 k] w fun e w' => e = .returned (.tuple #[.int .i64 0, .int .i64 0, .int .i64 3]) ∧ w = w' := by
 unfold maxLen at hs
 have hsp : ¬ s.size < p := by omega
 have hp0 : ¬ (p : Int) < 0 := by omega
 have hk1 : 1 ≤ (k : Int) := by omega
 have hk6 : (k : Int) ≤ 6 := by omega
 go_enter Try.func55, Try.ntmps55
 go_wp2
 go_ret3
 exact ⟨rfl, rfl⟩
theorem get_any (s : ByteArray) (p k : Int) (w : World) (hs : s.size ≤ maxLen) :
  Calls Try.prog 55 #[.string s, .int .i64 p, .int .i64 k] w fun e w' => e = .returned (.tuple #[.int .i64 (getR s p k), .int .i64 (getT s p k), .int .i64 (getE s p k)]) ∧ w = w' := by
 by_cases h : 1 ≤ k ∧ k ≤ 6 ∧ 0 ≤ p ∧ p ≤ s.size
 ·
  obtain ⟨h1, h6, h0, hp⟩ := h
  obtain ⟨q, rfl⟩ : ∃ q : Nat, p = q := ⟨p.toNat, by omega⟩
  obtain ⟨m, rfl⟩ : ∃ m : Nat, k = m := ⟨k.toNat, by omega⟩
  by_cases h2 : (s.size : Int) - (q : Int) < (m : Int)
  ·
   have e : getE s q m = 3 := by unfold getE; rw [if_pos ⟨h1, h6, h0, hp⟩, if_pos h2]
   rw [getR, getT, e, if_neg (by decide), if_neg (by decide)]
   exact get_short s q m w hs (by omega) (by omega) (by omega) h2
  ·
   have e : getE s q m = 0 := by unfold getE; rw [if_pos ⟨h1, h6, h0, hp⟩, if_neg h2]
   rw [getR, getT, e, if_pos rfl, if_pos rfl]
   exact get_ok s q m w hs (by omega) (by omega) (by omega)
 ·
  have e : getE s p k = 1 := by unfold getE; rw [if_neg h]
  rw [getR, getT, e, if_neg (by decide), if_neg (by decide)]
  exact get_arg s p k w hs h
set_option maxHeartbeats 400000 in
theorem cut_any (s : ByteArray) (p : Int) (w : World) (hs : s.size ≤ maxLen) :
  Calls Try.prog 74 #[.string s, .int .i64 p] w fun e w' => e = .returned (.tuple #[.string (cutS s p), .int .i64 (cutT s p), .int .i64 (cutE s p)]) ∧ w = w' := by
 have hs' := hs
 unfold maxLen at hs
 by_cases h : getE s p 2 = 0
 ·
  obtain ⟨-, -, h0, hp⟩ := getE_ok h
  obtain ⟨q, rfl⟩ : ∃ q : Nat, p = q := ⟨p.toNat, by omega⟩
  obtain ⟨g0, g1⟩ := getV_bd s q 2
  have g2 : pw 2 = 65536 := by decide
  have eR : getR s q 2 = getV s q 2 := by rw [getR, if_pos h]; rfl
  have eT : getT s q 2 = q + 2 := by rw [getT, if_pos h]
  obtain ⟨v, hv⟩ : ∃ v : Nat, getV s q 2 = v := ⟨(getV s q 2).toNat, by omega⟩
  have hcE : cutE s q = if (s.size : Int) - ((q : Int) + 2) < (v : Int) then 3 else 0 := by rw [cutE, if_pos h]; simp [hv]
  rw [hv] at eR g0 g1
  by_cases hsh : (s.size : Int) - ((q : Int) + 2) < (v : Int)
  ·
   rw [if_pos hsh] at hcE
   rw [cutS, cutT, hcE, if_neg (by decide), if_neg (by decide)]
   clear hcE hv
   go_enter Try.func74, Try.ntmps74
   go_wp2_with (go_at_call 55; refine (get_any _ _ _ _ hs').mono ?_; rintro e w' ⟨rfl, rfl⟩)
   go_ret3
   exact ⟨rfl, rfl⟩
  ·
   rw [if_neg hsh] at hcE
   rw [cutS, cutT, hcE, if_pos rfl, if_pos rfl]
   have e1 : ((q : Int) + 2).toNat = q + 2 := by omega
   have e2 : ((q : Int) + 2 + getV s q 2).toNat = q + 2 + v := by rw [hv]; omega
   have e3 : ((q : Int).toNat) = q := rfl
   rw [e3, e1, e2, hv]
   obtain ⟨f, hf⟩ : ∃ f : Nat, q + 2 = f := ⟨_, rfl⟩
   have hf' : (q : Int) + 2 = f := by omega
   have hsh' : f + v ≤ s.size := by omega
   rw [hf'] at eT
   rw [hf, hf']
   have hv' : v < 65536 := by omega
   clear hcE hv e2 e1 e3 hsh hp hf hf' h0 g0 g1 g2
   go_enter Try.func74, Try.ntmps74
   go_wp2_with (go_at_call 55; refine (get_any _ _ _ _ hs').mono ?_; rintro e w' ⟨rfl, rfl⟩)
   go_ret3
   exact ⟨rfl, rfl⟩
 ·
  have hcE : cutE s p = getE s p 2 := by rw [cutE, if_neg h]
  rw [cutS, cutT, hcE, if_neg h, if_neg h]
  have hne : (getE s p 2 != 0) = true := by simpa using h
  clear h hcE
  go_enter Try.func74, Try.ntmps74
  go_wp2_with (go_at_call 55; refine (get_any _ _ _ _ hs').mono ?_; rintro e w' ⟨rfl, rfl⟩)
  go_ret3
  exact ⟨rfl, rfl⟩
theorem set3_cells {w1 : World} {h : Nat} {v0 v1 v2 u0 u1 u2 : Value} (q0 : w1.cell? ⟨h, 0, none⟩ = some u0) (q1 : w1.cell? ⟨h, 1, none⟩ = some u1) (q2 : w1.cell? ⟨h, 2, none⟩ = some u2) :
  (((w1.setCell ⟨h, 0, none⟩ v0).setCell ⟨h, 1, none⟩ v1).setCell ⟨h, 2, none⟩ v2).cell? ⟨h, 0, none⟩ = some v0 ∧
  (((w1.setCell ⟨h, 0, none⟩ v0).setCell ⟨h, 1, none⟩ v1).setCell ⟨h, 2, none⟩ v2).cell? ⟨h, 1, none⟩ = some v1 ∧
  (((w1.setCell ⟨h, 0, none⟩ v0).setCell ⟨h, 1, none⟩ v1).setCell ⟨h, 2, none⟩ v2).cell? ⟨h, 2, none⟩ = some v2 := by
 refine ⟨?_, ?_, ?_⟩
 ·
  rw [World.cell?_setCell_other _ _ _ _ (fun hh => by cases hh), World.cell?_setCell_other _ _ _ _ (fun hh => by cases hh)]
  exact World.cell?_setCell_same _ _ _ q0
 ·
  rw [World.cell?_setCell_other _ _ _ _ (fun hh => by cases hh)]
  refine World.cell?_setCell_same _ _ _ (u := u1) ?_
  rw [World.cell?_setCell_other _ _ _ _ (fun hh => by cases hh)]
  exact q1
 ·
  refine World.cell?_setCell_same _ _ _ (u := u2) ?_
  rw [World.cell?_setCell_other _ _ _ _ (fun hh => by cases hh), World.cell?_setCell_other _ _ _ _ (fun hh => by cases hh)]
  exact q2
theorem below_set3 {w w1 : World} {h : Nat} {v0 v1 v2 : Value} (hB : Below w.heap.size w w1) (hh : w.heap.size ≤ h) :
  Below w.heap.size w (((w1.setCell ⟨h, 0, none⟩ v0).setCell ⟨h, 1, none⟩ v1).setCell ⟨h, 2, none⟩ v2) :=
 ((hB.setCell (p := ⟨h, 0, none⟩) hh _).setCell (p := ⟨h, 1, none⟩) hh _).setCell (p := ⟨h, 2, none⟩) hh _
theorem Box3.alloc {w : World} {h : Nat} {v0 v1 v2 : Value} (b : Box3 w h v0 v1 v2) (o : Obj) : Box3 (w.alloc o) h v0 v1 v2 :=
 b.below ((Below.refl _ _).alloc (Nat.le_refl _) _)
set_option maxHeartbeats 400000 in
theorem parts_ok (t : ByteArray) (m : Nat) (w : World) (hm : m ≤ 4000) (ht : t.size = 9 + m) (hv : getV t 7 2 = m) :
  Calls Try.prog 57 #[.string t] w fun e w' => e = .returned (.agg #[.int .i64 (getV t 0 1), .int .i64 (getV t 1 6), .string (t.extract 9 (9 + m))]) ∧ Below w.heap.size w w' := by
 have hs : t.size ≤ maxLen := by unfold maxLen; omega
 have c1 : ∀ W, Calls Try.prog 55 #[.string t, .int .i64 0, .int .i64 1] W fun e w' => ∃ v, e = .returned (.tuple #[.int .i64 (getV t 0 1), .int .i64 1, .int .i64 v]) ∧ W = w' := by
  intro W
  have e : getE t 0 1 = 0 := getE_zero ⟨by omega, by omega, by omega, by omega⟩
  refine (get_any t 0 1 W hs).mono fun ee w' ⟨he, hb⟩ => ⟨0, ?_, hb⟩
  rw [he, getR, getT, e]; rfl
 have c2 : ∀ W, Calls Try.prog 55 #[.string t, .int .i64 1, .int .i64 6] W fun e w' => ∃ v, e = .returned (.tuple #[.int .i64 (getV t 1 6), .int .i64 7, .int .i64 v]) ∧ W = w' := by
  intro W
  have e : getE t 1 6 = 0 := getE_zero ⟨by omega, by omega, by omega, by omega⟩
  refine (get_any t 1 6 W hs).mono fun ee w' ⟨he, hb⟩ => ⟨0, ?_, hb⟩
  rw [he, getR, getT, e]; rfl
 have c3 : ∀ W, Calls Try.prog 74 #[.string t, .int .i64 7] W fun e w' => ∃ u v, e = .returned (.tuple #[.string (t.extract 9 (9 + m)), .int .i64 u, .int .i64 v]) ∧ W = w' := by
  intro W
  have e : getE t 7 2 = 0 := getE_zero ⟨by omega, by omega, by omega, by omega⟩
  have hv' : getV t (7 : Int).toNat 2 = m := hv
  have e2 : cutE t 7 = 0 := by
   rw [cutE, if_pos e, hv', if_neg (by omega)]
  have e3 : cutS t 7 = t.extract 9 (9 + m) := by
   rw [cutS, if_pos e2, hv']
   have t1 : ((7 : Int) + 2).toNat = 9 := rfl
   have t2 : ((7 : Int) + 2 + (m : Int)).toNat = 9 + m := by omega
   rw [t1, t2]
  refine (cut_any t 7 W hs).mono fun ee w' ⟨he, hb⟩ => ⟨cutT t 7, 0, ?_, hb⟩
  rw [he, e2, e3]
 obtain ⟨K, hK⟩ : ∃ K, K = getV t 0 1 := ⟨_, rfl⟩
 obtain ⟨G, hG⟩ : ∃ G, G = getV t 1 6 := ⟨_, rfl⟩
 obtain ⟨B, hB⟩ : ∃ B, B = t.extract 9 (9 + m) := ⟨_, rfl⟩
 rw [← hK] at c1 ⊢
 rw [← hG] at c2 ⊢
 rw [← hB] at c3 ⊢
 clear hK hG hB hv ht hs
 have tok1 : True := trivial
 go_enter Try.func57, Try.ntmps57
 go_wp2_with (first
  | (go_at_call 55; have _t := tok1; refine (c1 _).mono ?_; rintro e w2 ⟨v1, rfl, rfl⟩; clear tok1)
  | (go_at_call 55; refine (c2 _).mono ?_; rintro e w2 ⟨v2, rfl, rfl⟩)
  | (go_at_call 74; refine (c3 _).mono ?_; rintro e w2 ⟨v3, v4, rfl, rfl⟩))
 exact bodyPost_ret (v := .agg #[.int .i64 K, .int .i64 G, .string B]) (by simp [results, Try.results57, go_sem]) rfl ⟨rfl, (Below.refl _ _).alloc (Nat.le_refl _) _⟩
theorem str_some {a : ByteArray} (h : ¬ a = ⟨#[]⟩) : a.toList.isEmpty = false := by
 rw [Bool.eq_false_iff]
 intro hh
 have h3 : (⟨#[]⟩ : ByteArray).toList = [] := by simp
 have h2 := str_eq_false h
 rw [List.isEmpty_iff.1 hh, h3] at h2
 exact absurd h2 (by decide)
theorem openE_front {F : ByteArray} (hF : F.size = 4096) (hn : fN F ≤ 4000) :
  openE (F.extract 0 (13 + fN F)) = (if fSealed F then 0 else 41) ∧ (fSealed F → openS (F.extract 0 (13 + fN F)) = F.extract 0 (9 + fN F)) := by
 have hz : (F.extract 0 (13 + fN F)).size = 13 + fN F := by rw [extract_size' _ _ _ (by omega) (by omega)]; omega
 have hh : headS (F.extract 0 (13 + fN F)) = F.extract 0 (9 + fN F) := by
  unfold headS
  rw [hz]
  apply bytes_ext
  rw [extract_data', extract_data', extract_data', List.drop_zero, List.drop_zero, List.take_take]
  congr 1
  omega
 have hk : fSealed F ↔ tailS (F.extract 0 (13 + fN F)) = le4S (ofS (headS (F.extract 0 (13 + fN F)))) := by
  rw [← sealed_head _ (by rw [hz]; omega), hh]
  exact fSealed_iff F
 have he : openE (F.extract 0 (13 + fN F)) = (if fSealed F then 0 else 41) := by
  unfold openE
  rw [if_neg (by rw [hz]; omega)]
  by_cases h : fSealed F
  ·
   rw [if_pos h, if_pos (hk.1 h)]
  ·
   rw [if_neg h, if_neg (fun hh => h (hk.2 hh))]
 refine ⟨he, fun h => ?_⟩
 rw [openS, he, if_pos h, if_pos rfl, hh]
theorem getR_size {F : ByteArray} (hF : F.size = 4096) : getR F 7 2 = fN F := by
 have e : getE F 7 2 = 0 := getE_zero ⟨by omega, by omega, by omega, by omega⟩
 rw [getR, if_pos e]
 show getV F 7 2 = _
 have := (getV_bd F 7 2).1
 unfold fN; omega
def fullK (F : ByteArray) : Int := if fE F = 0 then fK F else 0
def fullG (F : ByteArray) : Int := if fE F = 0 then fG F else 0
def fullB (F : ByteArray) : ByteArray := if fE F = 0 then fB F else ⟨#[]⟩
set_option maxHeartbeats 2000000 in
theorem pageGet_long (s : ByteArray) (w : World) (hs : s.size ≤ maxLen) (h : ¬ s.size ≤ 4096) :
  Calls Try.prog 49 #[.string s] w fun e w' => e = .returned (.tuple #[.agg #[.int .i64 0, .int .i64 0, .string ⟨#[]⟩], .int .i64 1]) ∧ Below w.heap.size w w' := by
 have c1 : ∀ W, Calls Try.prog 54 #[.string s, .int .i64 4096] W fun e w' => ∃ v, e = .returned (.tuple #[.string v, .int .i64 2]) ∧ Below W.heap.size W w' := by
  intro W
  have e : padE s 4096 = 2 := by
   unfold padE
   rw [if_pos ⟨by omega, by omega⟩, if_neg (by omega)]
  refine (pad_any s 4096 W hs).mono fun ee w' ⟨he, hb⟩ => ⟨padS s 4096, ?_, hb⟩
  rw [he, e]
 go_enter Try.func49, Try.ntmps49
 go_wp2_with (first
  | (go_at_call 54; refine (c1 _).mono ?_; rintro e w1 ⟨v, rfl, hb⟩; obtain ⟨⟨q0, q1, q2⟩, f0, f1, f2⟩ := (box3_new _ _ _ _ _).below hb; have hB := below_box hb; clear hb))
 obtain ⟨z0, z1, z2⟩ := set3_cells (v0 := .int .i64 0) (v1 := .int .i64 0) (v2 := .string ⟨#[]⟩) q0 q1 q2
 exact bodyPost_ret (v := .tuple #[.agg #[.int .i64 0, .int .i64 0, .string ⟨#[]⟩], .int .i64 1]) (by simp [results, Try.results49, go_sem, z0, z1, z2]) rfl ⟨rfl, below_set3 hB (Nat.le_refl _)⟩
set_option maxHeartbeats 4000000 in
theorem pageGet_short (s : ByteArray) (w : World) (h : s.size ≤ 4096) :
  Calls Try.prog 49 #[.string s] w fun e w' => e = .returned (.tuple #[.agg #[.int .i64 (fullK (fullS s)), .int .i64 (fullG (fullS s)), .string (fullB (fullS s))], .int .i64 (fE (fullS s))]) ∧ Below w.heap.size w w' := by
 have hs : s.size ≤ maxLen := by unfold maxLen; omega
 have hF := fullS_size h
 obtain ⟨F, hFe⟩ : ∃ F, F = fullS s := ⟨_, rfl⟩
 rw [← hFe] at hF ⊢
 have c1 : ∀ W, Calls Try.prog 54 #[.string s, .int .i64 4096] W fun e w' => e = .returned (.tuple #[.string F, .int .i64 0]) ∧ Below W.heap.size W w' := by
  intro W
  have e : padE s 4096 = 0 := by
   unfold padE
   rw [if_pos ⟨by omega, by omega⟩, if_pos (by omega)]
  refine (pad_any s 4096 W hs).mono fun ee w' ⟨he, hb⟩ => ⟨?_, hb⟩
  rw [he, e, hFe, padS, if_pos e]; rfl
 have hFm : F.size ≤ maxLen := by unfold maxLen; omega
 obtain ⟨n, hn⟩ : ∃ n, n = fN F := ⟨_, rfl⟩
 have c2 : ∀ W, Calls Try.prog 55 #[.string F, .int .i64 7, .int .i64 2] W fun e w' => ∃ v u, e = .returned (.tuple #[.int .i64 n, .int .i64 v, .int .i64 u]) ∧ W = w' := by
  intro W
  refine (get_any F 7 2 W hFm).mono fun ee w' ⟨he, hb⟩ => ⟨getT F 7 2, getE F 7 2, ?_, hb⟩
  rw [he, getR_size hF, hn]
 by_cases h1 : 4000 < n
 ·
  have hE : Hid (fE F = 4) := by show _ = _; unfold fE; rw [if_pos (by omega)]
  have hK : Hid (fullK F = 0) := by show _ = _; unfold fullK; rw [hE.out]; rfl
  have hG : Hid (fullG F = 0) := by show _ = _; unfold fullG; rw [hE.out]; rfl
  have hBB : Hid (fullB F = ⟨#[]⟩) := by show _ = _; unfold fullB; rw [hE.out]; rfl
  have h1' : (4000 : Int) < n := by omega
  clear hF hn hFe
  go_enter Try.func49, Try.ntmps49
  go_wp2_with (first
   | (go_at_call 54; refine (c1 _).mono ?_; rintro e w1 ⟨rfl, hb⟩; obtain ⟨⟨q0, q1, q2⟩, f0, f1, f2⟩ := (box3_new _ _ _ _ _).below hb; have hB := below_box hb; clear hb)
   | (go_at_call 55; refine (c2 _).mono ?_; rintro e w2 ⟨v, u, rfl, rfl⟩))
  obtain ⟨z0, z1, z2⟩ := set3_cells (v0 := .int .i64 0) (v1 := .int .i64 0) (v2 := .string ⟨#[]⟩) q0 q1 q2
  exact bodyPost_ret (v := .tuple #[.agg #[.int .i64 0, .int .i64 0, .string ⟨#[]⟩], .int .i64 4]) (by simp [results, Try.results49, go_sem, z0, z1, z2]) rfl ⟨by rw [hE.out, hK.out, hG.out, hBB.out], below_set3 hB (Nat.le_refl _)⟩
 ·
  obtain ⟨o1, o2⟩ := openE_front hF (by omega)
  rw [← hn] at o1 o2
  have hT : (F.extract 0 (13 + n)).size ≤ maxLen := by rw [ByteArray.size_extract]; unfold maxLen; omega
  have hn4 : n ≤ 4000 := by omega
  have n13 : 9 + n + 4 = 13 + n := by omega
  by_cases h2 : fSealed F
  ·
   have o3 := o2 h2
   rw [if_pos h2] at o1
   obtain ⟨t, ht⟩ : ∃ t, t = F.extract 0 (9 + n) := ⟨_, rfl⟩
   have c3 : ∀ W, Calls Try.prog 56 #[.string (F.extract 0 (9 + n + 4))] W fun e w' => e = .returned (.tuple #[.string t, .int .i64 0]) ∧ Below W.heap.size W w' := by
    intro W
    rw [n13]
    refine (open_any _ W hT).mono fun ee w' ⟨he, hb⟩ => ⟨?_, hb⟩
    rw [he, o1, o3, ht]
   obtain ⟨K, hKe⟩ : ∃ K, K = fK F := ⟨_, rfl⟩
   obtain ⟨G, hGe⟩ : ∃ G, G = fG F := ⟨_, rfl⟩
   obtain ⟨B, hBe⟩ : ∃ B, B = fB F := ⟨_, rfl⟩
   have c4 : ∀ W, Calls Try.prog 57 #[.string t] W fun e w' => e = .returned (.agg #[.int .i64 K, .int .i64 G, .string B]) ∧ Below W.heap.size W w' := by
    intro W
    have tz : t.size = 9 + n := by rw [ht, extract_size' _ _ _ (by omega) (by omega)]; omega
    have tv : getV t 7 2 = n := by
     rw [ht, getV_front _ _ _ _ (by omega), hn]
     have := (getV_bd F 7 2).1
     unfold fN; omega
    refine (parts_ok t n W hn4 tz tv).mono fun ee w' ⟨he, hb⟩ => ⟨?_, hb⟩
    rw [he, ht, getV_front _ _ _ _ (by omega), getV_front _ _ _ _ (by omega), hKe, hGe, hBe]
    have : (F.extract 0 (9 + n)).extract 9 (9 + n) = fB F := by
     unfold fB
     rw [← hn]
     apply bytes_ext
     rw [extract_data', extract_data', extract_data', List.drop_zero, Nat.sub_zero, List.drop_take, List.take_take, Nat.min_self]
    rw [this]; rfl
   have c5 := fun W => isKind_any K W
   have c6 := fun W => isGen_any G W
   obtain ⟨R, hRe⟩ : ∃ R, R = trimS (fRest F) := ⟨_, rfl⟩
   have c7 : ∀ W, Calls Try.prog 60 #[.string (F.extract (9 + n + 4) F.size)] W fun e w' => e = .returned (.string R) ∧ W = w' := by
    intro W
    rw [n13]
    have := trim_any (fRest F) W (by unfold fRest; rw [ByteArray.size_extract]; unfold maxLen; omega)
    rw [← hRe] at this
    unfold fRest at this
    rwa [← hn] at this
   have hG0 : 0 ≤ G := by rw [hGe]; exact (getV_bd F 1 6).1
   obtain ⟨x, hx⟩ : ∃ x, x = isKind K := ⟨_, rfl⟩
   obtain ⟨y, hy⟩ : ∃ y, y = isGen G := ⟨_, rfl⟩
   have hx' : x = true ↔ (1 ≤ K ∧ K ≤ 5) := by rw [hx]; simp [isKind]
   have hy' : y = true ↔ G ≤ 1099511627776 := by rw [hy]; simp [isGen, hG0]
   rw [← hx] at c5
   rw [← hy] at c6
   have hFE : fE F = if x = true then (if y = true ∧ R = ⟨#[]⟩ then 0 else 4) else 40 := by
    unfold fE
    rw [if_neg (by omega), if_pos h2, ← hKe, ← hGe, ← hRe]
    by_cases a : x = true
    ·
     rw [if_pos (hx'.1 a), if_pos a]
     by_cases b : y = true
     ·
      simp only [b, true_and, hy'.1 b]
     ·
      rw [if_neg (fun hh => b (hy'.2 hh.1)), if_neg (fun hh => b hh.1)]
    ·
     rw [if_neg (fun hh => a (hx'.2 hh)), if_neg a]
   have hB0 : Below w.heap.size w w := Below.refl _ _
   have hFz : Hid (F.size = 4096) := hF
   have hF4 : 4096 ≤ F.size := by omega
   have hFu : F.size ≤ 4096 := by omega
   clear hF hn hFe o1 o2 o3 ht hRe hx hy hx' hy' n13
   have hKF : fullK F = if (if x = true then (if y = true ∧ R = ⟨#[]⟩ then (0 : Int) else 4) else 40) = 0 then K else 0 := by unfold fullK; rw [hFE, hKe]
   have hGF : fullG F = if (if x = true then (if y = true ∧ R = ⟨#[]⟩ then (0 : Int) else 4) else 40) = 0 then G else 0 := by unfold fullG; rw [hFE, hGe]
   have hBF : fullB F = if (if x = true then (if y = true ∧ R = ⟨#[]⟩ then (0 : Int) else 4) else 40) = 0 then B else ⟨#[]⟩ := by unfold fullB; rw [hFE, hBe]
   rw [hFE, hKF, hGF, hBF]
   clear hFE hKF hGF hBF hKe hGe hBe h2 hT
   obtain ⟨rE, hrE⟩ : ∃ r, r = (if x = true then (if y = true ∧ R = ⟨#[]⟩ then (0 : Int) else 4) else 40) := ⟨_, rfl⟩
   rw [← hrE]
   obtain ⟨rK, hrK⟩ : ∃ r, r = if rE = 0 then K else 0 := ⟨_, rfl⟩
   obtain ⟨rG, hrG⟩ : ∃ r, r = if rE = 0 then G else 0 := ⟨_, rfl⟩
   obtain ⟨rB, hrB⟩ : ∃ r, r = if rE = 0 then B else ⟨#[]⟩ := ⟨_, rfl⟩
   rw [← hrK, ← hrG, ← hrB]
   have hFm' : F.size ≤ 9223372036854775807 := hFm
   cases x
   ·
    have e1 : rE = 40 := by rw [hrE]; simp
    have e2 : rK = 0 := by rw [hrK, e1]; rfl
    have e3 : rG = 0 := by rw [hrG, e1]; rfl
    have e4 : rB = ⟨#[]⟩ := by rw [hrB, e1]; rfl
    rw [e1, e2, e3, e4]
    clear hrE hrK hrG hrB e1 e2 e3 e4
    go_enter Try.func49, Try.ntmps49
    go_wp2_with (first
     | (go_at_call 54; refine (c1 _).mono ?_; rintro e w1 ⟨rfl, hb⟩; have Q := (box3_new _ _ _ _ _).below hb; have hB := below_box hb; clear hb)
     | (go_at_call 55; refine (c2 _).mono ?_; rintro e w2 ⟨v, u, rfl, rfl⟩)
     | (go_at_call 56; refine (c3 _).mono ?_; rintro e w3 ⟨rfl, hb⟩; replace Q := Q.below hb; replace hB := Below.tr hB hb; clear hb)
     | (go_at_call 57; refine (c4 _).mono ?_; rintro e w4 ⟨rfl, hb⟩; replace Q := (Q.below hb).alloc (.cells #[.int .i64 K, .int .i64 G, .string B] 78); obtain ⟨⟨q0, q1, q2⟩, f0, f1, f2⟩ := Q; replace hB := Below.tr hB hb; clear hb)
     | (go_at_call 58; refine (c5 _).mono ?_; rintro e w5 ⟨rfl, rfl⟩)
     | (go_at_call 59; refine (c6 _).mono ?_; rintro e w6 ⟨rfl, rfl⟩)
     | (go_at_call 60; refine (c7 _).mono ?_; rintro e w7 ⟨rfl, rfl⟩))
    obtain ⟨z0, z1, z2⟩ := set3_cells (v0 := .int .i64 0) (v1 := .int .i64 0) (v2 := .string ⟨#[]⟩) q0 q1 q2
    exact bodyPost_ret (v := .tuple #[.agg #[.int .i64 0, .int .i64 0, .string ⟨#[]⟩], .int .i64 40]) (by simp [results, Try.results49, go_sem, z0, z1, z2]) rfl ⟨rfl, below_set3 (hB.alloc hB.size _) (Nat.le_refl _)⟩
   ·
    cases y
    ·
     have e1 : rE = 4 := by rw [hrE]; simp
     have e2 : rK = 0 := by rw [hrK, e1]; rfl
     have e3 : rG = 0 := by rw [hrG, e1]; rfl
     have e4 : rB = ⟨#[]⟩ := by rw [hrB, e1]; rfl
     rw [e1, e2, e3, e4]
     clear hrE hrK hrG hrB e1 e2 e3 e4
     go_enter Try.func49, Try.ntmps49
     go_wp2_with (first
      | (go_at_call 54; refine (c1 _).mono ?_; rintro e w1 ⟨rfl, hb⟩; have Q := (box3_new _ _ _ _ _).below hb; have hB := below_box hb; clear hb)
      | (go_at_call 55; refine (c2 _).mono ?_; rintro e w2 ⟨v, u, rfl, rfl⟩)
      | (go_at_call 56; refine (c3 _).mono ?_; rintro e w3 ⟨rfl, hb⟩; replace Q := Q.below hb; replace hB := Below.tr hB hb; clear hb)
      | (go_at_call 57; refine (c4 _).mono ?_; rintro e w4 ⟨rfl, hb⟩; replace Q := (Q.below hb).alloc (.cells #[.int .i64 K, .int .i64 G, .string B] 78); obtain ⟨⟨q0, q1, q2⟩, f0, f1, f2⟩ := Q; replace hB := Below.tr hB hb; clear hb)
      | (go_at_call 58; refine (c5 _).mono ?_; rintro e w5 ⟨rfl, rfl⟩)
      | (go_at_call 59; refine (c6 _).mono ?_; rintro e w6 ⟨rfl, rfl⟩)
      | (go_at_call 60; refine (c7 _).mono ?_; rintro e w7 ⟨rfl, rfl⟩))
     obtain ⟨z0, z1, z2⟩ := set3_cells (v0 := .int .i64 0) (v1 := .int .i64 0) (v2 := .string ⟨#[]⟩) q0 q1 q2
     exact bodyPost_ret (v := .tuple #[.agg #[.int .i64 0, .int .i64 0, .string ⟨#[]⟩], .int .i64 4]) (by simp [results, Try.results49, go_sem, z0, z1, z2]) rfl ⟨rfl, below_set3 (hB.alloc hB.size _) (Nat.le_refl _)⟩
    ·
     by_cases hR : R = ⟨#[]⟩
     ·
      have e1 : rE = 0 := by rw [hrE, hR]; simp
      have e2 : rK = K := by rw [hrK, e1]; rfl
      have e3 : rG = G := by rw [hrG, e1]; rfl
      have e4 : rB = B := by rw [hrB, e1]; rfl
      rw [e1, e2, e3, e4]
      clear hrE hrK hrG hrB e1 e2 e3 e4
      subst hR
      go_enter Try.func49, Try.ntmps49
      go_wp2_with (first
       | (go_at_call 54; refine (c1 _).mono ?_; rintro e w1 ⟨rfl, hb⟩; have Q := (box3_new _ _ _ _ _).below hb; have hB := below_box hb; clear hb)
       | (go_at_call 55; refine (c2 _).mono ?_; rintro e w2 ⟨v, u, rfl, rfl⟩)
       | (go_at_call 56; refine (c3 _).mono ?_; rintro e w3 ⟨rfl, hb⟩; replace Q := Q.below hb; replace hB := Below.tr hB hb; clear hb)
       | (go_at_call 57; refine (c4 _).mono ?_; rintro e w4 ⟨rfl, hb⟩; replace Q := (Q.below hb).alloc (.cells #[.int .i64 K, .int .i64 G, .string B] 78); obtain ⟨⟨q0, q1, q2⟩, f0, f1, f2⟩ := Q; replace hB := Below.tr hB hb; clear hb)
       | (go_at_call 58; refine (c5 _).mono ?_; rintro e w5 ⟨rfl, rfl⟩)
       | (go_at_call 59; refine (c6 _).mono ?_; rintro e w6 ⟨rfl, rfl⟩)
       | (go_at_call 60; refine (c7 _).mono ?_; rintro e w7 ⟨rfl, rfl⟩))
      obtain ⟨z0, z1, z2⟩ := set3_cells (v0 := .int .i64 K) (v1 := .int .i64 G) (v2 := .string B) q0 q1 q2
      exact bodyPost_ret (v := .tuple #[.agg #[.int .i64 K, .int .i64 G, .string B], .int .i64 0]) (by simp [results, Try.results49, go_sem, z0, z1, z2]) rfl ⟨rfl, below_set3 (hB.alloc hB.size _) (Nat.le_refl _)⟩
     ·
      have e1 : rE = 4 := by rw [hrE]; simp [hR]
      have e2 : rK = 0 := by rw [hrK, e1]; rfl
      have e3 : rG = 0 := by rw [hrG, e1]; rfl
      have e4 : rB = ⟨#[]⟩ := by rw [hrB, e1]; rfl
      rw [e1, e2, e3, e4]
      clear hrE hrK hrG hrB e1 e2 e3 e4
      have hR1 := str_some hR
      go_enter Try.func49, Try.ntmps49
      go_wp2_with (first
       | (go_at_call 54; refine (c1 _).mono ?_; rintro e w1 ⟨rfl, hb⟩; have Q := (box3_new _ _ _ _ _).below hb; have hB := below_box hb; clear hb)
       | (go_at_call 55; refine (c2 _).mono ?_; rintro e w2 ⟨v, u, rfl, rfl⟩)
       | (go_at_call 56; refine (c3 _).mono ?_; rintro e w3 ⟨rfl, hb⟩; replace Q := Q.below hb; replace hB := Below.tr hB hb; clear hb)
       | (go_at_call 57; refine (c4 _).mono ?_; rintro e w4 ⟨rfl, hb⟩; replace Q := (Q.below hb).alloc (.cells #[.int .i64 K, .int .i64 G, .string B] 78); obtain ⟨⟨q0, q1, q2⟩, f0, f1, f2⟩ := Q; replace hB := Below.tr hB hb; clear hb)
       | (go_at_call 58; refine (c5 _).mono ?_; rintro e w5 ⟨rfl, rfl⟩)
       | (go_at_call 59; refine (c6 _).mono ?_; rintro e w6 ⟨rfl, rfl⟩)
       | (go_at_call 60; refine (c7 _).mono ?_; rintro e w7 ⟨rfl, rfl⟩))
      obtain ⟨z0, z1, z2⟩ := set3_cells (v0 := .int .i64 0) (v1 := .int .i64 0) (v2 := .string ⟨#[]⟩) q0 q1 q2
      exact bodyPost_ret (v := .tuple #[.agg #[.int .i64 0, .int .i64 0, .string ⟨#[]⟩], .int .i64 4]) (by simp [results, Try.results49, go_sem, z0, z1, z2]) rfl ⟨rfl, below_set3 (hB.alloc hB.size _) (Nat.le_refl _)⟩
  ·
   rw [if_neg h2] at o1
   have c3 : ∀ W, Calls Try.prog 56 #[.string (F.extract 0 (9 + n + 4))] W fun e w' => ∃ v, e = .returned (.tuple #[.string v, .int .i64 41]) ∧ Below W.heap.size W w' := by
    intro W
    rw [n13]
    refine (open_any _ W hT).mono fun ee w' ⟨he, hb⟩ => ⟨openS (F.extract 0 (13 + n)), ?_, hb⟩
    rw [he, o1]
   have hE : fE F = 41 := by unfold fE; rw [if_neg (by omega), if_neg h2]
   rw [show fullK F = 0 by unfold fullK; rw [hE]; rfl, show fullG F = 0 by unfold fullG; rw [hE]; rfl, show fullB F = ⟨#[]⟩ by unfold fullB; rw [hE]; rfl, hE]
   have hF4 : 4096 ≤ F.size := by omega
   have hFu : F.size ≤ 4096 := by omega
   have hFm' : F.size ≤ 9223372036854775807 := hFm
   clear hF hn hFe o1 o2 h2 hT hE n13
   go_enter Try.func49, Try.ntmps49
   go_wp2_with (first
    | (go_at_call 54; refine (c1 _).mono ?_; rintro e w1 ⟨rfl, hb⟩; have Q := (box3_new _ _ _ _ _).below hb; have hB := below_box hb; clear hb)
    | (go_at_call 55; refine (c2 _).mono ?_; rintro e w2 ⟨v, u, rfl, rfl⟩)
    | (go_at_call 56; refine (c3 _).mono ?_; rintro e w3 ⟨z, rfl, hb⟩; replace Q := Q.below hb; obtain ⟨⟨q0, q1, q2⟩, f0, f1, f2⟩ := Q; replace hB := Below.tr hB hb; clear hb))
   obtain ⟨z0, z1, z2⟩ := set3_cells (v0 := .int .i64 0) (v1 := .int .i64 0) (v2 := .string ⟨#[]⟩) q0 q1 q2
   exact bodyPost_ret (v := .tuple #[.agg #[.int .i64 0, .int .i64 0, .string ⟨#[]⟩], .int .i64 41]) (by simp [results, Try.results49, go_sem, z0, z1, z2]) rfl ⟨rfl, below_set3 hB (Nat.le_refl _)⟩
theorem pageGet_any (s : ByteArray) (w : World) (hs : s.size ≤ maxLen) :
  Calls Try.prog 49 #[.string s] w fun e w' => e = .returned (.tuple #[.agg #[.int .i64 (readK s), .int .i64 (readG s), .string (readB s)], .int .i64 (readE s)]) ∧ Below w.heap.size w w' := by
 by_cases h : s.size ≤ 4096
 ·
  have e : readE s = fE (fullS s) := by rw [readE, if_pos h]
  unfold readK readG readB
  rw [e]
  exact pageGet_short s w h
 ·
  have e : readE s = 1 := by rw [readE, if_neg h]
  unfold readK readG readB
  rw [e]
  exact pageGet_long s w hs h
end Go.Proofs.Ytpepgpjiddophaa
namespace Go.Proofs.Ytpepgpjiddophaa
open Go.RowKit Plain Anylast
set_option linter.unusedVariables false
def rdS (s : ByteArray) (p e : Int) : ByteArray := if e = 0 then cutS s p else ⟨#[]⟩
def rdP (s : ByteArray) (p e : Int) : Int := if e = 0 then cutT s p else p
def rdE (s : ByteArray) (p e : Int) : Int := if e = 0 then cutE s p else e
def rnR (s : ByteArray) (p e k : Int) : Int := if e = 0 then getR s p k else 0
def rnP (s : ByteArray) (p e k : Int) : Int := if e = 0 then getT s p k else p
def rnE (s : ByteArray) (p e k : Int) : Int := if e = 0 then getE s p k else e
theorem turns_set12 (w : World) (h : Nat) (u1 u2 : Value) : Turns (fun k => k = h) w ((w.drew.setCell ⟨h, 1, none⟩ u1).setCell ⟨h, 2, none⟩ u2) :=
 Turns.setCell (P := fun k => k = h) (Turns.setCell (P := fun k => k = h) (Turns.refl _ _).drew (p := ⟨h, 1, none⟩) rfl u1) (p := ⟨h, 2, none⟩) rfl u2
set_option maxRecDepth 20000 in
set_option maxHeartbeats 1000000 in
theorem rtext_any (h : Nat) (s : ByteArray) (p e : Int) (w : World) (b : Box3 w h (.string s) (.int .i64 p) (.int .i64 e)) (hs : s.size ≤ maxLen) :
  ∃ w1, Box3 w1 h (.string s) (.int .i64 (rdP s p e)) (.int .i64 (rdE s p e)) ∧ Turns (fun k => k = h) w w1 ∧ w1.heap.size = w.heap.size ∧
   Calls Try.prog 75 #[.pointer (some ⟨h, 0, none⟩)] w fun r w' => r = .returned (.string (rdS s p e)) ∧ w' = w1 := by
 by_cases he : e = 0
 ·
  subst he
  have e1 : rdS s p 0 = cutS s p := by unfold rdS; rw [if_pos rfl]
  have e2 : rdP s p 0 = cutT s p := by unfold rdP; rw [if_pos rfl]
  have e3 : rdE s p 0 = cutE s p := by unfold rdE; rw [if_pos rfl]
  rw [e1, e2, e3]
  have cC := fun V => cut_any s p V hs
  generalize cutS s p = x at cC
  generalize cutT s p = q at cC
  generalize cutE s p = y at cC
  refine ⟨(w.drew.setCell ⟨h, 1, none⟩ (.int .i64 q)).setCell ⟨h, 2, none⟩ (.int .i64 y), Box3.set12 (w := w.drew) b _ _, turns_set12 w h _ _, by simp, ?_⟩
  clear e1 e2 e3
  obtain ⟨⟨q0, q1, q2⟩, f0, f1, f2⟩ := id b
  go_enter Try.func75, Try.ntmps75
  go_wp2
  go_region_held3 (fun V => V.cell? ⟨h, 0, none⟩ = some (.string s) ∧ V.cell? ⟨h, 1, none⟩ = some (.int .i64 p) ∧ V.heap = w.heap) (exact ⟨q0, q1, rfl⟩) (first
   | (go_at_call 74; refine (cC _).mono ?_; rintro e w' ⟨rfl, rfl⟩))
  go_wp2
  go_ret
  exact ⟨rfl, rfl⟩
 ·
  have e1 : rdS s p e = ⟨#[]⟩ := by unfold rdS; rw [if_neg he]
  have e2 : rdP s p e = p := by unfold rdP; rw [if_neg he]
  have e3 : rdE s p e = e := by unfold rdE; rw [if_neg he]
  rw [e1, e2, e3]
  have he' : (e != 0) = true := by simpa using he
  refine ⟨w, b, Turns.refl _ _, rfl, ?_⟩
  obtain ⟨⟨q0, q1, q2⟩, f0, f1, f2⟩ := id b
  clear e1 e2 e3
  go_enter Try.func75, Try.ntmps75
  go_wp2
  go_ret
  exact ⟨rfl, rfl⟩
set_option maxRecDepth 20000 in
set_option maxHeartbeats 1000000 in
theorem rnumber_any (h : Nat) (s : ByteArray) (p e k : Int) (w : World) (b : Box3 w h (.string s) (.int .i64 p) (.int .i64 e)) (hs : s.size ≤ maxLen) :
  ∃ w1, Box3 w1 h (.string s) (.int .i64 (rnP s p e k)) (.int .i64 (rnE s p e k)) ∧ Turns (fun k => k = h) w w1 ∧ w1.heap.size = w.heap.size ∧
   Calls Try.prog 62 #[.pointer (some ⟨h, 0, none⟩), .int .i64 k] w fun r w' => r = .returned (.int .i64 (rnR s p e k)) ∧ w' = w1 := by
 by_cases he : e = 0
 ·
  subst he
  have e1 : rnR s p 0 k = getR s p k := by unfold rnR; rw [if_pos rfl]
  have e2 : rnP s p 0 k = getT s p k := by unfold rnP; rw [if_pos rfl]
  have e3 : rnE s p 0 k = getE s p k := by unfold rnE; rw [if_pos rfl]
  rw [e1, e2, e3]
  have cC := fun V => get_any s p k V hs
  generalize getR s p k = x at cC
  generalize getT s p k = q at cC
  generalize getE s p k = y at cC
  refine ⟨(w.drew.setCell ⟨h, 1, none⟩ (.int .i64 q)).setCell ⟨h, 2, none⟩ (.int .i64 y), Box3.set12 (w := w.drew) b _ _, turns_set12 w h _ _, by simp, ?_⟩
  clear e1 e2 e3
  obtain ⟨⟨q0, q1, q2⟩, f0, f1, f2⟩ := id b
  go_enter Try.func62, Try.ntmps62
  go_wp2
  go_region_held3 (fun V => V.cell? ⟨h, 0, none⟩ = some (.string s) ∧ V.cell? ⟨h, 1, none⟩ = some (.int .i64 p)) (exact ⟨q0, q1⟩) (first
   | (go_at_call 55; refine (cC _).mono ?_; rintro e w' ⟨rfl, rfl⟩))
  go_wp2
  go_ret
  exact ⟨rfl, rfl⟩
 ·
  have e1 : rnR s p e k = 0 := by unfold rnR; rw [if_neg he]
  have e2 : rnP s p e k = p := by unfold rnP; rw [if_neg he]
  have e3 : rnE s p e k = e := by unfold rnE; rw [if_neg he]
  rw [e1, e2, e3]
  have he' : (e != 0) = true := by simpa using he
  refine ⟨w, b, Turns.refl _ _, rfl, ?_⟩
  obtain ⟨⟨q0, q1, q2⟩, f0, f1, f2⟩ := id b
  clear e1 e2 e3
  go_enter Try.func62, Try.ntmps62
  go_wp2
  go_ret
  exact ⟨rfl, rfl⟩
structure RdL where
 p : Int
 e : Int
 ks : List ByteArray
 vs : List ByteArray
def rdLeaf (s : ByteArray) (p e : Int) : Nat → RdL
 | 0 => ⟨p, e, [], []⟩
 | j + 1 =>
  let a := rdLeaf s p e j
  let p1 := rdP s a.p a.e
  let e1 := rdE s a.p a.e
  ⟨rdP s p1 e1, rdE s p1 e1, a.ks ++ [rdS s a.p a.e], a.vs ++ [rdS s p1 e1]⟩
structure RdI where
 p : Int
 e : Int
 ks : List ByteArray
 cs : List Int
def rdInn (s : ByteArray) (p e : Int) : Nat → RdI
 | 0 => ⟨rnP s p e 2, rnE s p e 2, [], [rnR s p e 2]⟩
 | j + 1 =>
  let a := rdInn s p e j
  let p1 := rdP s a.p a.e
  let e1 := rdE s a.p a.e
  ⟨rnP s p1 e1 2, rnE s p1 e1 2, a.ks ++ [rdS s a.p a.e], a.cs ++ [rnR s p1 e1 2]⟩
theorem rdLeaf_len (s : ByteArray) (p e : Int) (j : Nat) : (rdLeaf s p e j).ks.length = j ∧ (rdLeaf s p e j).vs.length = j := by
 induction j with
 | zero => exact ⟨rfl, rfl⟩
 | succ j ih => simp [rdLeaf, ih.1, ih.2]
theorem rdInn_len (s : ByteArray) (p e : Int) (j : Nat) : (rdInn s p e j).ks.length = j ∧ (rdInn s p e j).cs.length = j + 1 := by
 induction j with
 | zero => exact ⟨rfl, rfl⟩
 | succ j ih => simp [rdInn, ih.1, ih.2]
theorem cutS_size (s : ByteArray) (p : Int) : (cutS s p).size ≤ s.size := by
 unfold cutS
 split
 ·
  rw [ByteArray.size_extract]; omega
 ·
  exact Nat.zero_le _
theorem rdS_size (s : ByteArray) (p e : Int) : (rdS s p e).size ≤ s.size := by
 unfold rdS
 split
 ·
  exact cutS_size s p
 ·
  exact Nat.zero_le _
theorem rdLeaf_size (s : ByteArray) (p e : Int) (j : Nat) : (∀ x ∈ (rdLeaf s p e j).ks, x.size ≤ s.size) ∧ ∀ x ∈ (rdLeaf s p e j).vs, x.size ≤ s.size := by
 induction j with
 | zero => exact ⟨fun x h => (by cases h), fun x h => (by cases h)⟩
 | succ j ih =>
  simp only [rdLeaf]
  constructor
  ·
   intro x hx
   rcases List.mem_append.1 hx with h | h
   ·
    exact ih.1 x h
   ·
    obtain rfl : x = _ := by simpa using h
    exact rdS_size _ _ _
  ·
   intro x hx
   rcases List.mem_append.1 hx with h | h
   ·
    exact ih.2 x h
   ·
    obtain rfl : x = _ := by simpa using h
    exact rdS_size _ _ _
theorem rdInn_size (s : ByteArray) (p e : Int) (j : Nat) : ∀ x ∈ (rdInn s p e j).ks, x.size ≤ s.size := by
 induction j with
 | zero => exact fun x h => (by cases h)
 | succ j ih =>
  simp only [rdInn]
  intro x hx
  rcases List.mem_append.1 hx with h | h
  ·
   exact ih x h
  ·
   obtain rfl : x = _ := by simpa using h
   exact rdS_size _ _ _
def pushV (h i r H g n cap : Nat) (u x : Value) : Nat → Value
 | 0 => .pointer (some ⟨h, i, none⟩)
 | 1 => u
 | 2 => .pointer (some ⟨r, 0, none⟩)
 | 3 => x
 | 4 => .slice (some ⟨H, 0, none⟩) 1 1
 | 5 => .slice (some ⟨g, 0, none⟩) (n + 1) cap
 | 6 => .pointer (some ⟨h, i, none⟩)
 | _ => undef
def worlds5 (w0 w1 w2 w3 w4 : World) : Nat → World
 | 0 => w0
 | 1 => w1
 | 2 => w2
 | 3 => w3
 | _ => w4
theorem Box4.set1 {w : World} {h : Nat} {v0 v1 v2 v3 : Value} (b : Box4 w h v0 v1 v2 v3) (v : Value) : Box4 (w.setCell ⟨h, 1, none⟩ v) h v0 v v2 v3 := by
 obtain ⟨⟨c0, c1, c2, c3⟩, f0, f1, f2, f3⟩ := b
 refine ⟨⟨?_, World.cell?_setCell_same _ _ _ c1, ?_, ?_⟩, ?_, ?_, ?_, ?_⟩
 ·
  rw [World.cell?_setCell_other _ _ _ _ (fun hh => by cases hh)]; exact c0
 ·
  rw [World.cell?_setCell_other _ _ _ _ (fun hh => by cases hh)]; exact c2
 ·
  rw [World.cell?_setCell_other _ _ _ _ (fun hh => by cases hh)]; exact c3
 ·
  rw [World.frozen?_setCell]; exact f0
 ·
  rw [World.frozen?_setCell]; exact f1
 ·
  rw [World.frozen?_setCell]; exact f2
 ·
  rw [World.frozen?_setCell]; exact f3
theorem Box4.set2 {w : World} {h : Nat} {v0 v1 v2 v3 : Value} (b : Box4 w h v0 v1 v2 v3) (v : Value) : Box4 (w.setCell ⟨h, 2, none⟩ v) h v0 v1 v v3 := by
 obtain ⟨⟨c0, c1, c2, c3⟩, f0, f1, f2, f3⟩ := b
 refine ⟨⟨?_, ?_, World.cell?_setCell_same _ _ _ c2, ?_⟩, ?_, ?_, ?_, ?_⟩
 ·
  rw [World.cell?_setCell_other _ _ _ _ (fun hh => by cases hh)]; exact c0
 ·
  rw [World.cell?_setCell_other _ _ _ _ (fun hh => by cases hh)]; exact c1
 ·
  rw [World.cell?_setCell_other _ _ _ _ (fun hh => by cases hh)]; exact c3
 ·
  rw [World.frozen?_setCell]; exact f0
 ·
  rw [World.frozen?_setCell]; exact f1
 ·
  rw [World.frozen?_setCell]; exact f2
 ·
  rw [World.frozen?_setCell]; exact f3
theorem Box4.set3 {w : World} {h : Nat} {v0 v1 v2 v3 : Value} (b : Box4 w h v0 v1 v2 v3) (v : Value) : Box4 (w.setCell ⟨h, 3, none⟩ v) h v0 v1 v2 v := by
 obtain ⟨⟨c0, c1, c2, c3⟩, f0, f1, f2, f3⟩ := b
 refine ⟨⟨?_, ?_, ?_, World.cell?_setCell_same _ _ _ c3⟩, ?_, ?_, ?_, ?_⟩
 ·
  rw [World.cell?_setCell_other _ _ _ _ (fun hh => by cases hh)]; exact c0
 ·
  rw [World.cell?_setCell_other _ _ _ _ (fun hh => by cases hh)]; exact c1
 ·
  rw [World.cell?_setCell_other _ _ _ _ (fun hh => by cases hh)]; exact c2
 ·
  rw [World.frozen?_setCell]; exact f0
 ·
  rw [World.frozen?_setCell]; exact f1
 ·
  rw [World.frozen?_setCell]; exact f2
 ·
  rw [World.frozen?_setCell]; exact f3
theorem Box4.other {w : World} {h : Nat} {v0 v1 v2 v3 : Value} (b : Box4 w h v0 v1 v2 v3) {p : Addr} (hp : p.block ≠ h) (v : Value) : Box4 (w.setCell p v) h v0 v1 v2 v3 := by
 obtain ⟨⟨c0, c1, c2, c3⟩, f0, f1, f2, f3⟩ := b
 have ne : ∀ k, (⟨h, k, none⟩ : Addr) ≠ p := fun k e => hp (by rw [← e])
 refine ⟨⟨?_, ?_, ?_, ?_⟩, ?_, ?_, ?_, ?_⟩
 ·
  rw [World.cell?_setCell_other _ _ _ _ (fun hh => hp (by first | (rw [← hh]) | (rw [hh])))]; exact c0
 ·
  rw [World.cell?_setCell_other _ _ _ _ (fun hh => hp (by first | (rw [← hh]) | (rw [hh])))]; exact c1
 ·
  rw [World.cell?_setCell_other _ _ _ _ (fun hh => hp (by first | (rw [← hh]) | (rw [hh])))]; exact c2
 ·
  rw [World.cell?_setCell_other _ _ _ _ (fun hh => hp (by first | (rw [← hh]) | (rw [hh])))]; exact c3
 ·
  rw [World.frozen?_setCell]; exact f0
 ·
  rw [World.frozen?_setCell]; exact f1
 ·
  rw [World.frozen?_setCell]; exact f2
 ·
  rw [World.frozen?_setCell]; exact f3
theorem Box4.put {w : World} {h : Nat} {v0 v1 v2 v3 : Value} (b : Box4 w h v0 v1 v2 v3) (u0 u1 u2 u3 : Value) : Box4 ((((w.setCell ⟨h, 0, none⟩ u0).setCell ⟨h, 1, none⟩ u1).setCell ⟨h, 2, none⟩ u2).setCell ⟨h, 3, none⟩ u3) h u0 u1 u2 u3 := by
 have b0 : Box4 (w.setCell ⟨h, 0, none⟩ u0) h u0 v1 v2 v3 := by
  obtain ⟨⟨c0, c1, c2, c3⟩, f0, f1, f2, f3⟩ := b
  refine ⟨⟨World.cell?_setCell_same _ _ _ c0, ?_, ?_, ?_⟩, ?_, ?_, ?_, ?_⟩
  ·
   rw [World.cell?_setCell_other _ _ _ _ (fun hh => by cases hh)]; exact c1
  ·
   rw [World.cell?_setCell_other _ _ _ _ (fun hh => by cases hh)]; exact c2
  ·
   rw [World.cell?_setCell_other _ _ _ _ (fun hh => by cases hh)]; exact c3
  ·
   rw [World.frozen?_setCell]; exact f0
  ·
   rw [World.frozen?_setCell]; exact f1
  ·
   rw [World.frozen?_setCell]; exact f2
  ·
   rw [World.frozen?_setCell]; exact f3
 exact ((b0.set1 u1).set2 u2).set3 u3
theorem below_put4 {w W : World} {h : Nat} (hB : Below w.heap.size w W) (hh : w.heap.size ≤ h) (u0 u1 u2 u3 : Value) : Below w.heap.size w ((((W.setCell ⟨h, 0, none⟩ u0).setCell ⟨h, 1, none⟩ u1).setCell ⟨h, 2, none⟩ u2).setCell ⟨h, 3, none⟩ u3) :=
 (((hB.setCell (p := ⟨h, 0, none⟩) hh _).setCell (p := ⟨h, 1, none⟩) hh _).setCell (p := ⟨h, 2, none⟩) hh _).setCell (p := ⟨h, 3, none⟩) hh _
theorem NodeAt.read1 {w : World} {h B r : Nat} {l : Bool} {u1 u2 u3 : Value} {xs ys : List ByteArray} {zs : List Int} {s : ByteArray} {p e : Int} (n : NodeAt w h B l u1 u2 u3 xs ys zs) (b : Box3 w r (.string s) (.int .i64 p) (.int .i64 e)) (hr : r < B) (hne : r ≠ h) (hs : s.size ≤ maxLen) (hl : xs.length ≤ 4096) :
  ∃ V1 g cap V3 V4, Calls Try.prog 75 #[.pointer (some ⟨r, 0, none⟩)] w (fun c w' => c = .returned (.string (rdS s p e)) ∧ w' = V1) ∧ Box4 w h (.bool l) u1 u2 u3 ∧ Box4 V1 h (.bool l) u1 u2 u3 ∧ Box4 (V1.alloc (.cells #[.string (rdS s p e)] 9)) h (.bool l) u1 u2 u3 ∧
   (Builtin.append_ #[25, 25] 25 #[u1, .slice (some ⟨V1.heap.size, 0, none⟩) 1 1]).run Try.prog (V1.alloc (.cells #[.string (rdS s p e)] 9)) = .ok (.slice (some ⟨g, 0, none⟩) (xs.length + 1) cap) V3 ∧ Box4 V3 h (.bool l) u1 u2 u3 ∧
   V3.setCell ⟨h, 1, none⟩ (.slice (some ⟨g, 0, none⟩) (xs.length + 1) cap) = V4 ∧ NodeAt V4 h B l (.slice (some ⟨g, 0, none⟩) (xs.length + 1) cap) u2 u3 (xs ++ [rdS s p e]) ys zs ∧ Box3 V4 r (.string s) (.int .i64 (rdP s p e)) (.int .i64 (rdE s p e)) ∧ Turns (fun k => k = r ∨ Own h B k) w V4 := by
 obtain ⟨V1, b1, t1, _, c1⟩ := rtext_any r s p e w b hs
 have n1 : NodeAt V1 h B l u1 u2 u3 xs ys zs := n.turns t1 (fun e => hne e.symm) (fun k e => by omega)
 obtain ⟨g, cap, V3, hrun, b3, n4, t4⟩ := n1.push1 (rdS s p e) hl
 refine ⟨V1, g, cap, V3, _, c1, n.box, n1.box, (n1.alloc _).box, hrun, b3, rfl, n4, b1.turns t4 ?_, (t1.mono fun k e => .inl e).trans (t4.mono fun k e => .inr e)⟩
 rintro (e | e)
 ·
  exact hne e
 ·
  omega
theorem NodeAt.read2 {w : World} {h B r : Nat} {l : Bool} {u1 u2 u3 : Value} {xs ys : List ByteArray} {zs : List Int} {s : ByteArray} {p e : Int} (n : NodeAt w h B l u1 u2 u3 xs ys zs) (b : Box3 w r (.string s) (.int .i64 p) (.int .i64 e)) (hr : r < B) (hne : r ≠ h) (hs : s.size ≤ maxLen) (hl : ys.length ≤ 4096) :
  ∃ V1 g cap V3 V4, Calls Try.prog 75 #[.pointer (some ⟨r, 0, none⟩)] w (fun c w' => c = .returned (.string (rdS s p e)) ∧ w' = V1) ∧ Box4 w h (.bool l) u1 u2 u3 ∧ Box4 V1 h (.bool l) u1 u2 u3 ∧ Box4 (V1.alloc (.cells #[.string (rdS s p e)] 9)) h (.bool l) u1 u2 u3 ∧
   (Builtin.append_ #[25, 25] 25 #[u2, .slice (some ⟨V1.heap.size, 0, none⟩) 1 1]).run Try.prog (V1.alloc (.cells #[.string (rdS s p e)] 9)) = .ok (.slice (some ⟨g, 0, none⟩) (ys.length + 1) cap) V3 ∧ Box4 V3 h (.bool l) u1 u2 u3 ∧
   V3.setCell ⟨h, 2, none⟩ (.slice (some ⟨g, 0, none⟩) (ys.length + 1) cap) = V4 ∧ NodeAt V4 h B l u1 (.slice (some ⟨g, 0, none⟩) (ys.length + 1) cap) u3 xs (ys ++ [rdS s p e]) zs ∧ Box3 V4 r (.string s) (.int .i64 (rdP s p e)) (.int .i64 (rdE s p e)) ∧ Turns (fun k => k = r ∨ Own h B k) w V4 := by
 obtain ⟨V1, b1, t1, _, c1⟩ := rtext_any r s p e w b hs
 have n1 : NodeAt V1 h B l u1 u2 u3 xs ys zs := n.turns t1 (fun e => hne e.symm) (fun k e => by omega)
 obtain ⟨g, cap, V3, hrun, b3, n4, t4⟩ := n1.push2 (rdS s p e) hl
 refine ⟨V1, g, cap, V3, _, c1, n.box, n1.box, (n1.alloc _).box, hrun, b3, rfl, n4, b1.turns t4 ?_, (t1.mono fun k e => .inl e).trans (t4.mono fun k e => .inr e)⟩
 rintro (e | e)
 ·
  exact hne e
 ·
  omega
theorem NodeAt.read3 {w : World} {h B r : Nat} {l : Bool} {u1 u2 u3 : Value} {xs ys : List ByteArray} {zs : List Int} {s : ByteArray} {p e : Int} (n : NodeAt w h B l u1 u2 u3 xs ys zs) (b : Box3 w r (.string s) (.int .i64 p) (.int .i64 e)) (hr : r < B) (hne : r ≠ h) (hs : s.size ≤ maxLen) (hl : zs.length ≤ 4096) :
  ∃ V1 g cap V3 V4, Calls Try.prog 62 #[.pointer (some ⟨r, 0, none⟩), .int .i64 2] w (fun c w' => c = .returned (.int .i64 (rnR s p e 2)) ∧ w' = V1) ∧ Box4 w h (.bool l) u1 u2 u3 ∧ Box4 V1 h (.bool l) u1 u2 u3 ∧ Box4 (V1.alloc (.cells #[.int .i64 (rnR s p e 2)] 3)) h (.bool l) u1 u2 u3 ∧
   (Builtin.append_ #[28, 28] 28 #[u3, .slice (some ⟨V1.heap.size, 0, none⟩) 1 1]).run Try.prog (V1.alloc (.cells #[.int .i64 (rnR s p e 2)] 3)) = .ok (.slice (some ⟨g, 0, none⟩) (zs.length + 1) cap) V3 ∧ Box4 V3 h (.bool l) u1 u2 u3 ∧
   V3.setCell ⟨h, 3, none⟩ (.slice (some ⟨g, 0, none⟩) (zs.length + 1) cap) = V4 ∧ NodeAt V4 h B l u1 u2 (.slice (some ⟨g, 0, none⟩) (zs.length + 1) cap) xs ys (zs ++ [rnR s p e 2]) ∧ Box3 V4 r (.string s) (.int .i64 (rnP s p e 2)) (.int .i64 (rnE s p e 2)) ∧ Turns (fun k => k = r ∨ Own h B k) w V4 := by
 obtain ⟨V1, b1, t1, _, c1⟩ := rnumber_any r s p e 2 w b hs
 have n1 : NodeAt V1 h B l u1 u2 u3 xs ys zs := n.turns t1 (fun e => hne e.symm) (fun k e => by omega)
 obtain ⟨g, cap, V3, hrun, b3, n4, t4⟩ := n1.push3 (rnR s p e 2) hl
 refine ⟨V1, g, cap, V3, _, c1, n.box, n1.box, (n1.alloc _).box, hrun, b3, rfl, n4, b1.turns t4 ?_, (t1.mono fun k e => .inl e).trans (t4.mono fun k e => .inr e)⟩
 rintro (e | e)
 ·
  exact hne e
 ·
  omega
theorem turns_put4 (w : World) (h : Nat) (u0 u1 u2 u3 : Value) : Turns (fun k => k = h) w ((((w.setCell ⟨h, 0, none⟩ u0).setCell ⟨h, 1, none⟩ u1).setCell ⟨h, 2, none⟩ u2).setCell ⟨h, 3, none⟩ u3) :=
 Turns.setCell (P := fun k => k = h) (Turns.setCell (P := fun k => k = h) (Turns.setCell (P := fun k => k = h) (Turns.setCell (P := fun k => k = h) (Turns.refl _ _) (p := ⟨h, 0, none⟩) rfl u0) (p := ⟨h, 1, none⟩) rfl u1) (p := ⟨h, 2, none⟩) rfl u2) (p := ⟨h, 3, none⟩) rfl u3
theorem node_two (w : World) (t : TypeId) (l : Bool) (v3 : Value) :
  ∃ W, W = (w.alloc (.cells #[.bool false, .slice none 0 0, .slice none 0 0, .slice none 0 0] t)).alloc (.cells #[.bool l, .slice none 0 0, .slice none 0 0, v3] t) ∧
   Box4 W w.heap.size (.bool false) (.slice none 0 0) (.slice none 0 0) (.slice none 0 0) ∧ Box4 W (w.heap.size + 1) (.bool l) (.slice none 0 0) (.slice none 0 0) v3 ∧ Below w.heap.size w W ∧ W.heap.size = w.heap.size + 2 :=
 ⟨_, rfl, (box4_new w _ _ _ _ t rfl).alloc _, box4_new _ _ _ _ _ t (by simp), ((Below.refl _ _).alloc (Nat.le_refl _) _).alloc (by simp) _, by simp⟩
set_option maxRecDepth 20000 in
set_option maxHeartbeats 4000000 in
theorem rleaf_any (r c : Nat) (s : ByteArray) (p e : Int) (w : World) (b : Box3 w r (.string s) (.int .i64 p) (.int .i64 e)) (hs : s.size ≤ maxLen) (hc : c ≤ 255) :
  Calls Try.prog 63 #[.pointer (some ⟨r, 0, none⟩), .int .i64 c] w fun x w' => ∃ a d a' d', x = .returned (.agg #[.bool true, .slice a c d, .slice a' c d', .slice none 0 0]) ∧
   IsS w' a d (rdLeaf s p e c).ks ∧ IsS w' a' d' (rdLeaf s p e c).vs ∧ From w.heap.size a ∧ From w.heap.size a' ∧ Box3 w' r (.string s) (.int .i64 (rdLeaf s p e c).p) (.int .i64 (rdLeaf s p e c).e) ∧ Turns (fun k => k = r) w w' := by
 obtain ⟨W, hW, b0, bn, hB0, hsz⟩ := node_two w 62 true (.slice none 0 0)
 have hrw : r < w.heap.size := b.lt
 have N0 : NodeAt W (w.heap.size + 1) (w.heap.size + 2) true (.slice none 0 0) (.slice none 0 0) (.slice none 0 0) [] [] [] := nodeAt_new bn (by omega)
 have bW : Box3 W r (.string s) (.int .i64 p) (.int .i64 e) := b.below hB0
 have T0 : Turns (fun k => k = r ∨ w.heap.size ≤ k) w W := Turns.of_below hB0
 have HS : Hid (s.size ≤ maxLen) := hs
 clear b hs bn hB0 hsz
 go_enter Try.func63, Try.ntmps63
 go_wp2
 rw [← hW]
 clear hW
 go_loopw [8] (fun v wr => ∃ (j : Nat) (u1 u2 : Value), j ≤ c ∧ v = .int .i64 j ∧ NodeAt wr (w.heap.size + 1) (w.heap.size + 2) true u1 u2 (.slice none 0 0) (rdLeaf s p e j).ks (rdLeaf s p e j).vs [] ∧ Box3 wr r (.string s) (.int .i64 (rdLeaf s p e j).p) (.int .i64 (rdLeaf s p e j).e) ∧ Box4 wr w.heap.size (.bool false) (.slice none 0 0) (.slice none 0 0) (.slice none 0 0) ∧ Turns (fun k => k = r ∨ w.heap.size ≤ k) w wr) (fun v _ => c - (intOf v).toNat)
 case atStart => exact ⟨0, .slice none 0 0, .slice none 0 0, by omega, rfl, N0, bW, b0, T0⟩
 case round =>
  clear N0 bW b0 T0
  obtain ⟨j, u1, u2, hj, rfl, N, bR, b0, T⟩ := hrel
  obtain ⟨A, hA⟩ : ∃ A, A = rdLeaf s p e j := ⟨_, rfl⟩
  obtain ⟨l1, l2⟩ := rdLeaf_len s p e j
  rw [← hA] at N bR l1 l2
  have HA : Hid (A = rdLeaf s p e j) := hA
  have hl1 : A.ks.length ≤ 4096 := by omega
  have hl2 : A.vs.length ≤ 4096 := by omega
  have L1 : Hid (A.ks.length = j) := l1
  have L2 : Hid (A.vs.length = j) := l2
  clear hA l1 l2
  by_cases hlt : j < c
  ·
   have hlt' : (j : Int) < c := by omega
   obtain ⟨V0, hV0⟩ : ∃ V, V = wr.drew := ⟨_, rfl⟩
   replace N : NodeAt V0 (w.heap.size + 1) (w.heap.size + 2) true u1 u2 (.slice none 0 0) A.ks A.vs [] := by rw [hV0]; exact N.drew
   replace bR : Box3 V0 r (.string s) (.int .i64 A.p) (.int .i64 A.e) := by rw [hV0]; exact bR
   replace b0 : Box4 V0 w.heap.size (.bool false) (.slice none 0 0) (.slice none 0 0) (.slice none 0 0) := by rw [hV0]; exact b0.drew
   replace T : Turns (fun k => k = r ∨ w.heap.size ≤ k) w V0 := by rw [hV0]; exact T.drew
   obtain ⟨V1, g, cap, V3, V4, hcall3, x0, x1, x2, hrun5, x3, hst, N4, bR4, T4⟩ := N.read1 bR (by omega) (by omega) HS.out hl1
   have b04 := b0.turns T4 (by rintro (h | h | h) <;> omega)
   have T04 : Turns (fun k => k = r ∨ w.heap.size ≤ k) w V4 := T.trans (T4.mono fun k hk => by rcases hk with h | h | h <;> omega)
   obtain ⟨V5, hV5⟩ : ∃ V, V = V4.drew := ⟨_, rfl⟩
   replace N4 : NodeAt V5 (w.heap.size + 1) (w.heap.size + 2) true (.slice (some ⟨g, 0, none⟩) (A.ks.length + 1) cap) u2 (.slice none 0 0) (A.ks ++ [rdS s A.p A.e]) A.vs [] := by rw [hV5]; exact N4.drew
   replace bR4 : Box3 V5 r (.string s) (.int .i64 (rdP s A.p A.e)) (.int .i64 (rdE s A.p A.e)) := by rw [hV5]; exact bR4
   replace b04 : Box4 V5 w.heap.size (.bool false) (.slice none 0 0) (.slice none 0 0) (.slice none 0 0) := by rw [hV5]; exact b04.drew
   replace T04 : Turns (fun k => k = r ∨ w.heap.size ≤ k) w V5 := by rw [hV5]; exact T04.drew
   obtain ⟨U1, g', cap', U3, U4, hcall3', y0, y1, y2, hrun5', y3, hst', N8, bR8, T8⟩ := N4.read2 bR4 (by omega) (by omega) HS.out hl2
   have b08 := b04.turns T8 (by rintro (h | h | h) <;> omega)
   have T08 : Turns (fun k => k = r ∨ w.heap.size ≤ k) w U4 := T04.trans (T8.mono fun k hk => by rcases hk with h | h | h <;> omega)
   have hfin : Hid (NodeAt U4 (w.heap.size + 1) (w.heap.size + 2) true (.slice (some ⟨g, 0, none⟩) (A.ks.length + 1) cap) (.slice (some ⟨g', 0, none⟩) (A.vs.length + 1) cap') (.slice none 0 0) (rdLeaf s p e (j + 1)).ks (rdLeaf s p e (j + 1)).vs [] ∧ Box3 U4 r (.string s) (.int .i64 (rdLeaf s p e (j + 1)).p) (.int .i64 (rdLeaf s p e (j + 1)).e)) := by
    simp only [rdLeaf]
    rw [← HA.out]
    exact ⟨N8, bR8⟩
   have hfin2 : Hid (Box4 U4 w.heap.size (.bool false) (.slice none 0 0) (.slice none 0 0) (.slice none 0 0) ∧ Turns (fun k => k = r ∨ w.heap.size ≤ k) w U4) := ⟨b08, T08⟩
   have hst4 : Hid (V3.setCell ⟨w.heap.size + 1, 1, none⟩ (.slice (some ⟨g, 0, none⟩) (A.ks.length + 1) cap) = V4) := hst
   have HV0 : Hid (V0 = wr.drew) := hV0
   have HV5 : Hid (V5 = V4.drew) := hV5
   have HT' : Hid (U3.setCell ⟨w.heap.size + 1, 2, none⟩ (.slice (some ⟨g', 0, none⟩) (A.vs.length + 1) cap') = U4) := hst'
   obtain ⟨⟨q0, q1, q2, q3⟩, -⟩ := id x0
   obtain ⟨⟨q01, q11, q21, q31⟩, -⟩ := id x1
   obtain ⟨⟨q02, q12, q22, q32⟩, -⟩ := id x2
   obtain ⟨⟨q03, q13, q23, q33⟩, f0, f1, f2, f3⟩ := id x3
   generalize rdS s A.p A.e = key at *
   generalize rdS s (rdP s A.p A.e) (rdE s A.p A.e) = val at *
   clear N bR b0 T N4 bR4 b04 T04 N8 bR8 T8 b08 T08 T4 hst hst' hV0 hV5 x0 x1 x2 x3
   go_wp2
   refine region_worlds (by kernel_rfl) [3, 4, 5, 7] (pushV (w.heap.size + 1) 1 r V1.heap.size g A.ks.length cap u1 (.string key)) (worlds5 V0 V1 (V1.alloc (.cells #[.string key] 9)) V3 V4) (by kernel_rfl) (by kernel_rfl) HV0.out.symm ?step 8 rfl ?done
   case step =>
    intro i o ho kk a2 hkk hmay hdf hsz hdep hsame
    match i, ho with
    | 0, ho =>
     cases ho
     have h5 := (hsame 5 rfl)
     exact val_op rfl (wanted_free rfl) (by clear hdep hsame hsz hdf; (try simp only [pushV, worlds5]); go_simp) rfl rfl
    | 1, ho =>
     cases ho
     have h10 := (hdep 0 _ 10 rfl rfl rfl)
     simp only [pushV] at h10
     match kk, hkk, hmay with
     | 0, _, hq => first | (cases hq; done) | (exact val_op rfl (wanted_free rfl) (by clear hdep hsame hsz hdf; (try simp only [pushV, worlds5]); go_simp) rfl rfl)
     | 1, _, hq => first | (cases hq; done) | (exact val_op rfl (wanted_free rfl) (by clear hdep hsame hsz hdf; (try simp only [pushV, worlds5]); go_simp) rfl rfl)
     | 2, _, hq => first | (cases hq; done) | (exact val_op rfl (wanted_free rfl) (by clear hdep hsame hsz hdf; (try simp only [pushV, worlds5]); go_simp) rfl rfl)
     | 3, _, hq => first | (cases hq; done) | (exact val_op rfl (wanted_free rfl) (by clear hdep hsame hsz hdf; (try simp only [pushV, worlds5]); go_simp) rfl rfl)
     | 4, _, hq => first | (cases hq; done) | (exact val_op rfl (wanted_free rfl) (by clear hdep hsame hsz hdf; (try simp only [pushV, worlds5]); go_simp) rfl rfl)
     | kk + 5, hkk, _ => simp at hkk
    | 2, ho =>
     cases ho
     have h0 := (hsame 0 rfl)
     exact val_op rfl (wanted_free rfl) (by clear hdep hsame hsz hdf; (try simp only [pushV, worlds5]); go_simp) rfl rfl
    | 3, ho =>
     cases ho
     have h12 := (hdep 2 _ 12 rfl rfl rfl)
     simp only [pushV] at h12
     match kk, hkk, hmay with
     | 0, _, _ => exact val_call rfl (wanted_free rfl) (by clear hdep hsame hsz hdf; (try simp only [worlds5]); go_simp) (hcall3.mono fun e w hh => ⟨hh.1, hh.2⟩)
     | 1, _, hq => cases hq
     | 2, _, hq => cases hq
     | 3, _, hq => cases hq
     | 4, _, hq => cases hq
     | kk + 5, hkk, _ => simp at hkk
    | 4, ho =>
     cases ho
     have h13 := (hdep 3 _ 13 rfl rfl rfl)
     simp only [pushV] at h13
     match kk, hkk, hmay with
     | 0, _, hq => cases hq
     | 1, _, _ => exact val_op rfl (wanted_free rfl) (by clear hdep hsame hsz hdf; (try simp only [pushV, worlds5]); go_simp) rfl rfl
     | 2, _, hq => cases hq
     | 3, _, hq => cases hq
     | 4, _, hq => cases hq
     | kk + 5, hkk, _ => simp at hkk
    | 5, ho =>
     cases ho
     have h11 := eval_tmp (hdep 1 _ 11 rfl rfl rfl)
     have h14 := eval_tmp (hdep 4 _ 14 rfl rfl rfl)
     simp only [pushV] at h11 h14
     match kk, hkk, hmay with
     | 0, _, hq => cases hq
     | 1, _, hq => cases hq
     | 2, _, _ => exact val_append rfl (wanted_free rfl) rfl h11 h14 hrun5 rfl rfl
     | 3, _, hq => cases hq
     | 4, _, hq => cases hq
     | kk + 5, hkk, _ => simp at hkk
    | 6, ho =>
     cases ho
     have h5 := (hsame 5 rfl)
     exact val_op rfl (wanted_free rfl) (by clear hdep hsame hsz hdf; (try simp only [pushV, worlds5]); go_simp) rfl rfl
    | 7, ho =>
     cases ho
     have h16 := (hdep 6 _ 16 rfl rfl rfl)
     have h15 := (hdep 5 _ 15 rfl rfl rfl)
     simp only [pushV] at h16 h15
     match kk, hkk, hmay with
     | 0, _, hq => cases hq
     | 1, _, hq => cases hq
     | 2, _, hq => cases hq
     | 3, _, _ => exact val_skip rfl (wanted_free rfl) rfl (by clear hdep hsame hsz hdf; simp only [worlds5]; go_simp; try exact hst4.out) rfl
     | 4, _, hq => cases hq
     | kk + 5, hkk, _ => simp at hkk
    | kk + 8, ho => simp at ho
   case done =>
    simp [filledN, pushV, worlds5]
    clear q0 q1 q2 q3 q01 q11 q21 q31 q02 q12 q22 q32 q03 q13 q23 q33 f0 f1 f2 f3 hcall3 hrun5 hst4 HV0
    have hcall3 := hcall3'
    have hrun5 := hrun5'
    have hst4 := HT'
    obtain ⟨⟨q0, q1, q2, q3⟩, -⟩ := id y0
    obtain ⟨⟨q01, q11, q21, q31⟩, -⟩ := id y1
    obtain ⟨⟨q02, q12, q22, q32⟩, -⟩ := id y2
    obtain ⟨⟨q03, q13, q23, q33⟩, f0, f1, f2, f3⟩ := id y3
    clear hcall3' hrun5' HT' y0 y1 y2 y3
    go_wp2
    refine region_worlds (by kernel_rfl) [3, 4, 5, 7] (pushV (w.heap.size + 1) 2 r U1.heap.size g' A.vs.length cap' u2 (.string val)) (worlds5 V5 U1 (U1.alloc (.cells #[.string val] 9)) U3 U4) (by kernel_rfl) (by kernel_rfl) HV5.out.symm ?step2 8 rfl ?done2
    case step2 =>
     intro i o ho kk a2 hkk hmay hdf hsz hdep hsame
     match i, ho with
     | 0, ho =>
      cases ho
      have h5 := (hsame 5 rfl)
      exact val_op rfl (wanted_free rfl) (by clear hdep hsame hsz hdf; (try simp only [pushV, worlds5]); go_simp) rfl rfl
     | 1, ho =>
      cases ho
      have h17 := (hdep 0 _ 17 rfl rfl rfl)
      simp only [pushV] at h17
      match kk, hkk, hmay with
      | 0, _, hq => first | (cases hq; done) | (exact val_op rfl (wanted_free rfl) (by clear hdep hsame hsz hdf; (try simp only [pushV, worlds5]); go_simp) rfl rfl)
      | 1, _, hq => first | (cases hq; done) | (exact val_op rfl (wanted_free rfl) (by clear hdep hsame hsz hdf; (try simp only [pushV, worlds5]); go_simp) rfl rfl)
      | 2, _, hq => first | (cases hq; done) | (exact val_op rfl (wanted_free rfl) (by clear hdep hsame hsz hdf; (try simp only [pushV, worlds5]); go_simp) rfl rfl)
      | 3, _, hq => first | (cases hq; done) | (exact val_op rfl (wanted_free rfl) (by clear hdep hsame hsz hdf; (try simp only [pushV, worlds5]); go_simp) rfl rfl)
      | 4, _, hq => first | (cases hq; done) | (exact val_op rfl (wanted_free rfl) (by clear hdep hsame hsz hdf; (try simp only [pushV, worlds5]); go_simp) rfl rfl)
      | kk + 5, hkk, _ => simp at hkk
     | 2, ho =>
      cases ho
      have h0 := (hsame 0 rfl)
      exact val_op rfl (wanted_free rfl) (by clear hdep hsame hsz hdf; (try simp only [pushV, worlds5]); go_simp) rfl rfl
     | 3, ho =>
      cases ho
      have h19 := (hdep 2 _ 19 rfl rfl rfl)
      simp only [pushV] at h19
      match kk, hkk, hmay with
      | 0, _, _ => exact val_call rfl (wanted_free rfl) (by clear hdep hsame hsz hdf; (try simp only [worlds5]); go_simp) (hcall3.mono fun e w hh => ⟨hh.1, hh.2⟩)
      | 1, _, hq => cases hq
      | 2, _, hq => cases hq
      | 3, _, hq => cases hq
      | 4, _, hq => cases hq
      | kk + 5, hkk, _ => simp at hkk
     | 4, ho =>
      cases ho
      have h20 := (hdep 3 _ 20 rfl rfl rfl)
      simp only [pushV] at h20
      match kk, hkk, hmay with
      | 0, _, hq => cases hq
      | 1, _, _ => exact val_op rfl (wanted_free rfl) (by clear hdep hsame hsz hdf; (try simp only [pushV, worlds5]); go_simp) rfl rfl
      | 2, _, hq => cases hq
      | 3, _, hq => cases hq
      | 4, _, hq => cases hq
      | kk + 5, hkk, _ => simp at hkk
     | 5, ho =>
      cases ho
      have h18 := eval_tmp (hdep 1 _ 18 rfl rfl rfl)
      have h21 := eval_tmp (hdep 4 _ 21 rfl rfl rfl)
      simp only [pushV] at h18 h21
      match kk, hkk, hmay with
      | 0, _, hq => cases hq
      | 1, _, hq => cases hq
      | 2, _, _ => exact val_append rfl (wanted_free rfl) rfl h18 h21 hrun5 rfl rfl
      | 3, _, hq => cases hq
      | 4, _, hq => cases hq
      | kk + 5, hkk, _ => simp at hkk
     | 6, ho =>
      cases ho
      have h5 := (hsame 5 rfl)
      exact val_op rfl (wanted_free rfl) (by clear hdep hsame hsz hdf; (try simp only [pushV, worlds5]); go_simp) rfl rfl
     | 7, ho =>
      cases ho
      have h23 := (hdep 6 _ 23 rfl rfl rfl)
      have h22 := (hdep 5 _ 22 rfl rfl rfl)
      simp only [pushV] at h23 h22
      match kk, hkk, hmay with
      | 0, _, hq => cases hq
      | 1, _, hq => cases hq
      | 2, _, hq => cases hq
      | 3, _, _ => exact val_skip rfl (wanted_free rfl) rfl (by clear hdep hsame hsz hdf; simp only [worlds5]; go_simp; try exact hst4.out) rfl
      | 4, _, hq => cases hq
      | kk + 5, hkk, _ => simp at hkk
     | kk + 8, ho => simp at ho
    case done2 =>
     simp [filledN, pushV, worlds5]
     clear q0 q1 q2 q3 q01 q11 q21 q31 q02 q12 q22 q32 q03 q13 q23 q33 f0 f1 f2 f3 hcall3 hrun5 hst4 HV5
     go_wp2
     go_roundw
     case rel => exact ⟨j + 1, _, _, by omega, by go_num, hfin.out.1, hfin.out.2, hfin2.out.1, hfin2.out.2⟩
     case measure => simp [intOf]; omega
  ·
   obtain rfl : j = c := by omega
   obtain ⟨z1, z2⟩ := rdLeaf_size s p e j
   rw [← HA.out] at z1 z2
   obtain ⟨a, d, a', d', a'', d'', rfl, rfl, e3, i1, i2, i3, -, -, -⟩ := N.rows (fun x hx => Nat.le_trans (z1 x hx) HS.out) (fun x hx => Nat.le_trans (z2 x hx) HS.out)
   have NH : Hid (NodeAt wr (w.heap.size + 1) (w.heap.size + 2) true (.slice a A.ks.length d) (.slice a' A.vs.length d') (.slice none 0 0) A.ks A.vs []) := N
   have BH : Hid (Box3 wr r (.string s) (.int .i64 A.p) (.int .i64 A.e)) := bR
   have TH : Hid (Turns (fun k => k = r ∨ w.heap.size ≤ k) w wr) := T
   have Z1 : Hid (∀ x ∈ A.ks, x.size ≤ maxLen) := fun x hx => Nat.le_trans (z1 x hx) HS.out
   have Z2 : Hid (∀ x ∈ A.vs, x.size ≤ maxLen) := fun x hx => Nat.le_trans (z2 x hx) HS.out
   obtain ⟨⟨q0, q1, q2, q3⟩, -⟩ := N.box
   obtain ⟨⟨r0, r1, r2, r3⟩, g0, g1, g2, g3⟩ := id b0
   clear N bR T z1 z2 i1 i2 i3 e3
   go_wp2
   have N4 : NodeAt ((((wr.setCell ⟨w.heap.size, 0, none⟩ (.bool true)).setCell ⟨w.heap.size, 1, none⟩ (.slice a A.ks.length d)).setCell ⟨w.heap.size, 2, none⟩ (.slice a' A.vs.length d')).setCell ⟨w.heap.size, 3, none⟩ (.slice none 0 0)) (w.heap.size + 1) (w.heap.size + 2) true (.slice a A.ks.length d) (.slice a' A.vs.length d') (.slice none 0 0) A.ks A.vs [] :=
    (((NH.out.other (by omega) (by omega) 0 _).other (by omega) (by omega) 1 _).other (by omega) (by omega) 2 _).other (by omega) (by omega) 3 _
   have T4 : Turns (fun k => k = w.heap.size) wr ((((wr.setCell ⟨w.heap.size, 0, none⟩ (.bool true)).setCell ⟨w.heap.size, 1, none⟩ (.slice a A.ks.length d)).setCell ⟨w.heap.size, 2, none⟩ (.slice a' A.vs.length d')).setCell ⟨w.heap.size, 3, none⟩ (.slice none 0 0)) := turns_put4 wr w.heap.size _ _ _ _
   obtain ⟨b, k, b', k', b'', k'', e1, e2, e3, i1, i2, i3, j1, j2, j3⟩ := N4.rows Z1.out Z2.out
   cases e1
   cases e2
   have l1 := L1.out
   have l2 := L2.out
   refine bodyPost_ret (v := .agg #[.bool true, .slice a j d, .slice a' j d', .slice none 0 0]) (by simp [results, Try.results63, go_sem, r0, r1, r2, r3, l1, l2]) rfl ⟨a, d, a', d', rfl, by rw [← HA.out]; exact i1, by rw [← HA.out]; exact i2, j1.mono (by omega), j2.mono (by omega), by rw [← HA.out]; exact BH.out.turns T4 (by omega), ?_⟩
   exact (TH.out.trans (T4.mono fun k hk => .inr (by omega))).mono' fun k hk hh => by rcases hh with h | h <;> omega
set_option maxRecDepth 20000 in
set_option maxHeartbeats 4000000 in
theorem rinner_any (r c : Nat) (s : ByteArray) (p e : Int) (w : World) (b : Box3 w r (.string s) (.int .i64 p) (.int .i64 e)) (hs : s.size ≤ maxLen) (hc : c ≤ 255) :
  Calls Try.prog 64 #[.pointer (some ⟨r, 0, none⟩), .int .i64 c] w fun x w' => ∃ a d a'' d'', x = .returned (.agg #[.bool false, .slice a c d, .slice none 0 0, .slice a'' (c + 1) d'']) ∧
   IsS w' a d (rdInn s p e c).ks ∧ IsI w' a'' d'' (rdInn s p e c).cs ∧ From w.heap.size a ∧ From w.heap.size a'' ∧ Box3 w' r (.string s) (.int .i64 (rdInn s p e c).p) (.int .i64 (rdInn s p e c).e) ∧ Turns (fun k => k = r) w w' := by
 have hrw : r < w.heap.size := b.lt
 obtain ⟨W0, hW0⟩ : ∃ W0, W0 = w.alloc (.cells #[.bool false, .slice none 0 0, .slice none 0 0, .slice none 0 0] 62) := ⟨_, rfl⟩
 have b00 : Box4 W0 w.heap.size (.bool false) (.slice none 0 0) (.slice none 0 0) (.slice none 0 0) := by rw [hW0]; exact box4_new _ _ _ _ _ _ rfl
 have hB00 : Below w.heap.size w W0 := by rw [hW0]; exact (Below.refl _ _).alloc (Nat.le_refl _) _
 have hz0 : W0.heap.size = w.heap.size + 1 := by rw [hW0]; simp
 obtain ⟨V1, b1, t1, hsz, c1⟩ := rnumber_any r s p e 2 W0 (b.below hB00) hs
 obtain ⟨x, hx⟩ : ∃ x, x = rnR s p e 2 := ⟨_, rfl⟩
 rw [← hx] at c1
 obtain ⟨W, hW⟩ : ∃ W, W = (V1.alloc (.cells #[.int .i64 x] 3)).alloc (.cells #[.bool false, .slice none 0 0, .slice none 0 0, .slice (some ⟨V1.heap.size, 0, none⟩) 1 1] 62) := ⟨_, rfl⟩
 have hBW : Below V1.heap.size V1 W := by rw [hW]; exact ((Below.refl _ _).alloc (Nat.le_refl _) _).alloc (by simp) _
 have bW : Box3 W r (.string s) (.int .i64 (rdInn s p e 0).p) (.int .i64 (rdInn s p e 0).e) := b1.below hBW
 have b0 : Box4 W w.heap.size (.bool false) (.slice none 0 0) (.slice none 0 0) (.slice none 0 0) := (b00.turns t1 (by omega)).below hBW
 have T0 : Turns (fun k => k = r ∨ w.heap.size ≤ k) w W := ((Turns.of_below hB00).trans (t1.mono fun k hk => .inl hk)).tr hBW
 have hrow : W.ownsRow V1.heap.size 3 1 (.slice (some ⟨V1.heap.size, 0, none⟩) 1 1) 1 ([x].map (Value.int .i64)) := by
  rw [hW]
  exact (World.ownsRow_lit (base := V1.heap.size) (e := 3) (size := 1) V1 #[.int .i64 x] 1 (Nat.le_refl _) (by unfold maxLen; omega) rfl).alloc _
 have N0 : NodeAt W (V1.heap.size + 1) V1.heap.size false (.slice none 0 0) (.slice none 0 0) (.slice (some ⟨V1.heap.size, 0, none⟩) 1 1) (rdInn s p e 0).ks [] (rdInn s p e 0).cs := by
  refine ⟨by rw [hW]; exact box4_new _ _ _ _ _ _ (by simp), World.ownsRow_nil _ _ _ _, World.ownsRow_nil _ _ _ _, ?_, apart_nil _ _, apart_nil _ _, apart_nil _ _, off_nil _ _, off_nil _ _, ?_, hBW.size⟩
  ·
   simp only [rdInn]
   rw [← hx]
   exact hrow
  ·
   intro g hg
   simp [Value.ownBlock] at hg
   omega
 have HS : Hid (s.size ≤ maxLen) := hs
 have hbw : w.heap.size < V1.heap.size := by omega
 clear b hs hBW b1 t1 b00 hB00 hsz hrow hz0 hx
 go_enter Try.func64, Try.ntmps64
 go_wp2_with (go_at_call 62; rw [← hW0]; refine c1.mono ?_; rintro y w1 ⟨rfl, hw1⟩; have hw1' := hw1.symm; subst hw1'; clear hw1)
 rw [← hW]
 clear hW c1
 generalize V1.heap.size = B at *
 go_loopw [11] (fun v wr => ∃ (j : Nat) (u1 u3 : Value), j ≤ c ∧ v = .int .i64 j ∧ NodeAt wr (B + 1) B false u1 (.slice none 0 0) u3 (rdInn s p e j).ks [] (rdInn s p e j).cs ∧ Box3 wr r (.string s) (.int .i64 (rdInn s p e j).p) (.int .i64 (rdInn s p e j).e) ∧ Box4 wr w.heap.size (.bool false) (.slice none 0 0) (.slice none 0 0) (.slice none 0 0) ∧ Turns (fun k => k = r ∨ w.heap.size ≤ k) w wr) (fun v _ => c - (intOf v).toNat)
 case atStart => exact ⟨0, .slice none 0 0, _, by omega, rfl, N0, bW, b0, T0⟩
 case round =>
  clear N0 bW b0 T0
  obtain ⟨j, u1, u3, hj, rfl, N, bR, b0, T⟩ := hrel
  obtain ⟨A, hA⟩ : ∃ A, A = rdInn s p e j := ⟨_, rfl⟩
  obtain ⟨l1, l2⟩ := rdInn_len s p e j
  rw [← hA] at N bR l1 l2
  have HA : Hid (A = rdInn s p e j) := hA
  have hl1 : A.ks.length ≤ 4096 := by omega
  have hl2 : A.cs.length ≤ 4096 := by omega
  have L1 : Hid (A.ks.length = j) := l1
  have L2 : Hid (A.cs.length = j + 1) := l2
  clear hA l1 l2
  by_cases hlt : j < c
  ·
   have hlt' : (j : Int) < c := by omega
   obtain ⟨V0, hV0⟩ : ∃ V, V = wr.drew := ⟨_, rfl⟩
   replace N : NodeAt V0 (B + 1) B false u1 (.slice none 0 0) u3 A.ks [] A.cs := by rw [hV0]; exact N.drew
   replace bR : Box3 V0 r (.string s) (.int .i64 A.p) (.int .i64 A.e) := by rw [hV0]; exact bR
   replace b0 : Box4 V0 w.heap.size (.bool false) (.slice none 0 0) (.slice none 0 0) (.slice none 0 0) := by rw [hV0]; exact b0.drew
   replace T : Turns (fun k => k = r ∨ w.heap.size ≤ k) w V0 := by rw [hV0]; exact T.drew
   obtain ⟨V1, g, cap, V3, V4, hcall3, x0, x1, x2, hrun5, x3, hst, N4, bR4, T4⟩ := N.read1 bR (by omega) (by omega) HS.out hl1
   have b04 := b0.turns T4 (by rintro (h | h | h) <;> omega)
   have T04 : Turns (fun k => k = r ∨ w.heap.size ≤ k) w V4 := T.trans (T4.mono fun k hk => by rcases hk with h | h | h <;> omega)
   obtain ⟨V5, hV5⟩ : ∃ V, V = V4.drew := ⟨_, rfl⟩
   replace N4 : NodeAt V5 (B + 1) B false (.slice (some ⟨g, 0, none⟩) (A.ks.length + 1) cap) (.slice none 0 0) u3 (A.ks ++ [rdS s A.p A.e]) [] A.cs := by rw [hV5]; exact N4.drew
   replace bR4 : Box3 V5 r (.string s) (.int .i64 (rdP s A.p A.e)) (.int .i64 (rdE s A.p A.e)) := by rw [hV5]; exact bR4
   replace b04 : Box4 V5 w.heap.size (.bool false) (.slice none 0 0) (.slice none 0 0) (.slice none 0 0) := by rw [hV5]; exact b04.drew
   replace T04 : Turns (fun k => k = r ∨ w.heap.size ≤ k) w V5 := by rw [hV5]; exact T04.drew
   obtain ⟨U1, g', cap', U3, U4, hcall3', y0, y1, y2, hrun5', y3, hst', N8, bR8, T8⟩ := N4.read3 bR4 (by omega) (by omega) HS.out hl2
   have b08 := b04.turns T8 (by rintro (h | h | h) <;> omega)
   have T08 : Turns (fun k => k = r ∨ w.heap.size ≤ k) w U4 := T04.trans (T8.mono fun k hk => by rcases hk with h | h | h <;> omega)
   have hfin : Hid (NodeAt U4 (B + 1) B false (.slice (some ⟨g, 0, none⟩) (A.ks.length + 1) cap) (.slice none 0 0) (.slice (some ⟨g', 0, none⟩) (A.cs.length + 1) cap') (rdInn s p e (j + 1)).ks [] (rdInn s p e (j + 1)).cs ∧ Box3 U4 r (.string s) (.int .i64 (rdInn s p e (j + 1)).p) (.int .i64 (rdInn s p e (j + 1)).e)) := by
    simp only [rdInn]
    rw [← HA.out]
    exact ⟨N8, bR8⟩
   have hfin2 : Hid (Box4 U4 w.heap.size (.bool false) (.slice none 0 0) (.slice none 0 0) (.slice none 0 0) ∧ Turns (fun k => k = r ∨ w.heap.size ≤ k) w U4) := ⟨b08, T08⟩
   have hst4 : Hid (V3.setCell ⟨B + 1, 1, none⟩ (.slice (some ⟨g, 0, none⟩) (A.ks.length + 1) cap) = V4) := hst
   have HV0 : Hid (V0 = wr.drew) := hV0
   have HV5 : Hid (V5 = V4.drew) := hV5
   have HT' : Hid (U3.setCell ⟨B + 1, 3, none⟩ (.slice (some ⟨g', 0, none⟩) (A.cs.length + 1) cap') = U4) := hst'
   obtain ⟨⟨q0, q1, q2, q3⟩, -⟩ := id x0
   obtain ⟨⟨q01, q11, q21, q31⟩, -⟩ := id x1
   obtain ⟨⟨q02, q12, q22, q32⟩, -⟩ := id x2
   obtain ⟨⟨q03, q13, q23, q33⟩, f0, f1, f2, f3⟩ := id x3
   generalize rdS s A.p A.e = key at *
   generalize rnR s (rdP s A.p A.e) (rdE s A.p A.e) 2 = kid at *
   clear N bR b0 T N4 bR4 b04 T04 N8 bR8 T8 b08 T08 T4 hst hst' hV0 hV5 x0 x1 x2 x3
   go_wp2
   refine region_worlds (by kernel_rfl) [3, 4, 5, 7] (pushV (B + 1) 1 r V1.heap.size g A.ks.length cap u1 (.string key)) (worlds5 V0 V1 (V1.alloc (.cells #[.string key] 9)) V3 V4) (by kernel_rfl) (by kernel_rfl) HV0.out.symm ?step 8 rfl ?done
   case step =>
    intro i o ho kk a2 hkk hmay hdf hsz hdep hsame
    match i, ho with
    | 0, ho =>
     cases ho
     have h5 := (hsame 5 rfl)
     exact val_op rfl (wanted_free rfl) (by clear hdep hsame hsz hdf; (try simp only [pushV, worlds5]); go_simp) rfl rfl
    | 1, ho =>
     cases ho
     have h13 := (hdep 0 _ 13 rfl rfl rfl)
     simp only [pushV] at h13
     match kk, hkk, hmay with
     | 0, _, hq => first | (cases hq; done) | (exact val_op rfl (wanted_free rfl) (by clear hdep hsame hsz hdf; (try simp only [pushV, worlds5]); go_simp) rfl rfl)
     | 1, _, hq => first | (cases hq; done) | (exact val_op rfl (wanted_free rfl) (by clear hdep hsame hsz hdf; (try simp only [pushV, worlds5]); go_simp) rfl rfl)
     | 2, _, hq => first | (cases hq; done) | (exact val_op rfl (wanted_free rfl) (by clear hdep hsame hsz hdf; (try simp only [pushV, worlds5]); go_simp) rfl rfl)
     | 3, _, hq => first | (cases hq; done) | (exact val_op rfl (wanted_free rfl) (by clear hdep hsame hsz hdf; (try simp only [pushV, worlds5]); go_simp) rfl rfl)
     | 4, _, hq => first | (cases hq; done) | (exact val_op rfl (wanted_free rfl) (by clear hdep hsame hsz hdf; (try simp only [pushV, worlds5]); go_simp) rfl rfl)
     | kk + 5, hkk, _ => simp at hkk
    | 2, ho =>
     cases ho
     have h0 := (hsame 0 rfl)
     exact val_op rfl (wanted_free rfl) (by clear hdep hsame hsz hdf; (try simp only [pushV, worlds5]); go_simp) rfl rfl
    | 3, ho =>
     cases ho
     have h15 := (hdep 2 _ 15 rfl rfl rfl)
     simp only [pushV] at h15
     match kk, hkk, hmay with
     | 0, _, _ => exact val_call rfl (wanted_free rfl) (by clear hdep hsame hsz hdf; (try simp only [worlds5]); go_simp) (hcall3.mono fun e w hh => ⟨hh.1, hh.2⟩)
     | 1, _, hq => cases hq
     | 2, _, hq => cases hq
     | 3, _, hq => cases hq
     | 4, _, hq => cases hq
     | kk + 5, hkk, _ => simp at hkk
    | 4, ho =>
     cases ho
     have h16 := (hdep 3 _ 16 rfl rfl rfl)
     simp only [pushV] at h16
     match kk, hkk, hmay with
     | 0, _, hq => cases hq
     | 1, _, _ => exact val_op rfl (wanted_free rfl) (by clear hdep hsame hsz hdf; (try simp only [pushV, worlds5]); go_simp) rfl rfl
     | 2, _, hq => cases hq
     | 3, _, hq => cases hq
     | 4, _, hq => cases hq
     | kk + 5, hkk, _ => simp at hkk
    | 5, ho =>
     cases ho
     have h14 := eval_tmp (hdep 1 _ 14 rfl rfl rfl)
     have h17 := eval_tmp (hdep 4 _ 17 rfl rfl rfl)
     simp only [pushV] at h14 h17
     match kk, hkk, hmay with
     | 0, _, hq => cases hq
     | 1, _, hq => cases hq
     | 2, _, _ => exact val_append rfl (wanted_free rfl) rfl h14 h17 hrun5 rfl rfl
     | 3, _, hq => cases hq
     | 4, _, hq => cases hq
     | kk + 5, hkk, _ => simp at hkk
    | 6, ho =>
     cases ho
     have h5 := (hsame 5 rfl)
     exact val_op rfl (wanted_free rfl) (by clear hdep hsame hsz hdf; (try simp only [pushV, worlds5]); go_simp) rfl rfl
    | 7, ho =>
     cases ho
     have h19 := (hdep 6 _ 19 rfl rfl rfl)
     have h18 := (hdep 5 _ 18 rfl rfl rfl)
     simp only [pushV] at h19 h18
     match kk, hkk, hmay with
     | 0, _, hq => cases hq
     | 1, _, hq => cases hq
     | 2, _, hq => cases hq
     | 3, _, _ => exact val_skip rfl (wanted_free rfl) rfl (by clear hdep hsame hsz hdf; simp only [worlds5]; go_simp; try exact hst4.out) rfl
     | 4, _, hq => cases hq
     | kk + 5, hkk, _ => simp at hkk
    | kk + 8, ho => simp at ho
   case done =>
    simp [filledN, pushV, worlds5]
    clear q0 q1 q2 q3 q01 q11 q21 q31 q02 q12 q22 q32 q03 q13 q23 q33 f0 f1 f2 f3 hcall3 hrun5 hst4 HV0
    have hcall3 := hcall3'
    have hrun5 := hrun5'
    have hst4 := HT'
    obtain ⟨⟨q0, q1, q2, q3⟩, -⟩ := id y0
    obtain ⟨⟨q01, q11, q21, q31⟩, -⟩ := id y1
    obtain ⟨⟨q02, q12, q22, q32⟩, -⟩ := id y2
    obtain ⟨⟨q03, q13, q23, q33⟩, f0, f1, f2, f3⟩ := id y3
    clear hcall3' hrun5' HT' y0 y1 y2 y3
    go_wp2
    refine region_worlds (by kernel_rfl) [3, 4, 5, 7] (pushV (B + 1) 3 r U1.heap.size g' A.cs.length cap' u3 (.int .i64 kid)) (worlds5 V5 U1 (U1.alloc (.cells #[.int .i64 kid] 3)) U3 U4) (by kernel_rfl) (by kernel_rfl) HV5.out.symm ?step2 8 rfl ?done2
    case step2 =>
     intro i o ho kk a2 hkk hmay hdf hsz hdep hsame
     match i, ho with
     | 0, ho =>
      cases ho
      have h5 := (hsame 5 rfl)
      exact val_op rfl (wanted_free rfl) (by clear hdep hsame hsz hdf; (try simp only [pushV, worlds5]); go_simp) rfl rfl
     | 1, ho =>
      cases ho
      have h20 := (hdep 0 _ 20 rfl rfl rfl)
      simp only [pushV] at h20
      match kk, hkk, hmay with
      | 0, _, hq => first | (cases hq; done) | (exact val_op rfl (wanted_free rfl) (by clear hdep hsame hsz hdf; (try simp only [pushV, worlds5]); go_simp) rfl rfl)
      | 1, _, hq => first | (cases hq; done) | (exact val_op rfl (wanted_free rfl) (by clear hdep hsame hsz hdf; (try simp only [pushV, worlds5]); go_simp) rfl rfl)
      | 2, _, hq => first | (cases hq; done) | (exact val_op rfl (wanted_free rfl) (by clear hdep hsame hsz hdf; (try simp only [pushV, worlds5]); go_simp) rfl rfl)
      | 3, _, hq => first | (cases hq; done) | (exact val_op rfl (wanted_free rfl) (by clear hdep hsame hsz hdf; (try simp only [pushV, worlds5]); go_simp) rfl rfl)
      | 4, _, hq => first | (cases hq; done) | (exact val_op rfl (wanted_free rfl) (by clear hdep hsame hsz hdf; (try simp only [pushV, worlds5]); go_simp) rfl rfl)
      | kk + 5, hkk, _ => simp at hkk
     | 2, ho =>
      cases ho
      have h0 := (hsame 0 rfl)
      exact val_op rfl (wanted_free rfl) (by clear hdep hsame hsz hdf; (try simp only [pushV, worlds5]); go_simp) rfl rfl
     | 3, ho =>
      cases ho
      have h22 := (hdep 2 _ 22 rfl rfl rfl)
      simp only [pushV] at h22
      match kk, hkk, hmay with
      | 0, _, _ => exact val_call rfl (wanted_free rfl) (by clear hdep hsame hsz hdf; (try simp only [worlds5]); go_simp) (hcall3.mono fun e w hh => ⟨hh.1, hh.2⟩)
      | 1, _, hq => cases hq
      | 2, _, hq => cases hq
      | 3, _, hq => cases hq
      | 4, _, hq => cases hq
      | kk + 5, hkk, _ => simp at hkk
     | 4, ho =>
      cases ho
      have h23 := (hdep 3 _ 23 rfl rfl rfl)
      simp only [pushV] at h23
      match kk, hkk, hmay with
      | 0, _, hq => cases hq
      | 1, _, _ => exact val_op rfl (wanted_free rfl) (by clear hdep hsame hsz hdf; (try simp only [pushV, worlds5]); go_simp) rfl rfl
      | 2, _, hq => cases hq
      | 3, _, hq => cases hq
      | 4, _, hq => cases hq
      | kk + 5, hkk, _ => simp at hkk
     | 5, ho =>
      cases ho
      have h21 := eval_tmp (hdep 1 _ 21 rfl rfl rfl)
      have h24 := eval_tmp (hdep 4 _ 24 rfl rfl rfl)
      simp only [pushV] at h21 h24
      match kk, hkk, hmay with
      | 0, _, hq => cases hq
      | 1, _, hq => cases hq
      | 2, _, _ => exact val_append rfl (wanted_free rfl) rfl h21 h24 hrun5 rfl rfl
      | 3, _, hq => cases hq
      | 4, _, hq => cases hq
      | kk + 5, hkk, _ => simp at hkk
     | 6, ho =>
      cases ho
      have h5 := (hsame 5 rfl)
      exact val_op rfl (wanted_free rfl) (by clear hdep hsame hsz hdf; (try simp only [pushV, worlds5]); go_simp) rfl rfl
     | 7, ho =>
      cases ho
      have h26 := (hdep 6 _ 26 rfl rfl rfl)
      have h25 := (hdep 5 _ 25 rfl rfl rfl)
      simp only [pushV] at h26 h25
      match kk, hkk, hmay with
      | 0, _, hq => cases hq
      | 1, _, hq => cases hq
      | 2, _, hq => cases hq
      | 3, _, _ => exact val_skip rfl (wanted_free rfl) rfl (by clear hdep hsame hsz hdf; simp only [worlds5]; go_simp; try exact hst4.out) rfl
      | 4, _, hq => cases hq
      | kk + 5, hkk, _ => simp at hkk
     | kk + 8, ho => simp at ho
    case done2 =>
     simp [filledN, pushV, worlds5]
     clear q0 q1 q2 q3 q01 q11 q21 q31 q02 q12 q22 q32 q03 q13 q23 q33 f0 f1 f2 f3 hcall3 hrun5 hst4 HV5
     go_wp2
     go_roundw
     case rel => exact ⟨j + 1, _, _, by omega, by go_num, hfin.out.1, hfin.out.2, hfin2.out.1, hfin2.out.2⟩
     case measure => simp [intOf]; omega
  ·
   obtain rfl : j = c := by omega
   have z1 := rdInn_size s p e j
   rw [← HA.out] at z1
   obtain ⟨a, d, a', d', a'', d'', rfl, e2, rfl, i1, i2, i3, -, -, -⟩ := N.rows (fun x hx => Nat.le_trans (z1 x hx) HS.out) (fun x hx => by cases hx)
   have NH : Hid (NodeAt wr (B + 1) B false (.slice a A.ks.length d) (.slice none 0 0) (.slice a'' A.cs.length d'') A.ks [] A.cs) := N
   have BH : Hid (Box3 wr r (.string s) (.int .i64 A.p) (.int .i64 A.e)) := bR
   have TH : Hid (Turns (fun k => k = r ∨ w.heap.size ≤ k) w wr) := T
   have Z1 : Hid (∀ x ∈ A.ks, x.size ≤ maxLen) := fun x hx => Nat.le_trans (z1 x hx) HS.out
   obtain ⟨⟨q0, q1, q2, q3⟩, -⟩ := N.box
   obtain ⟨⟨r0, r1, r2, r3⟩, g0, g1, g2, g3⟩ := id b0
   clear N bR T z1 i1 i2 i3 e2
   go_wp2
   have N4 : NodeAt ((((wr.setCell ⟨w.heap.size, 0, none⟩ (.bool false)).setCell ⟨w.heap.size, 1, none⟩ (.slice a A.ks.length d)).setCell ⟨w.heap.size, 2, none⟩ (.slice none 0 0)).setCell ⟨w.heap.size, 3, none⟩ (.slice a'' A.cs.length d'')) (B + 1) B false (.slice a A.ks.length d) (.slice none 0 0) (.slice a'' A.cs.length d'') A.ks [] A.cs :=
    (((NH.out.other (by omega) (by omega) 0 _).other (by omega) (by omega) 1 _).other (by omega) (by omega) 2 _).other (by omega) (by omega) 3 _
   have T4 : Turns (fun k => k = w.heap.size) wr ((((wr.setCell ⟨w.heap.size, 0, none⟩ (.bool false)).setCell ⟨w.heap.size, 1, none⟩ (.slice a A.ks.length d)).setCell ⟨w.heap.size, 2, none⟩ (.slice none 0 0)).setCell ⟨w.heap.size, 3, none⟩ (.slice a'' A.cs.length d'')) := turns_put4 wr w.heap.size _ _ _ _
   obtain ⟨b, k, b', k', b'', k'', e1, e2, e3, i1, i2, i3, j1, j2, j3⟩ := N4.rows Z1.out (fun x hx => by cases hx)
   cases e1
   cases e3
   have l1 := L1.out
   have l2 := L2.out
   refine bodyPost_ret (v := .agg #[.bool false, .slice a j d, .slice none 0 0, .slice a'' (j + 1) d'']) (by simp [results, Try.results64, go_sem, r0, r1, r2, r3, l1, l2]) rfl ⟨a, d, a'', d'', rfl, by rw [← HA.out]; exact i1, by rw [← HA.out]; exact i3, j1.mono (by omega), j3.mono (by omega), by rw [← HA.out]; exact BH.out.turns T4 (by omega), ?_⟩
   exact (TH.out.trans (T4.mono fun k hk => .inr (by omega))).mono' fun k hk hh => by rcases hh with h | h <;> omega
end Go.Proofs.Ytpepgpjiddophaa
namespace Go.Proofs.Ytpepgpjiddophaa
open Go.RowKit Plain
set_option linter.unusedVariables false
def keysTo (ks : List ByteArray) (j : Nat) : Prop :=
 (∀ i x, i < j → ks[i]? = some x → 1 ≤ x.size ∧ x.size ≤ 32) ∧ ∀ i x y, i + 1 < j → ks[i]? = some x → ks[i + 1]? = some y → ltB x y = true
theorem keysTo_zero (ks : List ByteArray) : keysTo ks 0 := ⟨fun i x h => by omega, fun i x y h => by omega⟩
theorem keysTo_first {ks : List ByteArray} {x : ByteArray} (hx : ks[0]? = some x) (h1 : 1 ≤ x.size) (h2 : x.size ≤ 32) : keysTo ks 1 := by
 refine ⟨fun i y hi hy => ?_, fun i y z h => by omega⟩
 obtain rfl : i = 0 := by omega
 rw [hx] at hy; cases hy; exact ⟨h1, h2⟩
theorem keysTo_next {ks : List ByteArray} {j : Nat} {p x : ByteArray} (h : keysTo ks (j + 1)) (hp : ks[j]? = some p) (hx : ks[j + 1]? = some x) (h1 : 1 ≤ x.size) (h2 : x.size ≤ 32) (h3 : ltB p x = true) : keysTo ks (j + 2) := by
 refine ⟨fun i y hi hy => ?_, fun i y z hi hy hz => ?_⟩
 ·
  by_cases e : i = j + 1
  ·
   subst e; rw [hx] at hy; cases hy; exact ⟨h1, h2⟩
  ·
   exact h.1 i y (by omega) hy
 ·
  by_cases e : i = j
  ·
   subst e; rw [hp] at hy; rw [hx] at hz; cases hy; cases hz; exact h3
  ·
   exact h.2 i y z (by omega) hy hz
def allTo {α : Type} (f : α → Prop) (vs : List α) (j : Nat) : Prop := ∀ i x, i < j → vs[i]? = some x → f x
theorem allTo_next {α : Type} {f : α → Prop} {vs : List α} {j : Nat} {x : α} (h : allTo f vs j) (hx : vs[j]? = some x) (hf : f x) : allTo f vs (j + 1) := by
 intro i y hi hy
 by_cases e : i = j
 ·
  subst e; rw [hx] at hy; cases hy; exact hf
 ·
  exact h i y (by omega) hy
end Go.Proofs.Ytpepgpjiddophaa
