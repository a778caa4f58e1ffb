/-
  Texts laid together: Plain PlainB PlainC PlainE NodePlain LookPlain LookOrder LookFacts NodeCut LookSearch LookWay BitsPlain AllocPlain CheckPlain Core NodeMem Turns Put Mem NodeBuild LookMem Anylast Anychain LookWithin LookTree PlainD SumPlain Shelf Text SumOf SumRef.
-/
import Derived.WalkKit
import Derived.Laws.BitsLemmas
import Derived.Lib.Join
import Derived.Lib.Repeat
import Derived.Lib.Strings
import Derived.Test.YtpepgpjiddophaaRows
import Derived.WalkSpells
import Derived.WalkLawsBesides
import Derived.Handy
import Derived.Deep.OwnRows
import Derived.Deep.AppendLies
import Derived.Lib.SmallJoins
import Derived.Lib.SliceRun
import Derived.Orders
import Derived.Below
import Derived.Lib.AppendZeros
import Derived.Laws.BitsAllLaws
import Derived.Shelf.Strings.Builder1
import Derived.Shelf.Strings.Builder2
import Derived.Shelf.Strings.OnBuilder
import Derived.Shelf.Strings.BuilderF
import Derived.Shelf.Strings.Prefix
import Derived.Shelf.Bits.Mul64
import Derived.Shelf.Strings.Repeat
import Derived.Test.YtpepgpjiddophaaProg
namespace Go.Proofs.Ytpepgpjiddophaa.Plain
open Go.RowKit
def byteOf (n : Int) (i : Nat) : UInt8 := UInt8.ofNat (n / 2 ^ (8 * i) % 256).toNat
def putL (n : Int) : Nat → List UInt8
 | 0 => []
 | i + 1 => byteOf n i :: putL n i
def cellOf (b : UInt8) : Value := .int .u8 (b.toNat : Int)
theorem pow_succ8 (k : Nat) : (2 : Int) ^ (8 * (k + 1)) = 2 ^ (8 * k) * 256 := by
 rw [Nat.mul_add, Int.pow_add]; rfl
def pw (i : Nat) : Int := 2 ^ (8 * i)
theorem pw_succ (i : Nat) : pw (i + 1) = pw i * 256 := pow_succ8 i
theorem pw_le (i : Nat) (h : i ≤ 6) : pw i ≤ 281474976710656 := by
 match i, h with
 | 0, _ => decide
 | 1, _ => decide
 | 2, _ => decide
 | 3, _ => decide
 | 4, _ => decide
 | 5, _ => decide
 | 6, _ => decide
def getV (s : ByteArray) (p : Nat) : Nat → Int
 | 0 => 0
 | i + 1 => getV s p i * 256 + ((s.data.toList[p + i]?.getD 0).toNat : Int)
theorem getV_bd (s : ByteArray) (p i : Nat) : 0 ≤ getV s p i ∧ getV s p i < pw i := by
 induction i with
 | zero => exact ⟨Int.le_refl _, by show (0 : Int) < 1; decide⟩
 | succ i ih =>
  have hb : (s.data.toList[p + i]?.getD 0).toNat < 256 := UInt8.toNat_lt _
  rw [getV, pw_succ]
  omega
theorem byte_get (s : ByteArray) (j : Nat) (h : j < s.size) : s.data.toList[j]?.getD 0 = s[j] := by
 rw [List.getElem?_eq_getElem (by simpa using h)]
 rfl
theorem getV_succ (s : ByteArray) (p i : Nat) (h : p + i < s.size) : getV s p (i + 1) = getV s p i * 256 + (s[p + i].toNat : Int) := by
 rw [getV, byte_get s _ h]
theorem i64_in (n : Int) (h0 : 0 ≤ n) (h1 : n < 2 ^ 63) : IntKind.i64.wrap n = n := by
 rw [IntKind.wrap_i64]; omega
theorem or_byte (x : Int) (b : UInt8) (h0 : 0 ≤ x) (h1 : x ≤ 281474976710656) : bits .or .i64 (x * 256) (wrap64 (b.toNat : Int)) = x * 256 + (b.toNat : Int) := by
 have hb : b.toNat < 256 := UInt8.toNat_lt b
 have e : wrap64 (b.toNat : Int) = (b.toNat : Int) := by unfold wrap64; omega
 rw [e]
 exact bits_join .i64 63 (by decide) i64_in 8 (x * 256) (b.toNat : Int) (by omega) (by omega) (by omega) (by omega) (by omega) (by omega)
def getE (s : ByteArray) (p k : Int) : Int := if 1 ≤ k ∧ k ≤ 6 ∧ 0 ≤ p ∧ p ≤ s.size then (if (s.size : Int) - p < k then 3 else 0) else 1
def getR (s : ByteArray) (p k : Int) : Int := if getE s p k = 0 then getV s p.toNat k.toNat else 0
def getT (s : ByteArray) (p k : Int) : Int := if getE s p k = 0 then p + k else 0
theorem getE_ok {s : ByteArray} {p k : Int} (h : getE s p k = 0) : 1 ≤ k ∧ k ≤ 6 ∧ 0 ≤ p ∧ p + k ≤ s.size := by
 unfold getE at h
 by_cases h1 : 1 ≤ k ∧ k ≤ 6 ∧ 0 ≤ p ∧ p ≤ s.size
 ·
  rw [if_pos h1] at h
  by_cases h2 : (s.size : Int) - p < k
  ·
   rw [if_pos h2] at h; omega
  ·
   omega
 ·
  rw [if_neg h1] at h; omega
theorem getE_zero {s : ByteArray} {p k : Int} (h : 1 ≤ k ∧ k ≤ 6 ∧ 0 ≤ p ∧ p + k ≤ s.size) : getE s p k = 0 := by
 unfold getE
 rw [if_pos ⟨h.1, h.2.1, h.2.2.1, by omega⟩, if_neg (by omega)]
def cutE (s : ByteArray) (p : Int) : Int := if getE s p 2 = 0 then (if (s.size : Int) - (p + 2) < getV s p.toNat 2 then 3 else 0) else getE s p 2
def cutS (s : ByteArray) (p : Int) : ByteArray := if cutE s p = 0 then s.extract (p + 2).toNat (p + 2 + getV s p.toNat 2).toNat else ⟨#[]⟩
def cutT (s : ByteArray) (p : Int) : Int := if cutE s p = 0 then p + 2 + getV s p.toNat 2 else 0
def cat (ls : List ByteArray) : ByteArray := ⟨(ls.map (·.data.toList)).flatten.toArray⟩
theorem join_flat (ls : List (List UInt8)) : Lib.join ls [] = ls.flatten := by
 cases ls with
 | nil => rfl
 | cons x r =>
  rw [Lib.join_cons, Lib.joinTail]
  simp
theorem repeat_flat (c : Nat) : Lib.repeatL [0] c = List.replicate c 0 := by
 induction c with
 | zero => rfl
 | succ c ih => rw [Lib.repeatL, ih, List.replicate_succ]; rfl
theorem bytes_ext {a b : ByteArray} (h : a.data.toList = b.data.toList) : a = b := by
 cases a; cases b
 simp at h
 simp [h]
theorem size_mk (l : List UInt8) : (⟨l.toArray⟩ : ByteArray).size = l.length := rfl
theorem size_list (a : ByteArray) : a.data.toList.length = a.size := rfl
theorem data_append (a b : ByteArray) : (a ++ b).data.toList = a.data.toList ++ b.data.toList := by
 simp [ByteArray.data_append]
theorem cat_two (a b : ByteArray) : cat [a, b] = a ++ b := by
 apply bytes_ext
 rw [data_append]
 simp [cat]
theorem cat_size (ls : List ByteArray) : (cat ls).size = (ls.map (·.size)).sum := by
 unfold cat
 rw [size_mk, List.length_flatten, List.map_map]
 rfl
theorem cat_append (xs ys : List ByteArray) : cat (xs ++ ys) = cat xs ++ cat ys := by
 apply bytes_ext
 rw [data_append]
 simp [cat]
theorem cat_one (x : ByteArray) : cat [x] = x := by
 apply bytes_ext
 simp [cat]
def zeros (k : Nat) : ByteArray := ⟨(List.replicate k 0).toArray⟩
theorem zeros_size (k : Nat) : (zeros k).size = k := by
 show (List.replicate k (0 : UInt8)).length = k
 simp
def padE (s : ByteArray) (k : Int) : Int := if 0 ≤ k ∧ k ≤ 4096 then (if (s.size : Int) ≤ k then 0 else 2) else 1
def padS (s : ByteArray) (k : Int) : ByteArray := if padE s k = 0 then s ++ zeros (k.toNat - s.size) else ⟨#[]⟩
def trimN (s : ByteArray) : Nat → Nat
 | 0 => 0
 | k + 1 => if s.data.toList[k]?.getD 0 = 0 then trimN s k else k + 1
def trimS (s : ByteArray) : ByteArray := s.extract 0 (trimN s s.size)
theorem trimN_down (s : ByteArray) (k : Nat) (h : k < s.size) (hz : s[k] = 0) : trimN s (k + 1) = trimN s k := by
 rw [trimN, byte_get s k h, if_pos hz]
theorem trimN_stay (s : ByteArray) (k : Nat) (h : k < s.size) (hz : ¬ s[k] = 0) : trimN s (k + 1) = k + 1 := by
 rw [trimN, byte_get s k h, if_neg hz]
theorem trimS_none (s : ByteArray) (h : trimN s s.size = trimN s 0) : trimS s = ByteArray.empty := by
 rw [trimS, h, trimN]
 apply bytes_ext
 simp
theorem zeros_cells (d : Nat) : ((List.replicate d (0 : UInt8)).map cellOf).toArray = madeCells #[.int .u8 0] d := by
 apply Array.toList_inj.1
 rw [toList_madeCells_one]
 simp [cellOf]
theorem extract_data' (s : ByteArray) (i j : Nat) : (s.extract i j).data.toList = (s.data.toList.drop i).take (j - i) := Lib.extract_data s i j
theorem extract_size' (s : ByteArray) (i j : Nat) (h : i ≤ j) (hj : j ≤ s.size) : (s.extract i j).size = j - i := by
 rw [ByteArray.size_extract]; omega
theorem getV_congr (s t : ByteArray) (p q k : Nat) (h : ∀ i, i < k → s.data.toList[p + i]? = t.data.toList[q + i]?) : getV s p k = getV t q k := by
 induction k with
 | zero => rfl
 | succ k ih => rw [getV, getV, ih (fun i hi => h i (by omega)), h k (by omega)]
theorem getV_front (s : ByteArray) (n p k : Nat) (h : p + k ≤ n) : getV (s.extract 0 n) p k = getV s p k := by
 apply getV_congr
 intro i hi
 rw [extract_data', List.drop_zero, Nat.sub_zero, List.getElem?_take_of_lt (by omega)]
end Go.Proofs.Ytpepgpjiddophaa.Plain
namespace Go.Proofs.Ytpepgpjiddophaa.Plain
open Go.RowKit
set_option linter.unusedVariables false
theorem bl_irrefl (x : List UInt8) : Op.bytesLess x x = false := by
 induction x with
 | nil => rfl
 | cons a x ih => simp [Op.bytesLess, ih]
theorem bl_total {x y : List UInt8} (h1 : Op.bytesLess x y = false) (h2 : Op.bytesLess y x = false) : x = y := by
 induction x generalizing y with
 | nil =>
  cases y with
  | nil => rfl
  | cons b y => simp [Op.bytesLess] at h1
 | cons a x ih =>
  cases y with
  | nil => simp [Op.bytesLess] at h2
  | cons b y =>
   simp only [Op.bytesLess, Bool.or_eq_false_iff, Bool.and_eq_false_iff, decide_eq_false_iff_not, beq_eq_false_iff_ne] at h1 h2
   have hab : a = b := by
    apply UInt8.toNat_inj.1
    have g1 := h1.1
    have g2 := h2.1
    rw [UInt8.lt_iff_toNat_lt] at g1 g2
    omega
   subst hab
   rcases h1.2 with h | h
   ·
    exact absurd rfl h
   ·
    rcases h2.2 with g | g
    ·
     exact absurd rfl g
    ·
     rw [ih h g]
theorem bl_trans {x y z : List UInt8} (h1 : Op.bytesLess x y = true) (h2 : Op.bytesLess y z = true) : Op.bytesLess x z = true := by
 induction x generalizing y z with
 | nil =>
  cases z with
  | nil => cases y <;> simp [Op.bytesLess] at h2
  | cons c z => rfl
 | cons a x ih =>
  cases y with
  | nil => simp [Op.bytesLess] at h1
  | cons b y =>
   cases z with
   | nil => simp [Op.bytesLess] at h2
   | cons c z =>
    simp only [Op.bytesLess, Bool.or_eq_true, Bool.and_eq_true, decide_eq_true_eq, beq_iff_eq] at h1 h2 ⊢
    rcases h1 with h1 | ⟨rfl, h1⟩
    ·
     rcases h2 with h2 | ⟨rfl, h2⟩
     ·
      left
      rw [UInt8.lt_iff_toNat_lt] at *
      omega
     ·
      exact .inl h1
    ·
     rcases h2 with h2 | ⟨rfl, h2⟩
     ·
      exact .inl h2
     ·
      exact .inr ⟨rfl, ih h1 h2⟩
theorem toList_inj {a b : ByteArray} (h : a.toList = b.toList) : a = b := by
 apply bytes_ext
 rw [← ByteArray.toList_eq, ← ByteArray.toList_eq]; exact h
def ltB (a b : ByteArray) : Bool := Op.bytesLess a.toList b.toList
theorem ltB_irrefl (a : ByteArray) : ltB a a = false := bl_irrefl _
theorem ltB_trans {a b c : ByteArray} (h1 : ltB a b = true) (h2 : ltB b c = true) : ltB a c = true := bl_trans h1 h2
theorem ltB_total {a b : ByteArray} (h1 : ltB a b = false) (h2 : ltB b a = false) : a = b := toList_inj (bl_total h1 h2)
theorem ltB_asymm {a b : ByteArray} (h : ltB a b = true) : ltB b a = false := by
 cases hb : ltB b a with
 | false => rfl
 | true => have := ltB_trans h hb; rw [ltB_irrefl] at this; cases this
theorem ltB_le {a b c : ByteArray} (h1 : ltB a b = true) (h2 : ltB c b = false) : ltB a c = true := by
 cases hc : ltB a c with
 | true => rfl
 | false =>
  cases hd : ltB c a with
  | true => rw [ltB_trans hd h1] at h2; cases h2
  | false =>
   rw [ltB_total hc hd] at h1
   rw [h1] at h2; cases h2
def headUp (x : ByteArray) : List ByteArray → Bool
 | [] => true
 | y :: _ => ltB x y
def risingK : List ByteArray → Bool
 | [] => true
 | x :: r => headUp x r && risingK r
theorem rising_pair {ks : List ByteArray} (h : risingK ks = true) : ks.Pairwise fun x y => ltB x y = true := by
 induction ks with
 | nil => exact .nil
 | cons x r ih =>
  rw [risingK, Bool.and_eq_true] at h
  have hr := ih h.2
  refine .cons ?_ hr
  cases r with
  | nil => intro y hy; cases hy
  | cons z r =>
   intro y hy
   rcases List.mem_cons.1 hy with rfl | hy
   ·
    exact h.1
   ·
    exact ltB_trans h.1 ((List.pairwise_cons.1 hr).1 y hy)
theorem rising_of {ks : List ByteArray} (h : ks.Pairwise fun x y => ltB x y = true) : risingK ks = true := by
 induction ks with
 | nil => rfl
 | cons x r ih =>
  rw [List.pairwise_cons] at h
  rw [risingK, Bool.and_eq_true]
  refine ⟨?_, ih h.2⟩
  cases r with
  | nil => rfl
  | cons z r => exact h.1 z (by simp)
theorem rising_iff {ks : List ByteArray} : risingK ks = true ↔ ∀ (i j : Nat) (x y : ByteArray), i < j → ks[i]? = some x → ks[j]? = some y → ltB x y = true := by
 constructor
 ·
  intro h i j x y hij hx hy
  have hp := rising_pair h
  rw [List.pairwise_iff_getElem] at hp
  obtain ⟨h1, e1⟩ := List.getElem?_eq_some_iff.1 hx
  obtain ⟨h2, e2⟩ := List.getElem?_eq_some_iff.1 hy
  rw [← e1, ← e2]
  exact hp i j h1 h2 hij
 ·
  intro h
  apply rising_of
  rw [List.pairwise_iff_getElem]
  intro i j h1 h2 hij
  exact h i j _ _ hij (List.getElem?_eq_getElem h1) (List.getElem?_eq_getElem h2)
theorem rising_next {ks : List ByteArray} : risingK ks = true ↔ ∀ (i : Nat) (x y : ByteArray), ks[i]? = some x → ks[i + 1]? = some y → ltB x y = true := by
 constructor
 ·
  intro h i x y hx hy
  exact rising_iff.1 h i (i + 1) x y (by omega) hx hy
 ·
  intro h
  induction ks with
  | nil => rfl
  | cons x r ih =>
   rw [risingK, Bool.and_eq_true]
   refine ⟨?_, ih fun i a b ha hb => h (i + 1) a b (by simpa using ha) (by simpa using hb)⟩
   cases r with
   | nil => rfl
   | cons z r => exact h 0 x z rfl rfl
def keyOk (k : ByteArray) : Bool := decide (1 ≤ k.size) && decide (k.size ≤ 32)
def valOk (v : ByteArray) : Bool := decide (v.size ≤ 200)
def kidOk (c : Int) : Bool := decide (10 ≤ c) && decide (c ≤ 2047)
def shapeN (l : Bool) (k v c : Nat) : Bool := if l = true then decide (v = k) && decide (c = 0) else decide (v = 0) && decide (1 ≤ k) && decide (c = k + 1)
def standsN (l : Bool) (ks vs : List ByteArray) (cs : List Int) : Bool :=
 decide (ks.length ≤ 9) && ks.all keyOk && risingK ks && vs.all valOk && cs.all kidOk && shapeN l ks.length vs.length cs.length
def rightN (l : Bool) (ks vs : List ByteArray) (cs : List Int) (root : Bool) : Bool := standsN l ks vs cs && decide (ks.length ≤ 8) && (root || decide (4 ≤ ks.length))
theorem standsN_iff {l : Bool} {ks vs : List ByteArray} {cs : List Int} : standsN l ks vs cs = true ↔
  ks.length ≤ 9 ∧ (∀ k ∈ ks, 1 ≤ k.size ∧ k.size ≤ 32) ∧ risingK ks = true ∧ (∀ v ∈ vs, v.size ≤ 200) ∧ (∀ c ∈ cs, 10 ≤ c ∧ c ≤ 2047) ∧ shapeN l ks.length vs.length cs.length = true := by
 unfold standsN keyOk valOk kidOk
 simp only [Bool.and_eq_true, List.all_eq_true, decide_eq_true_eq]
 constructor
 ·
  rintro ⟨⟨⟨⟨⟨h1, h2⟩, h3⟩, h4⟩, h5⟩, h6⟩; exact ⟨h1, h2, h3, h4, h5, h6⟩
 ·
  rintro ⟨h1, h2, h3, h4, h5, h6⟩; exact ⟨⟨⟨⟨⟨h1, h2⟩, h3⟩, h4⟩, h5⟩, h6⟩
theorem shape_leaf {k v c : Nat} : shapeN true k v c = true ↔ v = k ∧ c = 0 := by unfold shapeN; simp
theorem shape_inner {k v c : Nat} : shapeN false k v c = true ↔ v = 0 ∧ 1 ≤ k ∧ c = k + 1 := by unfold shapeN; simp [and_assoc]
theorem rightN_iff {l : Bool} {ks vs : List ByteArray} {cs : List Int} {root : Bool} : rightN l ks vs cs root = true ↔ standsN l ks vs cs = true ∧ ks.length ≤ 8 ∧ (root = true ∨ 4 ≤ ks.length) := by
 unfold rightN
 simp only [Bool.and_eq_true, Bool.or_eq_true, decide_eq_true_eq, and_assoc]
abbrev NodeS := Bool × List ByteArray × List ByteArray × List Int
structure TreeS where
 pairs : List (ByteArray × ByteArray)
 blocks : List Int
 height : Int
 bad : Bool
def TreeS.none : TreeS := ⟨[], [], 0, false⟩
def TreeS.spoil (t : TreeS) : TreeS := ⟨t.pairs, t.blocks, t.height, true⟩
def withinS (key low high : ByteArray) : Bool := !ltB key low && (decide (high.size = 0) || ltB key high)
def kidFrom (low : ByteArray) (ks : List ByteArray) (i : Nat) : ByteArray := if i = 0 then low else ks.getD (i - 1) ⟨#[]⟩
def kidTo (high : ByteArray) (ks : List ByteArray) (i : Nat) : ByteArray := if i < ks.length then ks.getD i ⟨#[]⟩ else high
def kidsT (low high : ByteArray) (ks : List ByteArray) (cs : List Int) : List (Int × ByteArray × ByteArray) := cs.mapIdx fun i b => (b, kidFrom low ks i, kidTo high ks i)
def TreeS.node (t : TreeS) (block : Int) (low high : ByteArray) (n : NodeS) : TreeS :=
 ⟨if n.1 then t.pairs ++ n.2.1.zip n.2.2.1 else t.pairs, t.blocks ++ [block], t.height, n.2.1.any fun k => !withinS k low high⟩
def TreeS.leaf (t : TreeS) (deep : Int) : TreeS := ⟨t.pairs, t.blocks, deep, t.bad || (decide (t.height ≠ 0) && decide (t.height ≠ deep))⟩
def belowS (H : Int → Bool → Option NodeS) : Nat → TreeS → Int → ByteArray → ByteArray → TreeS
 | 0, t, _, _, _ => t.spoil
 | k + 1, t, block, low, high =>
  if t.blocks.contains block || t.bad then t.spoil
  else match H block (decide (k = 7)) with
   | Option.none => t.spoil
   | some n =>
    if n.1 && n.2.1.isEmpty then t.spoil
    else if n.1 then (t.node block low high n).leaf (8 - (k : Int))
    else (kidsT low high n.2.1 n.2.2.2).foldl (fun t x => if t.bad then t else belowS H k t x.1 x.2.1 x.2.2) (t.node block low high n)
theorem kidsT_length (low high : ByteArray) (ks : List ByteArray) (cs : List Int) : (kidsT low high ks cs).length = cs.length := by simp [kidsT]
theorem kidsT_get {low high : ByteArray} {ks : List ByteArray} {cs : List Int} {i : Nat} {b : Int} (h : cs[i]? = some b) : (kidsT low high ks cs)[i]? = some (b, kidFrom low ks i, kidTo high ks i) := by
 simp [kidsT, h]
def TreeS.more (t t' : TreeS) (m : Nat) : Prop := t'.blocks.length ≤ t.blocks.length + m ∧ t'.pairs.length ≤ t.pairs.length + 9 * m
theorem more_refl (t : TreeS) (m : Nat) : t.more t m := ⟨Nat.le_add_right _ _, Nat.le_add_right _ _⟩
theorem more_spoil (t : TreeS) (m : Nat) : t.more t.spoil m := ⟨Nat.le_add_right _ _, Nat.le_add_right _ _⟩
theorem TreeS.more.trans {t t' t'' : TreeS} {m m' : Nat} (h : t.more t' m) (h' : t'.more t'' m') : t.more t'' (m + m') := by
 obtain ⟨a, b⟩ := h
 obtain ⟨c, d⟩ := h'
 exact ⟨by omega, by omega⟩
theorem TreeS.more.mono {t t' : TreeS} {m m' : Nat} (h : t.more t' m) (hm : m ≤ m') : t.more t' m' := by
 obtain ⟨a, b⟩ := h
 exact ⟨by omega, by omega⟩
theorem more_node (t : TreeS) (block : Int) (low high : ByteArray) (n : NodeS) (h : n.2.1.length ≤ 9) : t.more (t.node block low high n) 1 := by
 refine ⟨by simp [TreeS.node], ?_⟩
 unfold TreeS.node
 cases n.1 with
 | true => simp only [if_true, List.length_append, List.length_zip]; omega
 | false => simp
theorem more_fold {F : TreeS → Int × ByteArray × ByteArray → TreeS} {m : Nat} (hF : ∀ (t : TreeS) x, t.more (F t x) m) : ∀ (l : List (Int × ByteArray × ByteArray)) (t : TreeS), t.more (l.foldl F t) (l.length * m)
 | [], t => more_refl t _
 | x :: l, t => by
  have := (hF t x).trans (more_fold hF l (F t x))
  refine this.mono ?_
  rw [List.length_cons, Nat.succ_mul]; omega
theorem more_below (H : Int → Bool → Option NodeS) (hH : ∀ b r n, H b r = some n → n.2.1.length ≤ 9 ∧ n.2.2.2.length ≤ 10) : ∀ (k : Nat) (t : TreeS) (block : Int) (low high : ByteArray), t.more (belowS H k t block low high) (2 * 10 ^ k - 1)
 | 0, t, block, low, high => more_spoil t _
 | k + 1, t, block, low, high => by
  unfold belowS
  split
  ·
   exact more_spoil t _
  ·
   split
   ·
    exact more_spoil t _
   ·
    rename_i n hn
    obtain ⟨h9, h10⟩ := hH _ _ _ hn
    have h1 := more_node t block low high n h9
    have hp : 0 < 10 ^ k := Nat.pow_pos (by decide)
    split
    ·
     exact more_spoil t _
    ·
     split
     ·
      exact TreeS.more.mono (m := 1) ⟨h1.1, h1.2⟩ (by rw [Nat.pow_succ]; omega)
     ·
      refine (h1.trans (more_fold (m := 2 * 10 ^ k - 1) (fun t x => ?_) _ _)).mono ?_
      ·
       split
       ·
        exact more_refl t _
       ·
        exact more_below H hH k t _ _ _
      ·
       rw [kidsT_length, Nat.pow_succ]
       have : n.2.2.2.length * (2 * 10 ^ k - 1) ≤ 10 * (2 * 10 ^ k - 1) := Nat.mul_le_mul_right _ h10
       omega
theorem kids_room {H : Int → Bool → Option NodeS} (hH : ∀ b r n, H b r = some n → n.2.1.length ≤ 9 ∧ n.2.2.2.length ≤ 10) {k j : Nat} {t : TreeS} {block : Int} {low high : ByteArray} {n : NodeS} (hn : n.2.1.length ≤ 9) (hj : j ≤ 9) (l : List (Int × ByteArray × ByteArray)) (hl : l.length = j) :
  (l.foldl (fun t x => if t.bad then t else belowS H k t x.1 x.2.1 x.2.2) (t.node block low high n)).blocks.length + 2 * 10 ^ k ≤ t.blocks.length + 2 * 10 ^ (k + 1) ∧
   (l.foldl (fun t x => if t.bad then t else belowS H k t x.1 x.2.1 x.2.2) (t.node block low high n)).pairs.length + 18 * 10 ^ k ≤ t.pairs.length + 18 * 10 ^ (k + 1) := by
 have hp : 0 < 10 ^ k := Nat.pow_pos (by decide)
 obtain ⟨h1, h2⟩ := (more_node t block low high n hn).trans (more_fold (m := 2 * 10 ^ k - 1) (F := fun t x => if t.bad then t else belowS H k t x.1 x.2.1 x.2.2) (fun t x => by
  show t.more (if t.bad then t else belowS H k t x.1 x.2.1 x.2.2) _
  split
  ·
   exact more_refl t _
  ·
   exact more_below H hH k t _ _ _) l (t.node block low high n))
 rw [hl] at h1 h2
 have h3 : j * (2 * 10 ^ k - 1) ≤ 9 * (2 * 10 ^ k - 1) := Nat.mul_le_mul_right _ hj
 rw [Nat.pow_succ]
 omega
theorem root_at (k : Nat) : decide (9 - ((k + 1 : Nat) : Int) = 1) = decide (k = 7) := decide_eq_decide.2 (by omega)
theorem belowS_spoil {H : Int → Bool → Option NodeS} {k : Nat} {t : TreeS} {block : Int} {low high : ByteArray}
  (h : (t.bad || t.blocks.contains block) = true ∨ H block (decide (9 - (k : Int) = 1)) = Option.none ∨ k = 0 ∨ ∃ n, H block (decide (9 - (k : Int) = 1)) = some n ∧ n.1 = true ∧ n.2.1 = []) : belowS H k t block low high = t.spoil := by
 cases k with
 | zero => rfl
 | succ k =>
  rw [root_at] at h
  unfold belowS
  split
  ·
   rfl
  ·
   rename_i hb
   rcases h with h | h | h | ⟨n, h, h1, h2⟩
   ·
    exact absurd (by rw [Bool.or_comm]; exact h) hb
   ·
    rw [h]
   ·
    omega
   ·
    rw [h]
    simp [h1, h2]
theorem belowS_leaf {H : Int → Bool → Option NodeS} {k : Nat} {t : TreeS} {block : Int} {low high : ByteArray} {n : NodeS} (hk : k ≠ 0)
  (hb : (t.bad || t.blocks.contains block) = false) (h : H block (decide (9 - (k : Int) = 1)) = some n) (h1 : n.1 = true) (h2 : n.2.1 ≠ []) : belowS H k t block low high = (t.node block low high n).leaf (9 - (k : Int)) := by
 cases k with
 | zero => exact absurd rfl hk
 | succ k =>
  rw [root_at] at h
  unfold belowS
  rw [if_neg (by rw [Bool.or_comm, hb]; decide), h]
  have h3 : n.2.1.isEmpty = false := by cases hh : n.2.1 with | nil => exact absurd hh h2 | cons _ _ => rfl
  simp only [h1, h3, Bool.and_false, Bool.false_eq_true, if_false, if_true]
  congr 1
  omega
theorem belowS_inner {H : Int → Bool → Option NodeS} {k : Nat} {t : TreeS} {block : Int} {low high : ByteArray} {n : NodeS}
  (hb : (t.bad || t.blocks.contains block) = false) (h : H block (decide (9 - ((k + 1 : Nat) : Int) = 1)) = some n) (h1 : n.1 = false) : belowS H (k + 1) t block low high = (kidsT low high n.2.1 n.2.2.2).foldl (fun t x => if t.bad then t else belowS H k t x.1 x.2.1 x.2.2) (t.node block low high n) := by
 rw [root_at] at h
 rw [belowS, if_neg (by rw [Bool.or_comm, hb]; decide), h]
 simp only [h1, Bool.false_and, Bool.false_eq_true, if_false]
theorem any_within {ks : List ByteArray} {low high : ByteArray} (h : (ks.any fun k => !withinS k low high) = false) : ∀ x ∈ ks, withinS x low high = true := by
 intro x hx
 have := List.any_eq_false.1 h x hx
 simpa using this
theorem within_low {x low high : ByteArray} (h : withinS x low high = true) : ltB x low = false := by
 unfold withinS at h
 cases hh : ltB x low with
 | false => rfl
 | true => rw [hh] at h; simp at h
theorem within_high {x low high : ByteArray} (h : withinS x low high = true) : high.size = 0 ∨ ltB x high = true := by
 unfold withinS at h
 simp only [Bool.and_eq_true, Bool.or_eq_true, decide_eq_true_eq] at h
 exact h.2
theorem within_of {x low high : ByteArray} (h1 : ltB x low = false) (h2 : high.size = 0 ∨ ltB x high = true) : withinS x low high = true := by
 unfold withinS
 simp only [Bool.and_eq_true, Bool.or_eq_true, decide_eq_true_eq]
 exact ⟨by rw [h1]; rfl, h2⟩
theorem not_below {x y low : ByteArray} (h1 : ltB x y = false) (h2 : ltB y low = false) : ltB x low = false := by
 cases hh : ltB x low with
 | false => rfl
 | true => rw [ltB_le hh h2] at h1; cases h1
def keyIn (x : ByteArray) : Prop := 1 ≤ x.size ∧ x.size ≤ 32
def Holding (H : Int → Bool → Option NodeS) : Prop :=
 ∀ b r (n : NodeS), H b r = some n → risingK n.2.1 = true ∧ (∀ x ∈ n.2.1, keyIn x) ∧ (n.1 = true → n.2.2.1.length = n.2.1.length) ∧ (n.1 = false → n.2.2.2.length = n.2.1.length + 1)
def withinK (ks : List ByteArray) (low high : ByteArray) : Bool :=
 !ks.isEmpty && (!ltB (ks.getD 0 ⟨#[]⟩) low && (decide (high.size = 0) || ltB (ks.getD (ks.length - 1) ⟨#[]⟩) high))
theorem withinK_iff {ks : List ByteArray} {low high : ByteArray} (hr : risingK ks = true) : withinK ks low high = true ↔ ks ≠ [] ∧ ∀ x ∈ ks, withinS x low high = true := by
 have hR := rising_iff.1 hr
 cases ks with
 | nil => simp [withinK]
 | cons k ks =>
  have h0 : (k :: ks)[0]? = some k := rfl
  have hlt : (k :: ks).length - 1 < (k :: ks).length := by simp
  obtain ⟨z, hz⟩ : ∃ z, (k :: ks)[(k :: ks).length - 1]? = some z := ⟨_, List.getElem?_eq_getElem hlt⟩
  have hd : (k :: ks).getD ((k :: ks).length - 1) ⟨#[]⟩ = z := by rw [List.getD_eq_getElem?_getD, hz]; rfl
  unfold withinK
  rw [hd]
  simp only [List.isEmpty_cons, Bool.not_false, Bool.true_and, List.getD_cons_zero, Bool.and_eq_true, Bool.or_eq_true, decide_eq_true_eq, ne_eq, reduceCtorEq, not_false_eq_true, true_and, Bool.not_eq_true']
  constructor
  ·
   rintro ⟨h1, h2⟩ x hx
   obtain ⟨i, hi⟩ := List.mem_iff_getElem?.1 hx
   have hil := (List.getElem?_eq_some_iff.1 hi).1
   refine within_of ?_ ?_
   ·
    by_cases e : i = 0
    ·
     subst e; rw [h0] at hi; cases hi; exact h1
    ·
     exact not_below (ltB_asymm (hR 0 i _ _ (by omega) h0 hi)) h1
   ·
    rcases h2 with h2 | h2
    ·
     exact .inl h2
    ·
     by_cases e : i = (k :: ks).length - 1
     ·
      subst e; rw [hz] at hi; cases hi; exact .inr h2
     ·
      exact .inr (ltB_trans (hR i _ _ _ (by omega) hi hz) h2)
  ·
   intro h
   have h1 := h k (by simp)
   have h2 := h z (List.mem_of_getElem? hz)
   exact ⟨within_low h1, within_high h2⟩
def Keyed (H : Int → Bool → Option NodeS) : Prop := ∀ b r (n : NodeS), H b r = some n → n.1 = false → n.2.1 ≠ []
end Go.Proofs.Ytpepgpjiddophaa.Plain
namespace Go.Proofs.Ytpepgpjiddophaa.Plain
open Go.RowKit
def bn (b : Bool) : Nat := if b then 1 else 0
theorem bn_lt (b : Bool) : bn b < 2 := by cases b <;> decide
def atB (l : List Bool) (i : Nat) : Bool := l[i]?.getD false
theorem atB_past {l : List Bool} {i : Nat} (h : l.length ≤ i) : atB l i = false := by
 unfold atB; rw [List.getElem?_eq_none h]; rfl
theorem atB_some {l : List Bool} {i : Nat} {x : Bool} (h : l[i]? = some x) : atB l i = x := by unfold atB; rw [h]; rfl
def lowB (l : List Bool) (p : Nat) : Nat → Nat
 | 0 => 0
 | k + 1 => lowB l p k + 2 ^ k * bn (atB l (p + k))
def longest : List (List Bool) → Nat
 | [] => 0
 | l :: ls => max l.length (longest ls)
theorem longest_le {ls : List (List Bool)} {l : List Bool} (h : l ∈ ls) : l.length ≤ longest ls := by
 induction ls with
 | nil => cases h
 | cons x xs ih =>
  rw [longest]
  rcases List.mem_cons.1 h with rfl | h
  ·
   omega
  ·
   have := ih h; omega
def howB (ls : List (List Bool)) (i : Nat) : Nat := ls.countP (fun l => atB l i)
theorem howB_all {ls : List (List Bool)} {i : Nat} : howB ls i = ls.length ↔ ∀ l ∈ ls, atB l i = true := List.countP_eq_length
def countN (ls : List (List Bool)) : Nat → Nat
 | 0 => 0
 | n + 1 => countN ls n + bn (decide (howB ls n = ls.length))
def countB (ls : List (List Bool)) : Nat := countN ls (longest ls)
theorem countN_past {ls : List (List Bool)} {l : List Bool} (hl : l ∈ ls) (n : Nat) (h : l.length ≤ n) : countN ls n = countN ls l.length := by
 induction n with
 | zero => congr 1; omega
 | succ n ih =>
  by_cases e : l.length = n + 1
  ·
   rw [e]
  ·
   rw [countN, ih (by omega), decide_eq_false, bn]
   ·
    rfl
   ·
    rw [howB_all]
    intro hh
    have := hh l hl
    rw [atB_past (by omega)] at this
    cases this
end Go.Proofs.Ytpepgpjiddophaa.Plain
namespace Go.Proofs.Ytpepgpjiddophaa.Plain
open Go.RowKit
set_option linter.unusedVariables false
def rightA (b n : List Bool) : Bool := decide (b.length = n.length) && decide (24 ≤ n.length) && decide (n.length ≤ 2048) && (List.range 10).all fun i => atB b i && atB n i
theorem rightA_iff (b n : List Bool) : rightA b n = true ↔ b.length = n.length ∧ 24 ≤ n.length ∧ n.length ≤ 2048 ∧ ∀ i, i < 10 → atB b i = true ∧ atB n i = true := by
 unfold rightA
 simp only [Bool.and_eq_true, decide_eq_true_eq, List.all_eq_true, List.mem_range]
 constructor
 ·
  rintro ⟨⟨⟨h1, h2⟩, h3⟩, h4⟩; exact ⟨h1, h2, h3, h4⟩
 ·
  rintro ⟨h1, h2, h3, h4⟩; exact ⟨⟨⟨h1, h2⟩, h3⟩, h4⟩
def freeB (b n : List Bool) (i : Nat) : Bool := decide (i < n.length) && (!atB n i && !atB b i)
theorem freeB_iff (b n : List Bool) (i : Nat) : freeB b n i = true ↔ i < n.length ∧ atB n i = false ∧ atB b i = false := by
 unfold freeB
 simp
def howN (f : Nat → Bool) : Nat → Nat
 | 0 => 0
 | k + 1 => howN f k + bn (f k)
theorem howN_le (f : Nat → Bool) (k : Nat) : howN f k ≤ k := by
 induction k with
 | zero => exact Nat.le_refl _
 | succ k ih => rw [howN]; have := bn_lt (f k); omega
theorem howN_congr {f g : Nat → Bool} {k : Nat} (h : ∀ i, i < k → f i = g i) : howN f k = howN g k := by
 induction k with
 | zero => rfl
 | succ k ih => rw [howN, howN, ih fun i hi => h i (by omega), h k (by omega)]
theorem howN_zero {f : Nat → Bool} {k : Nat} : howN f k = 0 ↔ ∀ i, i < k → f i = false := by
 induction k with
 | zero => exact ⟨fun _ i hi => by omega, fun _ => rfl⟩
 | succ k ih =>
  rw [howN]
  constructor
  ·
   intro h i hi
   by_cases e : i = k
   ·
    subst e
    cases hf : f i with
    | false => rfl
    | true => rw [hf] at h; simp [bn] at h
   ·
    exact ih.1 (by omega) i (by omega)
  ·
   intro h
   rw [ih.2 fun i hi => h i (by omega), h k (by omega)]; rfl
theorem howN_one {f g : Nat → Bool} {k p : Nat} (hp : p < k) (hf : f p = true) (hg : g p = false) (h : ∀ i, i < k → i ≠ p → f i = g i) : howN f k = howN g k + 1 := by
 induction k with
 | zero => omega
 | succ k ih =>
  rw [howN, howN]
  by_cases e : p = k
  ·
   subst e
   rw [hf, hg, howN_congr fun i hi => h i (by omega) (by omega)]
   simp [bn]
  ·
   rw [ih (by omega) fun i hi hn => h i (by omega) hn, h k (by omega) (fun hh => e hh.symm)]
   omega
theorem howN_or {f g h : Nat → Bool} {k : Nat} (hh : ∀ i, i < k → h i = (f i || g i) ∧ ¬ (f i = true ∧ g i = true)) : howN h k = howN f k + howN g k := by
 induction k with
 | zero => rfl
 | succ k ih =>
  rw [howN, howN, howN, ih fun i hi => hh i (by omega), (hh k (by omega)).1]
  have := (hh k (by omega)).2
  cases hf : f k <;> cases hg : g k <;> simp_all [bn] <;> omega
theorem howN_all {f : Nat → Bool} {k : Nat} (h : ∀ i, i < k → f i = true) : howN f k = k := by
 induction k with
 | zero => rfl
 | succ k ih => rw [howN, ih fun i hi => h i (by omega), h k (by omega)]; rfl
def freshL (k : Nat) : List Bool := (List.range k).map fun i => decide (i < 10)
theorem freshL_length (k : Nat) : (freshL k).length = k := by simp [freshL]
theorem freshL_at {k i : Nat} (h : i < k) : atB (freshL k) i = decide (i < 10) := by
 apply atB_some
 unfold freshL
 rw [List.getElem?_map, List.getElem?_range h]; rfl
theorem freshL_succ (k : Nat) : freshL (k + 1) = freshL k ++ [decide (k < 10)] := by unfold freshL; rw [List.range_succ, List.map_append]; rfl
theorem atB_setB (l : List Bool) (p i : Nat) (x : Bool) : atB (l.set p x) i = if p = i ∧ i < l.length then x else atB l i := by
 unfold atB
 rw [List.getElem?_set]
 by_cases e : p = i
 ·
  subst e
  by_cases hl : p < l.length
  ·
   rw [if_pos rfl, if_pos hl, if_pos ⟨rfl, hl⟩]; rfl
  ·
   rw [if_pos rfl, if_neg hl, if_neg (fun h => hl h.2), List.getElem?_eq_none (by omega)]
 ·
  rw [if_neg e, if_neg (fun h => e h.1)]
theorem free_taken {b n : List Bool} {p : Nat} (hp : freeB b n p = true) : freeB b (n.set p true) p = false ∧ (∀ i, i ≠ p → freeB b (n.set p true) i = freeB b n i) ∧ howN (freeB b n) n.length = howN (freeB b (n.set p true)) n.length + 1 := by
 have hl := ((freeB_iff b n p).1 hp).1
 have h1 : freeB b (n.set p true) p = false := by
  unfold freeB
  rw [atB_setB, if_pos ⟨rfl, hl⟩]; simp
 have h2 : ∀ i, i ≠ p → freeB b (n.set p true) i = freeB b n i := by
  intro i hi
  unfold freeB
  rw [List.length_set, atB_setB, if_neg (fun h => hi h.1.symm)]
 exact ⟨h1, h2, howN_one hl hp h1 fun i _ hn => (h2 i hn).symm⟩
structure ClimbS where
 held : List Bool
 pairs : Nat
 height : Int
 blocks : Nat
def holdL : List Bool → List Int → Bool × List Bool
 | l, [] => (true, l)
 | l, b :: bs => if 0 ≤ b ∧ b < l.length ∧ atB l b.toNat = false then holdL (l.set b.toNat true) bs else (false, l)
def leafC (m : Nat) (d : Int) (c : ClimbS) : Int × ClimbS :=
 if c.height = 0 ∨ c.height = d then (0, ⟨c.held, c.pairs + m, d, c.blocks⟩) else (81, c)
def ClimbS.take (c : ClimbS) (block : Int) : ClimbS := ⟨c.held.set block.toNat true, c.pairs, c.height, c.blocks + 1⟩
def climbS (H : Int → Bool → Option NodeS) : Nat → ClimbS → Int → ByteArray → ByteArray → Int × ClimbS
 | 0, c, _, _, _ => (81, c)
 | k + 1, c, block, low, high => match H block (decide (k = 7)) with
  | none => (81, c)
  | some n => if withinK n.2.1 low high = true ∧ 0 ≤ block ∧ block < c.held.length ∧ atB c.held block.toNat = false then
    (if n.1 = true then leafC n.2.1.length (8 - (k : Int)) (c.take block)
     else (kidsT low high n.2.1 n.2.2.2).foldl (fun (r : Int × ClimbS) (x : Int × ByteArray × ByteArray) => if r.1 = 0 then climbS H k r.2 x.1 x.2.1 x.2.2 else r) (0, c.take block))
   else (81, c)
theorem atB_put (l : List Bool) (p i : Nat) (x : Bool) : atB (l.set p x) i = if p = i ∧ p < l.length then x else atB l i := by
 unfold atB
 rw [List.getElem?_set]
 by_cases e : p = i
 ·
  subst e
  by_cases hl : p < l.length
  ·
   rw [if_pos rfl, if_pos hl, if_pos ⟨rfl, hl⟩]; rfl
  ·
   rw [if_pos rfl, if_neg hl, if_neg (fun h => hl h.2), List.getElem?_eq_none (by omega)]
 ·
  rw [if_neg e, if_neg (fun h => e h.1)]
def HeldBy (n : Nat) (held : List Bool) (l : List Int) : Prop := held.length = n ∧ ∀ i, i < n → atB held i = (decide (i < 10) || l.contains (i : Int))
theorem HeldBy.free {n : Nat} {held : List Bool} {l : List Int} (h : HeldBy n held l) {b : Int} (h1 : 10 ≤ b) (h2 : b < n) : atB held b.toNat = l.contains b := by
 rw [h.2 b.toNat (by omega), decide_eq_false (by omega), Bool.false_or, Int.toNat_of_nonneg (by omega)]
theorem HeldBy.take {n : Nat} {held : List Bool} {l l' : List Int} (h : HeldBy n held l) {b : Int} (h1 : 10 ≤ b) (h2 : b < n) (hl : ∀ x, l'.contains x = (l.contains x || decide (x = b))) : HeldBy n (held.set b.toNat true) l' := by
 refine ⟨by rw [List.length_set]; exact h.1, fun i hi => ?_⟩
 rw [atB_put, hl]
 by_cases e : b.toNat = i
 ·
  rw [if_pos ⟨e, by rw [h.1]; omega⟩, decide_eq_true (show (i : Int) = b by omega)]
  simp
 ·
  rw [if_neg (fun hh => e hh.1), h.2 i hi, decide_eq_false (show ¬ (i : Int) = b by omega), Bool.or_false]
structure Agree (n : Nat) (c : ClimbS) (t : TreeS) : Prop where
 held : HeldBy n c.held t.blocks
 pairs : c.pairs = t.pairs.length
 height : c.height = t.height
 blocks : c.blocks = t.blocks.length
theorem contains_snoc (l : List Int) (b x : Int) : (l ++ [b]).contains x = (l.contains x || decide (x = b)) := by
 simp
theorem climb_below {H : Int → Bool → Option NodeS} (hH : Holding H) (hI : Keyed H) {N : Nat} (hR : ∀ b r (n : NodeS), H b r = some n → 10 ≤ b ∧ b < N) : ∀ (k : Nat) (c : ClimbS) (t : TreeS) (block : Int) (low high : ByteArray), Agree N c t → t.bad = false →
  ((belowS H k t block low high).bad = false → (climbS H k c block low high).1 = 0 ∧ Agree N (climbS H k c block low high).2 (belowS H k t block low high)) ∧ ((belowS H k t block low high).bad = true → (climbS H k c block low high).1 = 81)
 | 0, c, t, block, low, high, ha, ht => ⟨fun h => (by cases h), fun _ => rfl⟩
 | k + 1, c, t, block, low, high, ha, ht => by
  have fold : ∀ (l : List (Int × ByteArray × ByteArray)) (c0 : ClimbS) (t0 : TreeS), Agree N c0 t0 → t0.bad = false →
    ((l.foldl (fun t x => if t.bad then t else belowS H k t x.1 x.2.1 x.2.2) t0).bad = false → (l.foldl (fun (r : Int × ClimbS) (x : Int × ByteArray × ByteArray) => if r.1 = 0 then climbS H k r.2 x.1 x.2.1 x.2.2 else r) (0, c0)).1 = 0 ∧ Agree N (l.foldl (fun (r : Int × ClimbS) (x : Int × ByteArray × ByteArray) => if r.1 = 0 then climbS H k r.2 x.1 x.2.1 x.2.2 else r) (0, c0)).2 (l.foldl (fun t x => if t.bad then t else belowS H k t x.1 x.2.1 x.2.2) t0)) ∧
    ((l.foldl (fun t x => if t.bad then t else belowS H k t x.1 x.2.1 x.2.2) t0).bad = true → (l.foldl (fun (r : Int × ClimbS) (x : Int × ByteArray × ByteArray) => if r.1 = 0 then climbS H k r.2 x.1 x.2.1 x.2.2 else r) (0, c0)).1 = 81) := by
   intro l
   induction l with
   | nil => exact fun c0 t0 h0 h1 => ⟨fun _ => ⟨rfl, h0⟩, fun h => by rw [List.foldl_nil, h1] at h; cases h⟩
   | cons x l ih =>
    intro c0 t0 h0 h1
    rw [List.foldl_cons, List.foldl_cons, if_neg (by rw [h1]; decide), if_pos rfl]
    obtain ⟨a1, a2⟩ := climb_below hH hI hR k c0 t0 x.1 x.2.1 x.2.2 h0 h1
    cases hb : (belowS H k t0 x.1 x.2.1 x.2.2).bad with
    | false =>
     obtain ⟨a3, a4⟩ := a1 hb
     have := ih _ _ a4 hb
     rw [show climbS H k c0 x.1 x.2.1 x.2.2 = (0, (climbS H k c0 x.1 x.2.1 x.2.2).2) from Prod.ext a3 rfl]
     exact this
    | true =>
     have a3 := a2 hb
     have e1 : l.foldl (fun t x => if t.bad then t else belowS H k t x.1 x.2.1 x.2.2) (belowS H k t0 x.1 x.2.1 x.2.2) = belowS H k t0 x.1 x.2.1 x.2.2 := by
      clear ih a1 a2 a3
      induction l with
      | nil => rfl
      | cons y l ih => rw [List.foldl_cons, if_pos hb]; exact ih
     have e2 : l.foldl (fun (r : Int × ClimbS) (x : Int × ByteArray × ByteArray) => if r.1 = 0 then climbS H k r.2 x.1 x.2.1 x.2.2 else r) (climbS H k c0 x.1 x.2.1 x.2.2) = climbS H k c0 x.1 x.2.1 x.2.2 := by
      clear ih a1 a2 e1
      induction l with
      | nil => rfl
      | cons y l ih => rw [List.foldl_cons, if_neg (by rw [a3]; decide)]; exact ih
     rw [e1, e2]
     exact ⟨fun h => (by rw [hb] at h; cases h), fun _ => a3⟩
  rw [belowS, climbS]
  cases hn : H block (decide (k = 7)) with
  | none =>
   refine ⟨fun h => ?_, fun _ => rfl⟩
   split at h <;> cases h
  | some nd =>
   obtain ⟨l, ks, vs, cs⟩ := nd
   obtain ⟨hb1, hb2⟩ := hR _ _ _ hn
   obtain ⟨hr, -, hv, -⟩ := hH _ _ _ hn
   replace hr : risingK ks = true := hr
   replace hv : l = true → vs.length = ks.length := hv
   have hfree := ha.held.free hb1 hb2
   have hl : block < c.held.length := by rw [ha.held.1]; exact hb2
   simp only
   rw [ht, Bool.or_false]
   cases hc : t.blocks.contains block with
   | true =>
    rw [hc] at hfree
    rw [if_pos rfl, if_neg (fun h => by rw [hfree] at h; exact absurd h.2.2.2 (by decide))]
    exact ⟨fun h => (by cases h), fun _ => rfl⟩
   | false =>
    rw [hc] at hfree
    rw [if_neg (by decide)]
    have hA : Agree N (c.take block) ⟨t.pairs, t.blocks ++ [block], t.height, false⟩ := ⟨ha.held.take hb1 hb2 (contains_snoc _ _), ha.pairs, ha.height, by show c.blocks + 1 = _; rw [ha.blocks, List.length_append]; rfl⟩
    cases hw : withinK ks low high with
    | true =>
     obtain ⟨hne, hall⟩ := (withinK_iff hr).1 hw
     have hany : (ks.any fun k => !withinS k low high) = false := List.any_eq_false.2 fun x hx => by rw [hall x hx]; decide
     have hem : ks.isEmpty = false := by cases ks with | nil => exact absurd rfl hne | cons _ _ => rfl
     rw [if_neg (show ¬ (l && ks.isEmpty) = true by rw [hem, Bool.and_false]; decide), if_pos (show true = true ∧ 0 ≤ block ∧ block < c.held.length ∧ atB c.held block.toNat = false from ⟨rfl, by omega, hl, hfree⟩)]
     cases l with
     | true =>
      rw [if_pos rfl, if_pos rfl]
      have hlen : (ks.zip vs).length = ks.length := by rw [List.length_zip, hv rfl, Nat.min_self]
      have e0 : (t.node block low high (true, ks, vs, cs)).leaf (8 - (k : Int)) = ⟨t.pairs ++ ks.zip vs, t.blocks ++ [block], 8 - (k : Int), decide (t.height ≠ 0) && decide (t.height ≠ 8 - (k : Int))⟩ := by
       unfold TreeS.leaf TreeS.node
       simp only [if_true, hany, Bool.false_or]
      rw [e0]
      unfold leafC
      have hh : (c.take block).height = t.height := ha.height
      rw [hh]
      by_cases hg : t.height = 0 ∨ t.height = 8 - (k : Int)
      ·
       rw [if_pos hg]
       refine ⟨fun _ => ⟨rfl, hA.held, ?_, rfl, hA.blocks⟩, fun h => ?_⟩
       ·
        show c.pairs + ks.length = _
        rw [List.length_append, hlen, ha.pairs]
       ·
        exfalso
        simp only [Bool.and_eq_true, decide_eq_true_eq] at h
        rcases hg with e | e
        ·
         exact h.1 e
        ·
         exact h.2 e
      ·
       rw [if_neg hg]
       refine ⟨fun h => ?_, fun _ => rfl⟩
       exfalso
       simp only [Bool.and_eq_false_iff, decide_eq_false_iff_not, Decidable.not_not] at h
       exact hg h
     | false =>
      rw [if_neg (by decide), if_neg (by decide)]
      have e0 : t.node block low high (false, ks, vs, cs) = ⟨t.pairs, t.blocks ++ [block], t.height, false⟩ := by
       unfold TreeS.node
       simp only [Bool.false_eq_true, if_false, hany]
      rw [e0]
      exact fold _ _ _ hA rfl
    | false =>
     rw [if_neg (show ¬ (false = true ∧ 0 ≤ block ∧ block < c.held.length ∧ atB c.held block.toNat = false) from fun h => by cases h.1)]
     refine ⟨fun h => ?_, fun _ => rfl⟩
     exfalso
     have hno : ¬ (ks ≠ [] ∧ ∀ x ∈ ks, withinS x low high = true) := fun h => by rw [(withinK_iff hr).2 h] at hw; cases hw
     cases l with
     | true =>
      simp only [Bool.true_and] at h
      split at h
      ·
       cases h
      ·
       rename_i hem
       simp only [if_true] at h
       have h2 : ((ks.any fun k => !withinS k low high) || (decide (t.height ≠ 0) && decide (t.height ≠ 8 - (k : Int)))) = false := h
       exact hno ⟨fun e => hem (by rw [e]; rfl), any_within (Bool.or_eq_false_iff.1 h2).1⟩
     | false =>
      simp only [Bool.false_and, Bool.false_eq_true, if_false] at h
      have hb0 : (t.node block low high (false, ks, vs, cs)).bad = false := by
       cases hb : (t.node block low high (false, ks, vs, cs)).bad with
       | false => rfl
       | true =>
        have e1 : ∀ (l : List (Int × ByteArray × ByteArray)), l.foldl (fun t x => if t.bad then t else belowS H k t x.1 x.2.1 x.2.2) (t.node block low high (false, ks, vs, cs)) = t.node block low high (false, ks, vs, cs) := by
         intro l
         induction l with
         | nil => rfl
         | cons y l ih => rw [List.foldl_cons, if_pos hb]; exact ih
        rw [e1] at h
        rw [hb] at h
        cases h
      exact hno ⟨hI _ _ _ hn rfl, any_within hb0⟩
theorem below_blocks {H : Int → Bool → Option NodeS} {P : Int → Prop} (hP : ∀ b r (n : NodeS), H b r = some n → P b) : ∀ (k : Nat) (t : TreeS) (block : Int) (low high : ByteArray), (∀ b ∈ t.blocks, P b) → ∀ b ∈ (belowS H k t block low high).blocks, P b
 | 0, t, block, low, high, h => h
 | k + 1, t, block, low, high, h => by
  rw [belowS]
  split
  ·
   exact h
  ·
   split
   ·
    exact h
   ·
    rename_i n hn
    have h1 : ∀ b ∈ (t.node block low high n).blocks, P b := fun b hb => by
     rcases List.mem_append.1 (show b ∈ t.blocks ++ [block] from hb) with hb | hb
     ·
      exact h b hb
     ·
      simp at hb; subst hb; exact hP _ _ _ hn
    split
    ·
     exact h
    ·
     split
     ·
      exact h1
     ·
      have fold : ∀ (l : List (Int × ByteArray × ByteArray)) (t0 : TreeS), (∀ b ∈ t0.blocks, P b) → ∀ b ∈ (l.foldl (fun t x => if t.bad then t else belowS H k t x.1 x.2.1 x.2.2) t0).blocks, P b := by
       intro l
       induction l with
       | nil => exact fun t0 h0 => h0
       | cons x l ih =>
        intro t0 h0
        rw [List.foldl_cons]
        refine ih _ ?_
        split
        ·
         exact h0
        ·
         exact below_blocks hP k t0 _ _ _ h0
      exact fold _ _ h1
def blocksL (n : Nat) (l : List Int) : List Int := ((List.range n).filter fun (i : Nat) => l.contains (i : Int)).map fun (i : Nat) => (i : Int)
theorem blocksL_mem {n : Nat} {l : List Int} {b : Int} : b ∈ blocksL n l ↔ 0 ≤ b ∧ b < n ∧ b ∈ l := by
 unfold blocksL
 simp only [List.mem_map, List.mem_filter, List.mem_range, List.contains_iff_mem]
 constructor
 ·
  rintro ⟨i, ⟨h1, h2⟩, rfl⟩; exact ⟨by omega, by omega, h2⟩
 ·
  rintro ⟨h1, h2, h3⟩; exact ⟨b.toNat, ⟨by omega, by rw [Int.toNat_of_nonneg h1]; exact h3⟩, by omega⟩
def heldL (l : List Bool) (n : Nat) : List Int := ((List.range n).filter fun (i : Nat) => decide (10 ≤ i) && atB l i).map fun (i : Nat) => (i : Int)
theorem heldL_step {l : List Bool} {j : Nat} : heldL l (j + 1) = if 10 ≤ j ∧ atB l j = true then heldL l j ++ [(j : Int)] else heldL l j := by
 unfold heldL
 rw [List.range_succ, List.filter_append]
 by_cases h : 10 ≤ j ∧ atB l j = true
 ·
  rw [if_pos h]
  simp [h.1, h.2]
 ·
  rw [if_neg h]
  have : (decide (10 ≤ j) && atB l j) = false := by
   rw [Bool.and_eq_false_iff]
   by_cases h1 : 10 ≤ j
   ·
    exact .inr (by cases hh : atB l j with | false => rfl | true => exact absurd ⟨h1, hh⟩ h)
   ·
    exact .inl (decide_eq_false h1)
  simp [this]
theorem heldL_ten (l : List Bool) {j : Nat} (h : j ≤ 10) : heldL l j = [] := by
 unfold heldL
 rw [List.filter_eq_nil_iff.2 (fun i hi => by simp at hi; simp; omega)]
 rfl
theorem heldL_blocks {n : Nat} {held : List Bool} {l : List Int} (h : HeldBy n held l) (h10 : ∀ b ∈ l, 10 ≤ b) : heldL held n = blocksL n l := by
 unfold heldL blocksL
 congr 1
 apply List.filter_congr
 intro i hi
 rw [h.2 i (by simpa using hi)]
 by_cases e : 10 ≤ i
 ·
  rw [decide_eq_true e, decide_eq_false (show ¬ i < 10 by omega)]; rfl
 ·
  rw [decide_eq_false e, Bool.false_and]
  cases hc : l.contains (i : Int) with
  | false => rfl
  | true => have := h10 _ (List.contains_iff_mem.1 hc); omega
theorem blocksL_step {l : List Int} {j : Nat} : blocksL (j + 1) l = if l.contains (j : Int) = true then blocksL j l ++ [(j : Int)] else blocksL j l := by
 unfold blocksL
 rw [List.range_succ, List.filter_append]
 by_cases h : l.contains (j : Int) = true
 ·
  rw [if_pos h]
  have h' : (j : Int) ∈ l := List.contains_iff_mem.1 h
  simp [h']
 ·
  rw [if_neg h]
  have h' : ¬ (j : Int) ∈ l := fun e => h (List.contains_iff_mem.2 e)
  simp [h']
def moreL (n : Nat) : List Int → List Int → Option (List Int)
 | l, [] => some l
 | l, b :: bs => if b < 10 ∨ (n : Int) ≤ b ∨ b ∈ l then none else moreL n (l ++ [b]) bs
def justL (ns : List Bool) (l : List Int) : Bool := (List.range ns.length).all fun (i : Nat) => atB ns i == (decide (i < 10) || l.contains (i : Int))
theorem just_iff {ns : List Bool} {l : List Int} : justL ns l = true ↔ HeldBy ns.length ns l := by
 unfold justL HeldBy
 simp only [List.all_eq_true, List.mem_range, beq_iff_eq]
 exact ⟨fun h => ⟨trivial, h⟩, fun h => h.2⟩
theorem held_ext {n : Nat} {a b : List Bool} {l : List Int} (ha : HeldBy n a l) (hb : HeldBy n b l) : a = b := by
 apply List.ext_getElem (by rw [ha.1, hb.1])
 intro i h1 h2
 have e1 := ha.2 i (by rw [← ha.1]; exact h1)
 have e2 := hb.2 i (by rw [← hb.1]; exact h2)
 rw [atB_some (List.getElem?_eq_getElem h1)] at e1
 rw [atB_some (List.getElem?_eq_getElem h2)] at e2
 rw [e1, e2]
theorem hold_more {n : Nat} : ∀ (more : List Int) (held : List Bool) (l : List Int), 10 ≤ n → HeldBy n held l → ((moreL n l more = none → (holdL held more).1 = false) ∧ ∀ l', moreL n l more = some l' → (holdL held more).1 = true ∧ HeldBy n (holdL held more).2 l')
 | [], held, l, hn, h => ⟨fun e => (by cases e), fun l' e => by cases e; exact ⟨rfl, h⟩⟩
 | b :: bs, held, l, hn, h => by
  rw [moreL, holdL]
  by_cases hc : b < 10 ∨ (n : Int) ≤ b ∨ b ∈ l
  ·
   rw [if_pos hc, if_neg]
   ·
    exact ⟨fun _ => rfl, fun l' e => by cases e⟩
   ·
    rintro ⟨h1, h2, h3⟩
    rw [h.1] at h2
    rw [h.2 b.toNat (by omega)] at h3
    rw [Bool.or_eq_false_iff, decide_eq_false_iff_not, Int.toNat_of_nonneg h1] at h3
    rcases hc with e | e | e
    ·
     omega
    ·
     omega
    ·
     rw [List.contains_iff_mem.2 e] at h3; exact absurd h3.2 (by decide)
  ·
   rw [if_neg hc]
   have h1 : 10 ≤ b := by omega
   have h2 : b < n := by omega
   have h3 : l.contains b = false := by
    cases hh : l.contains b with
    | false => rfl
    | true => exact absurd (.inr (.inr (List.contains_iff_mem.1 hh))) hc
   rw [if_pos ⟨by omega, by rw [h.1]; exact h2, by rw [h.free h1 h2, h3]⟩]
   exact hold_more bs _ _ hn (h.take h1 h2 (contains_snoc _ _))
def checkOK (ns : List Bool) (t : TreeS) (more : List Int) : Bool :=
 match moreL ns.length (blocksL ns.length t.blocks) more with
 | none => false
 | some l => justL ns l
theorem held_blocks {n : Nat} {held : List Bool} {l : List Int} (h : HeldBy n held l) : HeldBy n held (blocksL n l) := by
 refine ⟨h.1, fun i hi => ?_⟩
 rw [h.2 i hi]
 congr 1
 cases hc : l.contains (i : Int) with
 | true => exact (List.contains_iff_mem.2 (blocksL_mem.2 ⟨by omega, by omega, List.contains_iff_mem.1 hc⟩)).symm
 | false =>
  cases hd : (blocksL n l).contains (i : Int) with
  | false => rfl
  | true => rw [List.contains_iff_mem.2 (blocksL_mem.1 (List.contains_iff_mem.1 hd)).2.2] at hc; cases hc
theorem check_held {ns held : List Bool} {t : TreeS} {more : List Int} (h10 : 10 ≤ ns.length) (h : HeldBy ns.length held t.blocks) : checkOK ns t more = ((holdL held more).1 && decide ((holdL held more).2 = ns)) := by
 obtain ⟨a1, a2⟩ := hold_more more held _ h10 (held_blocks h)
 unfold checkOK
 cases hm : moreL ns.length (blocksL ns.length t.blocks) more with
 | none => rw [a1 hm]; rfl
 | some l =>
  obtain ⟨b1, b2⟩ := a2 l hm
  rw [b1, Bool.true_and]
  simp only
  cases hj : justL ns l with
  | true => exact (decide_eq_true (held_ext b2 (just_iff.1 hj))).symm
  | false => exact (decide_eq_false (fun e => by rw [e] at b2; rw [just_iff.2 b2] at hj; cases hj)).symm
def blocksE (right : Bool) (t : TreeS) : Int := if right = true then (if t.bad = true then 81 else 0) else 1
def checkE (right : Bool) (ns : List Bool) (t : TreeS) (more : List Int) : Int := if right = true then (if t.bad = false ∧ checkOK ns t more = true then 0 else 81) else 1
def blocksR (right : Bool) (ns : List Bool) (t : TreeS) : List Int := if blocksE right t = 0 then blocksL ns.length t.blocks else []
def checkP (right : Bool) (ns : List Bool) (t : TreeS) (more : List Int) : Int := if checkE right ns t more = 0 then (t.pairs.length : Int) else 0
def checkH (right : Bool) (ns : List Bool) (t : TreeS) (more : List Int) : Int := if checkE right ns t more = 0 then t.height else 0
def checkB (right : Bool) (ns : List Bool) (t : TreeS) (more : List Int) : Int := if checkE right ns t more = 0 then (t.blocks.length : Int) else 0
end Go.Proofs.Ytpepgpjiddophaa.Plain
namespace Go.Proofs.Ytpepgpjiddophaa
open Go.RowKit Plain Go.ChangeShapes Go.WideShapes
set_option linter.unusedVariables false
theorem Try.info5 : (Try.prog.info? 5).map (fun i => (i.zero, i.size, i.bytes)) = some (some (.int .u8 0), 1, 1) := by kernel_rfl
theorem Try.info4 : (Try.prog.info? 4).map (fun i => (i.zero, i.size, i.bytes)) = some (some (.bool false), 1, 1) := by kernel_rfl
theorem Try.info3 : (Try.prog.info? 3).map (fun i => (i.zero, i.size, i.bytes)) = some (some (.int .i64 0), 1, 8) := by kernel_rfl
theorem Try.info9 : (Try.prog.info? 9).map (fun i => (i.zero, i.size, i.bytes)) = some (some (.string ⟨#[]⟩), 1, 16) := by kernel_rfl
theorem ret_bool {a b : Bool} (h : a = b) : Ending.returned (.bool a) = .returned (.bool b) := by rw [h]
theorem ret_str {a b : ByteArray} (h : a = b) : Ending.returned (.string a) = .returned (.string b) := by rw [h]
theorem ret_int {a b : Int} (h : a = b) : Ending.returned (.int .i64 a) = .returned (.int .i64 b) := by rw [h]
theorem Below.tr {w a b : World} (h : Below w.heap.size w a) (k : Below a.heap.size a b) : Below w.heap.size w b := h.trans (k.mono h.size)
theorem cell_lt {w : World} {p : Addr} {v : Value} (h : w.cell? p = some v) : p.block < w.heap.size := by
 refine Nat.lt_of_not_le fun hn => ?_
 unfold World.cell? at h
 rw [Array.getElem?_eq_none hn] at h
 cases h
theorem cell_below {w w' : World} {p : Addr} {v : Value} (hb : Below w.heap.size w w') (h : w.cell? p = some v) : w'.cell? p = some v := by
 rw [hb.cell (cell_lt h)]; exact h
theorem cell_alloc {w : World} {p : Addr} {v : Value} (h : w.cell? p = some v) : ∀ o, (w.alloc o).cell? p = some v := fun o => Lib.cell?_alloc_some _ h
theorem at_add (g o j : Nat) : (⟨g, o, none⟩ : Addr).add j = ⟨g, o + j, none⟩ := by
 unfold Addr.add; split <;> simp_all
theorem made_one (z : Value) (n : Nat) : madeCells #[z] n = (List.replicate n z).toArray := by
 apply Array.ext'
 rw [toList_madeCells_one]
theorem spot_none {w : World} {x : Addr} {v : Value} (h : w.cell? (x.add 0) = some v) : ∃ b o, x = ⟨b, o, none⟩ ∧ b < w.heap.size := by
 obtain ⟨b, o, s⟩ := x
 have hs : s = none := by simpa [Addr.add] using World.cell?_spot h
 subst hs
 rw [at_add] at h
 exact ⟨b, o, rfl, cell_lt h⟩
theorem heap_new (w : World) (o : Obj) : (w.alloc o).heap[w.heap.size]? = some o := by
 show (w.heap.push o)[w.heap.size]? = some o
 simp
def IsI (w : World) (a : Option Addr) (c : Nat) (ms : List Int) : Prop :=
 ms.length ≤ c ∧ c ≤ maxLen ∧ ∀ j m, ms[j]? = some m → ∃ b o, a = some ⟨b, o, none⟩ ∧ b < w.heap.size ∧ w.cell? ⟨b, o + j, none⟩ = some (.int .i64 m)
theorem IsI.below {w w' : World} {a : Option Addr} {c : Nat} {ms : List Int} (h : IsI w a c ms) (hb : Below w.heap.size w w') : IsI w' a c ms := by
 refine ⟨h.1, h.2.1, fun j x hx => ?_⟩
 obtain ⟨b, o, ha, hlt, hc⟩ := h.2.2 j x hx
 exact ⟨b, o, ha, Nat.lt_of_lt_of_le hlt hb.size, by rw [hb.cell (p := ⟨b, o + j, none⟩) hlt]; exact hc⟩
theorem IsI.take {w : World} {a : Option Addr} {c : Nat} {ms : List Int} (h : IsI w a c ms) (n : Nat) : IsI w a c (ms.take n) := by
 refine ⟨by rw [List.length_take]; have := h.1; omega, h.2.1, fun j x hx => h.2.2 j x ?_⟩
 rw [List.getElem?_take] at hx
 split at hx
 ·
  exact hx
 ·
  cases hx
theorem open_I {H : Type} {enc : TypeId × Value → H} {w : World} {fuel : Nat} {v : Value} {x : DataW H × List MemPlace}
  (h : DataW.trod enc Try.prog w 0 (fun _ => true) true fuel 28 [v] = some x) : ∃ a c ms, v = .slice a ms.length c ∧ IsI w a c ms := by
 rcases open_ints Try.underlying28 Try.underlying3 (by kernel_rfl) h with ⟨hcs, _⟩ | ⟨a, l, c, ss, hcs, _, hl, hm, hz, _, hcell, hwz⟩
 ·
  simp at hcs
  exact ⟨none, 0, [], hcs, Nat.le_refl _, Nat.zero_le _, fun j m hj => by simp at hj⟩
 ·
  simp at hcs
  simp at hz
  refine ⟨some a, c, ss.take l, by rw [List.length_take, hz, Nat.min_eq_left hl]; exact hcs, by rw [List.length_take]; omega, hm, fun j y hy => ?_⟩
  have hjl : j < ss.length := by
   have := (List.getElem?_eq_some_iff.1 hy).1
   rw [List.length_take] at this; omega
  have hyy : ss[j]? = some y := by
   rw [List.getElem?_take] at hy
   split at hy
   ·
    exact hy
   ·
    cases hy
  have hc := hcell j hjl
  rw [List.getD_eq_getElem?_getD, hyy] at hc
  obtain ⟨b, o, rfl, hb⟩ := spot_none (hcell 0 (by omega))
  rw [at_add] at hc
  exact ⟨b, o, rfl, hb, hc⟩
set_option maxRecDepth 20000 in
theorem open_nums {H : Type} {enc : TypeId × Value → H} {w : World} {r : Reach} {b0 : Nat} {v : Value} {d : DataW H} {p : List MemPlace}
  (hv : Value.okWide Try.prog w r b0 28 v) (h : DataW.Trod enc Try.prog w 0 (fun _ => true) true 28 v d p) :
  ∃ a c ms, v = .slice a ms.length c ∧ IsI w a c ms := by
 obtain ⟨a, len, cap, rfl⟩ := okWide_slice Try.underlying28 hv
 obtain ⟨fuel, hf⟩ := h
 exact open_I (by simpa [Value.cells] using hf)
theorem isI_one (W : World) (m : Int) : IsI (W.alloc (.cells #[.int .i64 m] 3)) (some ⟨W.heap.size, 0, none⟩) 1 [m] := by
 refine ⟨Nat.le_refl _, by unfold maxLen; omega, fun j d hd => ?_⟩
 match j, hd with
 | 0, hd =>
  simp at hd
  subst hd
  exact ⟨W.heap.size, 0, rfl, by simp, World.cell?_alloc_at _ _ _ _ rfl⟩
theorem min_run {x y z : Int} (h : min x y = z) (W : World) : (Builtin.min_ #[3, 3] 3 #[.int .i64 x, .int .i64 y]).run Try.prog W = .ok (.int .i64 z) W := by
 simp [Builtin.min_, Builtin.min2]
 split <;> omega
theorem str_beq {a b : ByteArray} : (a.toList == b.toList) = true ↔ a = b := by
 rw [beq_iff_eq, ByteArray.toList_eq, ByteArray.toList_eq]
 exact ⟨bytes_ext, fun h => by rw [h]⟩
theorem str_eq_true {a b : ByteArray} (h : a = b) : (a.toList == b.toList) = true := str_beq.2 h
theorem str_eq_false {a b : ByteArray} (h : ¬ a = b) : (a.toList == b.toList) = false := by
 rw [Bool.eq_false_iff]; exact fun hh => h (str_beq.1 hh)
theorem str_ne_false {a b : ByteArray} (h : a = b) : (!a.toList == b.toList) = false := by rw [str_eq_true h]; rfl
theorem str_ne_true {a b : ByteArray} (h : ¬ a = b) : (!a.toList == b.toList) = true := by rw [str_eq_false h]; rfl
def IsS (w : World) (a : Option Addr) (c : Nat) (bs : List ByteArray) : Prop :=
 bs.length ≤ c ∧ c ≤ maxLen ∧ ∀ j x, bs[j]? = some x → ∃ b o, a = some ⟨b, o, none⟩ ∧ b < w.heap.size ∧ w.cell? ⟨b, o + j, none⟩ = some (.string x) ∧ x.size ≤ maxLen
theorem IsS.below {w w' : World} {a : Option Addr} {c : Nat} {bs : List ByteArray} (h : IsS w a c bs) (hb : Below w.heap.size w w') : IsS w' a c bs := by
 refine ⟨h.1, h.2.1, fun j x hx => ?_⟩
 obtain ⟨b, o, ha, hlt, hc, hs⟩ := h.2.2 j x hx
 exact ⟨b, o, ha, Nat.lt_of_lt_of_le hlt hb.size, by rw [hb.cell (p := ⟨b, o + j, none⟩) hlt]; exact hc, hs⟩
theorem isS_nil (w : World) : IsS w none 0 [] := ⟨Nat.le_refl _, Nat.zero_le _, fun j m hj => by simp at hj⟩
theorem isI_nil (w : World) : IsI w none 0 [] := ⟨Nat.le_refl _, Nat.zero_le _, fun j m hj => by simp at hj⟩
theorem IsS.size {w : World} {a : Option Addr} {c : Nat} {bs : List ByteArray} (h : IsS w a c bs) : bs.length ≤ 9223372036854775807 := Nat.le_trans h.1 h.2.1
theorem IsI.size {w : World} {a : Option Addr} {c : Nat} {bs : List Int} (h : IsI w a c bs) : bs.length ≤ 9223372036854775807 := Nat.le_trans h.1 h.2.1
theorem open_S {H : Type} {enc : TypeId × Value → H} {w : World} {fuel : Nat} {v : Value} {x : DataW H × List MemPlace}
  (h : DataW.trod enc Try.prog w 0 (fun _ => true) true fuel 25 [v] = some x) : ∃ a c bs, v = .slice a bs.length c ∧ IsS w a c bs := by
 rcases open_strings Try.underlying25 Try.underlying9 (by kernel_rfl) h with ⟨hcs, _⟩ | ⟨a, l, c, ss, hcs, _, hl, hm, hz, _, hcell, hwz⟩
 ·
  simp at hcs
  exact ⟨none, 0, [], hcs, isS_nil _⟩
 ·
  simp at hcs
  simp at hz
  refine ⟨some a, c, ss.take l, by rw [List.length_take, hz, Nat.min_eq_left hl]; exact hcs, by rw [List.length_take]; omega, hm, fun j y hy => ?_⟩
  have hjl : j < ss.length := by
   have := (List.getElem?_eq_some_iff.1 hy).1
   rw [List.length_take] at this; omega
  have hyy : ss[j]? = some y := by
   rw [List.getElem?_take] at hy
   split at hy
   ·
    exact hy
   ·
    cases hy
  have hc := hcell j hjl
  rw [List.getD_eq_getElem?_getD, hyy] at hc
  obtain ⟨b, o, rfl, hb⟩ := spot_none (hcell 0 (by omega))
  rw [at_add] at hc
  exact ⟨b, o, rfl, hb, hc, hwz y (List.mem_of_getElem? hyy)⟩
def Box4 (w : World) (h : Nat) (v0 v1 v2 v3 : Value) : Prop :=
 (w.cell? ⟨h, 0, none⟩ = some v0 ∧ w.cell? ⟨h, 1, none⟩ = some v1 ∧ w.cell? ⟨h, 2, none⟩ = some v2 ∧ w.cell? ⟨h, 3, none⟩ = some v3) ∧ w.frozen? ⟨h, 0, none⟩ = false ∧ w.frozen? ⟨h, 1, none⟩ = false ∧ w.frozen? ⟨h, 2, none⟩ = false ∧ w.frozen? ⟨h, 3, none⟩ = false
theorem box4_new (w : World) (v0 v1 v2 v3 : Value) (t : TypeId) {h : Nat} (hh : h = w.heap.size) : Box4 (w.alloc (.cells #[v0, v1, v2, v3] t)) h v0 v1 v2 v3 := by
 subst hh
 refine ⟨⟨World.cell?_alloc_at _ _ _ _ rfl, World.cell?_alloc_at _ _ _ _ rfl, World.cell?_alloc_at _ _ _ _ rfl, World.cell?_alloc_at _ _ _ _ rfl⟩, ?_, ?_, ?_, ?_⟩
 ·
  exact (World.frozen?_alloc_mark w _ _ _ _ 0).trans (by simp)
 ·
  exact (World.frozen?_alloc_mark w _ _ _ _ 1).trans (by simp)
 ·
  exact (World.frozen?_alloc_mark w _ _ _ _ 2).trans (by simp)
 ·
  exact (World.frozen?_alloc_mark w _ _ _ _ 3).trans (by simp)
theorem Box4.lt {w : World} {h : Nat} {v0 v1 v2 v3 : Value} (b : Box4 w h v0 v1 v2 v3) : h < w.heap.size := cell_lt b.1.1
theorem Box4.below {w w' : World} {h : Nat} {v0 v1 v2 v3 : Value} (b : Box4 w h v0 v1 v2 v3) (hb : Below w.heap.size w w') : Box4 w' h v0 v1 v2 v3 := by
 have hl := b.lt
 obtain ⟨⟨c0, c1, c2, c3⟩, f0, f1, f2, f3⟩ := b
 exact ⟨⟨cell_below hb c0, cell_below hb c1, cell_below hb c2, cell_below hb c3⟩, by rw [hb.frozen (p := ⟨h, 0, none⟩) hl]; exact f0, by rw [hb.frozen (p := ⟨h, 1, none⟩) hl]; exact f1, by rw [hb.frozen (p := ⟨h, 2, none⟩) hl]; exact f2, by rw [hb.frozen (p := ⟨h, 3, none⟩) hl]; exact f3⟩
theorem Box4.alloc {w : World} {h : Nat} {v0 v1 v2 v3 : Value} (b : Box4 w h v0 v1 v2 v3) (o : Obj) : Box4 (w.alloc o) h v0 v1 v2 v3 := b.below ((Below.refl _ _).alloc (Nat.le_refl _) o)
theorem Box4.drew {w : World} {h : Nat} {v0 v1 v2 v3 : Value} (b : Box4 w h v0 v1 v2 v3) : Box4 w.drew h v0 v1 v2 v3 := b.below (Below.refl _ _).drew
end Go.Proofs.Ytpepgpjiddophaa
namespace Go.Proofs.Ytpepgpjiddophaa
open Go.RowKit Plain
set_option linter.unusedVariables false
structure Turns (P : Nat → Prop) (w w' : World) : Prop where
 os : w'.os = w.os
 tape : w'.tape = w.tape
 output : w'.output = w.output
 size : w.heap.size ≤ w'.heap.size
 block : ∀ k, k < w.heap.size → ¬ P k → w'.heap[k]? = w.heap[k]?
theorem Turns.refl (P : Nat → Prop) (w : World) : Turns P w w := ⟨rfl, rfl, rfl, Nat.le_refl _, fun _ _ _ => rfl⟩
theorem Turns.trans {P : Nat → Prop} {a b c : World} (h : Turns P a b) (k : Turns P b c) : Turns P a c :=
 ⟨k.os.trans h.os, k.tape.trans h.tape, k.output.trans h.output, Nat.le_trans h.size k.size, fun i hi hp => (k.block i (Nat.lt_of_lt_of_le hi h.size) hp).trans (h.block i hi hp)⟩
theorem Turns.mono {P Q : Nat → Prop} {w w' : World} (h : Turns P w w') (hq : ∀ k, P k → Q k) : Turns Q w w' :=
 ⟨h.os, h.tape, h.output, h.size, fun k hk hp => h.block k hk fun x => hp (hq k x)⟩
theorem Turns.mono' {P Q : Nat → Prop} {w w' : World} (h : Turns P w w') (hq : ∀ k, k < w.heap.size → P k → Q k) : Turns Q w w' :=
 ⟨h.os, h.tape, h.output, h.size, fun k hk hp => h.block k hk fun x => hp (hq k hk x)⟩
theorem Turns.of_below {P : Nat → Prop} {w w' : World} (h : Below w.heap.size w w') : Turns P w w' :=
 ⟨h.os, h.tape, h.output, h.size, fun k hk _ => h.block k hk⟩
theorem Turns.drew {P : Nat → Prop} {a w : World} (h : Turns P a w) : Turns P a w.drew := ⟨h.os, h.tape, h.output, h.size, h.block⟩
theorem Turns.alloc {P : Nat → Prop} {a w : World} (h : Turns P a w) (o : Obj) : Turns P a (w.alloc o) :=
 h.trans (Turns.of_below ((Below.refl _ _).alloc (Nat.le_refl _) o))
theorem Turns.setCell {P : Nat → Prop} {a w : World} (h : Turns P a w) {p : Addr} (hp : P p.block) (u : Value) : Turns P a (w.setCell p u) :=
 h.trans ⟨rfl, rfl, rfl, by simp [World.setCell], fun k hk hn => Below.heap_setCell _ _ _ _ (fun e => hn (e ▸ hp))⟩
theorem Turns.grown {P : Nat → Prop} {a w w' : World} {row : Option Nat} (h : Turns P a w) (hg : w.grownBy w' row) (hr : ∀ k, row = some k → P k) : Turns P a w' :=
 h.trans ⟨hg.os, hg.tape, hg.output, hg.size, fun k hk hn => hg.block k hk fun e => hn (hr k e.symm)⟩
theorem Turns.tr {P : Nat → Prop} {a w w' : World} (h : Turns P a w) (hb : Below w.heap.size w w') : Turns P a w' := h.trans (Turns.of_below hb)
theorem Turns.cell {P : Nat → Prop} {w w' : World} (h : Turns P w w') {p : Addr} {v : Value} (hn : ¬ P p.block) (hc : w.cell? p = some v) : w'.cell? p = some v := by
 rw [World.cell?_of_block (w := w) (h.block p.block (cell_lt hc) hn)]; exact hc
theorem Turns.frozen {P : Nat → Prop} {w w' : World} (h : Turns P w w') {p : Addr} (hl : p.block < w.heap.size) (hn : ¬ P p.block) (hc : w.frozen? p = false) : w'.frozen? p = false := by
 rw [World.frozen?_of_block (w := w) (h.block p.block hl hn)]; exact hc
theorem Below.turns {P : Nat → Prop} {w a b : World} (h : Below w.heap.size w a) (k : Turns P a b) (hP : ∀ i, P i → w.heap.size ≤ i) : Below w.heap.size w b :=
 ⟨k.os.trans h.os, k.tape.trans h.tape, k.output.trans h.output, Nat.le_trans h.size k.size, fun i hi => (k.block i (Nat.lt_of_lt_of_le hi h.size) fun x => by have := hP i x; omega).trans (h.block i hi)⟩
theorem Turns.owns {P : Nat → Prop} {w w' : World} {B : Nat} {e : TypeId} {s : Nat} {v : Value} {n : Nat} {xs : List Value} (h : Turns P w w') (ho : w.ownsRow B e s v n xs) (hn : ∀ g, v.ownBlock = some g → ¬ P g) : w'.ownsRow B e s v n xs := by
 obtain ⟨h1, h2⟩ := ho
 refine ⟨h1, ?_⟩
 rcases h2 with h2 | ⟨g, cap, cur, hv, hg, hh, r⟩
 ·
  exact .inl h2
 ·
  have hl : g < w.heap.size := by
   refine Nat.lt_of_not_le fun hx => ?_
   rw [Array.getElem?_eq_none hx] at hh
   cases hh
  exact .inr ⟨g, cap, cur, hv, hg, by rw [h.block g hl (hn g (by rw [hv]; rfl))]; exact hh, r⟩
def From (base : Nat) (a : Option Addr) : Prop := ∀ x, a = some x → base ≤ x.block
theorem from_nil (base : Nat) : From base none := fun x h => by cases h
theorem From.mono {base base' : Nat} {a : Option Addr} (h : From base a) (hb : base' ≤ base) : From base' a := fun x e => Nat.le_trans hb (h x e)
theorem IsI.turns {P : Nat → Prop} {w w' : World} {a : Option Addr} {c : Nat} {ms : List Int} (h : IsI w a c ms) (t : Turns P w w') (hp : ∀ x, a = some x → ¬ P x.block) : IsI w' a c ms := by
 refine ⟨h.1, h.2.1, fun j x hx => ?_⟩
 obtain ⟨b, o, ha, hlt, hc⟩ := h.2.2 j x hx
 exact ⟨b, o, ha, Nat.lt_of_lt_of_le hlt t.size, t.cell (p := ⟨b, o + j, none⟩) (hp ⟨b, o, none⟩ ha) hc⟩
theorem IsS.turns {P : Nat → Prop} {w w' : World} {a : Option Addr} {c : Nat} {ms : List ByteArray} (h : IsS w a c ms) (t : Turns P w w') (hp : ∀ x, a = some x → ¬ P x.block) : IsS w' a c ms := by
 refine ⟨h.1, h.2.1, fun j x hx => ?_⟩
 obtain ⟨b, o, ha, hlt, hc, hs⟩ := h.2.2 j x hx
 exact ⟨b, o, ha, Nat.lt_of_lt_of_le hlt t.size, t.cell (p := ⟨b, o + j, none⟩) (hp ⟨b, o, none⟩ ha) hc, hs⟩
def Apart (u v : Value) : Prop := ∀ g, u.ownBlock = some g → v.ownBlock ≠ some g
theorem Apart.symm {u v : Value} (h : Apart u v) : Apart v u := fun g h1 h2 => h g h2 h1
theorem apart_nil (v : Value) (c : Nat) : Apart (.slice none 0 c) v := fun g h => by simp [Value.ownBlock] at h
theorem apart_grown {v u : Value} {g n cap H : Nat} (h : Apart v u) (hg : v.ownBlock = some g ∨ g = H) (hu : ∀ k, u.ownBlock = some k → k < H) : Apart (.slice (some ⟨g, 0, none⟩) n cap) u := by
 intro k h1 h2
 simp [Value.ownBlock] at h1
 subst h1
 rcases hg with hg | hg
 ·
  exact h g hg h2
 ·
  have := hu g h2; omega
theorem push_S (W : World) (base : Nat) (v : Value) (n : Nat) (l : List ByteArray) (x : ByteArray) (hown : W.ownsRow base 9 1 v n (l.map Value.string)) (hb : base ≤ W.heap.size) (hn : n ≤ 4096) :
  ∃ g cap w', (Builtin.append_ #[25, 25] 25 #[v, .slice (some ⟨W.heap.size, 0, none⟩) 1 1]).run Try.prog (W.alloc (.cells #[.string x] 9)) = .ok (.slice (some ⟨g, 0, none⟩) (n + 1) cap) w' ∧
   w'.ownsRow base 9 1 (.slice (some ⟨g, 0, none⟩) (n + 1) cap) (n + 1) ((l ++ [x]).map Value.string) ∧ (W.alloc (.cells #[.string x] 9)).grownBy w' v.ownBlock ∧ (v.ownBlock = some g ∨ g = W.heap.size + 1) ∧ base ≤ g ∧ g < w'.heap.size := by
 obtain ⟨i0, hi, hz0, hz1, hz2⟩ := info_parts Try.info9
 obtain ⟨g, cap, w', h1, h2, h3, h4, h5⟩ := run_append_lies (P := Try.prog) (W.alloc (.cells #[.string x] 9)) 25 25 base 9 i0 _ 1 16 Try.underlying25 hi hz0 hz1 hz2 rfl (by decide) v n (l.map Value.string) (hown.alloc _) ⟨W.heap.size, 0, none⟩ 1 1 [.string x] rfl
  (by
   intro j u hj
   match j, hj with
   | 0, hj => simp at hj; subst hj; rw [at_add]; exact World.cell?_alloc_at _ _ _ _ rfl)
  (by intro u hu; simp at hu; subst hu; rfl) (by omega) (by unfold maxLen; omega) (by omega) (by simp; omega) (W.heap.size + 1) (by simp)
 refine ⟨g, cap, w', h1, by rw [List.map_append]; exact h2, h3, h4, (h2.lt g rfl).1, h5⟩
theorem owns_S {w : World} {base : Nat} {v : Value} {n : Nat} {l : List ByteArray} (h : w.ownsRow base 9 1 v n (l.map Value.string)) (hl : ∀ x ∈ l, x.size ≤ maxLen) : ∃ a c, v = .slice a n c ∧ n = l.length ∧ IsS w a c l ∧ From base a := by
 have hlen : l.length = n := by simpa using h.1
 have hcells := fun g => h.cells (g := g)
 have hlt := h.lt
 rcases h.2 with ⟨rfl, rfl⟩ | ⟨g, cap, cur, rfl, hg, hh, hnc, hcm, hcs, htk⟩
 ·
  obtain rfl : l = [] := List.length_eq_zero_iff.1 hlen
  exact ⟨none, 0, rfl, rfl, ⟨Nat.le_refl _, Nat.zero_le _, fun j m hj => by simp at hj⟩, from_nil _⟩
 ·
  refine ⟨_, _, rfl, hlen.symm, ⟨by omega, hcm, fun j x hx => ⟨g, 0, rfl, (hlt g rfl).2, ?_, hl x (List.mem_of_getElem? hx)⟩⟩, fun x hx => by cases hx; exact hg⟩
  have := hcells g rfl j (.string x) (by rw [List.getElem?_map, hx]; rfl)
  rw [at_add] at this
  exact this
theorem push_Z (W : World) (base : Nat) (v : Value) (n : Nat) (l : List Int) (x : Int) (hown : W.ownsRow base 3 1 v n (l.map (Value.int .i64))) (hb : base ≤ W.heap.size) (hn : n ≤ 4096) :
  ∃ g cap w', (Builtin.append_ #[28, 28] 28 #[v, .slice (some ⟨W.heap.size, 0, none⟩) 1 1]).run Try.prog (W.alloc (.cells #[.int .i64 x] 3)) = .ok (.slice (some ⟨g, 0, none⟩) (n + 1) cap) w' ∧
   w'.ownsRow base 3 1 (.slice (some ⟨g, 0, none⟩) (n + 1) cap) (n + 1) ((l ++ [x]).map (Value.int .i64)) ∧ (W.alloc (.cells #[.int .i64 x] 3)).grownBy w' v.ownBlock ∧ (v.ownBlock = some g ∨ g = W.heap.size + 1) ∧ base ≤ g ∧ g < w'.heap.size := by
 obtain ⟨i0, hi, hz0, hz1, hz2⟩ := info_parts Try.info3
 obtain ⟨g, cap, w', h1, h2, h3, h4, h5⟩ := run_append_lies (P := Try.prog) (W.alloc (.cells #[.int .i64 x] 3)) 28 28 base 3 i0 _ 1 8 Try.underlying28 hi hz0 hz1 hz2 rfl (by decide) v n (l.map (Value.int .i64)) (hown.alloc _) ⟨W.heap.size, 0, none⟩ 1 1 [.int .i64 x] rfl
  (by
   intro j u hj
   match j, hj with
   | 0, hj => simp at hj; subst hj; rw [at_add]; exact World.cell?_alloc_at _ _ _ _ rfl)
  (by intro u hu; simp at hu; subst hu; rfl) (by omega) (by unfold maxLen; omega) (by omega) (by simp; omega) (W.heap.size + 1) (by simp)
 refine ⟨g, cap, w', h1, by rw [List.map_append]; exact h2, h3, h4, (h2.lt g rfl).1, h5⟩
theorem owns_I {w : World} {base : Nat} {v : Value} {n : Nat} {l : List Int} (h : w.ownsRow base 3 1 v n (l.map (Value.int .i64))) : ∃ a c, v = .slice a n c ∧ n = l.length ∧ IsI w a c l ∧ From base a := by
 have hlen : l.length = n := by simpa using h.1
 have hcells := fun g => h.cells (g := g)
 have hlt := h.lt
 rcases h.2 with ⟨rfl, rfl⟩ | ⟨g, cap, cur, rfl, hg, hh, hnc, hcm, hcs, htk⟩
 ·
  obtain rfl : l = [] := List.length_eq_zero_iff.1 hlen
  exact ⟨none, 0, rfl, rfl, ⟨Nat.le_refl _, Nat.zero_le _, fun j m hj => by simp at hj⟩, from_nil _⟩
 ·
  refine ⟨_, _, rfl, hlen.symm, ⟨by omega, hcm, fun j x hx => ⟨g, 0, rfl, (hlt g rfl).2, ?_⟩⟩, fun x hx => by cases hx; exact hg⟩
  have := hcells g rfl j (.int .i64 x) (by rw [List.getElem?_map, hx]; rfl)
  rw [at_add] at this
  exact this
end Go.Proofs.Ytpepgpjiddophaa
namespace Go.Proofs.Ytpepgpjiddophaa
open Go.RowKit Plain
theorem conv_row (w : World) (l : List UInt8) (m : Nat) (hm : l.length = m) (cap : Nat) :
  (convert 100 9 (.slice (some ⟨w.heap.size, 0, none⟩) m cap)).run Try.prog (w.alloc (.cells ((l.map cellOf).toArray) 5)) = .ok (.string ⟨l.toArray⟩) (w.alloc (.cells ((l.map cellOf).toArray) 5)) := by
 subst hm
 refine run_convert_bytes_back (P := Try.prog) _ 100 9 5 ⟨w.heap.size, 0, none⟩ cap l Try.underlying100 Try.underlying5 Try.underlying9 fun j hj => ?_
 have e : (⟨w.heap.size, 0, none⟩ : Addr).add j = ⟨w.heap.size, j, none⟩ := by
  by_cases h : j = 0 <;> simp [Addr.add, h]
 rw [e, World.cell?_alloc_at _ _ _ _ rfl]
 simp [cellOf, hj]
end Go.Proofs.Ytpepgpjiddophaa
namespace Go.Proofs.Ytpepgpjiddophaa
open Go.RowKit Plain Go.ChangeShapes Go.WideShapes
set_option linter.unusedVariables false
def Box3 (w : World) (h : Nat) (v0 v1 v2 : Value) : Prop :=
 (w.cell? ⟨h, 0, none⟩ = some v0 ∧ w.cell? ⟨h, 1, none⟩ = some v1 ∧ w.cell? ⟨h, 2, none⟩ = some v2) ∧ w.frozen? ⟨h, 0, none⟩ = false ∧ w.frozen? ⟨h, 1, none⟩ = false ∧ w.frozen? ⟨h, 2, none⟩ = false
theorem box3_new (w : World) (v0 v1 v2 : Value) (t : TypeId) : Box3 (w.alloc (.cells #[v0, v1, v2] t)) w.heap.size v0 v1 v2 := by
 refine ⟨⟨World.cell?_alloc_at _ _ _ _ rfl, World.cell?_alloc_at _ _ _ _ rfl, World.cell?_alloc_at _ _ _ _ rfl⟩, ?_, ?_, ?_⟩
 ·
  exact (World.frozen?_alloc_mark w _ _ _ _ 0).trans (by simp)
 ·
  exact (World.frozen?_alloc_mark w _ _ _ _ 1).trans (by simp)
 ·
  exact (World.frozen?_alloc_mark w _ _ _ _ 2).trans (by simp)
theorem Box3.below {w w' : World} {h : Nat} {v0 v1 v2 : Value} (b : Box3 w h v0 v1 v2) (hb : Below w.heap.size w w') : Box3 w' h v0 v1 v2 := by
 obtain ⟨⟨c0, c1, c2⟩, f0, f1, f2⟩ := b
 have hl := cell_lt c0
 exact ⟨⟨cell_below hb c0, cell_below hb c1, cell_below hb c2⟩, by rw [hb.frozen (p := ⟨h, 0, none⟩) hl]; exact f0, by rw [hb.frozen (p := ⟨h, 1, none⟩) hl]; exact f1, by rw [hb.frozen (p := ⟨h, 2, none⟩) hl]; exact f2⟩
end Go.Proofs.Ytpepgpjiddophaa
namespace Go.Proofs.Ytpepgpjiddophaa
open Go.RowKit Plain
set_option linter.unusedVariables false
theorem Box4.turns {P : Nat → Prop} {w w' : World} {h : Nat} {v0 v1 v2 v3 : Value} (b : Box4 w h v0 v1 v2 v3) (t : Turns P w w') (hp : ¬ P h) : Box4 w' h v0 v1 v2 v3 := by
 have hl := b.lt
 obtain ⟨⟨c0, c1, c2, c3⟩, f0, f1, f2, f3⟩ := b
 exact ⟨⟨t.cell hp c0, t.cell hp c1, t.cell hp c2, t.cell hp c3⟩, t.frozen (p := ⟨h, 0, none⟩) hl hp f0, t.frozen (p := ⟨h, 1, none⟩) hl hp f1, t.frozen (p := ⟨h, 2, none⟩) hl hp f2, t.frozen (p := ⟨h, 3, none⟩) hl hp f3⟩
theorem Box3.lt {w : World} {h : Nat} {v0 v1 v2 : Value} (b : Box3 w h v0 v1 v2) : h < w.heap.size := cell_lt b.1.1
theorem Box3.turns {P : Nat → Prop} {w w' : World} {h : Nat} {v0 v1 v2 : Value} (b : Box3 w h v0 v1 v2) (t : Turns P w w') (hp : ¬ P h) : Box3 w' h v0 v1 v2 := by
 have hl := b.lt
 obtain ⟨⟨c0, c1, c2⟩, f0, f1, f2⟩ := b
 exact ⟨⟨t.cell hp c0, t.cell hp c1, t.cell hp c2⟩, t.frozen (p := ⟨h, 0, none⟩) hl hp f0, t.frozen (p := ⟨h, 1, none⟩) hl hp f1, t.frozen (p := ⟨h, 2, none⟩) hl hp f2⟩
theorem Box3.set12 {w : World} {h : Nat} {v0 v1 v2 : Value} (b : Box3 w h v0 v1 v2) (u1 u2 : Value) : Box3 ((w.setCell ⟨h, 1, none⟩ u1).setCell ⟨h, 2, none⟩ u2) h v0 u1 u2 := by
 obtain ⟨⟨c0, c1, c2⟩, f0, f1, f2⟩ := b
 refine ⟨⟨?_, ?_, ?_⟩, ?_, ?_, ?_⟩
 ·
  rw [World.cell?_setCell_other _ _ _ _ (fun hh => by cases hh), World.cell?_setCell_other _ _ _ _ (fun hh => by cases hh)]; exact c0
 ·
  rw [World.cell?_setCell_other _ _ _ _ (fun hh => by cases hh)]; exact World.cell?_setCell_same _ _ _ c1
 ·
  have c2' : (w.setCell ⟨h, 1, none⟩ u1).cell? ⟨h, 2, none⟩ = some v2 := by rw [World.cell?_setCell_other _ _ _ _ (fun hh => by cases hh)]; exact c2
  exact World.cell?_setCell_same _ _ _ c2'
 ·
  rw [World.frozen?_setCell, World.frozen?_setCell]; exact f0
 ·
  rw [World.frozen?_setCell, World.frozen?_setCell]; exact f1
 ·
  rw [World.frozen?_setCell, World.frozen?_setCell]; exact f2
def Off (h : Nat) (u : Value) : Prop := ∀ g, u.ownBlock = some g → g ≠ h
theorem off_nil (h c : Nat) : Off h (.slice none 0 c) := fun g hg => by simp [Value.ownBlock] at hg
theorem off_grown {h g n cap H : Nat} {v : Value} (ho : Off h v) (hg : v.ownBlock = some g ∨ g = H) (hh : h < H) : Off h (.slice (some ⟨g, 0, none⟩) n cap) := by
 intro k hk
 simp [Value.ownBlock] at hk
 subst hk
 rcases hg with hg | hg
 ·
  exact ho g hg
 ·
  omega
theorem owns_off {w : World} {B : Nat} {e : TypeId} {s : Nat} {v : Value} {n h : Nat} {xs : List Value} (ho : w.ownsRow B e s v n xs) (hf : Off h v) (i : Nat) (u : Value) : (w.setCell ⟨h, i, none⟩ u).ownsRow B e s v n xs :=
 Turns.owns (P := fun k => k = h) (Turns.setCell (P := fun k => k = h) (Turns.refl _ _) (p := ⟨h, i, none⟩) rfl u) ho fun g hg e => hf g hg e
structure NodeAt (w : World) (h B : Nat) (l : Bool) (u1 u2 u3 : Value) (xs ys : List ByteArray) (zs : List Int) : Prop where
 box : Box4 w h (.bool l) u1 u2 u3
 r1 : w.ownsRow B 9 1 u1 xs.length (xs.map Value.string)
 r2 : w.ownsRow B 9 1 u2 ys.length (ys.map Value.string)
 r3 : w.ownsRow B 3 1 u3 zs.length (zs.map (Value.int .i64))
 a12 : Apart u1 u2
 a13 : Apart u1 u3
 a23 : Apart u2 u3
 o1 : Off h u1
 o2 : Off h u2
 o3 : Off h u3
 le : B ≤ w.heap.size
theorem NodeAt.turns {P : Nat → Prop} {w w' : World} {h B : Nat} {l : Bool} {u1 u2 u3 : Value} {xs ys : List ByteArray} {zs : List Int} (n : NodeAt w h B l u1 u2 u3 xs ys zs) (t : Turns P w w') (hp : ¬ P h) (hb : ∀ k, P k → k < B) : NodeAt w' h B l u1 u2 u3 xs ys zs :=
 ⟨n.box.turns t hp, t.owns n.r1 fun g hg x => by have := (n.r1.lt g hg).1; have := hb g x; omega, t.owns n.r2 fun g hg x => by have := (n.r2.lt g hg).1; have := hb g x; omega, t.owns n.r3 fun g hg x => by have := (n.r3.lt g hg).1; have := hb g x; omega, n.a12, n.a13, n.a23, n.o1, n.o2, n.o3, Nat.le_trans n.le t.size⟩
theorem NodeAt.below {w w' : World} {h B : Nat} {l : Bool} {u1 u2 u3 : Value} {xs ys : List ByteArray} {zs : List Int} (n : NodeAt w h B l u1 u2 u3 xs ys zs) (hb : Below w.heap.size w w') : NodeAt w' h B l u1 u2 u3 xs ys zs :=
 n.turns (P := fun _ => False) (Turns.of_below hb) id (fun _ x => x.elim)
theorem NodeAt.drew {w : World} {h B : Nat} {l : Bool} {u1 u2 u3 : Value} {xs ys : List ByteArray} {zs : List Int} (n : NodeAt w h B l u1 u2 u3 xs ys zs) : NodeAt w.drew h B l u1 u2 u3 xs ys zs := n.below (Below.refl _ _).drew
theorem NodeAt.alloc {w : World} {h B : Nat} {l : Bool} {u1 u2 u3 : Value} {xs ys : List ByteArray} {zs : List Int} (n : NodeAt w h B l u1 u2 u3 xs ys zs) (o : Obj) : NodeAt (w.alloc o) h B l u1 u2 u3 xs ys zs := n.below ((Below.refl _ _).alloc (Nat.le_refl _) o)
def Own (h B : Nat) (k : Nat) : Prop := k = h ∨ B ≤ k
theorem NodeAt.push1 {w : World} {h B : Nat} {l : Bool} {u1 u2 u3 : Value} {xs ys : List ByteArray} {zs : List Int} (n : NodeAt w h B l u1 u2 u3 xs ys zs) (x : ByteArray) (hl : xs.length ≤ 4096) :
  ∃ g cap w', (Builtin.append_ #[25, 25] 25 #[u1, .slice (some ⟨w.heap.size, 0, none⟩) 1 1]).run Try.prog (w.alloc (.cells #[.string x] 9)) = .ok (.slice (some ⟨g, 0, none⟩) (xs.length + 1) cap) w' ∧ Box4 w' h (.bool l) u1 u2 u3 ∧
   NodeAt (w'.setCell ⟨h, 1, none⟩ (.slice (some ⟨g, 0, none⟩) (xs.length + 1) cap)) h B l (.slice (some ⟨g, 0, none⟩) (xs.length + 1) cap) u2 u3 (xs ++ [x]) ys zs ∧ Turns (Own h B) w (w'.setCell ⟨h, 1, none⟩ (.slice (some ⟨g, 0, none⟩) (xs.length + 1) cap)) := by
 obtain ⟨g, cap, w', hrun, hown, hgr, hat, hge, hlt⟩ := push_S w B u1 xs.length xs x n.r1 n.le hl
 have t0 : Turns (fun k => u1.ownBlock = some k) w w' := ((Turns.refl _ _).alloc _).grown hgr (fun k hk => hk)
 have hbox : Box4 w' h (.bool l) u1 u2 u3 := n.box.turns t0 fun hk => n.o1 h hk rfl
 have hh : h < w.heap.size + 1 := by have := n.box.lt; omega
 refine ⟨g, cap, w', hrun, hbox, ⟨?_, ?_, ?_, ?_, ?_, ?_, n.a23, off_grown n.o1 hat hh, n.o2, n.o3, ?_⟩, ?_⟩
 ·
  obtain ⟨⟨c0, c1, c2, c3⟩, f0, f1, f2, f3⟩ := hbox
  refine ⟨⟨?_, World.cell?_setCell_same _ _ _ c1, ?_, ?_⟩, ?_, ?_, ?_, ?_⟩
  ·
   rw [World.cell?_setCell_other _ _ _ _ (fun hh => by cases hh)]; exact c0
  ·
   rw [World.cell?_setCell_other _ _ _ _ (fun hh => by cases hh)]; exact c2
  ·
   rw [World.cell?_setCell_other _ _ _ _ (fun hh => by cases hh)]; exact c3
  ·
   rw [World.frozen?_setCell]; exact f0
  ·
   rw [World.frozen?_setCell]; exact f1
  ·
   rw [World.frozen?_setCell]; exact f2
  ·
   rw [World.frozen?_setCell]; exact f3
 ·
  rw [List.length_append]
  exact owns_off hown (off_grown n.o1 hat hh) 1 _
 ·
  exact owns_off (t0.owns n.r2 fun k h2 h1 => n.a12 k h1 h2) n.o2 1 _
 ·
  exact owns_off (t0.owns n.r3 fun k h2 h1 => n.a13 k h1 h2) n.o3 1 _
 ·
  exact apart_grown n.a12 hat fun k hk => by have := (n.r2.lt k hk).2; omega
 ·
  exact apart_grown n.a13 hat fun k hk => by have := (n.r3.lt k hk).2; omega
 ·
  have := t0.size
  have := n.le
  simp; omega
 ·
  exact (t0.mono fun k hk => .inr (n.r1.lt k hk).1).setCell (p := ⟨h, 1, none⟩) (.inl rfl) _
theorem NodeAt.push2 {w : World} {h B : Nat} {l : Bool} {u1 u2 u3 : Value} {xs ys : List ByteArray} {zs : List Int} (n : NodeAt w h B l u1 u2 u3 xs ys zs) (x : ByteArray) (hl : ys.length ≤ 4096) :
  ∃ g cap w', (Builtin.append_ #[25, 25] 25 #[u2, .slice (some ⟨w.heap.size, 0, none⟩) 1 1]).run Try.prog (w.alloc (.cells #[.string x] 9)) = .ok (.slice (some ⟨g, 0, none⟩) (ys.length + 1) cap) w' ∧ Box4 w' h (.bool l) u1 u2 u3 ∧
   NodeAt (w'.setCell ⟨h, 2, none⟩ (.slice (some ⟨g, 0, none⟩) (ys.length + 1) cap)) h B l u1 (.slice (some ⟨g, 0, none⟩) (ys.length + 1) cap) u3 xs (ys ++ [x]) zs ∧ Turns (Own h B) w (w'.setCell ⟨h, 2, none⟩ (.slice (some ⟨g, 0, none⟩) (ys.length + 1) cap)) := by
 obtain ⟨g, cap, w', hrun, hown, hgr, hat, hge, hlt⟩ := push_S w B u2 ys.length ys x n.r2 n.le hl
 have t0 : Turns (fun k => u2.ownBlock = some k) w w' := ((Turns.refl _ _).alloc _).grown hgr (fun k hk => hk)
 have hbox : Box4 w' h (.bool l) u1 u2 u3 := n.box.turns t0 fun hk => n.o2 h hk rfl
 have hh : h < w.heap.size + 1 := by have := n.box.lt; omega
 refine ⟨g, cap, w', hrun, hbox, ⟨?_, ?_, ?_, ?_, ?_, n.a13, ?_, n.o1, off_grown n.o2 hat hh, n.o3, ?_⟩, ?_⟩
 ·
  obtain ⟨⟨c0, c1, c2, c3⟩, f0, f1, f2, f3⟩ := hbox
  refine ⟨⟨?_, ?_, World.cell?_setCell_same _ _ _ c2, ?_⟩, ?_, ?_, ?_, ?_⟩
  ·
   rw [World.cell?_setCell_other _ _ _ _ (fun hh => by cases hh)]; exact c0
  ·
   rw [World.cell?_setCell_other _ _ _ _ (fun hh => by cases hh)]; exact c1
  ·
   rw [World.cell?_setCell_other _ _ _ _ (fun hh => by cases hh)]; exact c3
  ·
   rw [World.frozen?_setCell]; exact f0
  ·
   rw [World.frozen?_setCell]; exact f1
  ·
   rw [World.frozen?_setCell]; exact f2
  ·
   rw [World.frozen?_setCell]; exact f3
 ·
  exact owns_off (t0.owns n.r1 fun k h2 h1 => n.a12 k h2 h1) n.o1 2 _
 ·
  rw [List.length_append]
  exact owns_off hown (off_grown n.o2 hat hh) 2 _
 ·
  exact owns_off (t0.owns n.r3 fun k h2 h1 => n.a23 k h1 h2) n.o3 2 _
 ·
  exact (apart_grown n.a12.symm hat fun k hk => by have := (n.r1.lt k hk).2; omega).symm
 ·
  exact apart_grown n.a23 hat fun k hk => by have := (n.r3.lt k hk).2; omega
 ·
  have := t0.size
  have := n.le
  simp; omega
 ·
  exact (t0.mono fun k hk => .inr (n.r2.lt k hk).1).setCell (p := ⟨h, 2, none⟩) (.inl rfl) _
theorem NodeAt.push3 {w : World} {h B : Nat} {l : Bool} {u1 u2 u3 : Value} {xs ys : List ByteArray} {zs : List Int} (n : NodeAt w h B l u1 u2 u3 xs ys zs) (x : Int) (hl : zs.length ≤ 4096) :
  ∃ g cap w', (Builtin.append_ #[28, 28] 28 #[u3, .slice (some ⟨w.heap.size, 0, none⟩) 1 1]).run Try.prog (w.alloc (.cells #[.int .i64 x] 3)) = .ok (.slice (some ⟨g, 0, none⟩) (zs.length + 1) cap) w' ∧ Box4 w' h (.bool l) u1 u2 u3 ∧
   NodeAt (w'.setCell ⟨h, 3, none⟩ (.slice (some ⟨g, 0, none⟩) (zs.length + 1) cap)) h B l u1 u2 (.slice (some ⟨g, 0, none⟩) (zs.length + 1) cap) xs ys (zs ++ [x]) ∧ Turns (Own h B) w (w'.setCell ⟨h, 3, none⟩ (.slice (some ⟨g, 0, none⟩) (zs.length + 1) cap)) := by
 obtain ⟨g, cap, w', hrun, hown, hgr, hat, hge, hlt⟩ := push_Z w B u3 zs.length zs x n.r3 n.le hl
 have t0 : Turns (fun k => u3.ownBlock = some k) w w' := ((Turns.refl _ _).alloc _).grown hgr (fun k hk => hk)
 have hbox : Box4 w' h (.bool l) u1 u2 u3 := n.box.turns t0 fun hk => n.o3 h hk rfl
 have hh : h < w.heap.size + 1 := by have := n.box.lt; omega
 refine ⟨g, cap, w', hrun, hbox, ⟨?_, ?_, ?_, ?_, n.a12, ?_, ?_, n.o1, n.o2, off_grown n.o3 hat hh, ?_⟩, ?_⟩
 ·
  obtain ⟨⟨c0, c1, c2, c3⟩, f0, f1, f2, f3⟩ := hbox
  refine ⟨⟨?_, ?_, ?_, World.cell?_setCell_same _ _ _ c3⟩, ?_, ?_, ?_, ?_⟩
  ·
   rw [World.cell?_setCell_other _ _ _ _ (fun hh => by cases hh)]; exact c0
  ·
   rw [World.cell?_setCell_other _ _ _ _ (fun hh => by cases hh)]; exact c1
  ·
   rw [World.cell?_setCell_other _ _ _ _ (fun hh => by cases hh)]; exact c2
  ·
   rw [World.frozen?_setCell]; exact f0
  ·
   rw [World.frozen?_setCell]; exact f1
  ·
   rw [World.frozen?_setCell]; exact f2
  ·
   rw [World.frozen?_setCell]; exact f3
 ·
  exact owns_off (t0.owns n.r1 fun k h2 h1 => n.a13 k h2 h1) n.o1 3 _
 ·
  exact owns_off (t0.owns n.r2 fun k h2 h1 => n.a23 k h2 h1) n.o2 3 _
 ·
  rw [List.length_append]
  exact owns_off hown (off_grown n.o3 hat hh) 3 _
 ·
  exact (apart_grown n.a13.symm hat fun k hk => by have := (n.r1.lt k hk).2; omega).symm
 ·
  exact (apart_grown n.a23.symm hat fun k hk => by have := (n.r2.lt k hk).2; omega).symm
 ·
  have := t0.size
  have := n.le
  simp; omega
 ·
  exact (t0.mono fun k hk => .inr (n.r3.lt k hk).1).setCell (p := ⟨h, 3, none⟩) (.inl rfl) _
theorem NodeAt.rows {w : World} {h B : Nat} {l : Bool} {u1 u2 u3 : Value} {xs ys : List ByteArray} {zs : List Int} (n : NodeAt w h B l u1 u2 u3 xs ys zs) (hx : ∀ x ∈ xs, x.size ≤ maxLen) (hy : ∀ x ∈ ys, x.size ≤ maxLen) :
  ∃ a c a' c' a'' c'', u1 = .slice a xs.length c ∧ u2 = .slice a' ys.length c' ∧ u3 = .slice a'' zs.length c'' ∧ IsS w a c xs ∧ IsS w a' c' ys ∧ IsI w a'' c'' zs ∧ From B a ∧ From B a' ∧ From B a'' := by
 obtain ⟨a, c, e1, _, i1, j1⟩ := owns_S n.r1 hx
 obtain ⟨a', c', e2, _, i2, j2⟩ := owns_S n.r2 hy
 obtain ⟨a'', c'', e3, _, i3, j3⟩ := owns_I n.r3
 exact ⟨a, c, a', c', a'', c'', e1, e2, e3, i1, i2, i3, j1, j2, j3⟩
theorem nodeAt_new {w : World} {h B : Nat} {l : Bool} (b : Box4 w h (.bool l) (.slice none 0 0) (.slice none 0 0) (.slice none 0 0)) (le : B ≤ w.heap.size) : NodeAt w h B l (.slice none 0 0) (.slice none 0 0) (.slice none 0 0) [] [] [] :=
 ⟨b, World.ownsRow_nil _ _ _ _, World.ownsRow_nil _ _ _ _, World.ownsRow_nil _ _ _ _, apart_nil _ _, apart_nil _ _, apart_nil _ _, off_nil _ _, off_nil _ _, off_nil _ _, le⟩
theorem NodeAt.other {w : World} {h B : Nat} {l : Bool} {u1 u2 u3 : Value} {xs ys : List ByteArray} {zs : List Int} (n : NodeAt w h B l u1 u2 u3 xs ys zs) {k : Nat} (hk : k < B) (hn : k ≠ h) (i : Nat) (v : Value) : NodeAt (w.setCell ⟨k, i, none⟩ v) h B l u1 u2 u3 xs ys zs :=
 n.turns (P := fun x => x = k) (Turns.setCell (P := fun x => x = k) (Turns.refl _ _) (p := ⟨k, i, none⟩) rfl v) (fun e => hn e.symm) (fun x e => by omega)
def cellsQ (ps : List (ByteArray × ByteArray)) : List Value := ps.flatMap fun p => [.string p.1, .string p.2]
theorem cellsQ_append (ps qs : List (ByteArray × ByteArray)) : cellsQ (ps ++ qs) = cellsQ ps ++ cellsQ qs := by simp [cellsQ]
theorem Try.info71 : (Try.prog.info? 71).map (fun i => (i.zero, i.size, i.bytes)) = some (some (.agg #[.string ⟨#[]⟩, .string ⟨#[]⟩]), 2, 32) := by kernel_rfl
theorem push_Q (W : World) (base : Nat) (v : Value) (n : Nat) (l : List (ByteArray × ByteArray)) (x : ByteArray × ByteArray) (hown : W.ownsRow base 71 2 v n (cellsQ l)) (hb : base ≤ W.heap.size) (hn : n ≤ 1000000000000) :
  ∃ g cap w', (Builtin.append_ #[49, 49] 49 #[v, .slice (some ⟨W.heap.size, 0, none⟩) 1 1]).run Try.prog (W.alloc (.cells #[.string x.1, .string x.2] 71)) = .ok (.slice (some ⟨g, 0, none⟩) (n + 1) cap) w' ∧
   w'.ownsRow base 71 2 (.slice (some ⟨g, 0, none⟩) (n + 1) cap) (n + 1) (cellsQ (l ++ [x])) ∧ (W.alloc (.cells #[.string x.1, .string x.2] 71)).grownBy w' v.ownBlock ∧ (v.ownBlock = some g ∨ g = W.heap.size + 1) ∧ base ≤ g ∧ g < w'.heap.size := by
 obtain ⟨i0, hi, hz0, hz1, hz2⟩ := info_parts Try.info71
 obtain ⟨g, cap, w', h1, h2, h3, h4, h5⟩ := run_append_lies (P := Try.prog) (W.alloc (.cells #[.string x.1, .string x.2] 71)) 49 49 base 71 i0 _ 2 32 Try.underlying49 hi hz0 hz1 hz2 rfl (by decide) v n (cellsQ l) (hown.alloc _) ⟨W.heap.size, 0, none⟩ 1 1 [.string x.1, .string x.2] rfl
  (by
   intro j u hj
   match j, hj with
   | 0, hj => simp at hj; subst hj; rw [at_add]; exact World.cell?_alloc_at _ _ _ _ rfl
   | 1, hj => simp at hj; subst hj; rw [at_add]; exact World.cell?_alloc_at _ _ _ _ rfl)
  (by intro u hu; simp at hu; rcases hu with rfl | rfl <;> rfl) (by omega) (by unfold maxLen; omega) (by omega) (by simp; omega) (W.heap.size + 1) (by simp)
 refine ⟨g, cap, w', h1, by rw [cellsQ_append]; exact h2, h3, h4, (h2.lt g rfl).1, h5⟩
theorem push_Zl (W : World) (base : Nat) (v : Value) (n : Nat) (l : List Int) (x : Int) (hown : W.ownsRow base 3 1 v n (l.map (Value.int .i64))) (hb : base ≤ W.heap.size) (hn : n ≤ 1000000000000) :
  ∃ g cap w', (Builtin.append_ #[28, 28] 28 #[v, .slice (some ⟨W.heap.size, 0, none⟩) 1 1]).run Try.prog (W.alloc (.cells #[.int .i64 x] 3)) = .ok (.slice (some ⟨g, 0, none⟩) (n + 1) cap) w' ∧
   w'.ownsRow base 3 1 (.slice (some ⟨g, 0, none⟩) (n + 1) cap) (n + 1) ((l ++ [x]).map (Value.int .i64)) ∧ (W.alloc (.cells #[.int .i64 x] 3)).grownBy w' v.ownBlock ∧ (v.ownBlock = some g ∨ g = W.heap.size + 1) ∧ base ≤ g ∧ g < w'.heap.size := by
 obtain ⟨i0, hi, hz0, hz1, hz2⟩ := info_parts Try.info3
 obtain ⟨g, cap, w', h1, h2, h3, h4, h5⟩ := run_append_lies (P := Try.prog) (W.alloc (.cells #[.int .i64 x] 3)) 28 28 base 3 i0 _ 1 8 Try.underlying28 hi hz0 hz1 hz2 rfl (by decide) v n (l.map (Value.int .i64)) (hown.alloc _) ⟨W.heap.size, 0, none⟩ 1 1 [.int .i64 x] rfl
  (by
   intro j u hj
   match j, hj with
   | 0, hj => simp at hj; subst hj; rw [at_add]; exact World.cell?_alloc_at _ _ _ _ rfl)
  (by intro u hu; simp at hu; subst hu; rfl) (by omega) (by unfold maxLen; omega) (by omega) (by simp; omega) (W.heap.size + 1) (by simp)
 refine ⟨g, cap, w', h1, by rw [List.map_append]; exact h2, h3, h4, (h2.lt g rfl).1, h5⟩
structure Grows (h : Nat) (u1 u2 : Value) (V : World) (u1' u2' : Value) (V' : World) : Prop where
 t : Turns (fun k => k = h ∨ u1.ownBlock = some k ∨ u2.ownBlock = some k) V V'
 g1 : ∀ g, u1'.ownBlock = some g → u1.ownBlock = some g ∨ V.heap.size ≤ g
 g2 : ∀ g, u2'.ownBlock = some g → u2.ownBlock = some g ∨ V.heap.size ≤ g
theorem Grows.of_below (h : Nat) (u1 u2 : Value) {V V' : World} (hb : Below V.heap.size V V') : Grows h u1 u2 V u1 u2 V' := ⟨Turns.of_below hb, fun _ => .inl, fun _ => .inl⟩
theorem Grows.trans {h : Nat} {u1 u2 u1' u2' u1'' u2'' : Value} {V V' V'' : World} (a : Grows h u1 u2 V u1' u2' V') (b : Grows h u1' u2' V' u1'' u2'' V'') : Grows h u1 u2 V u1'' u2'' V'' := by
 have hs := a.t.size
 refine ⟨⟨b.t.os.trans a.t.os, b.t.tape.trans a.t.tape, b.t.output.trans a.t.output, Nat.le_trans a.t.size b.t.size, fun k hk hp => ?_⟩, fun g hg => ?_, fun g hg => ?_⟩
 ·
  refine (b.t.block k (Nat.lt_of_lt_of_le hk a.t.size) ?_).trans (a.t.block k hk hp)
  rintro (e | e | e)
  ·
   exact hp (.inl e)
  ·
   rcases a.g1 k e with e | e
   ·
    exact hp (.inr (.inl e))
   ·
    omega
  ·
   rcases a.g2 k e with e | e
   ·
    exact hp (.inr (.inr e))
   ·
    omega
 ·
  rcases b.g1 g hg with e | e
  ·
   exact a.g1 g e
  ·
   exact .inr (by omega)
 ·
  rcases b.g2 g hg with e | e
  ·
   exact a.g2 g e
  ·
   exact .inr (by omega)
structure Loc (lo : Nat) (V1 V : World) (u1 u2 : Value) : Prop where
 st : Turns (fun k => k < lo) V1 V
 fr : ∀ g, (u1.ownBlock = some g ∨ u2.ownBlock = some g) → g < lo ∨ V1.heap.size ≤ g
theorem Loc.step {lo h : Nat} {V1 V V' : World} {u1 u2 u1' u2' : Value} (l : Loc lo V1 V u1 u2) (g : Grows h u1 u2 V u1' u2' V') (hh : h < lo) : Loc lo V1 V' u1' u2' := by
 have hs := l.st.size
 refine ⟨⟨g.t.os.trans l.st.os, g.t.tape.trans l.st.tape, g.t.output.trans l.st.output, Nat.le_trans l.st.size g.t.size, fun k hk hp => ?_⟩, fun k hk => ?_⟩
 ·
  refine (g.t.block k (Nat.lt_of_lt_of_le hk hs) ?_).trans (l.st.block k hk hp)
  rintro (e | e)
  ·
   exact hp (by omega)
  ·
   rcases l.fr k e with e | e
   ·
    exact hp e
   ·
    omega
 ·
  rcases hk with e | e
  ·
   rcases g.g1 k e with e | e
   ·
    exact l.fr k (.inl e)
   ·
    exact .inr (by omega)
  ·
   rcases g.g2 k e with e | e
   ·
    exact l.fr k (.inr e)
   ·
    exact .inr (by omega)
structure TreeAt (w : World) (h B : Nat) (u1 u2 : Value) (t : TreeS) : Prop where
 box : Box4 w h u1 u2 (.int .i64 t.height) (.bool t.bad)
 r1 : w.ownsRow B 71 2 u1 t.pairs.length (cellsQ t.pairs)
 r2 : w.ownsRow B 3 1 u2 t.blocks.length (t.blocks.map (Value.int .i64))
 a12 : Apart u1 u2
 hb : h < B
 le : B ≤ w.heap.size
theorem TreeAt.off1 {w : World} {h B : Nat} {u1 u2 : Value} {t : TreeS} (n : TreeAt w h B u1 u2 t) : Off h u1 := fun g hg e => by have := (n.r1.lt g hg).1; have := n.hb; omega
theorem TreeAt.off2 {w : World} {h B : Nat} {u1 u2 : Value} {t : TreeS} (n : TreeAt w h B u1 u2 t) : Off h u2 := fun g hg e => by have := (n.r2.lt g hg).1; have := n.hb; omega
theorem TreeAt.below {w w' : World} {h B : Nat} {u1 u2 : Value} {t : TreeS} (n : TreeAt w h B u1 u2 t) (hb : Below w.heap.size w w') : TreeAt w' h B u1 u2 t := by
 have T : Turns (fun _ => False) w w' := Turns.of_below hb
 exact ⟨n.box.below hb, T.owns n.r1 (fun _ _ x => x), T.owns n.r2 (fun _ _ x => x), n.a12, n.hb, Nat.le_trans n.le hb.size⟩
theorem Grows.low {h B S : Nat} {u1 u2 u1' u2' : Value} {t : TreeS} {w V V' : World} (n : TreeAt V h B u1 u2 t) (g : Grows h u1 u2 V u1' u2' V') (hB : Below w.heap.size w V) (h1 : w.heap.size ≤ h) : Below w.heap.size w V' := by
 have := n.hb
 refine Below.turns hB g.t fun i hi => ?_
 rcases hi with e | e | e
 ·
  omega
 ·
  have := (n.r1.lt i e).1; omega
 ·
  have := (n.r2.lt i e).1; omega
theorem TreeAt.setBad {w : World} {h B : Nat} {u1 u2 : Value} {t : TreeS} (n : TreeAt w h B u1 u2 t) (b : Bool) : TreeAt (w.setCell ⟨h, 3, none⟩ (.bool b)) h B u1 u2 ⟨t.pairs, t.blocks, t.height, b⟩ ∧ Grows h u1 u2 w u1 u2 (w.setCell ⟨h, 3, none⟩ (.bool b)) := by
 refine ⟨⟨?_, owns_off n.r1 n.off1 3 _, owns_off n.r2 n.off2 3 _, n.a12, n.hb, by simpa using n.le⟩, ⟨Turns.setCell (Turns.refl _ _) (p := ⟨h, 3, none⟩) (.inl rfl) _, fun _ => .inl, fun _ => .inl⟩⟩
 obtain ⟨⟨c0, c1, c2, c3⟩, f0, f1, f2, f3⟩ := n.box
 refine ⟨⟨?_, ?_, ?_, World.cell?_setCell_same _ _ _ c3⟩, ?_, ?_, ?_, ?_⟩
 ·
  rw [World.cell?_setCell_other _ _ _ _ (fun hh => by cases hh)]; exact c0
 ·
  rw [World.cell?_setCell_other _ _ _ _ (fun hh => by cases hh)]; exact c1
 ·
  rw [World.cell?_setCell_other _ _ _ _ (fun hh => by cases hh)]; exact c2
 ·
  rw [World.frozen?_setCell]; exact f0
 ·
  rw [World.frozen?_setCell]; exact f1
 ·
  rw [World.frozen?_setCell]; exact f2
 ·
  rw [World.frozen?_setCell]; exact f3
theorem TreeAt.setDeep {w : World} {h B : Nat} {u1 u2 : Value} {t : TreeS} (n : TreeAt w h B u1 u2 t) (d : Int) : TreeAt (w.setCell ⟨h, 2, none⟩ (.int .i64 d)) h B u1 u2 ⟨t.pairs, t.blocks, d, t.bad⟩ ∧ Grows h u1 u2 w u1 u2 (w.setCell ⟨h, 2, none⟩ (.int .i64 d)) := by
 refine ⟨⟨?_, owns_off n.r1 n.off1 2 _, owns_off n.r2 n.off2 2 _, n.a12, n.hb, by simpa using n.le⟩, ⟨Turns.setCell (Turns.refl _ _) (p := ⟨h, 2, none⟩) (.inl rfl) _, fun _ => .inl, fun _ => .inl⟩⟩
 obtain ⟨⟨c0, c1, c2, c3⟩, f0, f1, f2, f3⟩ := n.box
 refine ⟨⟨?_, ?_, World.cell?_setCell_same _ _ _ c2, ?_⟩, ?_, ?_, ?_, ?_⟩
 ·
  rw [World.cell?_setCell_other _ _ _ _ (fun hh => by cases hh)]; exact c0
 ·
  rw [World.cell?_setCell_other _ _ _ _ (fun hh => by cases hh)]; exact c1
 ·
  rw [World.cell?_setCell_other _ _ _ _ (fun hh => by cases hh)]; exact c3
 ·
  rw [World.frozen?_setCell]; exact f0
 ·
  rw [World.frozen?_setCell]; exact f1
 ·
  rw [World.frozen?_setCell]; exact f2
 ·
  rw [World.frozen?_setCell]; exact f3
theorem TreeAt.pushB {w : World} {h B : Nat} {u1 u2 : Value} {t : TreeS} (n : TreeAt w h B u1 u2 t) (x : Int) (hl : t.blocks.length ≤ 1000000000000) :
  ∃ g cap w', (Builtin.append_ #[28, 28] 28 #[u2, .slice (some ⟨w.heap.size, 0, none⟩) 1 1]).run Try.prog (w.alloc (.cells #[.int .i64 x] 3)) = .ok (.slice (some ⟨g, 0, none⟩) (t.blocks.length + 1) cap) w' ∧ Box4 w' h u1 u2 (.int .i64 t.height) (.bool t.bad) ∧
   TreeAt (w'.setCell ⟨h, 1, none⟩ (.slice (some ⟨g, 0, none⟩) (t.blocks.length + 1) cap)) h B u1 (.slice (some ⟨g, 0, none⟩) (t.blocks.length + 1) cap) ⟨t.pairs, t.blocks ++ [x], t.height, t.bad⟩ ∧
   Grows h u1 u2 w u1 (.slice (some ⟨g, 0, none⟩) (t.blocks.length + 1) cap) (w'.setCell ⟨h, 1, none⟩ (.slice (some ⟨g, 0, none⟩) (t.blocks.length + 1) cap)) := by
 obtain ⟨g, cap, w', hrun, hown, hgr, hat, hge, hlt⟩ := push_Zl w B u2 t.blocks.length t.blocks x n.r2 n.le hl
 have t0 : Turns (fun k => u2.ownBlock = some k) w w' := ((Turns.refl _ _).alloc _).grown hgr (fun k hk => hk)
 have hbox : Box4 w' h u1 u2 (.int .i64 t.height) (.bool t.bad) := n.box.turns t0 fun hk => n.off2 h hk rfl
 have hh : h < w.heap.size + 1 := by have := n.box.lt; omega
 have ho := off_grown (n := t.blocks.length + 1) (cap := cap) n.off2 hat hh
 refine ⟨g, cap, w', hrun, hbox, ⟨?_, ?_, ?_, ?_, n.hb, ?_⟩, ⟨(t0.mono fun k hk => .inr (.inr hk)).setCell (p := ⟨h, 1, none⟩) (.inl rfl) _, fun _ => .inl, fun k hk => ?_⟩⟩
 ·
  obtain ⟨⟨c0, c1, c2, c3⟩, f0, f1, f2, f3⟩ := hbox
  refine ⟨⟨?_, World.cell?_setCell_same _ _ _ c1, ?_, ?_⟩, ?_, ?_, ?_, ?_⟩
  ·
   rw [World.cell?_setCell_other _ _ _ _ (fun hh => by cases hh)]; exact c0
  ·
   rw [World.cell?_setCell_other _ _ _ _ (fun hh => by cases hh)]; exact c2
  ·
   rw [World.cell?_setCell_other _ _ _ _ (fun hh => by cases hh)]; exact c3
  ·
   rw [World.frozen?_setCell]; exact f0
  ·
   rw [World.frozen?_setCell]; exact f1
  ·
   rw [World.frozen?_setCell]; exact f2
  ·
   rw [World.frozen?_setCell]; exact f3
 ·
  exact owns_off (t0.owns n.r1 fun k h1 h2 => n.a12 k h1 h2) n.off1 1 _
 ·
  rw [List.length_append]
  exact owns_off hown ho 1 _
 ·
  exact (apart_grown n.a12.symm hat fun k hk => by have := (n.r1.lt k hk).2; omega).symm
 ·
  have := t0.size
  have := n.le
  simp; omega
 ·
  simp [Value.ownBlock] at hk
  subst hk
  rcases hat with e | e
  ·
   exact .inl e
  ·
   exact .inr (by omega)
theorem TreeAt.pushP {w : World} {h B : Nat} {u1 u2 : Value} {t : TreeS} (n : TreeAt w h B u1 u2 t) (x y : ByteArray) (hl : t.pairs.length ≤ 1000000000000) :
  ∃ g cap w', (Builtin.append_ #[49, 49] 49 #[u1, .slice (some ⟨w.heap.size, 0, none⟩) 1 1]).run Try.prog (w.alloc (.cells #[.string x, .string y] 71)) = .ok (.slice (some ⟨g, 0, none⟩) (t.pairs.length + 1) cap) w' ∧ Box4 w' h u1 u2 (.int .i64 t.height) (.bool t.bad) ∧
   TreeAt (w'.setCell ⟨h, 0, none⟩ (.slice (some ⟨g, 0, none⟩) (t.pairs.length + 1) cap)) h B (.slice (some ⟨g, 0, none⟩) (t.pairs.length + 1) cap) u2 ⟨t.pairs ++ [(x, y)], t.blocks, t.height, t.bad⟩ ∧
   Grows h u1 u2 w (.slice (some ⟨g, 0, none⟩) (t.pairs.length + 1) cap) u2 (w'.setCell ⟨h, 0, none⟩ (.slice (some ⟨g, 0, none⟩) (t.pairs.length + 1) cap)) := by
 obtain ⟨g, cap, w', hrun, hown, hgr, hat, hge, hlt⟩ := push_Q w B u1 t.pairs.length t.pairs (x, y) n.r1 n.le hl
 have t0 : Turns (fun k => u1.ownBlock = some k) w w' := ((Turns.refl _ _).alloc _).grown hgr (fun k hk => hk)
 have hbox : Box4 w' h u1 u2 (.int .i64 t.height) (.bool t.bad) := n.box.turns t0 fun hk => n.off1 h hk rfl
 have hh : h < w.heap.size + 1 := by have := n.box.lt; omega
 have ho := off_grown (n := t.pairs.length + 1) (cap := cap) n.off1 hat hh
 refine ⟨g, cap, w', hrun, hbox, ⟨?_, ?_, ?_, ?_, n.hb, ?_⟩, ⟨(t0.mono fun k hk => .inr (.inl hk)).setCell (p := ⟨h, 0, none⟩) (.inl rfl) _, fun k hk => ?_, fun _ => .inl⟩⟩
 ·
  obtain ⟨⟨c0, c1, c2, c3⟩, f0, f1, f2, f3⟩ := hbox
  refine ⟨⟨World.cell?_setCell_same _ _ _ c0, ?_, ?_, ?_⟩, ?_, ?_, ?_, ?_⟩
  ·
   rw [World.cell?_setCell_other _ _ _ _ (fun hh => by cases hh)]; exact c1
  ·
   rw [World.cell?_setCell_other _ _ _ _ (fun hh => by cases hh)]; exact c2
  ·
   rw [World.cell?_setCell_other _ _ _ _ (fun hh => by cases hh)]; exact c3
  ·
   rw [World.frozen?_setCell]; exact f0
  ·
   rw [World.frozen?_setCell]; exact f1
  ·
   rw [World.frozen?_setCell]; exact f2
  ·
   rw [World.frozen?_setCell]; exact f3
 ·
  rw [List.length_append]
  exact owns_off hown ho 0 _
 ·
  exact owns_off (t0.owns n.r2 fun k h1 h2 => n.a12 k h2 h1) n.off2 0 _
 ·
  exact apart_grown n.a12 hat fun k hk => by have := (n.r2.lt k hk).2; omega
 ·
  have := t0.size
  have := n.le
  simp; omega
 ·
  simp [Value.ownBlock] at hk
  subst hk
  rcases hat with e | e
  ·
   exact .inl e
  ·
   exact .inr (by omega)
end Go.Proofs.Ytpepgpjiddophaa
namespace Go.Proofs.Ytpepgpjiddophaa.Anylast
open Go
def fit (ops : Array Oper) (n : Nat) : Bool :=
 (List.range ops.size).all fun i => match ops[i]? with
  | none => true
  | some o => (o.after.toList.all fun e => !Region.binds .any e || decide (e.on < i)) &&
   match o.dst with
   | none => true
   | some d => decide (d < n) && (List.range ops.size).all fun j => match ops[j]? with
    | none => true
    | some oj => oj.dst != some d || j == i
theorem fit_spec {ops : Array Oper} {n : Nat} (h : fit ops n = true) {i : Nat} {o : Oper} (hi : ops[i]? = some o) :
  (∀ e ∈ o.after, Region.binds .any e = true → e.on < i) ∧ ∀ d, o.dst = some d → d < n ∧ ∀ j oj, ops[j]? = some oj → oj.dst = some d → j = i := by
 have hlt : i < ops.size := (Array.getElem?_eq_some_iff.1 hi).1
 unfold fit at h
 rw [List.all_eq_true] at h
 have h1 := h i (List.mem_range.2 hlt)
 rw [hi] at h1
 simp only [Bool.and_eq_true, List.all_eq_true] at h1
 obtain ⟨ha, hb⟩ := h1
 refine ⟨fun e he hbn => ?_, fun d hd => ?_⟩
 ·
  have h3 := ha e (Array.mem_toList_iff.2 he)
  rw [hbn] at h3
  simpa using h3
 rw [hd] at hb
 simp only [Bool.and_eq_true, List.all_eq_true, decide_eq_true_eq] at hb
 refine ⟨hb.1, fun j oj hj hdj => ?_⟩
 have hjlt : j < ops.size := (Array.getElem?_eq_some_iff.1 hj).1
 have h2 := hb.2 j (List.mem_range.2 hjlt)
 rw [hj] at h2
 simp only [hdj] at h2
 simpa using h2
def waits (o : Oper) (j : Nat) : Bool := o.after.toList.any fun e => Region.binds .any e && e.on == j
theorem waits_spec {o : Oper} {j : Nat} : waits o j = true ↔ ∃ e ∈ o.after, Region.binds .any e = true ∧ e.on = j := by
 unfold waits
 rw [List.any_eq_true]
 constructor
 ·
  rintro ⟨e, he, h⟩
  rw [Bool.and_eq_true, beq_iff_eq] at h
  exact ⟨e, Array.mem_toList_iff.1 he, h.1, h.2⟩
 ·
  rintro ⟨e, he, h1, h2⟩
  exact ⟨e, Array.mem_toList_iff.2 he, by rw [Bool.and_eq_true, beq_iff_eq]; exact ⟨h1, h2⟩⟩
def free (ops : Array Oper) (i d : Nat) : Bool :=
 (List.range ops.size).all fun j => match ops[j]? with
  | none => true
  | some oj => oj.dst != some d || j == i || waits oj i
theorem free_spec {ops : Array Oper} {i d : Nat} (h : free ops i d = true) {j : Nat} {oj : Oper} (hj : ops[j]? = some oj) (hd : oj.dst = some d) : j = i ∨ ∃ e ∈ oj.after, Region.binds .any e = true ∧ e.on = i := by
 unfold free at h
 rw [List.all_eq_true] at h
 have h1 := h j (List.mem_range.2 (Array.getElem?_eq_some_iff.1 hj).1)
 rw [hj] at h1
 simp only [hd] at h1
 rw [← waits_spec]
 simpa using h1
def Amid (ops : Array Oper) (a0 : Act) (V : Nat → Value → World → Prop) (S : Array Bool → World → Prop) (listed : Array Bool) (a : Act) (w : World) : Prop :=
 (S listed w) ∧
 (a.defers = a0.defers) ∧
 (a.tmps.size = a0.tmps.size) ∧
 (listed.size = ops.size) ∧
 (∀ (j : Nat) (oj : Oper), ops[j]? = some oj → listed.getD j false = true → ∀ e ∈ oj.after, Region.binds .any e = true → listed.getD e.on false = true) ∧
 (∀ d : Nat, (∀ (j : Nat) (oj : Oper), ops[j]? = some oj → oj.dst = some d → listed.getD j false = false) → a.tmps[d]? = a0.tmps[d]?) ∧
 (∀ (j : Nat) (oj : Oper) (d : Nat), ops[j]? = some oj → oj.dst = some d → listed.getD j false = true → ∃ v, a.tmps[d]? = some v ∧ V j v w)
theorem Amid.held {ops : Array Oper} {a0 : Act} {V : Nat → Value → World → Prop} {S : Array Bool → World → Prop} {listed : Array Bool} {a : Act} {w : World} (h : Amid ops a0 V S listed a w) : S listed w := h.1
theorem Amid.defers {ops : Array Oper} {a0 : Act} {V : Nat → Value → World → Prop} {S : Array Bool → World → Prop} {listed : Array Bool} {a : Act} {w : World} (h : Amid ops a0 V S listed a w) : a.defers = a0.defers := h.2.1
theorem Amid.size {ops : Array Oper} {a0 : Act} {V : Nat → Value → World → Prop} {S : Array Bool → World → Prop} {listed : Array Bool} {a : Act} {w : World} (h : Amid ops a0 V S listed a w) : a.tmps.size = a0.tmps.size := h.2.2.1
theorem Amid.lsize {ops : Array Oper} {a0 : Act} {V : Nat → Value → World → Prop} {S : Array Bool → World → Prop} {listed : Array Bool} {a : Act} {w : World} (h : Amid ops a0 V S listed a w) : listed.size = ops.size := h.2.2.2.1
theorem Amid.closed {ops : Array Oper} {a0 : Act} {V : Nat → Value → World → Prop} {S : Array Bool → World → Prop} {listed : Array Bool} {a : Act} {w : World} (h : Amid ops a0 V S listed a w) : ∀ (j : Nat) (oj : Oper), ops[j]? = some oj → listed.getD j false = true → ∀ e ∈ oj.after, Region.binds .any e = true → listed.getD e.on false = true := h.2.2.2.2.1
theorem Amid.same {ops : Array Oper} {a0 : Act} {V : Nat → Value → World → Prop} {S : Array Bool → World → Prop} {listed : Array Bool} {a : Act} {w : World} (h : Amid ops a0 V S listed a w) : ∀ d : Nat, (∀ (j : Nat) (oj : Oper), ops[j]? = some oj → oj.dst = some d → listed.getD j false = false) → a.tmps[d]? = a0.tmps[d]? := h.2.2.2.2.2.1
theorem Amid.val {ops : Array Oper} {a0 : Act} {V : Nat → Value → World → Prop} {S : Array Bool → World → Prop} {listed : Array Bool} {a : Act} {w : World} (h : Amid ops a0 V S listed a w) : ∀ (j : Nat) (oj : Oper) (d : Nat), ops[j]? = some oj → oj.dst = some d → listed.getD j false = true → ∃ v, a.tmps[d]? = some v ∧ V j v w := h.2.2.2.2.2.2
theorem getD_set (listed : Array Bool) (i j : Nat) (hi : i < listed.size) (b : Bool) : (listed.setIfInBounds i true).getD j b = if j = i then true else listed.getD j b := by
 simp only [Array.getD_eq_getD_getElem?, Array.getElem?_setIfInBounds]
 by_cases h : i = j
 ·
  subst h; simp [hi]
 ·
  rw [if_neg h, if_neg (fun e => h e.symm)]
def left (listed : Array Bool) : Nat := listed.toList.countP (fun b => !b)
theorem left_set (listed : Array Bool) (i : Nat) (hi : i < listed.size) (h : listed.getD i true = false) : left (listed.setIfInBounds i true) + 1 = left listed := by
 unfold left
 rw [Array.toList_setIfInBounds]
 have hl : i < listed.toList.length := by simpa using hi
 have hv : listed.toList[i] = false := by
  simp only [Array.getD_eq_getD_getElem?, Array.getElem?_eq_getElem hi, Option.getD_some] at h
  simpa using h
 have hpos : 0 < listed.toList.countP (fun b => !b) := by
  rw [List.countP_pos_iff]
  exact ⟨false, by rw [← hv]; exact List.getElem_mem hl, rfl⟩
 rw [List.countP_set hl, hv]
 have e1 : (!false) = true := rfl
 have e2 : (!true) = false := rfl
 simp only [e1, e2, if_true, Bool.false_eq_true, if_false, Nat.add_zero]
 omega
theorem getD_both {listed : Array Bool} {i : Nat} (hi : i < listed.size) (b c : Bool) : listed.getD i b = listed.getD i c := by
 simp [Array.getD_eq_getD_getElem?, hi]
theorem any_inv {P : Program} {ops : Array Oper} {Q : Exit → Act → World → Prop} {a0 : Act} (V : Nat → Value → World → Prop) (S : Array Bool → World → Prop) (R : World → World → Prop)
  (hfit : fit ops a0.tmps.size = true)
  (hmono : ∀ i v w w', R w w' → V i v w → V i v w')
  (hstep : ∀ i o, ops[i]? = some o → ∀ listed a w, i < listed.size → listed.getD i false = false → (∀ (j : Nat) (oj : Oper), ops[j]? = some oj → listed.getD j false = true → ∀ e ∈ oj.after, Region.binds .any e = true → listed.getD e.on false = true) → (∀ e ∈ o.after, Region.binds .any e = true → listed.getD e.on false = true) → S listed w → a.defers = a0.defers → a.tmps.size = a0.tmps.size →
   (∀ j oj d, ops[j]? = some oj → oj.dst = some d → waits o j = true → ∃ v, a.tmps[d]? = some v ∧ V j v w) →
   (∀ d, free ops i d = true → a.tmps[d]? = a0.tmps[d]?) →
   wpOp P ops Q i (fun a' w' => ∃ v, a' = a.put o.dst v ∧ V i v w' ∧ S (listed.setIfInBounds i true) w' ∧ R w w') a w)
  (hdone : ∀ listed a w, (∀ i, i < ops.size → listed.getD i false = true) → S listed w → a.defers = a0.defers → a.tmps.size = a0.tmps.size →
   (∀ d, (∀ (j : Nat) (oj : Oper), ops[j]? = some oj → oj.dst ≠ some d) → a.tmps[d]? = a0.tmps[d]?) →
   (∀ j oj d, ops[j]? = some oj → oj.dst = some d → ∃ v, a.tmps[d]? = some v ∧ V j v w) → Q .normal a w) :
  ∀ (fuel : Nat) (listed : Array Bool) (a : Act) (w : World), left listed = fuel → Amid ops a0 V S listed a w → wpAny P .any ops Q fuel listed a w := by
 have hend : ∀ (listed : Array Bool) (a : Act) (w : World), Amid ops a0 V S listed a w → Region.ready .any ops listed = [] → Q .normal a w := by
  intro listed a w hI hr
  have hall : ∀ i, i < ops.size → listed.getD i false = true := by
   intro i
   induction i using Nat.strongRecOn with
   | _ i ih =>
    intro hi
    have hi' : i < listed.size := by rw [hI.lsize]; exact hi
    cases hc : listed.getD i false with
    | true => rfl
    | false =>
     exfalso
     have hm : i ∈ Region.ready .any ops listed := by
      rw [mem_ready]
      refine ⟨by rw [getD_both hi' true false]; exact hc, _, Array.getElem?_eq_getElem hi, fun e he hbn => ?_⟩
      have hlt := (fit_spec hfit (Array.getElem?_eq_getElem hi)).1 e he hbn
      exact ih e.on hlt (by omega)
     rw [hr] at hm
     cases hm
  refine hdone listed a w hall hI.held hI.defers hI.size (fun d hd => hI.same d fun j oj hj hdj => absurd hdj (hd j oj hj)) fun j oj d hj hd => hI.val j oj d hj hd (hall j (Array.getElem?_eq_some_iff.1 hj).1)
 have hone : ∀ (listed : Array Bool) (a : Act) (w : World) (i : Nat), Amid ops a0 V S listed a w → i ∈ Region.ready .any ops listed → wpOp P ops Q i (Amid ops a0 V S (listed.setIfInBounds i true)) a w := by
  intro listed a w i hI hi
  obtain ⟨h0, o, ho, hall⟩ := mem_ready.1 hi
  have hlt : i < ops.size := (Array.getElem?_eq_some_iff.1 ho).1
  have hlt' : i < listed.size := by rw [hI.lsize]; exact hlt
  have h0' : listed.getD i false = false := by rw [getD_both hlt' false true]; exact h0
  obtain ⟨_, hdst⟩ := fit_spec hfit ho
  refine wpOp_mono ?_ (hstep i o ho listed a w hlt' h0' hI.closed hall hI.held hI.defers hI.size ?_ ?_)
  ·
   rintro a' w' ⟨v, rfl, hV, hS, hR⟩
   refine ⟨hS, ?_, ?_, by rw [Array.size_setIfInBounds]; exact hI.lsize, ?_, ?_, ?_⟩
   ·
    cases hd : o.dst <;> exact hI.defers
   ·
    cases hd : o.dst with
    | none => exact hI.size
    | some d => simpa [Act.put] using hI.size
   ·
    intro j oj hj hl e he hb
    rw [getD_set _ _ _ hlt']
    by_cases hji : j = i
    ·
     subst hji
     rw [ho] at hj
     cases hj
     have := hall e he hb
     split
     ·
      rfl
     ·
      exact this
    ·
     rw [getD_set _ _ _ hlt', if_neg hji] at hl
     split
     ·
      rfl
     ·
      exact hI.closed j oj hj hl e he hb
   ·
    intro d hd
    have hne : o.dst ≠ some d := by
     intro e
     have := hd i o ho e
     rw [getD_set _ _ _ hlt', if_pos rfl] at this
     cases this
    have hs := hI.same d fun j oj hj hdj => by
     have h := hd j oj hj hdj
     rw [getD_set _ _ _ hlt'] at h
     split at h
     ·
      cases h
     ·
      exact h
    cases hdd : o.dst with
    | none => exact hs
    | some d' =>
     have : d' ≠ d := fun e => hne (by rw [hdd, e])
     simp only [Act.put]
     rw [Array.getElem?_setIfInBounds_ne this]
     exact hs
   ·
    intro j oj d hj hd hl
    by_cases hji : j = i
    ·
     subst hji
     rw [ho] at hj
     cases hj
     refine ⟨v, ?_, hV⟩
     rw [hd]
     have := (hdst d hd).1
     simp only [Act.put]
     rw [Array.getElem?_setIfInBounds_self_of_lt (by rw [hI.size]; exact this)]
    ·
     rw [getD_set _ _ _ hlt', if_neg hji] at hl
     obtain ⟨u, hu, hVu⟩ := hI.val j oj d hj hd hl
     refine ⟨u, ?_, hmono j u _ _ hR hVu⟩
     cases hdd : o.dst with
     | none => exact hu
     | some d' =>
      have : d' ≠ d := fun e => hji ((hdst d' hdd).2 j oj hj (by rw [hd, e]))
      simp only [Act.put]
      rw [Array.getElem?_setIfInBounds_ne this]
      exact hu
  ·
   intro j oj d hj hd hwt
   obtain ⟨e, he, hb, rfl⟩ := waits_spec.1 hwt
   exact hI.val _ oj d hj hd (hall e he hb)
  ·
   intro d hd
   refine hI.same d fun j oj hj hdj => ?_
   cases hc : listed.getD j false with
   | false => rfl
   | true =>
    exfalso
    rcases free_spec hd hj hdj with hji | ⟨e, he, hb, hei⟩
    ·
     subst hji
     rw [h0'] at hc
     cases hc
    ·
     have := hI.closed j oj hj hc e he hb
     rw [hei, h0'] at this
     cases this
 intro fuel
 induction fuel with
 | zero =>
  intro listed a w hl hI
  have hr : Region.ready .any ops listed = [] := by
   cases hr : Region.ready .any ops listed with
   | nil => rfl
   | cons i r =>
    exfalso
    have hi : i ∈ Region.ready .any ops listed := by rw [hr]; exact List.mem_cons_self
    obtain ⟨h0, o, ho, _⟩ := mem_ready.1 hi
    have hlt : i < listed.size := by rw [hI.lsize]; exact (Array.getElem?_eq_some_iff.1 ho).1
    have := left_set listed i hlt h0
    omega
  exact ⟨hr, hend listed a w hI hr⟩
 | succ fuel ih =>
  intro listed a w hl hI
  refine ⟨hend listed a w hI, fun i hi => ?_⟩
  obtain ⟨h0, o, ho, _⟩ := mem_ready.1 hi
  have hlt : i < listed.size := by rw [hI.lsize]; exact (Array.getElem?_eq_some_iff.1 ho).1
  have hls := left_set listed i hlt h0
  exact wpOp_mono (fun a' w' h' => ih _ a' w' (by omega) h') (hone listed a w i hI hi)
theorem region_inv {P : Program} {ops : Array Oper} {Q : Exit → Act → World → Prop} {id : Nat} {a0 : Act} {w0 : World} (hm : P.follows .mixedOrders = true) (V : Nat → Value → World → Prop) (S : Array Bool → World → Prop) (R : World → World → Prop)
  (hfit : fit ops a0.tmps.size = true)
  (hmono : ∀ i v w w', R w w' → V i v w → V i v w')
  (hS : S (Array.replicate ops.size false) w0.drew)
  (hstep : ∀ i o, ops[i]? = some o → ∀ listed a w, i < listed.size → listed.getD i false = false → (∀ (j : Nat) (oj : Oper), ops[j]? = some oj → listed.getD j false = true → ∀ e ∈ oj.after, Region.binds .any e = true → listed.getD e.on false = true) → (∀ e ∈ o.after, Region.binds .any e = true → listed.getD e.on false = true) → S listed w → a.defers = a0.defers → a.tmps.size = a0.tmps.size →
   (∀ j oj d, ops[j]? = some oj → oj.dst = some d → waits o j = true → ∃ v, a.tmps[d]? = some v ∧ V j v w) →
   (∀ d, free ops i d = true → a.tmps[d]? = a0.tmps[d]?) →
   wpOp P ops Q i (fun a' w' => ∃ v, a' = a.put o.dst v ∧ V i v w' ∧ S (listed.setIfInBounds i true) w' ∧ R w w') a w)
  (hdone : ∀ listed a w, (∀ i, i < ops.size → listed.getD i false = true) → S listed w → a.defers = a0.defers → a.tmps.size = a0.tmps.size →
   (∀ d, (∀ (j : Nat) (oj : Oper), ops[j]? = some oj → oj.dst ≠ some d) → a.tmps[d]? = a0.tmps[d]?) →
   (∀ j oj d, ops[j]? = some oj → oj.dst = some d → ∃ v, a.tmps[d]? = some v ∧ V j v w) → Q .normal a w) :
  (Code.region id ops true).wp P Q a0 w0 := by
 refine wp_region_any hm (any_inv V S R hfit hmono hstep hdone ops.size (Array.replicate ops.size false) a0 _ ?_ ?_)
 ·
  unfold left
  rw [Array.toList_replicate, List.countP_replicate]
  simp
 ·
  have hf : ∀ j, (Array.replicate ops.size false).getD j false = false := by
   intro j
   simp only [Array.getD_eq_getD_getElem?, Array.getElem?_replicate]
   split <;> rfl
  refine ⟨hS, rfl, rfl, by simp, ?_, fun d _ => rfl, ?_⟩
  ·
   intro j oj _ hl
   rw [hf] at hl
   cases hl
  ·
   intro j oj d _ _ hl
   rw [hf] at hl
   cases hl
theorem wanted_free {ops : Array Oper} {o : Oper} {tmps : Array Value} (h : o.guard = none) : Region.wanted o (yielded ops tmps) = true := by
 unfold Region.wanted
 rw [h]
theorem eval_tmp {a : Act} {d : Nat} {v : Value} (h : a.tmps[d]? = some v) : a.eval (.tmp d) = v := by
 simp [Act.eval, h]
def filledN (ops : Array Oper) (val : Nat → Value) (tmps : Array Value) : Nat → Array Value
 | 0 => tmps
 | n + 1 =>
  match (ops[n]?).bind (·.dst) with
  | some d => (filledN ops val tmps n).setIfInBounds d (val n)
  | none => filledN ops val tmps n
theorem filledN_size (ops : Array Oper) (val : Nat → Value) (tmps : Array Value) (n : Nat) : (filledN ops val tmps n).size = tmps.size := by
 induction n with
 | zero => rfl
 | succ n ih =>
  unfold filledN
  split
  ·
   rw [Array.size_setIfInBounds]; exact ih
  ·
   exact ih
theorem filledN_none {ops : Array Oper} {val : Nat → Value} {tmps : Array Value} {d : Nat} (n : Nat) (h : ∀ (j : Nat) (oj : Oper), j < n → ops[j]? = some oj → oj.dst ≠ some d) : (filledN ops val tmps n)[d]? = tmps[d]? := by
 induction n with
 | zero => rfl
 | succ n ih =>
  have ih' := ih fun j oj hj => h j oj (by omega)
  unfold filledN
  split
  ·
   rename_i d' hd'
   obtain ⟨o, ho, hod⟩ := Option.bind_eq_some_iff.1 hd'
   rw [Array.getElem?_setIfInBounds_ne (fun e => h n o (by omega) ho (by rw [hod, e]))]
   exact ih'
  ·
   exact ih'
theorem filledN_some {ops : Array Oper} {val : Nat → Value} {tmps : Array Value} {d j : Nat} {oj : Oper} (hj : ops[j]? = some oj) (hd : oj.dst = some d) (hlt : d < tmps.size) (hun : ∀ (i : Nat) (oi : Oper), ops[i]? = some oi → oi.dst = some d → i = j) (n : Nat) (hn : j < n) :
  (filledN ops val tmps n)[d]? = some (val j) := by
 induction n with
 | zero => omega
 | succ n ih =>
  unfold filledN
  by_cases hjn : j = n
  ·
   subst hjn
   have e : (ops[j]?).bind (·.dst) = some d := by rw [hj]; exact hd
   rw [e]
   simp only
   rw [Array.getElem?_setIfInBounds_self_of_lt (by rw [filledN_size]; exact hlt)]
  ·
   have ih' := ih (by omega)
   split
   ·
    rename_i d' hd'
    obtain ⟨o, ho, hod⟩ := Option.bind_eq_some_iff.1 hd'
    rw [Array.getElem?_setIfInBounds_ne (fun e => hjn (hun n o ho (by rw [hod, e])).symm)]
    exact ih'
   ·
    exact ih'
theorem val_op {P : Program} {ops : Array Oper} {Q : Exit → Act → World → Prop} {i : Nat} {o : Oper} {a : Act} {w w' : World} {v u : Value} {S : World → Prop} (hi : ops[i]? = some o) (hw : Region.wanted o (yielded ops a.tmps) = true)
  (hr : (execOp a.eval o).run P w = .ok (.value v) w') (hv : v = u) (hS : S w') :
  wpOp P ops Q i (fun a' w' => ∃ v, a' = a.put o.dst v ∧ (o.dst.isSome = true → v = u) ∧ S w' ∧ True) a w := by
 unfold wpOp
 simp only [hi, hw, if_true]
 refine .inl ?_
 unfold Oper.wp
 rw [hr]
 exact ⟨v, rfl, fun _ => hv, hS, trivial⟩
theorem val_skip {P : Program} {ops : Array Oper} {Q : Exit → Act → World → Prop} {i : Nat} {o : Oper} {a : Act} {w w' : World} {u : Value} {S : World → Prop} (hi : ops[i]? = some o) (hw : Region.wanted o (yielded ops a.tmps) = true) (hd : o.dst = none)
  (hr : (execOp a.eval o).run P w = .ok .skip w') (hS : S w') :
  wpOp P ops Q i (fun a' w' => ∃ v, a' = a.put o.dst v ∧ (o.dst.isSome = true → v = u) ∧ S w' ∧ True) a w := by
 unfold wpOp
 simp only [hi, hw, if_true]
 refine .inl ?_
 unfold Oper.wp
 rw [hr]
 refine ⟨undef, ?_, (fun h => by rw [hd] at h; cases h), hS, trivial⟩
 rw [hd]
theorem val_call {P : Program} {ops : Array Oper} {Q : Exit → Act → World → Prop} {i : Nat} {o : Oper} {a : Act} {w w' : World} {f : FuncId} {args : Array Value} {u : Value} {S : World → Prop} (hi : ops[i]? = some o) (hw : Region.wanted o (yielded ops a.tmps) = true)
  (hr : (execOp a.eval o).run P w = .ok (.enter f args) w')
  (hc : Calls P f args w' fun e w'' => e = .returned u ∧ S w'') :
  wpOp P ops Q i (fun a' w' => ∃ v, a' = a.put o.dst v ∧ (o.dst.isSome = true → v = u) ∧ S w' ∧ True) a w := by
 unfold wpOp
 simp only [hi, hw, if_true]
 refine .inl ?_
 unfold Oper.wp
 rw [hr]
 refine Calls.mono hc ?_
 rintro e w'' ⟨rfl, hS⟩
 exact ⟨u, rfl, fun _ => rfl, hS, trivial⟩
def chained (ops : Array Oper) (cs : List Nat) : Bool :=
 (List.range cs.length).all fun j => match cs[j]? with
  | none => true
  | some c => match ops[c]? with
   | none => false
   | some o => (j == 0 || (match cs[j - 1]? with | some c' => waits o c' | none => true)) && ((List.range cs.length).all fun i => i == j || cs[i]? != some c)
theorem chained_spec {ops : Array Oper} {cs : List Nat} (h : chained ops cs = true) {j c : Nat} (hj : cs[j]? = some c) :
  ∃ o, ops[c]? = some o ∧ (∀ c', 0 < j → cs[j - 1]? = some c' → waits o c' = true) ∧ ∀ i, cs[i]? = some c → i = j := by
 have hlt : j < cs.length := (List.getElem?_eq_some_iff.1 hj).1
 unfold chained at h
 rw [List.all_eq_true] at h
 have h1 := h j (List.mem_range.2 hlt)
 rw [hj] at h1
 simp only at h1
 cases ho : ops[c]? with
 | none => rw [ho] at h1; cases h1
 | some o =>
  rw [ho] at h1
  simp only [Bool.and_eq_true, Bool.or_eq_true, List.all_eq_true] at h1
  refine ⟨o, rfl, fun c' h0 hc' => ?_, fun i hi => ?_⟩
  ·
   rw [hc'] at h1
   rcases h1.1 with h2 | h2
   ·
    rw [beq_iff_eq] at h2; omega
   ·
    exact h2
  ·
   have h2 := h1.2 i (List.mem_range.2 (List.getElem?_eq_some_iff.1 hi).1)
   rw [hi] at h2
   simpa using h2
def mayAt (ops : Array Oper) (cs : List Nat) (i k : Nat) : Bool :=
 if cs.contains i then cs[k]? == some i
 else (List.range k).all fun j => match cs[j]? with
  | none => true
  | some c => match ops[c]? with
   | none => true
   | some o => !waits o i
theorem region_chain {P : Program} {ops : Array Oper} {Q : Exit → Act → World → Prop} {id : Nat} {a0 : Act} {w0 : World} (hm : P.follows .mixedOrders = true) (cs : List Nat) (V : Nat → Value → World → Prop) (S : Nat → World → Prop) (R : World → World → Prop)
  (hfit : fit ops a0.tmps.size = true) (hch : chained ops cs = true)
  (hmono : ∀ i v w w', R w w' → V i v w → V i v w')
  (hS : S 0 w0.drew)
  (hstep : ∀ i o, ops[i]? = some o → ∀ k a w, k ≤ cs.length → mayAt ops cs i k = true → S k w → a.defers = a0.defers → a.tmps.size = a0.tmps.size →
   (∀ j oj d, ops[j]? = some oj → oj.dst = some d → waits o j = true → ∃ v, a.tmps[d]? = some v ∧ V j v w) →
   (∀ d, free ops i d = true → a.tmps[d]? = a0.tmps[d]?) →
   wpOp P ops Q i (fun a' w' => ∃ v, a' = a.put o.dst v ∧ V i v w' ∧ S (if cs.contains i = true then k + 1 else k) w' ∧ R w w') a w)
  (n : Nat) (hn : ops.size = n)
  (hdone : ∀ (val : Nat → Value) (w : World), S cs.length w → (∀ j oj, ops[j]? = some oj → oj.dst.isSome = true → V j (val j) w) → Q .normal ⟨filledN ops val a0.tmps n, a0.defers⟩ w) :
  (Code.region id ops true).wp P Q a0 w0 := by
 refine region_inv hm V (fun listed w => ∃ k, k ≤ cs.length ∧ S k w ∧ ∀ j c, cs[j]? = some c → (listed.getD c false = true ↔ j < k)) R hfit hmono ?_ ?_ ?_
 ·
  refine ⟨0, Nat.zero_le _, hS, fun j c _ => ?_⟩
  have hf : (Array.replicate ops.size false).getD c false = false := by
   simp only [Array.getD_eq_getD_getElem?, Array.getElem?_replicate]
   split <;> rfl
  rw [hf]
  simp
 ·
  rintro i o ho listed a w hil h0 hcl hall ⟨k, hk, hs, hlist⟩ hdf hsz hdep hsame
  by_cases hc : i ∈ cs
  ·
   obtain ⟨j, hj⟩ := List.mem_iff_getElem?.1 hc
   obtain ⟨oc, hoc, hw, hun⟩ := chained_spec hch hj
   rw [ho] at hoc
   cases hoc
   have h1 : ¬ j < k := fun h => by rw [(hlist j i hj).2 h] at h0; cases h0
   have h2 : j ≤ k := by
    rcases Nat.eq_zero_or_pos j with hz | hz
    ·
     omega
    ·
     have hjl := (List.getElem?_eq_some_iff.1 hj).1
     have hp : cs[j - 1]? = some cs[j - 1] := List.getElem?_eq_getElem (by omega)
     obtain ⟨e, he, hb, hei⟩ := waits_spec.1 (hw _ hz hp)
     have := hall e he hb
     rw [hei] at this
     have := (hlist _ _ hp).1 this
     omega
   obtain rfl : j = k := by omega
   have hjl := (List.getElem?_eq_some_iff.1 hj).1
   have hcc : cs.contains i = true := by simpa using hc
   refine wpOp_mono ?_ (hstep i o ho j a w hk (by unfold mayAt; rw [if_pos hcc, hj]; simp) hs hdf hsz hdep hsame)
   rintro a' w' ⟨v, e1, e2, e3, e4⟩
   rw [if_pos hcc] at e3
   refine ⟨v, e1, e2, ⟨j + 1, by omega, e3, fun j' c hc' => ?_⟩, e4⟩
   rw [getD_set _ _ _ hil]
   by_cases hci : c = i
   ·
    subst hci
    rw [if_pos rfl]
    have := hun j' hc'
    constructor
    ·
     intro _; omega
    ·
     intro _; rfl
   ·
    rw [if_neg hci, hlist j' c hc']
    have hne : j' ≠ j := fun e => by rw [e, hj] at hc'; cases hc'; exact hci rfl
    omega
  ·
   have hcc : cs.contains i = false := by simpa using hc
   refine wpOp_mono ?_ (hstep i o ho k a w hk ?_ hs hdf hsz hdep hsame)
   ·
    rintro a' w' ⟨v, e1, e2, e3, e4⟩
    rw [if_neg (by rw [hcc]; decide)] at e3
    refine ⟨v, e1, e2, ⟨k, hk, e3, fun j' c hc' => ?_⟩, e4⟩
    rw [getD_set _ _ _ hil, if_neg (fun e => hc (by rw [← e]; exact List.mem_of_getElem? hc'))]
    exact hlist j' c hc'
   ·
    unfold mayAt
    rw [if_neg (by rw [hcc]; decide), List.all_eq_true]
    intro j hj
    have hjk := List.mem_range.1 hj
    have hjc : cs[j]? = some cs[j] := List.getElem?_eq_getElem (by omega)
    obtain ⟨oc, hoc, -, -⟩ := chained_spec hch hjc
    rw [hjc]
    simp only [hoc]
    cases hw : waits oc i with
    | false => rfl
    | true =>
     exfalso
     obtain ⟨e, he, hb, hei⟩ := waits_spec.1 hw
     have := hcl _ oc hoc ((hlist j _ hjc).2 hjk) e he hb
     rw [hei, h0] at this
     cases this
 ·
  rintro listed a w hall ⟨k, hk, hs, hlist⟩ hdf hsz hsame hval
  have hke : k = cs.length := by
   rcases Nat.lt_or_ge k cs.length with h | h
   ·
    exfalso
    have hp : cs[k]? = some cs[k] := List.getElem?_eq_getElem h
    obtain ⟨oc, hoc, -, -⟩ := chained_spec hch hp
    have := (hlist k _ hp).1 (hall _ (Array.getElem?_eq_some_iff.1 hoc).1)
    omega
   ·
    omega
  subst hke
  obtain ⟨val, hv⟩ : ∃ val : Nat → Value, ∀ j oj d, ops[j]? = some oj → oj.dst = some d → a.tmps[d]? = some (val j) ∧ V j (val j) w := by
   refine ⟨fun j => ((ops[j]?).bind (·.dst)).bind (fun d => a.tmps[d]?) |>.getD undef, fun j oj d hj hd => ?_⟩
   obtain ⟨v, h1, h2⟩ := hval j oj d hj hd
   have e : (((ops[j]?).bind (·.dst)).bind (fun d => a.tmps[d]?)).getD undef = v := by rw [hj]; simp [hd, h1]
   show a.tmps[d]? = some ((((ops[j]?).bind (·.dst)).bind (fun d => a.tmps[d]?)).getD undef) ∧ V j ((((ops[j]?).bind (·.dst)).bind (fun d => a.tmps[d]?)).getD undef) w
   rw [e]
   exact ⟨h1, h2⟩
  have e : a = ⟨filledN ops val a0.tmps ops.size, a0.defers⟩ := by
   obtain ⟨tm, df⟩ := a
   simp only at hdf hsz hsame hv
   subst hdf
   congr 1
   apply Array.ext_getElem?
   intro d
   by_cases hx : ∃ (j : Nat) (oj : Oper), ops[j]? = some oj ∧ oj.dst = some d
   ·
    obtain ⟨j, oj, hj, hd⟩ := hx
    rw [(hv j oj d hj hd).1]
    obtain ⟨hdl, hun⟩ := (fit_spec hfit hj).2 d hd
    exact (filledN_some hj hd hdl (fun i oi hi hdi => hun i oi hi hdi) _ (Array.getElem?_eq_some_iff.1 hj).1).symm
   ·
    rw [hsame d fun j oj hj hd => hx ⟨j, oj, hj, hd⟩]
    exact (filledN_none _ fun j oj _ hj hd => hx ⟨j, oj, hj, hd⟩).symm
  rw [e, hn]
  refine hdone val w hs fun j oj hj hd => ?_
  obtain ⟨d, hd'⟩ := Option.isSome_iff_exists.1 hd
  exact (hv j oj d hj hd').2
theorem filledN_congr {ops : Array Oper} {f g : Nat → Value} {tmps : Array Value} (n : Nat) (h : ∀ j oj, ops[j]? = some oj → oj.dst.isSome = true → f j = g j) : filledN ops f tmps n = filledN ops g tmps n := by
 induction n with
 | zero => rfl
 | succ n ih =>
  unfold filledN
  cases hd : (ops[n]?).bind (·.dst) with
  | none => exact ih
  | some d =>
   obtain ⟨o, ho, hod⟩ := Option.bind_eq_some_iff.1 hd
   simp only
   rw [ih, h n o ho (by rw [hod]; rfl)]
theorem region_worlds {P : Program} {ops : Array Oper} {Q : Exit → Act → World → Prop} {id : Nat} {a0 : Act} {w0 : World} (hm : P.follows .mixedOrders = true) (cs : List Nat) (val : Nat → Value) (Wd : Nat → World)
  (hfit : fit ops a0.tmps.size = true) (hch : chained ops cs = true)
  (hS : w0.drew = Wd 0)
  (hstep : ∀ i o, ops[i]? = some o → ∀ k a, k ≤ cs.length → mayAt ops cs i k = true → a.defers = a0.defers → a.tmps.size = a0.tmps.size →
   (∀ j oj d, ops[j]? = some oj → oj.dst = some d → waits o j = true → a.tmps[d]? = some (val j)) →
   (∀ d, free ops i d = true → a.tmps[d]? = a0.tmps[d]?) →
   wpOp P ops Q i (fun a' w' => ∃ v, a' = a.put o.dst v ∧ (o.dst.isSome = true → v = val i) ∧ w' = Wd (if cs.contains i = true then k + 1 else k) ∧ True) a (Wd k))
  (n : Nat) (hn : ops.size = n)
  (hdone : Q .normal ⟨filledN ops val a0.tmps n, a0.defers⟩ (Wd cs.length)) :
  (Code.region id ops true).wp P Q a0 w0 := by
 refine region_chain hm cs (fun i v _ => ∀ o, ops[i]? = some o → o.dst.isSome = true → v = val i) (fun k w => w = Wd k) (fun _ _ => True) hfit hch (fun i v w w' _ h => h) hS ?_ n hn ?_
 ·
  rintro i o ho k a w hk hmay rfl hdf hsz hdep hsame
  refine wpOp_mono ?_ (hstep i o ho k a hk hmay hdf hsz ?_ hsame)
  ·
   rintro a' w' ⟨v, h1, h2, h3, _⟩
   refine ⟨v, h1, fun o' ho' hd' => ?_, h3, trivial⟩
   rw [ho] at ho'
   cases ho'
   exact h2 hd'
  ·
   intro j oj d hj hd hw
   obtain ⟨v, hv, hV⟩ := hdep j oj d hj hd hw
   rw [hv, hV oj hj (by rw [hd]; rfl)]
 ·
  rintro val' w rfl hV
  rw [filledN_congr n fun j oj hj hd => hV j oj hj hd oj hj hd]
  exact hdone
theorem val_append {P : Program} {ops : Array Oper} {Q : Exit → Act → World → Prop} {i : Nat} {o : Oper} {a : Act} {w w' : World} {v u vs vx : Value} {S : World → Prop} {s x : Operand} {t t' : TypeId} (hi : ops[i]? = some o) (hw : Region.wanted o (yielded ops a.tmps) = true)
  (ho : o.op = .call { callee := .builtin .append, args := #[s, x], argTypes := #[t, t'] }) (hs : a.eval s = vs) (hx : a.eval x = vx)
  (hr : (Builtin.append_ #[t, t'] o.type #[vs, vx]).run P w = .ok v w') (hv : v = u) (hS : S w') :
  wpOp P ops Q i (fun a' w' => ∃ v, a' = a.put o.dst v ∧ (o.dst.isSome = true → v = u) ∧ S w' ∧ True) a w := by
 unfold wpOp
 simp only [hi, hw, if_true]
 refine .inl ?_
 unfold Oper.wp execOp
 simp only [ho, resolve, invoke, builtin, Sem.run_bind, Sem.run_pure, Result.andThen_ok, List.map_toArray, List.map_cons, List.map_nil, hs, hx, hr]
 exact ⟨v, rfl, fun _ => hv, hS, trivial⟩
end Go.Proofs.Ytpepgpjiddophaa.Anylast
namespace Go.Proofs.Ytpepgpjiddophaa
open Go.RowKit Plain
set_option linter.unusedVariables false
def WoodBox (V : World) (h : Nat) (v0 v1 v2 v3 v4 : Value) : Prop :=
 V.cell? ⟨h, 0, none⟩ = some v0 ∧ V.cell? ⟨h, 1, none⟩ = some v1 ∧ V.cell? ⟨h, 2, none⟩ = some v2 ∧ V.cell? ⟨h, 3, none⟩ = some v3 ∧ V.cell? ⟨h, 4, none⟩ = some v4
theorem woodBox_new (w : World) (v0 v1 v2 v3 v4 : Value) (t : TypeId) {h : Nat} (hh : h = w.heap.size) : WoodBox (w.alloc (.cells #[v0, v1, v2, v3, v4] t)) h v0 v1 v2 v3 v4 := by
 subst hh
 exact ⟨World.cell?_alloc_at _ _ _ _ rfl, World.cell?_alloc_at _ _ _ _ rfl, World.cell?_alloc_at _ _ _ _ rfl, World.cell?_alloc_at _ _ _ _ rfl, World.cell?_alloc_at _ _ _ _ rfl⟩
theorem WoodBox.turns {P : Nat → Prop} {V V' : World} {h : Nat} {v0 v1 v2 v3 v4 : Value} (b : WoodBox V h v0 v1 v2 v3 v4) (t : Turns P V V') (hp : ¬ P h) : WoodBox V' h v0 v1 v2 v3 v4 :=
 ⟨t.cell (p := ⟨h, 0, none⟩) hp b.1, t.cell (p := ⟨h, 1, none⟩) hp b.2.1, t.cell (p := ⟨h, 2, none⟩) hp b.2.2.1, t.cell (p := ⟨h, 3, none⟩) hp b.2.2.2.1, t.cell (p := ⟨h, 4, none⟩) hp b.2.2.2.2⟩
theorem WoodBox.below {V V' : World} {h : Nat} {v0 v1 v2 v3 v4 : Value} (b : WoodBox V h v0 v1 v2 v3 v4) (hb : Below V.heap.size V V') : WoodBox V' h v0 v1 v2 v3 v4 :=
 b.turns (P := fun _ => False) (Turns.of_below hb) id
structure NodeLo (V : World) (lo h : Nat) (l : Bool) (a : Option Addr) (m c : Nat) (a' : Option Addr) (m' c' : Nat) (a'' : Option Addr) (m'' c'' : Nat) (ks vs : List ByteArray) (cs : List Int) : Prop where
 box : Box4 V h (.bool l) (.slice a m c) (.slice a' m' c') (.slice a'' m'' c'')
 e1 : m = ks.length
 e2 : m' = vs.length
 e3 : m'' = cs.length
 i1 : IsS V a c ks
 i2 : IsS V a' c' vs
 i3 : IsI V a'' c'' cs
 j0 : lo ≤ h
 j1 : From lo a
 j2 : From lo a'
 j3 : From lo a''
theorem NodeLo.stay {V V' : World} {lo h : Nat} {l : Bool} {a : Option Addr} {m c : Nat} {a' : Option Addr} {m' c' : Nat} {a'' : Option Addr} {m'' c'' : Nat} {ks vs : List ByteArray} {cs : List Int} (n : NodeLo V lo h l a m c a' m' c' a'' m'' c'' ks vs cs) (t : Turns (fun k => k < lo) V V') : NodeLo V' lo h l a m c a' m' c' a'' m'' c'' ks vs cs :=
 ⟨n.box.turns t (by have := n.j0; omega), n.e1, n.e2, n.e3, n.i1.turns t (fun x hx e => by have := n.j1 x hx; omega), n.i2.turns t (fun x hx e => by have := n.j2 x hx; omega), n.i3.turns t (fun x hx e => by have := n.j3 x hx; omega), n.j0, n.j1, n.j2, n.j3⟩
theorem nodeLo_new (V : World) (lo h : Nat) (l : Bool) {a : Option Addr} {m c : Nat} {a' : Option Addr} {m' c' : Nat} {a'' : Option Addr} {m'' c'' : Nat} {ks vs : List ByteArray} {cs : List Int} (hh : h = V.heap.size) (hl : lo ≤ h) (e1 : m = ks.length) (e2 : m' = vs.length) (e3 : m'' = cs.length) (i1 : IsS V a c ks) (i2 : IsS V a' c' vs) (i3 : IsI V a'' c'' cs) (j1 : From lo a) (j2 : From lo a') (j3 : From lo a'') :
  NodeLo (V.alloc (.cells #[.bool l, .slice a m c, .slice a' m' c', .slice a'' m'' c''] 62)) lo h l a m c a' m' c' a'' m'' c'' ks vs cs := by
 subst hh
 have hA := (Below.refl V.heap.size V).alloc (Nat.le_refl _) (.cells #[.bool l, .slice a m c, .slice a' m' c', .slice a'' m'' c''] 62)
 exact ⟨box4_new _ _ _ _ _ _ rfl, e1, e2, e3, i1.below hA, i2.below hA, i3.below hA, hl, j1, j2, j3⟩
theorem box4_unset' {w : World} {g i h : Nat} {v v0 v1 v2 v3 : Value} (b : Box4 (w.setCell ⟨g, i, none⟩ v) h v0 v1 v2 v3) (hn : ¬ h = g) : Box4 w h v0 v1 v2 v3 := by
 obtain ⟨⟨c0, c1, c2, c3⟩, f0, f1, f2, f3⟩ := b
 rw [World.cell?_setCell_other _ _ _ _ (fun hh => by cases hh; exact hn rfl)] at c0 c1 c2 c3
 rw [World.frozen?_setCell] at f0 f1 f2 f3
 exact ⟨⟨c0, c1, c2, c3⟩, f0, f1, f2, f3⟩
theorem cell_unset {w : World} {g i : Nat} {v x : Value} {p : Addr} (h : (w.setCell ⟨g, i, none⟩ v).cell? p = some x) (hn : ¬ p.block = g) : w.cell? p = some x := by
 rw [World.cell?_setCell_other _ _ _ _ (fun hh => hn (by rw [← hh]))] at h
 exact h
theorem get_some {α : Type} {xs : List α} {i : Nat} (h : i < xs.length) : ∃ x, Hid (xs[i]? = some x) := ⟨_, List.getElem?_eq_getElem h⟩
def pairV (h hn b o j B g n cap : Nat) (u vv : Value) (x y : ByteArray) : Nat → Value
 | 0 => .pointer (some ⟨h, 0, none⟩)
 | 1 => .pointer (some ⟨h, 0, none⟩)
 | 2 => .pointer (some ⟨h, 0, none⟩)
 | 3 => .pointer (some ⟨h, 0, none⟩)
 | 4 => u
 | 5 => .string x
 | 6 => .pointer (some ⟨hn, 2, none⟩)
 | 7 => vv
 | 8 => .int .i64 j
 | 9 => .pointer (some ⟨b, o + j, none⟩)
 | 10 => .string y
 | 11 => .agg #[.string x, .string y]
 | 12 => .slice (some ⟨B, 0, none⟩) 1 1
 | 13 => .slice (some ⟨g, 0, none⟩) n cap
 | 14 => .pointer (some ⟨h, 0, none⟩)
 | 15 => .pointer (some ⟨h, 0, none⟩)
 | _ => undef
def worldsQ (w0 w1 w2 w3 : World) : Nat → World
 | 0 => w0
 | 1 => w1
 | 2 => w2
 | _ => w3
theorem contains_more {xs : List Int} {j : Nat} {x b : Int} (hx : xs[j]? = some x) : (xs.take (j + 1)).contains b = ((xs.take j).contains b || decide (b = x)) := by
 rw [List.take_add_one, hx]
 simp
theorem any_more {α : Type} {f : α → Bool} {xs : List α} {j : Nat} {x : α} (hx : xs[j]? = some x) : (xs.take (j + 1)).any f = ((xs.take j).any f || f x) := by
 rw [List.take_add_one, hx]
 simp
theorem fold_more {α β : Type} {f : β → α → β} {xs : List α} {j : Nat} {x : α} (hx : xs[j]? = some x) (t : β) : (xs.take (j + 1)).foldl f t = f ((xs.take j).foldl f t) x := by
 rw [List.take_add_one, hx]
 simp
theorem zip_more {xs ys : List ByteArray} {j : Nat} {x y : ByteArray} (hx : xs[j]? = some x) (hy : ys[j]? = some y) : (xs.zip ys).take (j + 1) = (xs.zip ys).take j ++ [(x, y)] := by
 have : (xs.zip ys)[j]? = some (x, y) := by rw [List.getElem?_zip_eq_some]; exact ⟨hx, hy⟩
 rw [List.take_add_one, this]
 rfl
set_option maxRecDepth 20000 in
theorem within_any (key low high : ByteArray) (w : World) :
  Calls Try.prog 30 #[.string key, .string low, .string high] w fun e w' => e = .returned (.bool (withinS key low high)) ∧ Below w.heap.size w w' := by
 obtain ⟨r, hr⟩ : ∃ r, r = withinS key low high := ⟨_, rfl⟩
 rw [← hr]
 unfold withinS at hr
 cases h1 : ltB key low with
 | true =>
  have h1' : Op.bytesLess key.toList low.toList = true := h1
  rw [h1] at hr
  have hr' : r = false := hr
  clear hr h1
  go_enter Try.func30, Try.ntmps30
  go_wp2
  go_ret
  exact ⟨by rw [hr']; rfl, Below.refl _ _⟩
 | false =>
  have h1' : Op.bytesLess key.toList low.toList = false := h1
  rw [h1] at hr
  by_cases h2 : high.size = 0
  ·
   obtain rfl : high = ⟨#[]⟩ := by
    have h3 : high.data.size = 0 := h2
    cases high with
    | mk d => simp at h3; subst h3; rfl
   have hr' : r = true := by rw [hr]; rfl
   clear hr h1 h2
   go_enter Try.func30, Try.ntmps30
   go_wp2
   go_ret
   exact ⟨by rw [hr']; rfl, Below.refl _ _⟩
  ·
   have h3 : ¬ high.toList = [] := fun e => h2 (by rw [ByteArray.toList_eq] at e; exact (size_list high).symm.trans (by rw [e]; rfl))
   have h5 : high.toList.isEmpty = false := by cases hh : high.toList with | nil => exact absurd hh h3 | cons _ _ => rfl
   cases h4 : ltB key high with
   | true =>
    have h4' : Op.bytesLess key.toList high.toList = true := h4
    have hr' : r = true := by rw [hr, h4]; simp
    clear hr h1 h2 h4
    go_enter Try.func30, Try.ntmps30
    go_wp2
    go_ret
    exact ⟨by rw [hr']; rfl, Below.refl _ _⟩
   | false =>
    have h4' : Op.bytesLess key.toList high.toList = false := h4
    have hr' : r = false := by rw [hr, h4]; simp [h2]
    clear hr h1 h2 h4
    go_enter Try.func30, Try.ntmps30
    go_wp2
    go_ret
    exact ⟨by rw [hr']; rfl, Below.refl _ _⟩
end Go.Proofs.Ytpepgpjiddophaa
namespace Go.Proofs.Ytpepgpjiddophaa
open Go.RowKit Plain Anylast
set_option linter.unusedVariables false
set_option maxRecDepth 20000 in
set_option maxHeartbeats 8000000 in
theorem below_step {w : World} {H : Int → Bool → Option NodeS} (h B : Nat) (a a' b : Option Addr) (n c n' c' p f : Nat) (root gen : Int) (hh : w.heap.size ≤ h)
  (cN : ∀ V block r, Below w.heap.size w V → H block r = none → Calls Try.prog 29 #[(.agg #[.slice a n c, .slice a' n' c', .slice b p f, .int .i64 root, .int .i64 gen]), .int .i64 block, .bool r] V fun x V' => x = .returned (.tuple #[.agg #[.bool false, .slice none 0 0, .slice none 0 0, .slice none 0 0], .bool false]) ∧ Below V.heap.size V V')
  (cY : ∀ V block r (nd : NodeS), Below w.heap.size w V → H block r = some nd → Calls Try.prog 29 #[(.agg #[.slice a n c, .slice a' n' c', .slice b p f, .int .i64 root, .int .i64 gen]), .int .i64 block, .bool r] V fun x V' => ∃ k1 a1 d1 k2 a2 d2 k3 a3 d3, x = .returned (.tuple #[.agg #[.bool nd.1, .slice a1 k1 d1, .slice a2 k2 d2, .slice a3 k3 d3], .bool true]) ∧ k1 = nd.2.1.length ∧ k2 = nd.2.2.1.length ∧ k3 = nd.2.2.2.length ∧ IsS V' a1 d1 nd.2.1 ∧ IsS V' a2 d2 nd.2.2.1 ∧ IsI V' a3 d3 nd.2.2.2 ∧ From V.heap.size a1 ∧ From V.heap.size a2 ∧ From V.heap.size a3 ∧ Below V.heap.size V V')
  (hH : ∀ b r (nd : NodeS), H b r = some nd → nd.2.1.length ≤ 9 ∧ nd.2.2.2.length ≤ 10 ∧ (nd.1 = true → nd.2.2.1.length = nd.2.1.length) ∧ (nd.1 = false → nd.2.2.2.length = nd.2.1.length + 1))
  (k : Nat) (hk8 : k ≤ 8) (ih : ∀ k', k = k' + 1 → ∀ (V : World) (u1 u2 : Value) (t : TreeS) (block : Int) (low high : ByteArray), Below w.heap.size w V → TreeAt V h B u1 u2 t → t.blocks.length + 2 * 10 ^ k' ≤ 1000000000000 → t.pairs.length + 18 * 10 ^ k' ≤ 1000000000000 →
   Calls Try.prog 21 #[.pointer (some ⟨h, 0, none⟩), (.agg #[.slice a n c, .slice a' n' c', .slice b p f, .int .i64 root, .int .i64 gen]), .int .i64 block, .int .i64 (9 - (k' : Int)), .string low, .string high] V fun e V' => e = .returned (.tuple #[]) ∧ ∃ u1' u2', TreeAt V' h B u1' u2' (belowS H k' t block low high) ∧ Grows h u1 u2 V u1' u2' V') :
  ∀ (V : World) (u1 u2 : Value) (t : TreeS) (block : Int) (low high : ByteArray), Below w.heap.size w V → TreeAt V h B u1 u2 t → t.blocks.length + 2 * 10 ^ k ≤ 1000000000000 → t.pairs.length + 18 * 10 ^ k ≤ 1000000000000 →
   Calls Try.prog 21 #[.pointer (some ⟨h, 0, none⟩), (.agg #[.slice a n c, .slice a' n' c', .slice b p f, .int .i64 root, .int .i64 gen]), .int .i64 block, .int .i64 (9 - (k : Int)), .string low, .string high] V fun e V' => e = .returned (.tuple #[]) ∧ ∃ u1' u2', TreeAt V' h B u1' u2' (belowS H k t block low high) ∧ Grows h u1 u2 V u1' u2' V' := by
 intro V u1 u2 t block low high HB T hm1 hm2
 obtain ⟨ua, uc, rfl, hN, -, -⟩ := owns_I T.r2
 obtain ⟨N, hNN⟩ : ∃ N, N = t.blocks.length := ⟨_, rfl⟩
 rw [← hNN] at T ⊢
 obtain ⟨d, hd⟩ : ∃ d : Int, d = 9 - (k : Int) := ⟨_, rfl⟩
 rw [← hd]
 have EN : Hid (N = t.blocks.length) := hNN
 have Hd : Hid (d = 9 - (k : Int)) := hd
 have hpk : 0 < 10 ^ k := Nat.pow_pos (by decide)
 have mN : N ≤ 9223372036854775807 := by omega
 have hhlo : h < V.heap.size := T.box.lt
 obtain ⟨V1, hV1⟩ : ∃ X, X = V.alloc (.cells #[.slice a n c, .slice a' n' c', .slice b p f, .int .i64 root, .int .i64 gen] 27) := ⟨_, rfl⟩
 have hA1 : Below V.heap.size V V1 := by rw [hV1]; exact (Below.refl _ _).alloc (Nat.le_refl _) _
 have T1 := T.below hA1
 have G1 : Grows h u1 (.slice ua N uc) V u1 (.slice ua N uc) V1 := Grows.of_below _ _ _ hA1
 have L1 : Loc V.heap.size V1 V1 u1 (.slice ua N uc) := ⟨Turns.refl _ _, fun g hg => .inl (hg.elim (fun e => (T.r1.lt g e).2) (fun e => (T.r2.lt g e).2))⟩
 have WB1 : WoodBox V1 V.heap.size (.slice a n c) (.slice a' n' c') (.slice b p f) (.int .i64 root) (.int .i64 gen) := by rw [hV1]; exact woodBox_new _ _ _ _ _ _ _ rfl
 have T0 : Hid (TreeAt V h B u1 (.slice ua N uc) t) := T
 have HB' : Hid (Below w.heap.size w V) := HB
 have HM : Hid (t.blocks.length + 2 * 10 ^ k ≤ 1000000000000 ∧ t.pairs.length + 18 * 10 ^ k ≤ 1000000000000) := ⟨hm1, hm2⟩
 have hh' : Hid (w.heap.size ≤ h) := hh
 obtain ⟨⟨q0, q1, q2, q3⟩, f0, f1, f2, f3⟩ := T.box.alloc (.cells #[.slice a n c, .slice a' n' c', .slice b p f, .int .i64 root, .int .i64 gen] 27)
 clear T HB hN hNN hd hm1 hm2 hA1 hpk hh
 have HB := HB'
 have hh := hh'
 clear HB' hh'
 go_enter Try.func21, Try.ntmps21
 go_wp2
 rw [← hV1]
 clear q0 q1 q2 q3 f0 f1 f2 f3 hV1
 go_loopw [27] (fun v wr => ∃ j : Nat, j ≤ N ∧ v = .int .i64 j ∧ TreeAt wr h B u1 (.slice ua N uc) ⟨t.pairs, t.blocks, t.height, t.bad || (t.blocks.take j).contains block⟩ ∧ Grows h u1 (.slice ua N uc) V u1 (.slice ua N uc) wr ∧ Loc V.heap.size V1 wr u1 (.slice ua N uc)) (fun v _ => N - (intOf v).toNat)
 case atStart => exact ⟨0, by omega, rfl, by rw [List.take_zero, List.contains_nil, Bool.or_false]; exact T1, G1, L1⟩
 case round =>
  clear T1 G1 L1
  obtain ⟨j, hj, rfl, D, G, L⟩ := hrel
  by_cases hlt : j < N
  ·
   have hlt' : (j : Int) < N := by omega
   obtain ⟨x, hx⟩ : ∃ x, Hid (t.blocks[j]? = some x) := ⟨_, List.getElem?_eq_getElem (by rw [← EN.out]; exact hlt)⟩
   obtain ⟨a2, c2, e, -, hI, -⟩ := owns_I D.r2
   obtain ⟨e1, -, e3⟩ := Value.slice.inj e
   subst e1 e3
   clear e
   obtain ⟨bl, o, rfl, hlb, hc⟩ := hI.2.2 j x hx.out
   by_cases hxb : block = x
   ·
    subst hxb
    obtain ⟨D', G'⟩ := D.setBad true
    have hfin : Hid (TreeAt (wr.setCell ⟨h, 3, none⟩ (.bool true)) h B u1 (.slice (some ⟨bl, o, none⟩) N uc) ⟨t.pairs, t.blocks, t.height, t.bad || (t.blocks.take (j + 1)).contains block⟩ ∧ Grows h u1 (.slice (some ⟨bl, o, none⟩) N uc) V u1 (.slice (some ⟨bl, o, none⟩) N uc) (wr.setCell ⟨h, 3, none⟩ (.bool true)) ∧ Loc V.heap.size V1 (wr.setCell ⟨h, 3, none⟩ (.bool true)) u1 (.slice (some ⟨bl, o, none⟩) N uc)) := ⟨by rw [contains_more hx.out, decide_eq_true rfl, Bool.or_true, Bool.or_true]; exact D', G.trans G', L.step G' hhlo⟩
    obtain ⟨⟨q0, q1, q2, q3⟩, f0, f1, f2, f3⟩ := id D.box
    clear D G L D' G' hI hlb
    go_wp2
    go_roundw
    case rel => exact ⟨j + 1, by omega, by go_num, hfin.out.1, hfin.out.2.1, hfin.out.2.2⟩
    case measure => simp [intOf]; omega
   ·
    have hfin : Hid (TreeAt wr h B u1 (.slice (some ⟨bl, o, none⟩) N uc) ⟨t.pairs, t.blocks, t.height, t.bad || (t.blocks.take (j + 1)).contains block⟩ ∧ Grows h u1 (.slice (some ⟨bl, o, none⟩) N uc) V u1 (.slice (some ⟨bl, o, none⟩) N uc) wr ∧ Loc V.heap.size V1 wr u1 (.slice (some ⟨bl, o, none⟩) N uc)) := ⟨by rw [contains_more hx.out, decide_eq_false hxb, Bool.or_false]; exact D, G, L⟩
    have hxb' : ¬ x = block := fun e => hxb e.symm
    clear D G L hI hlb
    go_wp2
    go_roundw
    case rel => exact ⟨j + 1, by omega, by go_num, hfin.out.1, hfin.out.2.1, hfin.out.2.2⟩
    case measure => simp [intOf]; omega
  ·
   obtain rfl : N = j := by omega
   have ek : t.blocks.take N = t.blocks := by rw [EN.out]; exact List.take_length
   rw [ek] at D
   obtain ⟨bb, hbb⟩ : ∃ x, x = (t.bad || t.blocks.contains block) := ⟨_, rfl⟩
   rw [← hbb] at D
   have HBB : Hid (bb = (t.bad || t.blocks.contains block)) := hbb
   have WB := WB1.turns L.st (Nat.lt_irrefl _)
   have HBw : Below w.heap.size w wr := Grows.low (S := 0) T0.out G HB.out hh.out
   obtain ⟨⟨q0, q1, q2, q3⟩, f0, f1, f2, f3⟩ := id D.box; obtain ⟨x0, x1, x2, x3, x4⟩ := id WB
   have hj0 : ¬ (N : Int) < N := by omega
   clear ek hbb L hj hlt
   cases hq : H block (decide (d = 1)) with
   | none =>
    cases bb with
    | true =>
     go_wp2_with (go_at_call 29; refine (cN _ _ _ HBw hq).mono ?_; rintro y w1 ⟨rfl, hb⟩; have hA : Below w1.heap.size w1 (w1.alloc (.cells #[.bool false, .slice none 0 0, .slice none 0 0, .slice none 0 0] 62)) := (Below.refl _ _).alloc (Nat.le_refl _) _; replace D := (D.below hb).below hA; replace G := (G.trans (Grows.of_below h _ _ hb)).trans (Grows.of_below h _ _ hA); clear q0 q1 q2 q3 f0 f1 f2 f3 x0 x1 x2 x3 x4; obtain ⟨⟨q0, q1, q2, q3⟩, f0, f1, f2, f3⟩ := id D.box; clear hb hA)
     obtain ⟨D', G'⟩ := D.setBad true
     exact bodyPost_ret (v := .tuple #[]) (by simp [results, Try.results21, go_sem]) rfl ⟨rfl, u1, (.slice ua N uc), by rw [belowS_spoil (.inl HBB.out.symm)]; exact D', G.trans G'⟩
    | false =>
     go_wp2_with (go_at_call 29; refine (cN _ _ _ HBw hq).mono ?_; rintro y w1 ⟨rfl, hb⟩; have hA : Below w1.heap.size w1 (w1.alloc (.cells #[.bool false, .slice none 0 0, .slice none 0 0, .slice none 0 0] 62)) := (Below.refl _ _).alloc (Nat.le_refl _) _; replace D := (D.below hb).below hA; replace G := (G.trans (Grows.of_below h _ _ hb)).trans (Grows.of_below h _ _ hA); clear q0 q1 q2 q3 f0 f1 f2 f3 x0 x1 x2 x3 x4; obtain ⟨⟨q0, q1, q2, q3⟩, f0, f1, f2, f3⟩ := id D.box; clear hb hA)
     obtain ⟨D', G'⟩ := D.setBad true
     exact bodyPost_ret (v := .tuple #[]) (by simp [results, Try.results21, go_sem]) rfl ⟨rfl, u1, (.slice ua N uc), by rw [belowS_spoil (.inr (.inl (by rw [← Hd.out]; exact hq)))]; exact D', G.trans G'⟩
   | some nd =>
    obtain ⟨l, ks, vs, cs⟩ := nd
    obtain ⟨hz1, hz2, hz3, hz4⟩ := hH _ _ _ hq
    replace hz1 : Hid (ks.length ≤ 9) := hz1
    replace hz2 : Hid (cs.length ≤ 10) := hz2
    replace hz3 : Hid (l = true → vs.length = ks.length) := hz3
    replace hz4 : Hid (l = false → cs.length = ks.length + 1) := hz4
    cases bb with
    | true =>
     go_wp2_with (go_at_call 29; refine (cY _ _ _ _ HBw hq).mono ?_; rintro y w1 ⟨k1, a1, d1, k2, a2, d2, k3, a3, d3, rfl, e1, e2, e3, i1, i2, i3, j1, j2, j3, hb⟩; have hA : Below w1.heap.size w1 (w1.alloc (.cells #[.bool l, .slice a1 k1 d1, .slice a2 k2 d2, .slice a3 k3 d3] 62)) := (Below.refl _ _).alloc (Nat.le_refl _) _; have hlo : V.heap.size ≤ wr.heap.size := G.t.size; have hlo1 : wr.heap.size ≤ w1.heap.size := hb.size; have NL := nodeLo_new w1 V.heap.size w1.heap.size l rfl (by omega) e1 e2 e3 i1 i2 i3 (j1.mono hlo) (j2.mono hlo) (j3.mono hlo); replace D := (D.below hb).below hA; replace G := (G.trans (Grows.of_below h _ _ hb)).trans (Grows.of_below h _ _ hA); replace WB := (WB.below hb).below hA; clear q0 q1 q2 q3 f0 f1 f2 f3 x0 x1 x2 x3 x4; obtain ⟨⟨q0, q1, q2, q3⟩, f0, f1, f2, f3⟩ := id D.box; obtain ⟨⟨n0, n1, n2, n3⟩, -⟩ := NL.box; clear hb hA e1 e2 e3 i1 i2 i3 j1 j2 j3 hlo hlo1)
     obtain ⟨D', G'⟩ := D.setBad true
     exact bodyPost_ret (v := .tuple #[]) (by simp [results, Try.results21, go_sem]) rfl ⟨rfl, u1, (.slice ua N uc), by rw [belowS_spoil (.inl HBB.out.symm)]; exact D', G.trans G'⟩
    | false =>
     by_cases hk0 : k = 0
     ·
      have hd8 : (8 : Int) < d := by rw [Hd.out]; omega
      go_wp2_with (go_at_call 29; refine (cY _ _ _ _ HBw hq).mono ?_; rintro y w1 ⟨k1, a1, d1, k2, a2, d2, k3, a3, d3, rfl, e1, e2, e3, i1, i2, i3, j1, j2, j3, hb⟩; have hA : Below w1.heap.size w1 (w1.alloc (.cells #[.bool l, .slice a1 k1 d1, .slice a2 k2 d2, .slice a3 k3 d3] 62)) := (Below.refl _ _).alloc (Nat.le_refl _) _; have hlo : V.heap.size ≤ wr.heap.size := G.t.size; have hlo1 : wr.heap.size ≤ w1.heap.size := hb.size; have NL := nodeLo_new w1 V.heap.size w1.heap.size l rfl (by omega) e1 e2 e3 i1 i2 i3 (j1.mono hlo) (j2.mono hlo) (j3.mono hlo); replace D := (D.below hb).below hA; replace G := (G.trans (Grows.of_below h _ _ hb)).trans (Grows.of_below h _ _ hA); replace WB := (WB.below hb).below hA; clear q0 q1 q2 q3 f0 f1 f2 f3 x0 x1 x2 x3 x4; obtain ⟨⟨q0, q1, q2, q3⟩, f0, f1, f2, f3⟩ := id D.box; obtain ⟨⟨n0, n1, n2, n3⟩, -⟩ := NL.box; clear hb hA e1 e2 e3 i1 i2 i3 j1 j2 j3 hlo hlo1)
      obtain ⟨D', G'⟩ := D.setBad true
      exact bodyPost_ret (v := .tuple #[]) (by simp [results, Try.results21, go_sem]) rfl ⟨rfl, u1, (.slice ua N uc), by rw [belowS_spoil (.inr (.inr (.inl hk0)))]; exact D', G.trans G'⟩
     ·
      have hd8 : ¬ (8 : Int) < d := by rw [Hd.out]; omega
      cases l with
      | true =>
       replace hz3 : Hid (vs.length = ks.length) := hz3.out rfl
       clear hz4
       by_cases hke : ks = []
       ·
        subst hke
        go_wp2_with (go_at_call 29; refine (cY _ _ _ _ HBw hq).mono ?_; rintro y w1 ⟨k1, a1, d1, k2, a2, d2, k3, a3, d3, rfl, e1, e2, e3, i1, i2, i3, j1, j2, j3, hb⟩; have hk1 : ((k1 : Int) == 0) = true := (by rw [e1]; rfl); have hA : Below w1.heap.size w1 (w1.alloc (.cells #[.bool true, .slice a1 k1 d1, .slice a2 k2 d2, .slice a3 k3 d3] 62)) := (Below.refl _ _).alloc (Nat.le_refl _) _; have hlo : V.heap.size ≤ wr.heap.size := G.t.size; have hlo1 : wr.heap.size ≤ w1.heap.size := hb.size; have NL := nodeLo_new w1 V.heap.size w1.heap.size true rfl (by omega) e1 e2 e3 i1 i2 i3 (j1.mono hlo) (j2.mono hlo) (j3.mono hlo); replace D := (D.below hb).below hA; replace G := (G.trans (Grows.of_below h _ _ hb)).trans (Grows.of_below h _ _ hA); replace WB := (WB.below hb).below hA; clear q0 q1 q2 q3 f0 f1 f2 f3 x0 x1 x2 x3 x4; obtain ⟨⟨q0, q1, q2, q3⟩, f0, f1, f2, f3⟩ := id D.box; obtain ⟨⟨n0, n1, n2, n3⟩, -⟩ := NL.box; clear hb hA e1 e2 e3 i1 i2 i3 j1 j2 j3 hlo hlo1)
        obtain ⟨D', G'⟩ := D.setBad true
        exact bodyPost_ret (v := .tuple #[]) (by simp [results, Try.results21, go_sem]) rfl ⟨rfl, u1, (.slice ua N uc), by rw [belowS_spoil (.inr (.inr (.inr ⟨_, by rw [← Hd.out]; exact hq, rfl, rfl⟩)))]; exact D', G.trans G'⟩
       ·
        have tkA : True := trivial
        have hlb : Hid (t.blocks.length ≤ 1000000000000) := Nat.le_trans (Nat.le_add_right _ _) HM.out.1
        have hbk : Hid ((t.bad || t.blocks.contains block) = false) := HBB.out.symm
        go_wp2_with (first
         | (go_at_call 29; refine (cY _ _ _ _ HBw hq).mono ?_; rintro y w1 ⟨k1, a1, d1, k2, a2, d2, k3, a3, d3, rfl, e1, e2, e3, i1, i2, i3, j1, j2, j3, hb⟩; have hA : Below w1.heap.size w1 (w1.alloc (.cells #[.bool true, .slice a1 k1 d1, .slice a2 k2 d2, .slice a3 k3 d3] 62)) := (Below.refl _ _).alloc (Nat.le_refl _) _; have hlo : V.heap.size ≤ wr.heap.size := G.t.size; have hlo1 : wr.heap.size ≤ w1.heap.size := hb.size; have NL := nodeLo_new w1 V.heap.size w1.heap.size true rfl (by omega) e1 e2 e3 i1 i2 i3 (j1.mono hlo) (j2.mono hlo) (j3.mono hlo); replace D := (D.below hb).below hA; replace G := (G.trans (Grows.of_below h _ _ hb)).trans (Grows.of_below h _ _ hA); replace WB := (WB.below hb).below hA; clear q0 q1 q2 q3 f0 f1 f2 f3 x0 x1 x2 x3 x4; obtain ⟨⟨q0, q1, q2, q3⟩, f0, f1, f2, f3⟩ := id D.box; obtain ⟨⟨n0, n1, n2, n3⟩, -⟩ := NL.box;  replace e1 : k1 = ks.length := e1; replace e2 : k2 = vs.length := e2; replace e3 : k3 = cs.length := e3; have L2 : Loc V.heap.size (w1.alloc (.cells #[.bool true, .slice a1 k1 d1, .slice a2 k2 d2, .slice a3 k3 d3] 62)) (w1.alloc (.cells #[.bool true, .slice a1 k1 d1, .slice a2 k2 d2, .slice a3 k3 d3] 62)) u1 (.slice ua N uc) := ⟨Turns.refl _ _, fun g hg => .inl (hg.elim (fun e => (T0.out.r1.lt g e).2) (fun e => (T0.out.r2.lt g e).2))⟩; have NH : Hid (NodeLo (w1.alloc (.cells #[.bool true, .slice a1 k1 d1, .slice a2 k2 d2, .slice a3 k3 d3] 62)) V.heap.size w1.heap.size true a1 k1 d1 a2 k2 d2 a3 k3 d3 ks vs cs) := NL; have WBH : Hid (WoodBox (w1.alloc (.cells #[.bool true, .slice a1 k1 d1, .slice a2 k2 d2, .slice a3 k3 d3] 62)) V.heap.size (.slice a n c) (.slice a' n' c') (.slice b p f) (.int .i64 root) (.int .i64 gen)) := WB; have HE : Hid (k1 = ks.length ∧ k2 = vs.length ∧ k3 = cs.length) := ⟨e1, e2, e3⟩; have mk1 : k1 ≤ 9 := (by rw [e1]; exact hz1.out); have mk3 : k3 ≤ 10 := (by rw [e3]; exact hz2.out); have hz : ¬ ((k1 : Int) = 0) := fun e => hke (List.length_eq_zero_iff.1 (by omega)); have hz' : ((k1 : Int) == 0) = false := (by simpa using hz); clear hz; clear NL hb hA e1 e2 e3 i1 i2 i3 j1 j2 j3 hlo hlo1)
         | (at_builtin; have _t := tkA; clear _t tkA; obtain ⟨g, cap, U, hrun, bU, D', G'⟩ := D.pushB block hlb.out; simp only [World.size_alloc] at hrun; refine Lib.wpList_append_run _ rfl _ _ _ _ rfl _ _ rfl rfl _ _ hrun ?_; replace G := G.trans G'; replace L2 := L2.step G' hhlo; have NL := NH.out.stay L2.st; have hne : ¬ w1.heap.size = h := (by have := NH.out.j0; omega); clear hrun D q0 q1 q2 q3 f0 f1 f2 f3 n0 n1 n2 n3; have D := D'; clear D' G'; obtain ⟨⟨q0, q1, q2, q3⟩, f0, f1, f2, f3⟩ := id bU; obtain ⟨⟨n0, n1, n2, n3⟩, -⟩ := box4_unset' NL.box hne; clear bU NL))
        obtain ⟨u2', hu2'⟩ : ∃ x, x = Value.slice (some ⟨g, 0, none⟩) (t.blocks.length + 1) cap := ⟨_, rfl⟩
        rw [← hu2'] at D G L2 ⊢
        clear q0 q1 q2 q3 f0 f1 f2 f3 n0 n1 n2 n3 hu2' WB
        go_loopw [84] (fun v wr => ∃ (j : Nat) (v1 : Value), j ≤ k1 ∧ v = .int .i64 j ∧ TreeAt wr h B v1 u2' ⟨t.pairs ++ (ks.zip vs).take j, t.blocks ++ [block], t.height, (ks.take j).any fun k => !withinS k low high⟩ ∧ Grows h u1 (.slice ua N uc) V v1 u2' wr ∧ Loc V.heap.size (w1.alloc (.cells #[.bool true, .slice a1 k1 d1, .slice a2 k2 d2, .slice a3 k3 d3] 62)) wr v1 u2') (fun v _ => k1 - (intOf v).toNat)
        case atStart => exact ⟨0, u1, by omega, rfl, by rw [List.take_zero, List.append_nil, List.take_zero, List.any_nil]; exact D, G, L2⟩
        case round =>
         clear D G L2
         obtain ⟨j, v1, hj, rfl, D, G, L⟩ := hrel
         by_cases hlt : j < k1
         ·
          have hlt' : (j : Int) < k1 := by omega
          have NL := NH.out.stay L.st
          obtain ⟨ky, hky⟩ : ∃ x, Hid (ks[j]? = some x) := ⟨_, List.getElem?_eq_getElem (by rw [← HE.out.1]; exact hlt)⟩
          obtain ⟨b1, o1, rfl, -, hc, -⟩ := NL.i1.2.2 j ky hky.out
          obtain ⟨vy, hvy⟩ : ∃ x, Hid (vs[j]? = some x) := ⟨_, List.getElem?_eq_getElem (by rw [hz3.out, ← HE.out.1]; exact hlt)⟩
          obtain ⟨b2, o2, rfl, -, hcv, -⟩ := NL.i2.2.2 j vy hvy.out
          have hlv : (j : Int) < k2 := by rw [HE.out.2.1, hz3.out, ← HE.out.1]; exact hlt'
          have hlp : Hid ((t.pairs ++ (ks.zip vs).take j).length ≤ 1000000000000) := by
           have h1 := HM.out.2
           show _ ≤ _
           rw [List.length_append, List.length_take]
           have h2 : 0 < 10 ^ k := Nat.pow_pos (by decide)
           omega
          obtain ⟨⟨n0, n1, n2, n3⟩, -⟩ := NL.box
          clear NL
          cases hw : withinS ky low high with
          | true =>
           go_wp2_with (go_at_call 30; refine (within_any _ _ _ _).mono ?_; rintro y w2 ⟨rfl, hb⟩; rw [hw]; have G' := Grows.of_below h v1 u2' hb; replace D := D.below hb; replace G := G.trans G'; replace L := L.step G' hhlo; have NL := NH.out.stay L.st; clear G' n0 n1 n2 n3; obtain ⟨⟨n0, n1, n2, n3⟩, -⟩ := NL.box; obtain ⟨⟨q0, q1, q2, q3⟩, f0, f1, f2, f3⟩ := id D.box; clear hb NL)
           obtain ⟨X, hX⟩ : ∃ X, X = w2 := ⟨_, rfl⟩
           rw [← hX] at D G L ⊢
           obtain ⟨W0, hW0⟩ : ∃ X', X' = X.drew := ⟨_, rfl⟩
           have hB0 : Below X.heap.size X W0 := by rw [hW0]; exact (Below.refl _ _).drew
           replace G := G.trans (Grows.of_below h v1 u2' hB0)
           replace L := L.step (Grows.of_below h v1 u2' hB0) hhlo
           replace D := D.below hB0
           have NL := NH.out.stay L.st
           obtain ⟨b3, o3, e3, -, hcv0, -⟩ := NL.i2.2.2 j vy hvy.out
           cases e3
           obtain ⟨Q, hQ⟩ : ∃ Q, Q = (t.pairs ++ (ks.zip vs).take j) := ⟨_, rfl⟩
           rw [← hQ] at D
           obtain ⟨g2, cap2, U2, hrun13, bU, D', G'⟩ := D.pushP ky vy (by show Q.length ≤ _; rw [hQ]; exact hlp.out)
           obtain ⟨W3, hW3⟩ : ∃ X', X' = U2.setCell ⟨h, 0, none⟩ (.slice (some ⟨g2, 0, none⟩) (Q.length + 1) cap2) := ⟨_, rfl⟩
           have hst3 : Hid (U2.setCell ⟨h, 0, none⟩ (.slice (some ⟨g2, 0, none⟩) (Q.length + 1) cap2) = W3) := hW3.symm
           have HW0 : Hid (W0 = X.drew) := hW0
           have hfin : Hid (TreeAt W3 h B (.slice (some ⟨g2, 0, none⟩) (Q.length + 1) cap2) u2' ⟨Q ++ [(ky, vy)], t.blocks ++ [block], t.height, (ks.take j).any fun k => !withinS k low high⟩ ∧ Grows h u1 (.slice ua N uc) V (.slice (some ⟨g2, 0, none⟩) (Q.length + 1) cap2) u2' W3 ∧ Loc V.heap.size (w1.alloc (.cells #[.bool true, .slice (some ⟨b1, o1, none⟩) k1 d1, .slice (some ⟨b2, o2, none⟩) k2 d2, .slice a3 k3 d3] 62)) W3 (.slice (some ⟨g2, 0, none⟩) (Q.length + 1) cap2) u2') := by rw [hW3]; exact ⟨D', G.trans G', L.step G' hhlo⟩
           have bA := D.box.alloc (.cells #[.string ky, .string vy] 71)
           have hcv1 := cell_alloc hcv0 (.cells #[.string ky, .string vy] 71)
           have nA := NL.box.alloc (.cells #[.string ky, .string vy] 71)
           have NL3 := NH.out.stay (L.step G' hhlo).st
           obtain ⟨b3, o3, e3, -, hcv3, -⟩ := NL3.i2.2.2 j vy hvy.out
           cases e3
           have hbh : ¬ b2 = h := by have := NL3.j2 _ rfl; simp at this; omega
           have hcv2 := cell_unset hcv3 hbh
           have nU := box4_unset' NL3.box hne
           have nX := NL3.box
           rw [← hW3] at hcv3 nX
           clear n0 n1 n2 n3 q0 q1 q2 q3 f0 f1 f2 f3
           have HQ : Hid (Q = t.pairs ++ (ks.zip vs).take j) := hQ
           obtain ⟨⟨n0, n1, n2, n3⟩, -⟩ := NL.box
           obtain ⟨⟨na0, na1, na2, na3⟩, -⟩ := nA
           obtain ⟨⟨nu0, nu1, nu2, nu3⟩, -⟩ := nU
           obtain ⟨⟨nw0, nw1, nw2, nw3⟩, -⟩ := nX
           obtain ⟨⟨q0, q1, q2, q3⟩, -⟩ := D.box
           obtain ⟨⟨p0, p1, p2, p3⟩, -⟩ := bA
           obtain ⟨⟨o0, o1', o2', o3⟩, f0, f1, f2, f3⟩ := bU
           clear D G L D' G' NL NL3 hX hW0 hW3 hQ hB0 hc
           refine region_worlds (by kernel_rfl) [12, 13, 16] (pairV h w1.heap.size b2 o2 j W0.heap.size g2 (Q.length + 1) cap2 v1 (.slice (some ⟨b2, o2, none⟩) k2 d2) ky vy) (worldsQ W0 (W0.alloc (.cells #[.string ky, .string vy] 71)) U2 W3) (by kernel_rfl) (by kernel_rfl) HW0.out.symm ?step 17 rfl ?done
           case step =>
            intro i o ho kk a2 hkk hmay hdf hsz hdep hsame
            match i, ho with
            | 0, ho =>
             cases ho
             have h0 := (hsame 0 rfl)
             exact val_op rfl (wanted_free rfl) (by clear hdep hsame hsz hdf; (try simp only [pairV, worldsQ]); go_simp) rfl rfl
            | 1, ho =>
             cases ho
             have h0 := (hsame 0 rfl)
             exact val_op rfl (wanted_free rfl) (by clear hdep hsame hsz hdf; (try simp only [pairV, worldsQ]); go_simp) rfl rfl
            | 2, ho =>
             cases ho
             have h100 := (hdep 1 _ 100 rfl rfl rfl)
             simp only [pairV] at h100
             exact val_op rfl (wanted_free rfl) (by clear hdep hsame hsz hdf; (try simp only [pairV, worldsQ]); go_simp) rfl rfl
            | 3, ho =>
             cases ho
             have h101 := (hdep 2 _ 101 rfl rfl rfl)
             simp only [pairV] at h101
             exact val_op rfl (wanted_free rfl) (by clear hdep hsame hsz hdf; (try simp only [pairV, worldsQ]); go_simp) rfl rfl
            | 4, ho =>
             cases ho
             have h102 := (hdep 3 _ 102 rfl rfl rfl)
             simp only [pairV] at h102
             match kk, hkk, hmay with
             | 0, _, hq => first | (cases hq; done) | (exact val_op rfl (wanted_free rfl) (by clear hdep hsame hsz hdf; (try simp only [pairV, worldsQ]); go_simp) rfl rfl)
             | 1, _, hq => first | (cases hq; done) | (exact val_op rfl (wanted_free rfl) (by clear hdep hsame hsz hdf; (try simp only [pairV, worldsQ]); go_simp) rfl rfl)
             | 2, _, hq => first | (cases hq; done) | (exact val_op rfl (wanted_free rfl) (by clear hdep hsame hsz hdf; (try simp only [pairV, worldsQ]); go_simp) rfl rfl)
             | 3, _, hq => first | (cases hq; done) | (exact val_op rfl (wanted_free rfl) (by clear hdep hsame hsz hdf; (try simp only [pairV, worldsQ]); go_simp) rfl rfl)
             | kk + 4, hkk, _ => simp at hkk
            | 5, ho =>
             cases ho
             have h17 := (hsame 17 rfl)
             exact val_op rfl (wanted_free rfl) (by clear hdep hsame hsz hdf; (try simp only [pairV, worldsQ]); go_simp) rfl rfl
            | 6, ho =>
             cases ho
             have h14 := (hsame 14 rfl)
             exact val_op rfl (wanted_free rfl) (by clear hdep hsame hsz hdf; (try simp only [pairV, worldsQ]); go_simp) rfl rfl
            | 7, ho =>
             cases ho
             have h105 := (hdep 6 _ 105 rfl rfl rfl)
             simp only [pairV] at h105
             match kk, hkk, hmay with
             | 0, _, hq => first | (cases hq; done) | (exact val_op rfl (wanted_free rfl) (by clear hdep hsame hsz hdf; (try simp only [pairV, worldsQ]); go_simp) rfl rfl)
             | 1, _, hq => first | (cases hq; done) | (exact val_op rfl (wanted_free rfl) (by clear hdep hsame hsz hdf; (try simp only [pairV, worldsQ]); go_simp) rfl rfl)
             | 2, _, hq => first | (cases hq; done) | (exact val_op rfl (wanted_free rfl) (by clear hdep hsame hsz hdf; (try simp only [pairV, worldsQ]); go_simp) rfl rfl)
             | 3, _, hq => first | (cases hq; done) | (exact val_op rfl (wanted_free rfl) (by clear hdep hsame hsz hdf; (try simp only [pairV, worldsQ]); go_simp) rfl rfl)
             | kk + 4, hkk, _ => simp at hkk
            | 8, ho =>
             cases ho
             have h16 := (hsame 16 rfl)
             exact val_op rfl (wanted_free rfl) (by clear hdep hsame hsz hdf; (try simp only [pairV, worldsQ]); go_simp) rfl rfl
            | 9, ho =>
             cases ho
             have h106 := (hdep 7 _ 106 rfl rfl rfl)
             have h107 := (hdep 8 _ 107 rfl rfl rfl)
             simp only [pairV] at h106 h107
             exact val_op rfl (wanted_free rfl) (by clear hdep hsame hsz hdf; (try simp only [pairV, worldsQ]); go_simp) rfl rfl
            | 10, ho =>
             cases ho
             have h108 := (hdep 9 _ 108 rfl rfl rfl)
             simp only [pairV] at h108
             match kk, hkk, hmay with
             | 0, _, hq => first | (cases hq; done) | (exact val_op rfl (wanted_free rfl) (by clear hdep hsame hsz hdf; (try simp only [pairV, worldsQ]); go_simp) rfl rfl)
             | 1, _, hq => first | (cases hq; done) | (exact val_op rfl (wanted_free rfl) (by clear hdep hsame hsz hdf; (try simp only [pairV, worldsQ]); go_simp) rfl rfl)
             | 2, _, hq => first | (cases hq; done) | (exact val_op rfl (wanted_free rfl) (by clear hdep hsame hsz hdf; (try simp only [pairV, worldsQ]); go_simp) rfl rfl)
             | 3, _, hq => first | (cases hq; done) | (exact val_op rfl (wanted_free rfl) (by clear hdep hsame hsz hdf; (try simp only [pairV, worldsQ]); go_simp) rfl rfl)
             | kk + 4, hkk, _ => simp at hkk
            | 11, ho =>
             cases ho
             have h104 := (hdep 5 _ 104 rfl rfl rfl)
             have h109 := (hdep 10 _ 109 rfl rfl rfl)
             simp only [pairV] at h104 h109
             exact val_op rfl (wanted_free rfl) (by clear hdep hsame hsz hdf; (try simp only [pairV, worldsQ]); go_simp) rfl rfl
            | 12, ho =>
             cases ho
             have h110 := (hdep 11 _ 110 rfl rfl rfl)
             simp only [pairV] at h110
             match kk, hkk, hmay with
             | 0, _, _ => exact val_op rfl (wanted_free rfl) (by clear hdep hsame hsz hdf; (try simp only [pairV, worldsQ]); go_simp) rfl rfl
             | 1, _, hq => cases hq
             | 2, _, hq => cases hq
             | 3, _, hq => cases hq
             | kk + 4, hkk, _ => simp at hkk
            | 13, ho =>
             cases ho
             have h103 := eval_tmp (hdep 4 _ 103 rfl rfl rfl)
             have h111 := eval_tmp (hdep 12 _ 111 rfl rfl rfl)
             simp only [pairV] at h103 h111
             match kk, hkk, hmay with
             | 0, _, hq => cases hq
             | 1, _, _ => exact val_append rfl (wanted_free rfl) rfl h103 h111 hrun13 rfl rfl
             | 2, _, hq => cases hq
             | 3, _, hq => cases hq
             | kk + 4, hkk, _ => simp at hkk
            | 14, ho =>
             cases ho
             have h99 := (hdep 0 _ 99 rfl rfl rfl)
             simp only [pairV] at h99
             exact val_op rfl (wanted_free rfl) (by clear hdep hsame hsz hdf; (try simp only [pairV, worldsQ]); go_simp) rfl rfl
            | 15, ho =>
             cases ho
             have h113 := (hdep 14 _ 113 rfl rfl rfl)
             simp only [pairV] at h113
             exact val_op rfl (wanted_free rfl) (by clear hdep hsame hsz hdf; (try simp only [pairV, worldsQ]); go_simp) rfl rfl
            | 16, ho =>
             cases ho
             have h114 := (hdep 15 _ 114 rfl rfl rfl)
             have h112 := (hdep 13 _ 112 rfl rfl rfl)
             simp only [pairV] at h114 h112
             match kk, hkk, hmay with
             | 0, _, hq => cases hq
             | 1, _, hq => cases hq
             | 2, _, _ => exact val_skip rfl (wanted_free rfl) rfl (by clear hdep hsame hsz hdf; simp only [worldsQ]; go_simp; try exact hst3.out) rfl
             | 3, _, hq => cases hq
             | kk + 4, hkk, _ => simp at hkk
            | kk + 17, ho => simp at ho
           case done =>
            simp [filledN, pairV, worldsQ]
            clear n0 n1 n2 n3 na0 na1 na2 na3 nu0 nu1 nu2 nu3 nw0 nw1 nw2 nw3 q0 q1 q2 q3 p0 p1 p2 p3 o0 o1' o2' o3 f0 f1 f2 f3 hrun13 hst3 HW0 hcv hcv0 hcv1 hcv2 hcv3
            go_wp2
            go_roundw
            case rel => exact ⟨j + 1, _, by omega, by go_num, by rw [zip_more hky.out hvy.out, ← List.append_assoc, ← HQ.out, any_more hky.out, hw, Bool.not_true, Bool.or_false]; exact hfin.out.1, hfin.out.2.1, hfin.out.2.2⟩
            case measure => simp [intOf]; omega
          | false =>
           go_wp2_with (go_at_call 30; refine (within_any _ _ _ _).mono ?_; rintro y w2 ⟨rfl, hb⟩; rw [hw]; have G' := Grows.of_below h v1 u2' hb; replace D := D.below hb; replace G := G.trans G'; replace L := L.step G' hhlo; have NL := NH.out.stay L.st; clear G' n0 n1 n2 n3; obtain ⟨⟨n0, n1, n2, n3⟩, -⟩ := NL.box; obtain ⟨⟨q0, q1, q2, q3⟩, f0, f1, f2, f3⟩ := id D.box; clear hb NL)
           obtain ⟨D1, G1⟩ := D.setBad true
           replace D := D1
           replace G := G.trans G1
           replace L := L.step G1 hhlo
           clear D1 G1
           obtain ⟨X, hX⟩ : ∃ X, X = w2.setCell ⟨h, 3, none⟩ (.bool true) := ⟨_, rfl⟩
           rw [← hX] at D G L ⊢
           obtain ⟨W0, hW0⟩ : ∃ X', X' = X.drew := ⟨_, rfl⟩
           have hB0 : Below X.heap.size X W0 := by rw [hW0]; exact (Below.refl _ _).drew
           replace G := G.trans (Grows.of_below h v1 u2' hB0)
           replace L := L.step (Grows.of_below h v1 u2' hB0) hhlo
           replace D := D.below hB0
           have NL := NH.out.stay L.st
           obtain ⟨b3, o3, e3, -, hcv0, -⟩ := NL.i2.2.2 j vy hvy.out
           cases e3
           obtain ⟨Q, hQ⟩ : ∃ Q, Q = (t.pairs ++ (ks.zip vs).take j) := ⟨_, rfl⟩
           rw [← hQ] at D
           obtain ⟨g2, cap2, U2, hrun13, bU, D', G'⟩ := D.pushP ky vy (by show Q.length ≤ _; rw [hQ]; exact hlp.out)
           obtain ⟨W3, hW3⟩ : ∃ X', X' = U2.setCell ⟨h, 0, none⟩ (.slice (some ⟨g2, 0, none⟩) (Q.length + 1) cap2) := ⟨_, rfl⟩
           have hst3 : Hid (U2.setCell ⟨h, 0, none⟩ (.slice (some ⟨g2, 0, none⟩) (Q.length + 1) cap2) = W3) := hW3.symm
           have HW0 : Hid (W0 = X.drew) := hW0
           have hfin : Hid (TreeAt W3 h B (.slice (some ⟨g2, 0, none⟩) (Q.length + 1) cap2) u2' ⟨Q ++ [(ky, vy)], t.blocks ++ [block], t.height, true⟩ ∧ Grows h u1 (.slice ua N uc) V (.slice (some ⟨g2, 0, none⟩) (Q.length + 1) cap2) u2' W3 ∧ Loc V.heap.size (w1.alloc (.cells #[.bool true, .slice (some ⟨b1, o1, none⟩) k1 d1, .slice (some ⟨b2, o2, none⟩) k2 d2, .slice a3 k3 d3] 62)) W3 (.slice (some ⟨g2, 0, none⟩) (Q.length + 1) cap2) u2') := by rw [hW3]; exact ⟨D', G.trans G', L.step G' hhlo⟩
           have bA := D.box.alloc (.cells #[.string ky, .string vy] 71)
           have hcv1 := cell_alloc hcv0 (.cells #[.string ky, .string vy] 71)
           have nA := NL.box.alloc (.cells #[.string ky, .string vy] 71)
           have NL3 := NH.out.stay (L.step G' hhlo).st
           obtain ⟨b3, o3, e3, -, hcv3, -⟩ := NL3.i2.2.2 j vy hvy.out
           cases e3
           have hbh : ¬ b2 = h := by have := NL3.j2 _ rfl; simp at this; omega
           have hcv2 := cell_unset hcv3 hbh
           have nU := box4_unset' NL3.box hne
           have nX := NL3.box
           rw [← hW3] at hcv3 nX
           clear n0 n1 n2 n3 q0 q1 q2 q3 f0 f1 f2 f3
           have HQ : Hid (Q = t.pairs ++ (ks.zip vs).take j) := hQ
           obtain ⟨⟨n0, n1, n2, n3⟩, -⟩ := NL.box
           obtain ⟨⟨na0, na1, na2, na3⟩, -⟩ := nA
           obtain ⟨⟨nu0, nu1, nu2, nu3⟩, -⟩ := nU
           obtain ⟨⟨nw0, nw1, nw2, nw3⟩, -⟩ := nX
           obtain ⟨⟨q0, q1, q2, q3⟩, -⟩ := D.box
           obtain ⟨⟨p0, p1, p2, p3⟩, -⟩ := bA
           obtain ⟨⟨o0, o1', o2', o3⟩, f0, f1, f2, f3⟩ := bU
           clear D G L D' G' NL NL3 hX hW0 hW3 hQ hB0 hc
           refine region_worlds (by kernel_rfl) [12, 13, 16] (pairV h w1.heap.size b2 o2 j W0.heap.size g2 (Q.length + 1) cap2 v1 (.slice (some ⟨b2, o2, none⟩) k2 d2) ky vy) (worldsQ W0 (W0.alloc (.cells #[.string ky, .string vy] 71)) U2 W3) (by kernel_rfl) (by kernel_rfl) HW0.out.symm ?step 17 rfl ?done
           case step =>
            intro i o ho kk a2 hkk hmay hdf hsz hdep hsame
            match i, ho with
            | 0, ho =>
             cases ho
             have h0 := (hsame 0 rfl)
             exact val_op rfl (wanted_free rfl) (by clear hdep hsame hsz hdf; (try simp only [pairV, worldsQ]); go_simp) rfl rfl
            | 1, ho =>
             cases ho
             have h0 := (hsame 0 rfl)
             exact val_op rfl (wanted_free rfl) (by clear hdep hsame hsz hdf; (try simp only [pairV, worldsQ]); go_simp) rfl rfl
            | 2, ho =>
             cases ho
             have h100 := (hdep 1 _ 100 rfl rfl rfl)
             simp only [pairV] at h100
             exact val_op rfl (wanted_free rfl) (by clear hdep hsame hsz hdf; (try simp only [pairV, worldsQ]); go_simp) rfl rfl
            | 3, ho =>
             cases ho
             have h101 := (hdep 2 _ 101 rfl rfl rfl)
             simp only [pairV] at h101
             exact val_op rfl (wanted_free rfl) (by clear hdep hsame hsz hdf; (try simp only [pairV, worldsQ]); go_simp) rfl rfl
            | 4, ho =>
             cases ho
             have h102 := (hdep 3 _ 102 rfl rfl rfl)
             simp only [pairV] at h102
             match kk, hkk, hmay with
             | 0, _, hq => first | (cases hq; done) | (exact val_op rfl (wanted_free rfl) (by clear hdep hsame hsz hdf; (try simp only [pairV, worldsQ]); go_simp) rfl rfl)
             | 1, _, hq => first | (cases hq; done) | (exact val_op rfl (wanted_free rfl) (by clear hdep hsame hsz hdf; (try simp only [pairV, worldsQ]); go_simp) rfl rfl)
             | 2, _, hq => first | (cases hq; done) | (exact val_op rfl (wanted_free rfl) (by clear hdep hsame hsz hdf; (try simp only [pairV, worldsQ]); go_simp) rfl rfl)
             | 3, _, hq => first | (cases hq; done) | (exact val_op rfl (wanted_free rfl) (by clear hdep hsame hsz hdf; (try simp only [pairV, worldsQ]); go_simp) rfl rfl)
             | kk + 4, hkk, _ => simp at hkk
            | 5, ho =>
             cases ho
             have h17 := (hsame 17 rfl)
             exact val_op rfl (wanted_free rfl) (by clear hdep hsame hsz hdf; (try simp only [pairV, worldsQ]); go_simp) rfl rfl
            | 6, ho =>
             cases ho
             have h14 := (hsame 14 rfl)
             exact val_op rfl (wanted_free rfl) (by clear hdep hsame hsz hdf; (try simp only [pairV, worldsQ]); go_simp) rfl rfl
            | 7, ho =>
             cases ho
             have h105 := (hdep 6 _ 105 rfl rfl rfl)
             simp only [pairV] at h105
             match kk, hkk, hmay with
             | 0, _, hq => first | (cases hq; done) | (exact val_op rfl (wanted_free rfl) (by clear hdep hsame hsz hdf; (try simp only [pairV, worldsQ]); go_simp) rfl rfl)
             | 1, _, hq => first | (cases hq; done) | (exact val_op rfl (wanted_free rfl) (by clear hdep hsame hsz hdf; (try simp only [pairV, worldsQ]); go_simp) rfl rfl)
             | 2, _, hq => first | (cases hq; done) | (exact val_op rfl (wanted_free rfl) (by clear hdep hsame hsz hdf; (try simp only [pairV, worldsQ]); go_simp) rfl rfl)
             | 3, _, hq => first | (cases hq; done) | (exact val_op rfl (wanted_free rfl) (by clear hdep hsame hsz hdf; (try simp only [pairV, worldsQ]); go_simp) rfl rfl)
             | kk + 4, hkk, _ => simp at hkk
            | 8, ho =>
             cases ho
             have h16 := (hsame 16 rfl)
             exact val_op rfl (wanted_free rfl) (by clear hdep hsame hsz hdf; (try simp only [pairV, worldsQ]); go_simp) rfl rfl
            | 9, ho =>
             cases ho
             have h106 := (hdep 7 _ 106 rfl rfl rfl)
             have h107 := (hdep 8 _ 107 rfl rfl rfl)
             simp only [pairV] at h106 h107
             exact val_op rfl (wanted_free rfl) (by clear hdep hsame hsz hdf; (try simp only [pairV, worldsQ]); go_simp) rfl rfl
            | 10, ho =>
             cases ho
             have h108 := (hdep 9 _ 108 rfl rfl rfl)
             simp only [pairV] at h108
             match kk, hkk, hmay with
             | 0, _, hq => first | (cases hq; done) | (exact val_op rfl (wanted_free rfl) (by clear hdep hsame hsz hdf; (try simp only [pairV, worldsQ]); go_simp) rfl rfl)
             | 1, _, hq => first | (cases hq; done) | (exact val_op rfl (wanted_free rfl) (by clear hdep hsame hsz hdf; (try simp only [pairV, worldsQ]); go_simp) rfl rfl)
             | 2, _, hq => first | (cases hq; done) | (exact val_op rfl (wanted_free rfl) (by clear hdep hsame hsz hdf; (try simp only [pairV, worldsQ]); go_simp) rfl rfl)
             | 3, _, hq => first | (cases hq; done) | (exact val_op rfl (wanted_free rfl) (by clear hdep hsame hsz hdf; (try simp only [pairV, worldsQ]); go_simp) rfl rfl)
             | kk + 4, hkk, _ => simp at hkk
            | 11, ho =>
             cases ho
             have h104 := (hdep 5 _ 104 rfl rfl rfl)
             have h109 := (hdep 10 _ 109 rfl rfl rfl)
             simp only [pairV] at h104 h109
             exact val_op rfl (wanted_free rfl) (by clear hdep hsame hsz hdf; (try simp only [pairV, worldsQ]); go_simp) rfl rfl
            | 12, ho =>
             cases ho
             have h110 := (hdep 11 _ 110 rfl rfl rfl)
             simp only [pairV] at h110
             match kk, hkk, hmay with
             | 0, _, _ => exact val_op rfl (wanted_free rfl) (by clear hdep hsame hsz hdf; (try simp only [pairV, worldsQ]); go_simp) rfl rfl
             | 1, _, hq => cases hq
             | 2, _, hq => cases hq
             | 3, _, hq => cases hq
             | kk + 4, hkk, _ => simp at hkk
            | 13, ho =>
             cases ho
             have h103 := eval_tmp (hdep 4 _ 103 rfl rfl rfl)
             have h111 := eval_tmp (hdep 12 _ 111 rfl rfl rfl)
             simp only [pairV] at h103 h111
             match kk, hkk, hmay with
             | 0, _, hq => cases hq
             | 1, _, _ => exact val_append rfl (wanted_free rfl) rfl h103 h111 hrun13 rfl rfl
             | 2, _, hq => cases hq
             | 3, _, hq => cases hq
             | kk + 4, hkk, _ => simp at hkk
            | 14, ho =>
             cases ho
             have h99 := (hdep 0 _ 99 rfl rfl rfl)
             simp only [pairV] at h99
             exact val_op rfl (wanted_free rfl) (by clear hdep hsame hsz hdf; (try simp only [pairV, worldsQ]); go_simp) rfl rfl
            | 15, ho =>
             cases ho
             have h113 := (hdep 14 _ 113 rfl rfl rfl)
             simp only [pairV] at h113
             exact val_op rfl (wanted_free rfl) (by clear hdep hsame hsz hdf; (try simp only [pairV, worldsQ]); go_simp) rfl rfl
            | 16, ho =>
             cases ho
             have h114 := (hdep 15 _ 114 rfl rfl rfl)
             have h112 := (hdep 13 _ 112 rfl rfl rfl)
             simp only [pairV] at h114 h112
             match kk, hkk, hmay with
             | 0, _, hq => cases hq
             | 1, _, hq => cases hq
             | 2, _, _ => exact val_skip rfl (wanted_free rfl) rfl (by clear hdep hsame hsz hdf; simp only [worldsQ]; go_simp; try exact hst3.out) rfl
             | 3, _, hq => cases hq
             | kk + 4, hkk, _ => simp at hkk
            | kk + 17, ho => simp at ho
           case done =>
            simp [filledN, pairV, worldsQ]
            clear n0 n1 n2 n3 na0 na1 na2 na3 nu0 nu1 nu2 nu3 nw0 nw1 nw2 nw3 q0 q1 q2 q3 p0 p1 p2 p3 o0 o1' o2' o3 f0 f1 f2 f3 hrun13 hst3 HW0 hcv hcv0 hcv1 hcv2 hcv3
            go_wp2
            go_roundw
            case rel => exact ⟨j + 1, _, by omega, by go_num, by rw [zip_more hky.out hvy.out, ← List.append_assoc, ← HQ.out, any_more hky.out, hw, Bool.not_false, Bool.or_true]; exact hfin.out.1, hfin.out.2.1, hfin.out.2.2⟩
            case measure => simp [intOf]; omega
         ·
          obtain rfl : k1 = j := by omega
          have hj1 : ¬ (k1 : Int) < k1 := by omega
          have ek1 : ks.take k1 = ks := by rw [HE.out.1]; exact List.take_length
          have ek2 : (ks.zip vs).take k1 = ks.zip vs := List.take_of_length_le (by rw [List.length_zip, HE.out.1]; exact Nat.min_le_left _ _)
          rw [ek1, ek2] at D
          have NL := NH.out.stay L.st
          obtain ⟨⟨n0, n1, n2, n3⟩, -⟩ := NL.box
          obtain ⟨⟨q0, q1, q2, q3⟩, f0, f1, f2, f3⟩ := id D.box
          have hkl : Hid (belowS H k t block low high = (t.node block low high (true, ks, vs, cs)).leaf d) := by
           rw [Hd.out]
           exact belowS_leaf hk0 hbk.out (by rw [← Hd.out]; exact hq) rfl hke
          clear NL L ek1 ek2
          by_cases hH0 : t.height = 0
          ·
           have hb0 : (t.node block low high (true, ks, vs, cs)).leaf d = ⟨t.pairs ++ ks.zip vs, t.blocks ++ [block], d, ks.any fun k => !withinS k low high⟩ := by simp [TreeS.node, TreeS.leaf, hH0]
           obtain ⟨D', G'⟩ := D.setDeep d
           have hfin : Hid (TreeAt (wr.setCell ⟨h, 2, none⟩ (.int .i64 d)) h B v1 u2' (belowS H k t block low high) ∧ Grows h u1 (.slice ua N uc) V v1 u2' (wr.setCell ⟨h, 2, none⟩ (.int .i64 d))) := ⟨by rw [hkl.out, hb0]; exact D', G.trans G'⟩
           clear D G D' G' hb0 hkl
           go_wp2
           exact bodyPost_ret (v := .tuple #[]) (by simp [results, Try.results21, go_sem]) rfl ⟨rfl, v1, u2', hfin.out.1, hfin.out.2⟩
          ·
           by_cases hHd : t.height = d
           ·
            have hb0 : (t.node block low high (true, ks, vs, cs)).leaf d = ⟨t.pairs ++ ks.zip vs, t.blocks ++ [block], d, ks.any fun k => !withinS k low high⟩ := by simp [TreeS.node, TreeS.leaf, hHd]
            obtain ⟨D', G'⟩ := D.setDeep d
            have hfin : Hid (TreeAt (wr.setCell ⟨h, 2, none⟩ (.int .i64 d)) h B v1 u2' (belowS H k t block low high) ∧ Grows h u1 (.slice ua N uc) V v1 u2' (wr.setCell ⟨h, 2, none⟩ (.int .i64 d))) := ⟨by rw [hkl.out, hb0]; exact D', G.trans G'⟩
            clear D G D' G' hb0 hkl
            go_wp2
            exact bodyPost_ret (v := .tuple #[]) (by simp [results, Try.results21, go_sem]) rfl ⟨rfl, v1, u2', hfin.out.1, hfin.out.2⟩
           ·
            have hb0 : (t.node block low high (true, ks, vs, cs)).leaf d = ⟨t.pairs ++ ks.zip vs, t.blocks ++ [block], d, true⟩ := by simp [TreeS.node, TreeS.leaf, hHd, hH0]
            obtain ⟨D1, G1⟩ := D.setBad true
            obtain ⟨D', G'⟩ := D1.setDeep d
            have hx1 : (t.height != 0) = true := by simpa using hH0
            have hx2 : (t.height != d) = true := by simpa using hHd
            have hfin : Hid (TreeAt ((wr.setCell ⟨h, 3, none⟩ (.bool true)).setCell ⟨h, 2, none⟩ (.int .i64 d)) h B v1 u2' (belowS H k t block low high) ∧ Grows h u1 (.slice ua N uc) V v1 u2' ((wr.setCell ⟨h, 3, none⟩ (.bool true)).setCell ⟨h, 2, none⟩ (.int .i64 d))) := ⟨by rw [hkl.out, hb0]; exact D', (G.trans G1).trans G'⟩
            clear D G D' G' D1 G1 hb0 hkl
            go_wp2
            exact bodyPost_ret (v := .tuple #[]) (by simp [results, Try.results21, go_sem]) rfl ⟨rfl, v1, u2', hfin.out.1, hfin.out.2⟩
      | false =>
       replace hz4 : Hid (cs.length = ks.length + 1) := hz4.out rfl
       clear hz3
       have tkA : True := trivial
       have hlb : Hid (t.blocks.length ≤ 1000000000000) := Nat.le_trans (Nat.le_add_right _ _) HM.out.1
       have hbk : Hid ((t.bad || t.blocks.contains block) = false) := HBB.out.symm
       go_wp2_with (first
        | (go_at_call 29; refine (cY _ _ _ _ HBw hq).mono ?_; rintro y w1 ⟨k1, a1, d1, k2, a2, d2, k3, a3, d3, rfl, e1, e2, e3, i1, i2, i3, j1, j2, j3, hb⟩; have hA : Below w1.heap.size w1 (w1.alloc (.cells #[.bool false, .slice a1 k1 d1, .slice a2 k2 d2, .slice a3 k3 d3] 62)) := (Below.refl _ _).alloc (Nat.le_refl _) _; have hlo : V.heap.size ≤ wr.heap.size := G.t.size; have hlo1 : wr.heap.size ≤ w1.heap.size := hb.size; have NL := nodeLo_new w1 V.heap.size w1.heap.size false rfl (by omega) e1 e2 e3 i1 i2 i3 (j1.mono hlo) (j2.mono hlo) (j3.mono hlo); replace D := (D.below hb).below hA; replace G := (G.trans (Grows.of_below h _ _ hb)).trans (Grows.of_below h _ _ hA); replace WB := (WB.below hb).below hA; clear q0 q1 q2 q3 f0 f1 f2 f3 x0 x1 x2 x3 x4; obtain ⟨⟨q0, q1, q2, q3⟩, f0, f1, f2, f3⟩ := id D.box; obtain ⟨⟨n0, n1, n2, n3⟩, -⟩ := NL.box;  replace e1 : k1 = ks.length := e1; replace e2 : k2 = vs.length := e2; replace e3 : k3 = cs.length := e3; have L2 : Loc V.heap.size (w1.alloc (.cells #[.bool false, .slice a1 k1 d1, .slice a2 k2 d2, .slice a3 k3 d3] 62)) (w1.alloc (.cells #[.bool false, .slice a1 k1 d1, .slice a2 k2 d2, .slice a3 k3 d3] 62)) u1 (.slice ua N uc) := ⟨Turns.refl _ _, fun g hg => .inl (hg.elim (fun e => (T0.out.r1.lt g e).2) (fun e => (T0.out.r2.lt g e).2))⟩; have NH : Hid (NodeLo (w1.alloc (.cells #[.bool false, .slice a1 k1 d1, .slice a2 k2 d2, .slice a3 k3 d3] 62)) V.heap.size w1.heap.size false a1 k1 d1 a2 k2 d2 a3 k3 d3 ks vs cs) := NL; have WBH : Hid (WoodBox (w1.alloc (.cells #[.bool false, .slice a1 k1 d1, .slice a2 k2 d2, .slice a3 k3 d3] 62)) V.heap.size (.slice a n c) (.slice a' n' c') (.slice b p f) (.int .i64 root) (.int .i64 gen)) := WB; have HE : Hid (k1 = ks.length ∧ k2 = vs.length ∧ k3 = cs.length) := ⟨e1, e2, e3⟩; have mk1 : k1 ≤ 9 := (by rw [e1]; exact hz1.out); have mk3 : k3 ≤ 10 := (by rw [e3]; exact hz2.out); clear NL hb hA e1 e2 e3 i1 i2 i3 j1 j2 j3 hlo hlo1)
        | (at_builtin; have _t := tkA; clear _t tkA; obtain ⟨g, cap, U, hrun, bU, D', G'⟩ := D.pushB block hlb.out; simp only [World.size_alloc] at hrun; refine Lib.wpList_append_run _ rfl _ _ _ _ rfl _ _ rfl rfl _ _ hrun ?_; replace G := G.trans G'; replace L2 := L2.step G' hhlo; have NL := NH.out.stay L2.st; have hne : ¬ w1.heap.size = h := (by have := NH.out.j0; omega); clear hrun D q0 q1 q2 q3 f0 f1 f2 f3 n0 n1 n2 n3; have D := D'; clear D' G'; obtain ⟨⟨q0, q1, q2, q3⟩, f0, f1, f2, f3⟩ := id bU; obtain ⟨⟨n0, n1, n2, n3⟩, -⟩ := box4_unset' NL.box hne; clear bU NL))
       obtain ⟨u2', hu2'⟩ : ∃ x, x = Value.slice (some ⟨g, 0, none⟩) (t.blocks.length + 1) cap := ⟨_, rfl⟩
       rw [← hu2'] at D G L2 ⊢
       clear q0 q1 q2 q3 f0 f1 f2 f3 n0 n1 n2 n3 hu2' WB
       go_loopw [84] (fun v wr => ∃ (j : Nat) (v1 : Value), j ≤ k1 ∧ v = .int .i64 j ∧ TreeAt wr h B v1 u2' ⟨t.pairs, t.blocks ++ [block], t.height, (ks.take j).any fun k => !withinS k low high⟩ ∧ Grows h u1 (.slice ua N uc) V v1 u2' wr ∧ Loc V.heap.size (w1.alloc (.cells #[.bool false, .slice a1 k1 d1, .slice a2 k2 d2, .slice a3 k3 d3] 62)) wr v1 u2') (fun v _ => k1 - (intOf v).toNat)
       case atStart => exact ⟨0, u1, by omega, rfl, by rw [List.take_zero, List.any_nil]; exact D, G, L2⟩
       case round =>
        clear D G L2
        obtain ⟨j, v1, hj, rfl, D, G, L⟩ := hrel
        by_cases hlt : j < k1
        ·
         have hlt' : (j : Int) < k1 := by omega
         have NL := NH.out.stay L.st
         obtain ⟨ky, hky⟩ : ∃ x, Hid (ks[j]? = some x) := ⟨_, List.getElem?_eq_getElem (by rw [← HE.out.1]; exact hlt)⟩
         obtain ⟨b1, o1, rfl, -, hc, -⟩ := NL.i1.2.2 j ky hky.out
         obtain ⟨⟨n0, n1, n2, n3⟩, -⟩ := NL.box
         clear NL
         cases hw : withinS ky low high with
         | true =>
          go_wp2_with (go_at_call 30; refine (within_any _ _ _ _).mono ?_; rintro y w2 ⟨rfl, hb⟩; rw [hw]; have G' := Grows.of_below h v1 u2' hb; replace D := D.below hb; replace G := G.trans G'; replace L := L.step G' hhlo; have NL := NH.out.stay L.st; clear G' n0 n1 n2 n3; obtain ⟨⟨n0, n1, n2, n3⟩, -⟩ := NL.box; obtain ⟨⟨q0, q1, q2, q3⟩, f0, f1, f2, f3⟩ := id D.box; clear hb NL)
          clear n0 n1 n2 n3 q0 q1 q2 q3 f0 f1 f2 f3
          go_roundw
          case rel => exact ⟨j + 1, v1, by omega, by go_num, by rw [any_more hky.out, hw, Bool.not_true, Bool.or_false]; exact D, G, L⟩
          case measure => simp [intOf]; omega
         | false =>
          go_wp2_with (go_at_call 30; refine (within_any _ _ _ _).mono ?_; rintro y w2 ⟨rfl, hb⟩; rw [hw]; have G' := Grows.of_below h v1 u2' hb; replace D := D.below hb; replace G := G.trans G'; replace L := L.step G' hhlo; have NL := NH.out.stay L.st; clear G' n0 n1 n2 n3; obtain ⟨⟨n0, n1, n2, n3⟩, -⟩ := NL.box; obtain ⟨⟨q0, q1, q2, q3⟩, f0, f1, f2, f3⟩ := id D.box; clear hb NL)
          obtain ⟨D', G'⟩ := D.setBad true
          clear n0 n1 n2 n3 q0 q1 q2 q3 f0 f1 f2 f3
          go_roundw
          case rel => exact ⟨j + 1, v1, by omega, by go_num, by rw [any_more hky.out, hw, Bool.not_false, Bool.or_true]; exact D', G.trans G', L.step G' hhlo⟩
          case measure => simp [intOf]; omega
        ·
         obtain rfl : k1 = j := by omega
         have hj1 : ¬ (k1 : Int) < k1 := by omega
         have ek1 : ks.take k1 = ks := by rw [HE.out.1]; exact List.take_length
         rw [ek1] at D
         obtain ⟨kk, rfl⟩ : ∃ kk, k = kk + 1 := ⟨k - 1, by omega⟩
         obtain ⟨tn, htn⟩ : ∃ x, x = t.node block low high (false, ks, vs, cs) := ⟨_, rfl⟩
         replace D : TreeAt wr h B v1 u2' tn := by rw [htn]; exact D
         have HTN : Hid (tn = t.node block low high (false, ks, vs, cs)) := htn
         have hkl : Hid (belowS H (kk + 1) t block low high = (kidsT low high ks cs).foldl (fun (t : TreeS) (x : Int × ByteArray × ByteArray) => if t.bad then t else belowS H kk t x.1 x.2.1 x.2.2) tn) := by
          rw [htn]
          exact belowS_inner hbk.out (by rw [← Hd.out]; exact hq) rfl
         have hd1 : 1 ≤ d := by rw [Hd.out]; omega
         obtain ⟨X2, hX2⟩ : ∃ X, X = (w1.alloc (.cells #[.bool false, .slice a1 k1 d1, .slice a2 k2 d2, .slice a3 k3 d3] 62)) := ⟨_, rfl⟩
         rw [← hX2] at L NH WBH
         clear hX2
         have IH : Hid (∀ (V : World) (u1 u2 : Value) (t : TreeS) (block : Int) (low high : ByteArray), Below w.heap.size w V → TreeAt V h B u1 u2 t → t.blocks.length + 2 * 10 ^ kk ≤ 1000000000000 → t.pairs.length + 18 * 10 ^ kk ≤ 1000000000000 →
            Calls Try.prog 21 #[.pointer (some ⟨h, 0, none⟩), (.agg #[.slice a n c, .slice a' n' c', .slice b p f, .int .i64 root, .int .i64 gen]), .int .i64 block, .int .i64 (d + 1), .string low, .string high] V fun e V' => e = .returned (.tuple #[]) ∧ ∃ u1' u2', TreeAt V' h B u1' u2' (belowS H kk t block low high) ∧ Grows h u1 u2 V u1' u2' V') := by
          have e : d + 1 = 9 - (kk : Int) := by rw [Hd.out]; omega
          rw [e]
          exact ih kk rfl
         clear ih
         have NL := NH.out.stay L.st
         obtain ⟨⟨n0, n1, n2, n3⟩, -⟩ := NL.box
         clear NL ek1 htn
         go_wp2
         clear n0 n1 n2 n3
         go_loopw [141] (fun v wr => ∃ (j : Nat) (y1 y2 : Value), j ≤ k3 ∧ v = .int .i64 j ∧ TreeAt wr h B y1 y2 (((kidsT low high ks cs).take j).foldl (fun (t : TreeS) (x : Int × ByteArray × ByteArray) => if t.bad then t else belowS H kk t x.1 x.2.1 x.2.2) tn) ∧ Grows h u1 (.slice ua N uc) V y1 y2 wr ∧ Loc V.heap.size X2 wr y1 y2) (fun v _ => k3 - (intOf v).toNat)
         case atStart => exact ⟨0, v1, u2', by omega, rfl, by rw [List.take_zero]; exact D, G, L⟩
         case round =>
          clear D G L
          obtain ⟨j, y1, y2, hj3, rfl, D, G, L⟩ := hrel
          by_cases hlt : j < k3
          ·
           have hlt' : (j : Int) < k3 := by omega
           have NL := NH.out.stay L.st
           obtain ⟨kb, hkb⟩ : ∃ x, Hid (cs[j]? = some x) := ⟨_, List.getElem?_eq_getElem (by rw [← HE.out.2.2]; exact hlt)⟩
           have hkT : Hid ((kidsT low high ks cs)[j]? = some (kb, kidFrom low ks j, kidTo high ks j)) := kidsT_get hkb.out
           obtain ⟨b3, o3, rfl, -, hc3⟩ := NL.i3.2.2 j kb hkb.out
           have hroom : Hid ((((kidsT low high ks cs).take j).foldl (fun (t : TreeS) (x : Int × ByteArray × ByteArray) => if t.bad then t else belowS H kk t x.1 x.2.1 x.2.2) tn).blocks.length + 2 * 10 ^ kk ≤ 1000000000000 ∧ (((kidsT low high ks cs).take j).foldl (fun (t : TreeS) (x : Int × ByteArray × ByteArray) => if t.bad then t else belowS H kk t x.1 x.2.1 x.2.2) tn).pairs.length + 18 * 10 ^ kk ≤ 1000000000000) := by
            obtain ⟨r1, r2⟩ := kids_room (fun b r n hn => ⟨(hH b r n hn).1, (hH b r n hn).2.1⟩) (k := kk) (t := t) (block := block) (low := low) (high := high) (n := (false, ks, vs, cs)) hz1.out (j := j) (by omega) ((kidsT low high ks cs).take j) (by rw [List.length_take, kidsT_length, ← HE.out.2.2]; omega)
            rw [HTN.out]
            exact ⟨Nat.le_trans r1 HM.out.1, Nat.le_trans r2 HM.out.2⟩
           have hnext : Hid (((kidsT low high ks cs).take (j + 1)).foldl (fun (t : TreeS) (x : Int × ByteArray × ByteArray) => if t.bad then t else belowS H kk t x.1 x.2.1 x.2.2) tn = (fun (t : TreeS) (x : Int × ByteArray × ByteArray) => if t.bad then t else belowS H kk t x.1 x.2.1 x.2.2) (((kidsT low high ks cs).take j).foldl (fun (t : TreeS) (x : Int × ByteArray × ByteArray) => if t.bad then t else belowS H kk t x.1 x.2.1 x.2.2) tn) (kb, kidFrom low ks j, kidTo high ks j)) := fold_more hkT.out tn
           obtain ⟨TT, hTT⟩ : ∃ x, x = ((kidsT low high ks cs).take j).foldl (fun (t : TreeS) (x : Int × ByteArray × ByteArray) => if t.bad then t else belowS H kk t x.1 x.2.1 x.2.2) tn := ⟨_, rfl⟩
           rw [← hTT] at D hroom hnext
           clear hTT
           have WB := WBH.out.turns L.st (Nat.lt_irrefl _)
           have HBw2 : Below w.heap.size w wr := Grows.low (S := 0) T0.out G HB.out hh.out
           obtain ⟨x0, x1, x2, x3, x4⟩ := id WB
           obtain ⟨⟨n0, n1, n2, n3⟩, -⟩ := NL.box
           obtain ⟨⟨q0, q1, q2, q3⟩, f0, f1, f2, f3⟩ := id D.box
           clear WB
           cases j with
           | zero =>
            simp only [Nat.add_zero] at hc3
            have hfr : Hid (kidFrom low ks 0 = low) := rfl
            by_cases hjk : 0 < k1
            ·
             have hjk' : (0 : Int) < k1 := by omega
             obtain ⟨kz, hkz⟩ : ∃ x, Hid (ks[0]? = some x) := get_some (by rw [← HE.out.1]; exact hjk)
             obtain ⟨b1, o1, rfl, -, hcz, -⟩ := NL.i1.2.2 0 kz hkz.out
             simp only [Nat.add_zero] at hcz
             have hto : Hid (kidTo high ks 0 = kz) := by show _ = _; unfold kidTo; rw [if_pos (by rw [← HE.out.1]; exact hjk), List.getD_eq_getElem?_getD, hkz.out]; rfl
             replace hnext : Hid (((kidsT low high ks cs).take (0 + 1)).foldl (fun (t : TreeS) (x : Int × ByteArray × ByteArray) => if t.bad then t else belowS H kk t x.1 x.2.1 x.2.2) tn = (fun (t : TreeS) (x : Int × ByteArray × ByteArray) => if t.bad then t else belowS H kk t x.1 x.2.1 x.2.2) TT (kb, low, kz)) := by have e := hnext.out; rw [hfr.out, hto.out] at e; exact e
             clear NL hkT
             cases hbad : TT.bad with
             | true =>
              rw [hbad] at q3
              have hfin : Hid (TreeAt wr h B y1 y2 (((kidsT low high ks cs).take (0 + 1)).foldl (fun (t : TreeS) (x : Int × ByteArray × ByteArray) => if t.bad then t else belowS H kk t x.1 x.2.1 x.2.2) tn) ∧ Grows h u1 (.slice ua N uc) V y1 y2 wr ∧ Loc V.heap.size X2 wr y1 y2) := ⟨by rw [hnext.out]; show TreeAt wr h B y1 y2 (if TT.bad then TT else _); rw [if_pos hbad]; exact D, G, L⟩
              clear D G L hbad hnext
              go_wp2
              go_roundw
              case rel => exact ⟨0 + 1, y1, y2, by omega, by go_num, hfin.out.1, hfin.out.2.1, hfin.out.2.2⟩
              case measure => simp [intOf]; omega
             | false =>
              rw [hbad] at q3
              have hnx : Hid (∀ T', T' = (fun (t : TreeS) (x : Int × ByteArray × ByteArray) => if t.bad then t else belowS H kk t x.1 x.2.1 x.2.2) TT (kb, low, kz) → T' = belowS H kk TT kb low kz) := fun T' e => by rw [e]; show (if TT.bad then TT else _) = _; rw [if_neg (by rw [hbad]; decide)]
              clear hbad
              go_wp2_with (go_at_call 21; refine (IH.out _ _ _ _ _ _ _ HBw2 D hroom.out.1 hroom.out.2).mono ?_; rintro y w3 ⟨rfl, z1, z2, D', G'⟩; clear q0 q1 q2 q3 f0 f1 f2 f3 n0 n1 n2 n3 x0 x1 x2 x3 x4)
              go_roundw
              case rel => exact ⟨0 + 1, z1, z2, by omega, by go_num, by rw [hnx.out _ hnext.out]; exact D', G.trans G', L.step G' hhlo⟩
              case measure => simp [intOf]; omega
            ·
             have hjk' : ¬ (0 : Int) < k1 := by omega
             have hto : Hid (kidTo high ks 0 = high) := by show _ = _; unfold kidTo; rw [if_neg (by rw [← HE.out.1]; exact hjk)]
             replace hnext : Hid (((kidsT low high ks cs).take (0 + 1)).foldl (fun (t : TreeS) (x : Int × ByteArray × ByteArray) => if t.bad then t else belowS H kk t x.1 x.2.1 x.2.2) tn = (fun (t : TreeS) (x : Int × ByteArray × ByteArray) => if t.bad then t else belowS H kk t x.1 x.2.1 x.2.2) TT (kb, low, high)) := by have e := hnext.out; rw [hfr.out, hto.out] at e; exact e
             clear NL hkT
             cases hbad : TT.bad with
             | true =>
              rw [hbad] at q3
              have hfin : Hid (TreeAt wr h B y1 y2 (((kidsT low high ks cs).take (0 + 1)).foldl (fun (t : TreeS) (x : Int × ByteArray × ByteArray) => if t.bad then t else belowS H kk t x.1 x.2.1 x.2.2) tn) ∧ Grows h u1 (.slice ua N uc) V y1 y2 wr ∧ Loc V.heap.size X2 wr y1 y2) := ⟨by rw [hnext.out]; show TreeAt wr h B y1 y2 (if TT.bad then TT else _); rw [if_pos hbad]; exact D, G, L⟩
              clear D G L hbad hnext
              go_wp2
              go_roundw
              case rel => exact ⟨0 + 1, y1, y2, by omega, by go_num, hfin.out.1, hfin.out.2.1, hfin.out.2.2⟩
              case measure => simp [intOf]; omega
             | false =>
              rw [hbad] at q3
              have hnx : Hid (∀ T', T' = (fun (t : TreeS) (x : Int × ByteArray × ByteArray) => if t.bad then t else belowS H kk t x.1 x.2.1 x.2.2) TT (kb, low, high) → T' = belowS H kk TT kb low high) := fun T' e => by rw [e]; show (if TT.bad then TT else _) = _; rw [if_neg (by rw [hbad]; decide)]
              clear hbad
              go_wp2_with (go_at_call 21; refine (IH.out _ _ _ _ _ _ _ HBw2 D hroom.out.1 hroom.out.2).mono ?_; rintro y w3 ⟨rfl, z1, z2, D', G'⟩; clear q0 q1 q2 q3 f0 f1 f2 f3 n0 n1 n2 n3 x0 x1 x2 x3 x4)
              go_roundw
              case rel => exact ⟨0 + 1, z1, z2, by omega, by go_num, by rw [hnx.out _ hnext.out]; exact D', G.trans G', L.step G' hhlo⟩
              case measure => simp [intOf]; omega
           | succ i =>
            have hlk : i < ks.length := by have := hz4.out; have := HE.out.2.2; omega
            obtain ⟨ka, hka⟩ : ∃ x, Hid (ks[i]? = some x) := ⟨_, List.getElem?_eq_getElem hlk⟩
            obtain ⟨b1, o1, rfl, -, hca, -⟩ := NL.i1.2.2 i ka hka.out
            have hfr : Hid (kidFrom low ks (i + 1) = ka) := by show _ = _; unfold kidFrom; rw [if_neg (by omega), Nat.add_sub_cancel, List.getD_eq_getElem?_getD, hka.out]; rfl
            have hia : (i : Int) < k1 := by rw [HE.out.1]; omega
            have hpos : (0 : Int) < (i : Int) + 1 := by omega
            clear hlk
            by_cases hjk : i + 1 < k1
            ·
             have hjk' : (i : Int) + 1 < k1 := by omega
             obtain ⟨kz, hkz⟩ : ∃ x, Hid (ks[i + 1]? = some x) := get_some (by rw [← HE.out.1]; exact hjk)
             obtain ⟨b2, o2, eb, -, hcz, -⟩ := NL.i1.2.2 (i + 1) kz hkz.out
             cases eb
             have hto : Hid (kidTo high ks (i + 1) = kz) := by show _ = _; unfold kidTo; rw [if_pos (by rw [← HE.out.1]; exact hjk), List.getD_eq_getElem?_getD, hkz.out]; rfl
             replace hnext : Hid (((kidsT low high ks cs).take (i + 1 + 1)).foldl (fun (t : TreeS) (x : Int × ByteArray × ByteArray) => if t.bad then t else belowS H kk t x.1 x.2.1 x.2.2) tn = (fun (t : TreeS) (x : Int × ByteArray × ByteArray) => if t.bad then t else belowS H kk t x.1 x.2.1 x.2.2) TT (kb, ka, kz)) := by have e := hnext.out; rw [hfr.out, hto.out] at e; exact e
             clear NL hkT
             cases hbad : TT.bad with
             | true =>
              rw [hbad] at q3
              have hfin : Hid (TreeAt wr h B y1 y2 (((kidsT low high ks cs).take (i + 1 + 1)).foldl (fun (t : TreeS) (x : Int × ByteArray × ByteArray) => if t.bad then t else belowS H kk t x.1 x.2.1 x.2.2) tn) ∧ Grows h u1 (.slice ua N uc) V y1 y2 wr ∧ Loc V.heap.size X2 wr y1 y2) := ⟨by rw [hnext.out]; show TreeAt wr h B y1 y2 (if TT.bad then TT else _); rw [if_pos hbad]; exact D, G, L⟩
              clear D G L hbad hnext
              go_wp2
              go_roundw
              case rel => exact ⟨i + 1 + 1, y1, y2, by omega, by go_num, hfin.out.1, hfin.out.2.1, hfin.out.2.2⟩
              case measure => simp [intOf]; omega
             | false =>
              rw [hbad] at q3
              have hnx : Hid (∀ T', T' = (fun (t : TreeS) (x : Int × ByteArray × ByteArray) => if t.bad then t else belowS H kk t x.1 x.2.1 x.2.2) TT (kb, ka, kz) → T' = belowS H kk TT kb ka kz) := fun T' e => by rw [e]; show (if TT.bad then TT else _) = _; rw [if_neg (by rw [hbad]; decide)]
              clear hbad
              go_wp2_with (go_at_call 21; refine (IH.out _ _ _ _ _ _ _ HBw2 D hroom.out.1 hroom.out.2).mono ?_; rintro y w3 ⟨rfl, z1, z2, D', G'⟩; clear q0 q1 q2 q3 f0 f1 f2 f3 n0 n1 n2 n3 x0 x1 x2 x3 x4)
              go_roundw
              case rel => exact ⟨i + 1 + 1, z1, z2, by omega, by go_num, by rw [hnx.out _ hnext.out]; exact D', G.trans G', L.step G' hhlo⟩
              case measure => simp [intOf]; omega
            ·
             have hjk' : ¬ (i : Int) + 1 < k1 := by omega
             have hto : Hid (kidTo high ks (i + 1) = high) := by show _ = _; unfold kidTo; rw [if_neg (by rw [← HE.out.1]; exact hjk)]
             replace hnext : Hid (((kidsT low high ks cs).take (i + 1 + 1)).foldl (fun (t : TreeS) (x : Int × ByteArray × ByteArray) => if t.bad then t else belowS H kk t x.1 x.2.1 x.2.2) tn = (fun (t : TreeS) (x : Int × ByteArray × ByteArray) => if t.bad then t else belowS H kk t x.1 x.2.1 x.2.2) TT (kb, ka, high)) := by have e := hnext.out; rw [hfr.out, hto.out] at e; exact e
             clear NL hkT
             cases hbad : TT.bad with
             | true =>
              rw [hbad] at q3
              have hfin : Hid (TreeAt wr h B y1 y2 (((kidsT low high ks cs).take (i + 1 + 1)).foldl (fun (t : TreeS) (x : Int × ByteArray × ByteArray) => if t.bad then t else belowS H kk t x.1 x.2.1 x.2.2) tn) ∧ Grows h u1 (.slice ua N uc) V y1 y2 wr ∧ Loc V.heap.size X2 wr y1 y2) := ⟨by rw [hnext.out]; show TreeAt wr h B y1 y2 (if TT.bad then TT else _); rw [if_pos hbad]; exact D, G, L⟩
              clear D G L hbad hnext
              go_wp2
              go_roundw
              case rel => exact ⟨i + 1 + 1, y1, y2, by omega, by go_num, hfin.out.1, hfin.out.2.1, hfin.out.2.2⟩
              case measure => simp [intOf]; omega
             | false =>
              rw [hbad] at q3
              have hnx : Hid (∀ T', T' = (fun (t : TreeS) (x : Int × ByteArray × ByteArray) => if t.bad then t else belowS H kk t x.1 x.2.1 x.2.2) TT (kb, ka, high) → T' = belowS H kk TT kb ka high) := fun T' e => by rw [e]; show (if TT.bad then TT else _) = _; rw [if_neg (by rw [hbad]; decide)]
              clear hbad
              go_wp2_with (go_at_call 21; refine (IH.out _ _ _ _ _ _ _ HBw2 D hroom.out.1 hroom.out.2).mono ?_; rintro y w3 ⟨rfl, z1, z2, D', G'⟩; clear q0 q1 q2 q3 f0 f1 f2 f3 n0 n1 n2 n3 x0 x1 x2 x3 x4)
              go_roundw
              case rel => exact ⟨i + 1 + 1, z1, z2, by omega, by go_num, by rw [hnx.out _ hnext.out]; exact D', G.trans G', L.step G' hhlo⟩
              case measure => simp [intOf]; omega
          ·
           obtain rfl : k3 = j := by omega
           have ek3 : (kidsT low high ks cs).take k3 = kidsT low high ks cs := List.take_of_length_le (by rw [kidsT_length, HE.out.2.2]; exact Nat.le_refl _)
           rw [ek3, ← hkl.out] at D
           have hj4 : ¬ (k3 : Int) < k3 := by omega
           clear ek3 L
           go_wp2
           go_end0
           exact ⟨rfl, y1, y2, D, G⟩
theorem below_any {w : World} {H : Int → Bool → Option NodeS} (h B : Nat) (a a' b : Option Addr) (n c n' c' p f : Nat) (root gen : Int) (hh : w.heap.size ≤ h)
  (cN : ∀ V block r, Below w.heap.size w V → H block r = none → Calls Try.prog 29 #[(.agg #[.slice a n c, .slice a' n' c', .slice b p f, .int .i64 root, .int .i64 gen]), .int .i64 block, .bool r] V fun x V' => x = .returned (.tuple #[.agg #[.bool false, .slice none 0 0, .slice none 0 0, .slice none 0 0], .bool false]) ∧ Below V.heap.size V V')
  (cY : ∀ V block r (nd : NodeS), Below w.heap.size w V → H block r = some nd → Calls Try.prog 29 #[(.agg #[.slice a n c, .slice a' n' c', .slice b p f, .int .i64 root, .int .i64 gen]), .int .i64 block, .bool r] V fun x V' => ∃ k1 a1 d1 k2 a2 d2 k3 a3 d3, x = .returned (.tuple #[.agg #[.bool nd.1, .slice a1 k1 d1, .slice a2 k2 d2, .slice a3 k3 d3], .bool true]) ∧ k1 = nd.2.1.length ∧ k2 = nd.2.2.1.length ∧ k3 = nd.2.2.2.length ∧ IsS V' a1 d1 nd.2.1 ∧ IsS V' a2 d2 nd.2.2.1 ∧ IsI V' a3 d3 nd.2.2.2 ∧ From V.heap.size a1 ∧ From V.heap.size a2 ∧ From V.heap.size a3 ∧ Below V.heap.size V V')
  (hH : ∀ b r (nd : NodeS), H b r = some nd → nd.2.1.length ≤ 9 ∧ nd.2.2.2.length ≤ 10 ∧ (nd.1 = true → nd.2.2.1.length = nd.2.1.length) ∧ (nd.1 = false → nd.2.2.2.length = nd.2.1.length + 1))
  : ∀ (k : Nat), k ≤ 8 → ∀ (V : World) (u1 u2 : Value) (t : TreeS) (block : Int) (low high : ByteArray), Below w.heap.size w V → TreeAt V h B u1 u2 t → t.blocks.length + 2 * 10 ^ k ≤ 1000000000000 → t.pairs.length + 18 * 10 ^ k ≤ 1000000000000 →
   Calls Try.prog 21 #[.pointer (some ⟨h, 0, none⟩), (.agg #[.slice a n c, .slice a' n' c', .slice b p f, .int .i64 root, .int .i64 gen]), .int .i64 block, .int .i64 (9 - (k : Int)), .string low, .string high] V fun e V' => e = .returned (.tuple #[]) ∧ ∃ u1' u2', TreeAt V' h B u1' u2' (belowS H k t block low high) ∧ Grows h u1 u2 V u1' u2' V'
 | 0, hk => below_step h B a a' b n c n' c' p f root gen hh cN cY hH 0 hk (fun k' e => by omega)
 | k + 1, hk => below_step h B a a' b n c n' c' p f root gen hh cN cY hH (k + 1) hk (fun k' e => by
   obtain rfl : k = k' := by omega
   exact below_any h B a a' b n c n' c' p f root gen hh cN cY hH k (by omega))
end Go.Proofs.Ytpepgpjiddophaa
namespace Go.Proofs.Ytpepgpjiddophaa.Plain
open Go.RowKit
theorem xor_mod2 (a b : Nat) : (a ^^^ b) % 2 = (a + b) % 2 := by
 have h : (a ^^^ b) % 2 ^ 1 = a % 2 ^ 1 ^^^ b % 2 ^ 1 := Nat.xor_mod_two_pow
 rw [Nat.pow_one] at h
 rw [h, Nat.add_mod]
 have ha := Nat.mod_lt a (by decide : 2 > 0)
 have hb := Nat.mod_lt b (by decide : 2 > 0)
 rcases Nat.lt_succ_iff_lt_or_eq.1 ha with h1 | h1
 ·
  have h1' : a % 2 = 0 := by omega
  rw [h1', Nat.zero_xor, Nat.zero_add, Nat.mod_mod]
 ·
  rcases Nat.lt_succ_iff_lt_or_eq.1 hb with h2 | h2
  ·
   have h2' : b % 2 = 0 := by omega
   rw [h2', Nat.xor_zero, Nat.add_zero, Nat.mod_mod]
  ·
   rw [h1, h2]; decide
theorem xor_swap (a b c : Nat) : a ^^^ (b ^^^ c) = b ^^^ (a ^^^ c) := by
 rw [← Nat.xor_assoc, Nat.xor_comm a b, Nat.xor_assoc]
theorem xor_four (a b c d : Nat) : (a ^^^ b) ^^^ (c ^^^ d) = (a ^^^ c) ^^^ (b ^^^ d) := by
 rw [Nat.xor_assoc, Nat.xor_assoc, xor_swap b c d]
def poly : Nat := 2197175160
def zed (c : Nat) : Nat := if c % 2 = 0 then c / 2 else c / 2 ^^^ poly
def stepB (c b : Nat) : Nat := if c % 2 = b then c / 2 else c / 2 ^^^ poly
theorem zed_lin (a b : Nat) : zed (a ^^^ b) = zed a ^^^ zed b := by
 unfold zed
 rw [xor_mod2, Nat.xor_div_two]
 by_cases ha : a % 2 = 0
 ·
  by_cases hb : b % 2 = 0
  ·
   rw [if_pos (by omega), if_pos ha, if_pos hb]
  ·
   rw [if_neg (by omega), if_pos ha, if_neg hb, Nat.xor_assoc]
 ·
  by_cases hb : b % 2 = 0
  ·
   rw [if_neg (by omega), if_neg ha, if_pos hb, Nat.xor_assoc, Nat.xor_assoc, Nat.xor_comm poly]
  ·
   rw [if_pos (by omega), if_neg ha, if_neg hb, xor_four, Nat.xor_self, Nat.xor_zero]
theorem zed_two (x : Nat) : zed (2 * x) = x := by
 unfold zed
 rw [if_pos (by omega)]; omega
theorem zed_lt {c : Nat} (h : c < 4294967296) : zed c < 4294967296 := by
 unfold zed
 split
 ·
  omega
 ·
  exact Nat.xor_lt_two_pow (n := 32) (by omega) (by decide)
theorem stepB_eq (c b : Nat) (hb : b < 2) : stepB c b = zed (c ^^^ b) := by
 unfold stepB zed
 rw [xor_mod2, Nat.xor_div_two, show b / 2 = 0 by omega, Nat.xor_zero]
 by_cases h : c % 2 = b
 ·
  rw [if_pos h, if_pos (by omega)]
 ·
  rw [if_neg h, if_neg (by omega)]
def zedN : Nat → Nat → Nat
 | 0, c => c
 | n + 1, c => zedN n (zed c)
theorem zedN_add (m n c : Nat) : zedN (m + n) c = zedN n (zedN m c) := by
 induction m generalizing c with
 | zero => rw [Nat.zero_add]; rfl
 | succ m ih => rw [Nat.succ_add]; exact ih (zed c)
theorem zedN_succ (n c : Nat) : zedN (n + 1) c = zed (zedN n c) := zedN_add n 1 c
theorem zedN_lt (n : Nat) {c : Nat} (h : c < 4294967296) : zedN n c < 4294967296 := by
 induction n generalizing c with
 | zero => exact h
 | succ n ih => exact ih (zed_lt h)
def bitsN : Nat → Nat → Nat → Nat
 | 0, c, _ => c
 | n + 1, c, x => bitsN n (stepB c (x % 2)) (x / 2)
theorem split2 (x : Nat) : x = x % 2 ^^^ 2 * (x / 2) := by
 have h2 : ∀ m, m < 2 → ∀ y, m ^^^ 2 * y = m + 2 * y := by
  intro m hm y
  have e1 : (m ^^^ 2 * y) / 2 = y := by
   rw [Nat.xor_div_two, show m / 2 = 0 by omega, Nat.zero_xor]; omega
  have e2 : (m ^^^ 2 * y) % 2 = m := by rw [xor_mod2]; omega
  omega
 rw [h2 _ (Nat.mod_lt _ (by decide))]; omega
theorem bitsN_eq (n c x : Nat) (hx : x < 2 ^ n) : bitsN n c x = zedN n (c ^^^ x) := by
 induction n generalizing c x with
 | zero =>
  have : x = 0 := by simp at hx; exact hx
  subst this; simp [bitsN, zedN]
 | succ n ih =>
  rw [Nat.pow_succ] at hx
  simp only [bitsN, zedN]
  rw [ih _ _ (by omega), stepB_eq _ _ (Nat.mod_lt _ (by decide))]
  congr 1
  conv => rhs; rw [split2 x, ← Nat.xor_assoc, zed_lin, zed_two]
theorem bitsN_snoc (n c x : Nat) : bitsN (n + 1) c x = stepB (bitsN n c x) (x / 2 ^ n % 2) := by
 induction n generalizing c x with
 | zero => simp [bitsN]
 | succ n ih =>
  rw [show bitsN (n + 1 + 1) c x = bitsN (n + 1) (stepB c (x % 2)) (x / 2) from rfl, ih]
  rw [Nat.pow_succ, Nat.mul_comm, ← Nat.div_div_eq_div_mul]
  rfl
def takeN (c : Nat) (b : UInt8) : Nat := zedN 8 (c ^^^ b.toNat)
def reg (c : Nat) : List UInt8 → Nat
 | [] => c
 | b :: l => reg (takeN c b) l
theorem reg_nil (c : Nat) : reg c [] = c := rfl
theorem reg_append (c : Nat) (l m : List UInt8) : reg c (l ++ m) = reg (reg c l) m := by
 induction l generalizing c with
 | nil => rfl
 | cons b l ih => exact ih _
theorem byte_lt32 (b : UInt8) : b.toNat < 4294967296 := by have := b.toNat_lt; omega
theorem takeN_lt {c : Nat} (h : c < 4294967296) (b : UInt8) : takeN c b < 4294967296 :=
 zedN_lt 8 (Nat.xor_lt_two_pow (n := 32) h (byte_lt32 b))
theorem reg_lt {c : Nat} (h : c < 4294967296) (l : List UInt8) : reg c l < 4294967296 := by
 induction l generalizing c with
 | nil => exact h
 | cons b l ih => exact ih (takeN_lt h b)
theorem low_xor (m y : Nat) (k : Nat) (hm : m < 2 ^ k) : m ^^^ 2 ^ k * y = m + 2 ^ k * y := by
 induction k generalizing m with
 | zero =>
  have : m = 0 := by simp at hm; exact hm
  subst this; simp
 | succ k ih =>
  rw [Nat.pow_succ] at hm
  have e : 2 ^ (k + 1) * y = 2 * (2 ^ k * y) := by rw [Nat.pow_succ]; ac_rfl
  have h := ih (m / 2) (by omega)
  have e1 : (m ^^^ 2 ^ (k + 1) * y) / 2 = m / 2 + 2 ^ k * y := by
   rw [Nat.xor_div_two, e, Nat.mul_div_cancel_left _ (by decide : 0 < 2), h]
  have e2 : (m ^^^ 2 ^ (k + 1) * y) % 2 = m % 2 := by rw [xor_mod2, e]; omega
  omega
def full : Nat := 4294967295
theorem full_lt : full < 4294967296 := by decide
theorem flip_eq {c : Nat} (h : c < 4294967296) : full - c = full ^^^ c := by
 have h1 : ∀ n c, c < 2 ^ n → 2 ^ n - 1 - c = (2 ^ n - 1) ^^^ c := by
  intro n
  induction n with
  | zero =>
   intro c hc
   have : c = 0 := by simp at hc; exact hc
   subst this
   rfl
  | succ n ih =>
   intro c hc
   rw [Nat.pow_succ] at hc
   have hp : 0 < 2 ^ n := Nat.pow_pos (by decide)
   have e1 : ((2 ^ (n + 1) - 1) ^^^ c) / 2 = 2 ^ n - 1 - c / 2 := by
    rw [Nat.xor_div_two, ih _ (by omega)]; congr 1; rw [Nat.pow_succ]; omega
   have e2 : ((2 ^ (n + 1) - 1) ^^^ c) % 2 = (1 + c) % 2 := by
    rw [xor_mod2, Nat.pow_succ]; omega
   rw [Nat.pow_succ] at e1 e2 ⊢
   omega
 exact h1 32 c h
def sumOn (n : Nat) (l : List UInt8) : Nat := full - reg (full - n) l
def sumOf (l : List UInt8) : Nat := sumOn 0 l
theorem sumOn_lt (n : Nat) (l : List UInt8) : sumOn n l < 4294967296 := by
 unfold sumOn full; omega
theorem sumOf_lt (l : List UInt8) : sumOf l < 4294967296 := sumOn_lt 0 l
theorem sumOn_nil {n : Nat} (h : n < 4294967296) : sumOn n [] = n := by
 unfold sumOn reg full; omega
theorem sumOn_append {n : Nat} (h : n < 4294967296) (l m : List UInt8) : sumOn n (l ++ m) = sumOn (sumOn n l) m := by
 unfold sumOn
 have hr : reg (full - n) l < 4294967296 := reg_lt (by unfold full; omega) l
 have he : ∀ x, x < 4294967296 → full - (full - x) = x := by intro x hx; unfold full; omega
 rw [reg_append, he _ hr]
theorem sumOf_append (l m : List UInt8) : sumOf (l ++ m) = sumOn (sumOf l) m := sumOn_append (by decide) l m
def onS (n : Nat) (s : ByteArray) : Nat := sumOn n s.data.toList
def ofS (s : ByteArray) : Nat := sumOf s.data.toList
theorem ofS_lt (s : ByteArray) : ofS s < 4294967296 := sumOf_lt _
def le4 (n : Nat) : List UInt8 := [UInt8.ofNat (n % 256), UInt8.ofNat (n / 256 % 256), UInt8.ofNat (n / 65536 % 256), UInt8.ofNat (n / 16777216 % 256)]
end Go.Proofs.Ytpepgpjiddophaa.Plain
namespace Go.Proofs
open Go.Shelf
def Try.lays156_ren : Go.Shelf.Ren := ⟨fun | 156 => 76 | 165 => 79 | 166 => 80 | 169 => 82 | 240 => 87 | 241 => 88 | 276 => 90 | 277 => 91 | n => n, fun | 31 => 25 | 9 => 9 | 3 => 3 | 4 => 4 | 0 => 0 | 20 => 20 | 72 => 122 | 76 => 126 | 70 => 120 | 37 => 100 | 75 => 125 | 127 => 134 | 164 => 136 | 5 => 5 | 80 => 115 | n => n, fun | n => n⟩
theorem Try.lays156 : Go.Proofs.Lays.n156 Try.prog Try.lays156_ren := {
 mixed := by kernel_rfl
 f156 := Try.func76.trans (congrArg some (by kernel_rfl))
 f165 := Try.func79.trans (congrArg some (by kernel_rfl))
 f166 := Try.func80.trans (congrArg some (by kernel_rfl))
 f169 := Try.func82.trans (congrArg some (by kernel_rfl))
 f240 := Try.func87.trans (congrArg some (by kernel_rfl))
 f241 := Try.func88.trans (congrArg some (by kernel_rfl))
 f276 := Try.func90.trans (congrArg some (by kernel_rfl))
 f277 := Try.func91.trans (congrArg some (by kernel_rfl))
 t0 := Try.underlying0
 a0 := Try.isAgg0
 z0 := Try.sizeOf0
 v0 := Try.zeroValue0
 t3 := Try.underlying3
 a3 := Try.isAgg3
 z3 := Try.sizeOf3
 v3 := Try.zeroValue3
 t4 := Try.underlying4
 a4 := Try.isAgg4
 z4 := Try.sizeOf4
 v4 := Try.zeroValue4
 t9 := Try.underlying9
 a9 := Try.isAgg9
 z9 := Try.sizeOf9
 v9 := Try.zeroValue9
 t20 := Try.underlying20
 a20 := Try.isAgg20
 z20 := Try.sizeOf20
 v20 := Try.zeroValue20
 t31 := Try.underlying25
 a31 := Try.isAgg25
 z31 := Try.sizeOf25
 v31 := Try.zeroValue25
 t37 := Try.underlying100
 a37 := Try.isAgg100
 z37 := Try.sizeOf100
 v37 := Try.zeroValue100
 t70 := Try.underlying120
 a70 := Try.isAgg120
 z70 := Try.sizeOf120
 v70 := Try.zeroValue120
 t72 := Try.underlying122
 a72 := Try.isAgg122
 z72 := Try.sizeOf122
 v72 := Try.zeroValue122
 t75 := Try.underlying125
 a75 := Try.isAgg125
 z75 := Try.sizeOf125
 v75 := Try.zeroValue125
 t76 := Try.underlying126
 a76 := Try.isAgg126
 z76 := Try.sizeOf126
 v76 := Try.zeroValue126
 t127 := Try.underlying134
 a127 := Try.isAgg134
 z127 := Try.sizeOf134
 v127 := Try.zeroValue134
 t164 := Try.underlying136
 a164 := Try.isAgg136
 z164 := Try.sizeOf136
 v164 := Try.zeroValue136 }
theorem Try.Builder_Extra_156 : Builder.Extra Try.prog Try.lays156_ren := {
 sizeBuilder := by kernel_rfl
 liesBuilder := by kernel_rfl
 t5 := Try.underlying5
 a5 := Try.isAgg5
 z5 := Try.sizeOf5
 v5 := Try.zeroValue5
 infoByte := by kernel_rfl
 cellsByte := by kernel_rfl
 sizeByte := by kernel_rfl
 neB5 := by decide }
open Go.RowKit in
theorem Try.strings_Join (bk o c : Nat) (xs : List ByteArray) (sep : ByteArray) (w : World) (hcells : ∀ (j : Nat) x, xs[j]? = some x → w.cell? ⟨bk, o + j, none⟩ = some (.string x)) (hbk : bk < w.heap.size) (hN : xs.length ≤ 140737488355328) (hcap : xs.length ≤ c) (hlen : (Lib.join (xs.map (·.data.toList)) sep.data.toList).length ≤ 140737488355328) :
  Calls Try.prog 76 #[.slice (some ⟨bk, o, none⟩) xs.length c, .string sep] w fun e w' => e = .returned (.string ⟨(Lib.join (xs.map (·.data.toList)) sep.data.toList).toArray⟩) ∧ Below w.heap.size w w' := Any.strings_Join Try.lays156 Try.Builder_Extra_156 bk o c xs sep w hcells hbk hN hcap hlen
def Try.lays105_ren : Go.Shelf.Ren := ⟨fun | 105 => 70 | 212 => 77 | 99 => 78 | 165 => 79 | 166 => 80 | 170 => 81 | 169 => 82 | 263 => 84 | 264 => 85 | 206 => 86 | 240 => 87 | 241 => 88 | 276 => 90 | 277 => 91 | n => n, fun | 9 => 9 | 3 => 3 | 4 => 4 | 20 => 20 | 0 => 0 | 46 => 112 | 109 => 117 | 5 => 5 | 72 => 122 | 76 => 126 | 51 => 101 | 146 => 129 | 53 => 131 | 148 => 132 | 70 => 120 | 37 => 100 | 75 => 125 | 127 => 134 | 164 => 136 | 80 => 115 | n => n, fun | n => n⟩
theorem Try.lays105 : Go.Proofs.Lays.n105 Try.prog Try.lays105_ren := {
 mixed := by kernel_rfl
 f99 := Try.func78.trans (congrArg some (by kernel_rfl))
 f105 := Try.func70.trans (congrArg some (by kernel_rfl))
 f165 := Try.func79.trans (congrArg some (by kernel_rfl))
 f166 := Try.func80.trans (congrArg some (by kernel_rfl))
 f169 := Try.func82.trans (congrArg some (by kernel_rfl))
 f170 := Try.func81.trans (congrArg some (by kernel_rfl))
 f206 := Try.func86.trans (congrArg some (by kernel_rfl))
 f212 := Try.func77.trans (congrArg some (by kernel_rfl))
 f240 := Try.func87.trans (congrArg some (by kernel_rfl))
 f241 := Try.func88.trans (congrArg some (by kernel_rfl))
 f263 := Try.func84.trans (congrArg some (by kernel_rfl))
 f264 := Try.func85.trans (congrArg some (by kernel_rfl))
 f276 := Try.func90.trans (congrArg some (by kernel_rfl))
 f277 := Try.func91.trans (congrArg some (by kernel_rfl))
 t0 := Try.underlying0
 a0 := Try.isAgg0
 z0 := Try.sizeOf0
 v0 := Try.zeroValue0
 t3 := Try.underlying3
 a3 := Try.isAgg3
 z3 := Try.sizeOf3
 v3 := Try.zeroValue3
 t4 := Try.underlying4
 a4 := Try.isAgg4
 z4 := Try.sizeOf4
 v4 := Try.zeroValue4
 t5 := Try.underlying5
 a5 := Try.isAgg5
 z5 := Try.sizeOf5
 v5 := Try.zeroValue5
 t9 := Try.underlying9
 a9 := Try.isAgg9
 z9 := Try.sizeOf9
 v9 := Try.zeroValue9
 t20 := Try.underlying20
 a20 := Try.isAgg20
 z20 := Try.sizeOf20
 v20 := Try.zeroValue20
 t37 := Try.underlying100
 a37 := Try.isAgg100
 z37 := Try.sizeOf100
 v37 := Try.zeroValue100
 t46 := Try.underlying112
 a46 := Try.isAgg112
 z46 := Try.sizeOf112
 v46 := Try.zeroValue112
 t51 := Try.underlying101
 a51 := Try.isAgg101
 z51 := Try.sizeOf101
 v51 := Try.zeroValue101
 t53 := Try.underlying131
 a53 := Try.isAgg131
 z53 := Try.sizeOf131
 v53 := Try.zeroValue131
 t70 := Try.underlying120
 a70 := Try.isAgg120
 z70 := Try.sizeOf120
 v70 := Try.zeroValue120
 t72 := Try.underlying122
 a72 := Try.isAgg122
 z72 := Try.sizeOf122
 v72 := Try.zeroValue122
 t75 := Try.underlying125
 a75 := Try.isAgg125
 z75 := Try.sizeOf125
 v75 := Try.zeroValue125
 t76 := Try.underlying126
 a76 := Try.isAgg126
 z76 := Try.sizeOf126
 v76 := Try.zeroValue126
 t109 := Try.underlying117
 a109 := Try.isAgg117
 z109 := Try.sizeOf117
 v109 := Try.zeroValue117
 t127 := Try.underlying134
 a127 := Try.isAgg134
 z127 := Try.sizeOf134
 v127 := Try.zeroValue134
 t146 := Try.underlying129
 a146 := Try.isAgg129
 z146 := Try.sizeOf129
 v146 := Try.zeroValue129
 t148 := Try.underlying132
 a148 := Try.isAgg132
 z148 := Try.sizeOf132
 v148 := Try.zeroValue132
 t164 := Try.underlying136
 a164 := Try.isAgg136
 z164 := Try.sizeOf136
 v164 := Try.zeroValue136 }
theorem Try.Builder_Extra_105 : Builder.Extra Try.prog Try.lays105_ren := {
 sizeBuilder := by kernel_rfl
 liesBuilder := by kernel_rfl
 t5 := Try.underlying5
 a5 := Try.isAgg5
 z5 := Try.sizeOf5
 v5 := Try.zeroValue5
 infoByte := by kernel_rfl
 cellsByte := by kernel_rfl
 sizeByte := by kernel_rfl
 neB5 := by decide }
open Go.RowKit Go.Lib in
theorem Try.strings_Repeat (s : ByteArray) (c : Nat) (w : World) (hc : c ≤ 9223372036854775807) (hlen : s.size * c ≤ 140737488355328) :
  Calls Try.prog 70 #[.string s, .int .i64 c] w fun e w' => e = .returned (.string ⟨(Lib.repeatL s.data.toList c).toArray⟩) ∧ Below w.heap.size w w' := Any.strings_Repeat Try.lays105 Try.Builder_Extra_105 s c w hc hlen
end Go.Proofs
namespace Go.Proofs.Ytpepgpjiddophaa
open Go.RowKit Plain
set_option linter.unusedVariables false
set_option maxHeartbeats 400000 in
theorem all_row (bk o c : Nat) (xs : List ByteArray) (w : World) (hcells : ∀ (j : Nat) x, xs[j]? = some x → w.cell? ⟨bk, o + j, none⟩ = some (.string x)) (hbk : bk < w.heap.size) (hN : xs.length ≤ 140737488355328) (hcap : xs.length ≤ c) (hlen : (cat xs).size ≤ 140737488355328) :
  Calls Try.prog 69 #[.slice (some ⟨bk, o, none⟩) xs.length c] w fun e w' => e = .returned (.string (cat xs)) ∧ Below w.heap.size w w' := by
 have h := Try.strings_Join bk o c xs ⟨#[]⟩ w hcells hbk hN hcap (by
  show (Lib.join _ []).length ≤ _
  rw [join_flat]
  simpa [cat, ByteArray.size] using hlen)
 have e1 : (⟨(Lib.join (xs.map (·.data.toList)) (⟨#[]⟩ : ByteArray).data.toList).toArray⟩ : ByteArray) = cat xs := by
  show (⟨(Lib.join _ []).toArray⟩ : ByteArray) = _
  rw [join_flat]; rfl
 rw [e1] at h
 clear hcells hlen e1
 go_enter Try.func69, Try.ntmps69
 go_wp2_with (go_at_call 76; refine h.mono ?_; rintro e w' ⟨rfl, hb⟩)
 go_ret
 exact ⟨rfl, hb⟩
theorem all_two (a b : ByteArray) (w : World) (hlen : a.size + b.size ≤ 140737488355328) :
  Calls Try.prog 69 #[.slice (some ⟨w.heap.size, 0, none⟩) 2 2] (w.alloc (.cells #[.string a, .string b] 9)) fun e w' => e = .returned (.string (cat [a, b])) ∧ Below w.heap.size w w' := by
 refine (all_row w.heap.size 0 2 [a, b] _ ?_ (by simp) (by simp) (by simp) (by rw [cat_size]; simpa using hlen)).mono fun e w' ⟨he, hb⟩ => ⟨he, ((Below.refl _ _).alloc (Nat.le_refl _) _).trans (hb.mono (by simp))⟩
 intro j x hj
 rw [Nat.zero_add, World.cell?_alloc_at _ _ _ _ rfl]
 match j, hj with
 | 0, hj => simp at hj; subst hj; rfl
 | 1, hj => simp at hj; subst hj; rfl
end Go.Proofs.Ytpepgpjiddophaa
namespace Go.Proofs.Ytpepgpjiddophaa
open Go.RowKit Plain
theorem and_one (x : Nat) (h : x < 4294967296) : bits .and .u32 (x : Int) 1 = ((x % 2 : Nat) : Int) := by
 rw [show (1 : Int) = ((1 : Nat) : Int) from rfl, u32_and_nat _ _ h (by decide), nat_mask1]
theorem xor_poly (x : Nat) (h : x < 4294967296) : bits .xor .u32 (x : Int) 2197175160 = ((x ^^^ poly : Nat) : Int) := by
 rw [show (2197175160 : Int) = ((poly : Nat) : Int) from rfl, u32_xor_nat _ _ h (by decide)]
theorem xor_byte (c : Nat) (b : UInt8) (h : c < 4294967296) : bits .xor .u32 (c : Int) ((b.toNat : Int) % 4294967296) = ((c ^^^ b.toNat : Nat) : Int) := by
 have := byte_lt32 b
 rw [show ((b.toNat : Int) % 4294967296) = ((b.toNat : Nat) : Int) by omega, u32_xor_nat _ _ h this]
theorem zed_odd {x : Nat} (h : x % 2 = 1) : zed x = x / 2 ^^^ poly := by unfold zed; rw [if_neg (by omega)]
theorem zed_even {x : Nat} (h : x % 2 = 0) : zed x = x / 2 := by unfold zed; rw [if_pos (by omega)]
set_option maxHeartbeats 400000 in
theorem take_ok (c : Nat) (b : UInt8) (w : World) (hc : c < 4294967296) :
  Calls Try.prog 89 #[.int .u32 c, .int .u8 b.toNat] w fun e w' => e = .returned (.int .u32 (takeN c b)) ∧ w = w' := by
 go_enter Try.func89, Try.ntmps89
 go_wp2
 go_loop [0, 10] (fun r v => ∃ i : Nat, i ≤ 8 ∧ v = .int .i64 i ∧ r = .int .u32 (zedN i (c ^^^ b.toNat) : Nat)) (fun _ v => 8 - (intOf v).toNat)
 case atStart => exact ⟨0, by omega, rfl, by rw [xor_byte c b hc]; rfl⟩
 case round =>
  obtain ⟨i, hi, rfl, rfl⟩ := hrel
  by_cases hlt : i < 8
  ·
   have hx : zedN i (c ^^^ b.toNat) < 4294967296 := zedN_lt i (Nat.xor_lt_two_pow (n := 32) hc (byte_lt32 b))
   have hs : Hid (zedN (i + 1) (c ^^^ b.toNat) = zed (zedN i (c ^^^ b.toNat))) := zedN_succ i _
   generalize zedN i (c ^^^ b.toNat) = x at hx hs
   by_cases hp : x % 2 = 1
   ·
    have hand : bits .and .u32 (x : Int) 1 = 1 := by rw [and_one x hx, hp]; rfl
    go_wp2
    go_round
    case rel => 
     refine ⟨i + 1, by omega, by go_num, ?_⟩
     rw [hs.out, zed_odd hp, ← xor_poly _ (by omega)]
     rfl
    case measure => simp [intOf]; omega
   ·
    have hand : bits .and .u32 (x : Int) 1 = 0 := by rw [and_one x hx]; omega
    go_wp2
    go_round
    case rel => 
     refine ⟨i + 1, by omega, by go_num, ?_⟩
     rw [hs.out, zed_even (by omega)]
     rfl
    case measure => simp [intOf]; omega
  ·
   obtain rfl : i = 8 := by omega
   go_wp2
   go_ret
   exact ⟨rfl, rfl⟩
theorem getElem_list (s : ByteArray) (i : Nat) (h : i < s.size) : s.data.toList[i]? = some s[i] := by
 rw [List.getElem?_eq_getElem (by exact h)]
 rfl
theorem reg_take (c : Nat) (s : ByteArray) (i : Nat) (h : i < s.size) : reg c (s.data.toList.take (i + 1)) = takeN (reg c (s.data.toList.take i)) s[i] := by
 rw [List.take_add_one, getElem_list s i h, reg_append]
 rfl
theorem reg_all (c : Nat) (s : ByteArray) : reg c (s.data.toList.take s.size) = reg c s.data.toList := by
 rw [List.take_of_length_le (by exact Nat.le_refl _)]
theorem xor_max (n : Nat) (h : n < 4294967296) : bits .xor .u32 IntKind.u32.max (n : Int) = ((full - n : Nat) : Int) := by
 rw [show IntKind.u32.max = ((full : Nat) : Int) from rfl, u32_xor_nat _ _ full_lt h, flip_eq h]
set_option maxHeartbeats 400000 in
theorem on_ok (n : Nat) (s : ByteArray) (w : World) (hn : n < 4294967296) (hs : s.size ≤ maxLen) :
  Calls Try.prog 83 #[.int .u32 n, .string s] w fun e w' => e = .returned (.int .u32 (onS n s)) ∧ w = w' := by
 unfold maxLen at hs
 have hmx : ¬ IntKind.u32.signed = true := by decide
 go_enter Try.func83, Try.ntmps83
 go_wp2
 go_loop [5, 11] (fun r v => ∃ i : Nat, i ≤ s.size ∧ v = .int .i64 i ∧ r = .int .u32 (reg (full - n) (s.data.toList.take i) : Nat)) (fun _ v => s.size - (intOf v).toNat)
 case atStart => refine ⟨0, by omega, rfl, ?_⟩; rw [xor_max n hn]; rfl
 case round =>
  obtain ⟨i, hi, rfl, rfl⟩ := hrel
  by_cases hlt : i < s.size
  ·
   have hx : reg (full - n) (s.data.toList.take i) < 4294967296 := reg_lt (by unfold full; omega) _
   have hst : Hid (reg (full - n) (s.data.toList.take (i + 1)) = takeN (reg (full - n) (s.data.toList.take i)) s[i]) := reg_take _ s i hlt
   generalize reg (full - n) (s.data.toList.take i) = x at hx hst
   go_wp2_with (go_at_call 89; refine (take_ok x _ _ hx).mono ?_; rintro e w' ⟨rfl, rfl⟩)
   go_round
   case rel =>
    refine ⟨i + 1, by omega, by go_num, ?_⟩
    rw [hst.out]
   case measure => simp [intOf]; omega
  ·
   obtain rfl : i = s.size := by omega
   rw [reg_all]
   have hx : reg (full - n) s.data.toList < 4294967296 := reg_lt (by unfold full; omega) _
   go_wp2
   go_ret
   refine ⟨?_, rfl⟩
   show Ending.returned (.int .u32 (bits .xor .u32 IntKind.u32.max (reg (full - n) s.data.toList : Nat))) = _
   rw [xor_max _ hx]
   rfl
theorem sumOf_take (xs : List ByteArray) (j : Nat) (x : ByteArray) (h : xs[j]? = some x) : ofS (cat (xs.take (j + 1))) = onS (ofS (cat (xs.take j))) x := by
 unfold ofS onS
 rw [List.take_add_one, h, cat_append, data_append, sumOf_append]
 show sumOn _ (cat [x]).data.toList = _
 rw [cat_one]
set_option maxHeartbeats 400000 in
theorem of_row (bk o c : Nat) (xs : List ByteArray) (w : World) (hcells : ∀ (j : Nat) x, xs[j]? = some x → w.cell? ⟨bk, o + j, none⟩ = some (.string x)) (hcap : xs.length ≤ c) (hc : c ≤ maxLen) (hsz : ∀ x ∈ xs, x.size ≤ maxLen) :
  Calls Try.prog 73 #[.slice (some ⟨bk, o, none⟩) xs.length c] w fun e w' => e = .returned (.int .u32 (ofS (cat xs))) ∧ w = w' := by
 unfold maxLen at hc
 have HC : Hid (∀ (j : Nat) x, xs[j]? = some x → w.cell? ⟨bk, o + j, none⟩ = some (.string x)) := hcells
 clear hcells
 have HZ : Hid (∀ x ∈ xs, x.size ≤ maxLen) := hsz
 clear hsz
 go_enter Try.func73, Try.ntmps73
 go_wp2
 go_loop [3, 8] (fun r v => ∃ j : Nat, j ≤ xs.length ∧ v = .int .i64 j ∧ r = .int .u32 (ofS (cat (xs.take j)) : Nat)) (fun _ v => xs.length - (intOf v).toNat)
 case atStart =>
  refine ⟨0, by omega, rfl, ?_⟩
  rw [List.take_zero, show ofS (cat []) = 0 from sumOn_nil (by decide)]
  rfl
 case round =>
  obtain ⟨j, hj, rfl, rfl⟩ := hrel
  by_cases hlt : j < xs.length
  ·
   obtain ⟨x, hx⟩ : ∃ x, xs[j]? = some x := ⟨_, List.getElem?_eq_getElem hlt⟩
   have hcell := HC.out j x hx
   have hxs := HZ.out x (List.mem_of_getElem? hx)
   have hst : Hid (ofS (cat (xs.take (j + 1))) = onS (ofS (cat (xs.take j))) x) := sumOf_take xs j x hx
   have hlt32 := ofS_lt (cat (xs.take j))
   clear hx
   generalize ofS (cat (xs.take j)) = y at hlt32 hst
   go_wp2_with (go_at_call 83; refine (on_ok _ _ _ hlt32 hxs).mono ?_; rintro e w' ⟨rfl, rfl⟩)
   go_round
   case rel =>
    refine ⟨j + 1, by omega, by go_num, ?_⟩
    rw [hst.out]
   case measure => simp [intOf]; omega
  ·
   obtain rfl : j = xs.length := by omega
   rw [List.take_length]
   go_wp2
   go_ret
   exact ⟨rfl, rfl⟩
theorem of_one (s : ByteArray) (w : World) (hs : s.size ≤ maxLen) :
  Calls Try.prog 73 #[.slice (some ⟨w.heap.size, 0, none⟩) 1 1] (w.alloc (.cells #[.string s] 9)) fun e w' => e = .returned (.int .u32 (ofS s)) ∧ Below w.heap.size w w' := by
 have h := of_row w.heap.size 0 1 [s] (w.alloc (.cells #[.string s] 9)) ?_ (by simp) (by decide) (by simpa using hs)
 ·
  rw [cat_one] at h
  refine h.mono fun e w' ⟨he, hw⟩ => ⟨he, hw ▸ (Below.refl _ _).alloc (Nat.le_refl _) _⟩
 intro j x hj
 rw [Nat.zero_add, World.cell?_alloc_at _ _ _ _ rfl]
 match j, hj with
 | 0, hj => simp at hj; subst hj; rfl
theorem takeN_bits (c : Nat) (b : UInt8) : bitsN 8 c b.toNat = takeN c b := bitsN_eq 8 c b.toNat b.toNat_lt
theorem bitsN_lt (n : Nat) {c : Nat} (x : Nat) (h : c < 4294967296) : bitsN n c x < 4294967296 := by
 induction n with
 | zero => exact h
 | succ n ih =>
  rw [bitsN_snoc, stepB_eq _ _ (Nat.mod_lt _ (by decide))]
  exact zed_lt (Nat.xor_lt_two_pow (n := 32) ih (by have := Nat.mod_lt (x / 2 ^ n) (show 2 > 0 by decide); omega))
theorem bit_int (b k : Nat) (hb : b < 4294967296) : (((b : Int) % 4294967296) / 2 ^ k).tmod 2 = ((b / 2 ^ k % 2 : Nat) : Int) := by
 rw [show ((b : Int) % 4294967296) = (b : Int) by omega]
 have e : ((2 : Int) ^ k) = ((2 ^ k : Nat) : Int) := by simp
 rw [e, ← Int.natCast_ediv, Int.tmod_eq_emod_of_nonneg (Int.natCast_nonneg _)]
 omega
theorem full_sub (n : Nat) (h : n < 4294967296) : (4294967295 : Int) - (n : Int) = ((full - n : Nat) : Int) := by
 unfold full; omega
set_option maxHeartbeats 1000000 in
theorem refOn_ok (n : Nat) (s : ByteArray) (w : World) (hn : n < 4294967296) (hs : s.size ≤ maxLen) :
  Calls Try.prog 68 #[.int .u32 n, .string s] w fun e w' => e = .returned (.int .u32 (onS n s)) ∧ w = w' := by
 unfold maxLen at hs
 go_enter Try.func68, Try.ntmps68
 go_wp2
 go_loop [5, 6] (fun r v => ∃ i : Nat, i ≤ s.size ∧ v = .int .i64 i ∧ r = .int .u32 (reg (full - n) (s.data.toList.take i) : Nat)) (fun _ v => s.size - (intOf v).toNat)
 case atStart => 
  refine ⟨0, by omega, rfl, ?_⟩
  rw [List.take_zero, reg_nil, ← full_sub n hn]
 case round =>
  obtain ⟨i, hi, rfl, rfl⟩ := hrel
  by_cases hlt : i < s.size
  ·
   have hx : reg (full - n) (s.data.toList.take i) < 4294967296 := reg_lt (by unfold full; omega) _
   have hst : Hid (reg (full - n) (s.data.toList.take (i + 1)) = takeN (reg (full - n) (s.data.toList.take i)) s[i]) := reg_take _ s i hlt
   generalize reg (full - n) (s.data.toList.take i) = x at hx hst
   go_wp2
   go_loop [5, 7] (fun r v => ∃ k : Nat, k ≤ 8 ∧ v = .int .i64 k ∧ r = .int .u32 (bitsN k x s[i].toNat : Nat)) (fun _ v => 8 - (intOf v).toNat)
   case atStart => exact ⟨0, by omega, rfl, rfl⟩
   case round =>
    obtain ⟨k, hk, rfl, rfl⟩ := hrel
    by_cases hk8 : k < 8
    ·
     have hy := bitsN_lt k s[i].toNat hx
     have hsn : Hid (bitsN (k + 1) x s[i].toNat = stepB (bitsN k x s[i].toNat) (s[i].toNat / 2 ^ k % 2)) := bitsN_snoc k x _
     generalize bitsN k x s[i].toNat = y at hy hsn
     have hbt := bit_int s[i].toNat k (byte_lt32 _)
     have hdv : ((y / 2 : Nat) : Int) = (y : Int) / 2 := by omega
     by_cases hp : y % 2 = s[i].toNat / 2 ^ k % 2
     ·
      have hq : ((y : Int) % 2 != (((s[i].toNat : Int) % 4294967296) / 2 ^ k).tmod 2) = false := by rw [hbt, ← hp, bne_eq_false_iff_eq]; omega
      clear hbt
      go_wp2
      go_round
      case rel => exact ⟨k + 1, by omega, by go_num, by rw [hsn.out, stepB, if_pos hp, hdv]⟩
      case measure => simp [intOf]; omega
     ·
      have hq : ((y : Int) % 2 != (((s[i].toNat : Int) % 4294967296) / 2 ^ k).tmod 2) = true := by rw [hbt, bne_iff_ne]; intro hh; exact hp (by omega)
      clear hbt
      go_wp2
      go_round
      case rel => exact ⟨k + 1, by omega, by go_num, by rw [hsn.out, stepB, if_neg hp, ← xor_poly _ (by omega), hdv]⟩
      case measure => simp [intOf]; omega
    ·
     obtain rfl : k = 8 := by omega
     go_wp2
     go_round
     case rel => exact ⟨i + 1, by omega, by go_num, by rw [hst.out, takeN_bits]⟩
     case measure => simp [intOf]; omega
  ·
   obtain rfl : i = s.size := by omega
   rw [reg_all]
   have hx : reg (full - n) s.data.toList < 4294967296 := reg_lt (by unfold full; omega) _
   go_wp2
   go_ret
   refine ⟨?_, rfl⟩
   show Ending.returned (.int .u32 (4294967295 - ((reg (full - n) s.data.toList : Nat) : Int))) = _
   rw [full_sub _ hx]
   rfl
set_option maxHeartbeats 400000 in
theorem refOf_ok (s : ByteArray) (w : World) (hs : s.size ≤ maxLen) :
  Calls Try.prog 53 #[.string s] w fun e w' => e = .returned (.int .u32 (ofS s)) ∧ w = w' := by
 go_enter Try.func53, Try.ntmps53
 go_wp2_with (go_at_call 68; refine (refOn_ok 0 _ _ (by decide) hs).mono ?_; rintro e w' ⟨rfl, rfl⟩)
 go_ret
 exact ⟨rfl, rfl⟩
end Go.Proofs.Ytpepgpjiddophaa
