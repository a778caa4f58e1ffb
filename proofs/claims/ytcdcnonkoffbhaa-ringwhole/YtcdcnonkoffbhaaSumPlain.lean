/-
  Plain facts on the register of the sum: it is linear, and no bits within 32 are lost in it; nothing of any program.
-/
import Derived.WalkKit
import Derived.Laws.BitsLemmas
import Derived.Laws.BitsAllLaws
namespace Go.Proofs.Ytcdcnonkoffbhaa.Plain
open Go.RowKit

theorem xor_mod2 (a b : Nat) : (a ^^^ b) % 2 = (a + b) % 2 := by
  have h : (a ^^^ b) % 2 ^ 1 = a % 2 ^ 1 ^^^ b % 2 ^ 1 := Nat.xor_mod_two_pow
  rw [Nat.pow_one] at h
  rw [h, Nat.add_mod]
  have ha := Nat.mod_lt a (by decide : 2 > 0)
  have hb := Nat.mod_lt b (by decide : 2 > 0)
  rcases Nat.lt_succ_iff_lt_or_eq.1 ha with h1 | h1
  · have h1' : a % 2 = 0 := by omega
    rw [h1', Nat.zero_xor, Nat.zero_add, Nat.mod_mod]
  · rcases Nat.lt_succ_iff_lt_or_eq.1 hb with h2 | h2
    · have h2' : b % 2 = 0 := by omega
      rw [h2', Nat.xor_zero, Nat.add_zero, Nat.mod_mod]
    · rw [h1, h2]; decide

theorem xor_zero_eq {a b : Nat} (h : a ^^^ b = 0) : a = b := by
  have : a ^^^ (a ^^^ b) = a := by rw [h, Nat.xor_zero]
  rw [← Nat.xor_assoc, Nat.xor_self, Nat.zero_xor] at this
  exact this.symm

theorem xor_swap (a b c : Nat) : a ^^^ (b ^^^ c) = b ^^^ (a ^^^ c) := by
  rw [← Nat.xor_assoc, Nat.xor_comm a b, Nat.xor_assoc]

theorem xor_four (a b c d : Nat) : (a ^^^ b) ^^^ (c ^^^ d) = (a ^^^ c) ^^^ (b ^^^ d) := by
  rw [Nat.xor_assoc, Nat.xor_assoc, xor_swap b c d]

/-- The register's polynomial. -/
def poly : Nat := 2197175160

/-- The register, one bit on, where that bit is 0. -/
def zed (c : Nat) : Nat := if c % 2 = 0 then c / 2 else c / 2 ^^^ poly

/-- The register, one bit on. -/
def stepB (c b : Nat) : Nat := if c % 2 = b then c / 2 else c / 2 ^^^ poly

theorem zed_lin (a b : Nat) : zed (a ^^^ b) = zed a ^^^ zed b := by
  unfold zed
  rw [xor_mod2, Nat.xor_div_two]
  by_cases ha : a % 2 = 0
  · by_cases hb : b % 2 = 0
    · rw [if_pos (by omega), if_pos ha, if_pos hb]
    · rw [if_neg (by omega), if_pos ha, if_neg hb, Nat.xor_assoc]
  · by_cases hb : b % 2 = 0
    · rw [if_neg (by omega), if_neg ha, if_pos hb, Nat.xor_assoc, Nat.xor_assoc, Nat.xor_comm poly]
    · rw [if_pos (by omega), if_neg ha, if_neg hb, xor_four, Nat.xor_self, Nat.xor_zero]

theorem zed_zero : zed 0 = 0 := rfl

theorem zed_two (x : Nat) : zed (2 * x) = x := by
  unfold zed
  rw [if_pos (by omega)]; omega

theorem zed_lt {c : Nat} (h : c < 4294967296) : zed c < 4294967296 := by
  unfold zed
  split
  · omega
  · exact Nat.xor_lt_two_pow (n := 32) (by omega) (by decide)

theorem zed_null {c : Nat} (h : c < 4294967296) (hz : zed c = 0) : c = 0 := by
  unfold zed at hz
  split at hz
  · omega
  · have := xor_zero_eq hz
    unfold poly at this
    omega

theorem stepB_eq (c b : Nat) (hb : b < 2) : stepB c b = zed (c ^^^ b) := by
  unfold stepB zed
  rw [xor_mod2, Nat.xor_div_two, show b / 2 = 0 by omega, Nat.xor_zero]
  by_cases h : c % 2 = b
  · rw [if_pos h, if_pos (by omega)]
  · rw [if_neg h, if_neg (by omega)]

/-- So many bits 0 on. -/
def zedN : Nat → Nat → Nat
  | 0, c => c
  | n + 1, c => zedN n (zed c)

theorem zedN_lin (n a b : Nat) : zedN n (a ^^^ b) = zedN n a ^^^ zedN n b := by
  induction n generalizing a b with
  | zero => rfl
  | succ n ih => simp only [zedN]; rw [zed_lin, ih]

theorem zedN_zero (n : Nat) : zedN n 0 = 0 := by
  induction n with
  | zero => rfl
  | succ n ih => simp only [zedN]; rw [zed_zero, ih]

theorem zedN_add (m n c : Nat) : zedN (m + n) c = zedN n (zedN m c) := by
  induction m generalizing c with
  | zero => rw [Nat.zero_add]; rfl
  | succ m ih => rw [Nat.succ_add]; exact ih (zed c)

theorem zedN_succ (n c : Nat) : zedN (n + 1) c = zed (zedN n c) := zedN_add n 1 c

theorem zedN_lt (n : Nat) {c : Nat} (h : c < 4294967296) : zedN n c < 4294967296 := by
  induction n generalizing c with
  | zero => exact h
  | succ n ih => exact ih (zed_lt h)

theorem zedN_null (n : Nat) {c : Nat} (h : c < 4294967296) (hz : zedN n c = 0) : c = 0 := by
  induction n generalizing c with
  | zero => exact hz
  | succ n ih => exact zed_null h (ih (zed_lt h) hz)

theorem zedN_inj (n : Nat) {a b : Nat} (ha : a < 4294967296) (hb : b < 4294967296) (h : zedN n a = zedN n b) : a = b := by
  refine xor_zero_eq (zedN_null n (Nat.xor_lt_two_pow (n := 32) ha hb) ?_)
  rw [zedN_lin, h, Nat.xor_self]

theorem zedN_shift (k n x : Nat) : zedN (k + n) (2 ^ k * x) = zedN n x := by
  induction k generalizing x with
  | zero => simp
  | succ k ih =>
    rw [show k + 1 + n = (k + n) + 1 by omega, show 2 ^ (k + 1) * x = 2 * (2 ^ k * x) by rw [Nat.pow_succ]; ac_rfl]
    show zedN (k + n) (zed _) = _
    rw [zed_two, ih]

/-- So many bits of a number, the lowest first. -/
def bitsN : Nat → Nat → Nat → Nat
  | 0, c, _ => c
  | n + 1, c, x => bitsN n (stepB c (x % 2)) (x / 2)

theorem split2 (x : Nat) : x = x % 2 ^^^ 2 * (x / 2) := by
  have h2 : ∀ m, m < 2 → ∀ y, m ^^^ 2 * y = m + 2 * y := by
    intro m hm y
    have e1 : (m ^^^ 2 * y) / 2 = y := by
      rw [Nat.xor_div_two, show m / 2 = 0 by omega, Nat.zero_xor]; omega
    have e2 : (m ^^^ 2 * y) % 2 = m := by rw [xor_mod2]; omega
    omega
  rw [h2 _ (Nat.mod_lt _ (by decide))]; omega

theorem bitsN_eq (n c x : Nat) (hx : x < 2 ^ n) : bitsN n c x = zedN n (c ^^^ x) := by
  induction n generalizing c x with
  | zero =>
    have : x = 0 := by simp at hx; exact hx
    subst this; simp [bitsN, zedN]
  | succ n ih =>
    rw [Nat.pow_succ] at hx
    simp only [bitsN, zedN]
    rw [ih _ _ (by omega), stepB_eq _ _ (Nat.mod_lt _ (by decide))]
    congr 1
    conv => rhs; rw [split2 x, ← Nat.xor_assoc, zed_lin, zed_two]

/-- The bits of a byte from the k-th on. -/
theorem bitsN_snoc (n c x : Nat) : bitsN (n + 1) c x = stepB (bitsN n c x) (x / 2 ^ n % 2) := by
  induction n generalizing c x with
  | zero => simp [bitsN]
  | succ n ih =>
    rw [show bitsN (n + 1 + 1) c x = bitsN (n + 1) (stepB c (x % 2)) (x / 2) from rfl, ih]
    rw [Nat.pow_succ, Nat.mul_comm, ← Nat.div_div_eq_div_mul]
    rfl

/-- The register, one byte on. -/
def takeN (c : Nat) (b : UInt8) : Nat := zedN 8 (c ^^^ b.toNat)

/-- The register behind a text. -/
def reg (c : Nat) : List UInt8 → Nat
  | [] => c
  | b :: l => reg (takeN c b) l

theorem reg_nil (c : Nat) : reg c [] = c := rfl

theorem reg_cons (c : Nat) (b : UInt8) (l : List UInt8) : reg c (b :: l) = reg (takeN c b) l := rfl

theorem reg_append (c : Nat) (l m : List UInt8) : reg c (l ++ m) = reg (reg c l) m := by
  induction l generalizing c with
  | nil => rfl
  | cons b l ih => exact ih _

theorem byte_lt32 (b : UInt8) : b.toNat < 4294967296 := by have := b.toNat_lt; omega

theorem takeN_lt {c : Nat} (h : c < 4294967296) (b : UInt8) : takeN c b < 4294967296 :=
  zedN_lt 8 (Nat.xor_lt_two_pow (n := 32) h (byte_lt32 b))

theorem reg_lt {c : Nat} (h : c < 4294967296) (l : List UInt8) : reg c l < 4294967296 := by
  induction l generalizing c with
  | nil => exact h
  | cons b l ih => exact ih (takeN_lt h b)

/-- A text as one number, the first byte lowest. -/
def leN : List UInt8 → Nat
  | [] => 0
  | b :: l => b.toNat + 256 * leN l

theorem low_xor (m y : Nat) (k : Nat) (hm : m < 2 ^ k) : m ^^^ 2 ^ k * y = m + 2 ^ k * y := by
  induction k generalizing m with
  | zero =>
    have : m = 0 := by simp at hm; exact hm
    subst this; simp
  | succ k ih =>
    rw [Nat.pow_succ] at hm
    have e : 2 ^ (k + 1) * y = 2 * (2 ^ k * y) := by rw [Nat.pow_succ]; ac_rfl
    have h := ih (m / 2) (by omega)
    have e1 : (m ^^^ 2 ^ (k + 1) * y) / 2 = m / 2 + 2 ^ k * y := by
      rw [Nat.xor_div_two, e, Nat.mul_div_cancel_left _ (by decide : 0 < 2), h]
    have e2 : (m ^^^ 2 ^ (k + 1) * y) % 2 = m % 2 := by rw [xor_mod2, e]; omega
    omega

theorem leN_cons_xor (b : UInt8) (l : List UInt8) : leN (b :: l) = b.toNat ^^^ 2 ^ 8 * leN l :=
  (low_xor b.toNat (leN l) 8 b.toNat_lt).symm

theorem leN_lt (l : List UInt8) : leN l < 2 ^ (8 * l.length) := by
  induction l with
  | nil => simp [leN]
  | cons b l ih =>
    have := b.toNat_lt
    rw [List.length_cons, show 8 * (l.length + 1) = 8 * l.length + 8 by omega, Nat.pow_add]
    simp only [leN]
    omega

theorem leN_inj {l m : List UInt8} (h : l.length = m.length) (e : leN l = leN m) : l = m := by
  induction l generalizing m with
  | nil => cases m with
    | nil => rfl
    | cons b m => simp at h
  | cons a l ih => cases m with
    | nil => simp at h
    | cons b m =>
      simp only [leN] at e
      have ha := a.toNat_lt
      have hb := b.toNat_lt
      have e1 : a.toNat = b.toNat := by omega
      have e2 : leN l = leN m := by omega
      rw [UInt8.toNat_inj.1 e1, ih (by simpa using h) e2]

theorem leN_append (l m : List UInt8) : leN (l ++ m) = leN l + 2 ^ (8 * l.length) * leN m := by
  induction l with
  | nil => simp [leN]
  | cons b l ih =>
    rw [List.cons_append]
    simp only [leN]
    rw [ih, List.length_cons, show 8 * (l.length + 1) = 8 + 8 * l.length by omega, Nat.pow_add, Nat.mul_add, Nat.add_assoc, Nat.mul_assoc]

/-- The register behind a text is that of as many bits 0, from the text's number on. -/
theorem reg_step (n c d x : Nat) : zedN (8 + n) (c ^^^ (d ^^^ 2 ^ 8 * x)) = zedN n (zedN 8 (c ^^^ d) ^^^ x) := by
  rw [zedN_add, ← Nat.xor_assoc, zedN_lin 8 (c ^^^ d), show zedN 8 (2 ^ 8 * x) = x from zedN_shift 8 0 x]

theorem reg_eq (c : Nat) (l : List UInt8) : reg c l = zedN (8 * l.length) (c ^^^ leN l) := by
  revert c
  refine List.rec (motive := fun l => ∀ c, reg c l = zedN (8 * l.length) (c ^^^ leN l)) ?_ ?_ l
  · intro c
    show c = c ^^^ 0
    rw [Nat.xor_zero]
  · intro b l ih c
    rw [List.length_cons, Nat.mul_succ, Nat.add_comm (8 * l.length) 8, leN_cons_xor, reg_step]
    exact ih _

/-- All 32 bits. -/
def full : Nat := 4294967295

theorem full_lt : full < 4294967296 := by decide

theorem flip_eq {c : Nat} (h : c < 4294967296) : full - c = full ^^^ c := by
  have h1 : ∀ n c, c < 2 ^ n → 2 ^ n - 1 - c = (2 ^ n - 1) ^^^ c := by
    intro n
    induction n with
    | zero =>
      intro c hc
      have : c = 0 := by simp at hc; exact hc
      subst this
      rfl
    | succ n ih =>
      intro c hc
      rw [Nat.pow_succ] at hc
      have hp : 0 < 2 ^ n := Nat.pow_pos (by decide)
      have e1 : ((2 ^ (n + 1) - 1) ^^^ c) / 2 = 2 ^ n - 1 - c / 2 := by
        rw [Nat.xor_div_two, ih _ (by omega)]; congr 1; rw [Nat.pow_succ]; omega
      have e2 : ((2 ^ (n + 1) - 1) ^^^ c) % 2 = (1 + c) % 2 := by
        rw [xor_mod2, Nat.pow_succ]; omega
      rw [Nat.pow_succ] at e1 e2 ⊢
      omega
  exact h1 32 c h

/-- What goes on from a sum. -/
def sumOn (n : Nat) (l : List UInt8) : Nat := full - reg (full - n) l

/-- A text's sum. -/
def sumOf (l : List UInt8) : Nat := sumOn 0 l

theorem sumOn_lt (n : Nat) (l : List UInt8) : sumOn n l < 4294967296 := by
  unfold sumOn full; omega

theorem sumOf_lt (l : List UInt8) : sumOf l < 4294967296 := sumOn_lt 0 l

theorem sumOn_nil {n : Nat} (h : n < 4294967296) : sumOn n [] = n := by
  unfold sumOn reg full; omega

theorem sumOn_append {n : Nat} (h : n < 4294967296) (l m : List UInt8) : sumOn n (l ++ m) = sumOn (sumOn n l) m := by
  unfold sumOn
  have hr : reg (full - n) l < 4294967296 := reg_lt (by unfold full; omega) l
  have he : ∀ x, x < 4294967296 → full - (full - x) = x := by intro x hx; unfold full; omega
  rw [reg_append, he _ hr]

theorem sumOf_append (l m : List UInt8) : sumOf (l ++ m) = sumOn (sumOf l) m := sumOn_append (by decide) l m

theorem sumOf_eq (l : List UInt8) : sumOf l = full ^^^ reg full l := by
  unfold sumOf sumOn
  rw [Nat.sub_zero, flip_eq (reg_lt full_lt l)]

theorem sumOf_inj_reg {l m : List UInt8} : sumOf l = sumOf m ↔ reg full l = reg full m := by
  have h1 := reg_lt full_lt l
  have h2 := reg_lt full_lt m
  unfold sumOf sumOn
  rw [Nat.sub_zero]
  unfold full at *
  omega

/-- The same, of texts as the program has them. -/
def onS (n : Nat) (s : ByteArray) : Nat := sumOn n s.data.toList
def ofS (s : ByteArray) : Nat := sumOf s.data.toList

theorem onS_lt (n : Nat) (s : ByteArray) : onS n s < 4294967296 := sumOn_lt _ _
theorem ofS_lt (s : ByteArray) : ofS s < 4294967296 := sumOf_lt _

/-- Texts whose numbers differ within 32 bits end in unlike registers. -/
theorem reg_burst (c : Nat) {l m : List UInt8} (k q : Nat) (hlen : l.length = m.length) (hk : k ≤ 8 * l.length) (hq : q < 4294967296)
    (hd : leN m = leN l ^^^ 2 ^ k * q) : reg c l = reg c m ↔ l = m := by
  refine ⟨fun h => ?_, fun h => by rw [h]⟩
  rw [reg_eq, reg_eq, ← hlen, hd, ← Nat.xor_assoc, zedN_lin _ (c ^^^ leN l)] at h
  have h0 : zedN (8 * l.length) (2 ^ k * q) = 0 := by
    have h' := congrArg (fun x => zedN (8 * l.length) (c ^^^ leN l) ^^^ x) h
    simp only [Nat.xor_self, ← Nat.xor_assoc, Nat.zero_xor] at h'
    exact h'.symm
  rw [show 8 * l.length = k + (8 * l.length - k) by omega, zedN_shift] at h0
  have hq0 := zedN_null _ hq h0
  rw [hq0, Nat.mul_zero, Nat.xor_zero] at hd
  exact leN_inj hlen hd.symm

/-- A sum's four bytes, the lowest first. -/
def le4 (n : Nat) : List UInt8 := [UInt8.ofNat (n % 256), UInt8.ofNat (n / 256 % 256), UInt8.ofNat (n / 65536 % 256), UInt8.ofNat (n / 16777216 % 256)]

theorem le4_length (n : Nat) : (le4 n).length = 4 := rfl

theorem leN_le4 {n : Nat} (h : n < 4294967296) : leN (le4 n) = n := by
  simp only [le4, leN, UInt8.toNat_ofNat']
  omega

theorem le4_leN {l : List UInt8} (h : l.length = 4) : le4 (leN l) = l :=
  leN_inj (by rw [le4_length, h]) (leN_le4 (by have := leN_lt l; rw [h] at this; exact this))

/-- A sealed text. -/
def sealL (l : List UInt8) : List UInt8 := l ++ le4 (sumOf l)

theorem sealL_length (l : List UInt8) : (sealL l).length = l.length + 4 := by simp [sealL, le4_length]

theorem reg_end (c : Nat) (l m : List UInt8) (hm : m.length = 4) : reg c (l ++ m) = zedN 32 (reg c l ^^^ leN m) := by
  rw [reg_append, reg_eq _ m, hm]

theorem reg_sealL (l : List UInt8) : reg full (sealL l) = zedN 32 full := by
  unfold sealL
  rw [reg_end _ _ _ (le4_length _), leN_le4 (sumOf_lt l), sumOf_eq, xor_swap, Nat.xor_self, Nat.xor_zero]

/-- A text with four bytes behind it is sealed just where its register is the one of sealed texts. -/
theorem sealed_iff (l m : List UInt8) (hm : m.length = 4) : m = le4 (sumOf l) ↔ reg full (l ++ m) = zedN 32 full := by
  refine ⟨fun h => by rw [h]; exact reg_sealL l, fun h => ?_⟩
  rw [reg_end _ _ _ hm] at h
  have hm32 : leN m < 4294967296 := by have := leN_lt m; rw [hm] at this; exact this
  have h' := zedN_inj 32 (Nat.xor_lt_two_pow (n := 32) (reg_lt full_lt l) hm32) full_lt h
  have e : leN m = sumOf l := by
    have h2 := congrArg (fun x => x ^^^ reg full l) h'
    rw [sumOf_eq, ← h2, Nat.xor_comm (reg full l), Nat.xor_assoc, Nat.xor_self, Nat.xor_zero]
  rw [← e, le4_leN hm]

/-- The text of three texts' bits. -/
def xor3 : List UInt8 → List UInt8 → List UInt8 → List UInt8
  | a :: l, b :: m, c :: n => (a ^^^ b ^^^ c) :: xor3 l m n
  | _, _, _ => []

theorem takeN_three (a b c : Nat) (x y z : UInt8) : takeN (a ^^^ b ^^^ c) (x ^^^ y ^^^ z) = takeN a x ^^^ takeN b y ^^^ takeN c z := by
  unfold takeN
  rw [← zedN_lin, ← zedN_lin, UInt8.toNat_xor, UInt8.toNat_xor, xor_four (a ^^^ b) c, xor_four a b]

theorem reg_three (a b c : Nat) {l m n : List UInt8} (h1 : l.length = m.length) (h2 : m.length = n.length) :
    reg (a ^^^ b ^^^ c) (xor3 l m n) = reg a l ^^^ reg b m ^^^ reg c n := by
  induction l generalizing a b c m n with
  | nil =>
    cases m with
    | cons _ _ => simp at h1
    | nil => cases n with
      | cons _ _ => simp at h2
      | nil =>
        rw [reg_nil, reg_nil, reg_nil]
        exact reg_nil _
  | cons x l ih => cases m with
    | nil => simp at h1
    | cons y m => cases n with
      | nil => simp at h2
      | cons z n =>
        have h := ih (takeN a x) (takeN b y) (takeN c z) (Nat.succ.inj h1) (Nat.succ.inj h2)
        rw [← takeN_three] at h
        rw [xor3, reg_cons, reg_cons, reg_cons, reg_cons]
        exact h

theorem sumOf_three {l m n : List UInt8} (h1 : l.length = m.length) (h2 : m.length = n.length) :
    sumOf (xor3 l m n) = sumOf l ^^^ sumOf m ^^^ sumOf n := by
  rw [sumOf_eq, sumOf_eq, sumOf_eq, sumOf_eq]
  have h := reg_three full full full h1 h2
  have e : full ^^^ full ^^^ full = full := by decide
  rw [e] at h
  rw [h, xor_four full (reg full l), xor_four (full ^^^ full), e]

end Go.Proofs.Ytcdcnonkoffbhaa.Plain
