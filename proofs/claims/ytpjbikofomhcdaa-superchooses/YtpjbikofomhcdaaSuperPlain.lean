/-
  Plain facts: a superblock's bytes, what is read of bytes, and which of many counts. Nothing of any program.
-/
import Derived.Test.YtpjbikofomhcdaaPagePlain
namespace Go.Proofs.Ytpjbikofomhcdaa.Plain
open Go.RowKit

def rightSu (g r m z : Int) : Bool := decide ((1 ≤ g ∧ g ≤ 1099511627776) ∧ (24 ≤ z ∧ z ≤ 2048) ∧ (r = 0 ∨ (10 ≤ r ∧ r < z)) ∧ (10 ≤ m ∧ m < z) ∧ ¬ m = r)
theorem rightSu_iff (g r m z : Int) : rightSu g r m z = true ↔ ((1 ≤ g ∧ g ≤ 1099511627776) ∧ (24 ≤ z ∧ z ≤ 2048) ∧ (r = 0 ∨ (10 ≤ r ∧ r < z)) ∧ (10 ≤ m ∧ m < z) ∧ ¬ m = r) := by unfold rightSu; rw [decide_eq_true_iff]
def bodySu (r m z : Int) : ByteArray := cat [putS r 2, putS m 2, putS z 2]
def suS (g r m z : Int) : ByteArray := if rightSu g r m z then pageS 4 g (bodySu r m z) else ⟨#[]⟩
def suP (g r m z : Int) : Int := if rightSu g r m z then 0 else 1

theorem small_ok {n : Int} (h0 : 0 ≤ n) (h1 : n ≤ 2048) : putOk n 2 = true := (putOk_iff _ _).2 ⟨by decide, by decide, h0, by show n < 65536; omega⟩

theorem rightSu_small {g r m z : Int} (h : rightSu g r m z = true) : (0 ≤ r ∧ r ≤ 2048) ∧ (0 ≤ m ∧ m ≤ 2048) ∧ (0 ≤ z ∧ z ≤ 2048) := by
  have := (rightSu_iff _ _ _ _).1 h
  omega

theorem bodySu_size {g r m z : Int} (h : rightSu g r m z = true) : (bodySu r m z).size = 6 := by
  obtain ⟨⟨a, b⟩, ⟨c, d⟩, e, f⟩ := rightSu_small h
  have e1 := putS_size (small_ok a b)
  have e2 := putS_size (small_ok c d)
  have e3 := putS_size (small_ok e f)
  rw [bodySu, cat_size]
  simp
  omega

theorem bodySu_page {g r m z : Int} (h : rightSu g r m z = true) : rightP 4 g (bodySu r m z) = true := by
  have := (rightSu_iff _ _ _ _).1 h
  rw [rightP_iff, bodySu_size h]
  omega

theorem getV_two (a c : ByteArray) (n : Int) (h : putOk n 2 = true) (h0 : 0 ≤ n) (h1 : n ≤ 2048) : getV (cat [a, putS n 2, c]) a.size 2 = n := by
  rw [putS_ok h]
  have := getV_mid a c 2 n
  rw [mod_self8 n 2 h0 (by show n < 65536; omega)] at this
  exact this

theorem bodySu_at {g r m z : Int} (h : rightSu g r m z = true) : getV (bodySu r m z) 0 2 = r ∧ getV (bodySu r m z) 2 2 = m ∧ getV (bodySu r m z) 4 2 = z := by
  obtain ⟨⟨a, b⟩, ⟨c, d⟩, e, f⟩ := rightSu_small h
  have e1 := putS_size (small_ok a b)
  have e2 := putS_size (small_ok c d)
  have h1 := getV_two ⟨#[]⟩ (cat [putS m 2, putS z 2]) r (small_ok a b) a b
  have h2 := getV_two (putS r 2) (putS z 2) m (small_ok c d) c d
  have h3 := getV_two (cat [putS r 2, putS m 2]) ⟨#[]⟩ z (small_ok e f) e f
  have x1 : cat [⟨#[]⟩, putS r 2, cat [putS m 2, putS z 2]] = bodySu r m z := by
    apply bytes_ext; simp [bodySu, cat_data]
  have x3 : cat [cat [putS r 2, putS m 2], putS z 2, ⟨#[]⟩] = bodySu r m z := by
    apply bytes_ext; simp [bodySu, cat_data]
  have z1 : (putS r 2).size = 2 := by omega
  have z2 : (cat [putS r 2, putS m 2]).size = 4 := by rw [cat_size]; simp; omega
  rw [x1] at h1
  rw [x3, z2] at h3
  rw [z1] at h2
  exact ⟨h1, h2, h3⟩

theorem body_put {b : ByteArray} (h : b.size = 6) : bodySu (getV b 0 2) (getV b 2 2) (getV b 4 2) = b := by
  obtain ⟨_, h1⟩ := got_put (s := b) (p := 0) (k := 2) (by omega) (by omega) (by omega)
  obtain ⟨_, h2⟩ := got_put (s := b) (p := 2) (k := 2) (by omega) (by omega) (by omega)
  obtain ⟨_, h3⟩ := got_put (s := b) (p := 4) (k := 2) (by omega) (by omega) (by omega)
  have h1' : putS (getV b 0 2) 2 = b.extract 0 2 := h1
  have h2' : putS (getV b 2 2) 2 = b.extract 2 4 := h2
  have h3' : putS (getV b 4 2) 2 = b.extract 4 6 := h3
  rw [bodySu, h1', h2', h3']
  have e : cat [b.extract 0 2, b.extract 2 4, b.extract 4 6] = b.extract 0 2 ++ b.extract 2 4 ++ b.extract 4 6 := by
    apply bytes_ext; rw [data_append, data_append, cat_data]; simp
  rw [e, extract_join _ _ _ _ (by omega) (by omega), extract_join _ _ _ _ (by omega) (by omega), ← h, extract_all]

/-! What is read -/

def suE (s : ByteArray) : Int :=
  if readE s = 0 then (if readK s = 4 then (if (readB s).size = 6 then (if rightSu (readG s) (getV (readB s) 0 2) (getV (readB s) 2 2) (getV (readB s) 4 2) then 0 else 4) else 4) else 40) else readE s
def suG (s : ByteArray) : Int := if suE s = 0 then readG s else 0
def suR (s : ByteArray) : Int := if suE s = 0 then getV (readB s) 0 2 else 0
def suM (s : ByteArray) : Int := if suE s = 0 then getV (readB s) 2 2 else 0
def suZ (s : ByteArray) : Int := if suE s = 0 then getV (readB s) 4 2 else 0

theorem suE_ok {s : ByteArray} (h : suE s = 0) : readE s = 0 ∧ readK s = 4 ∧ (readB s).size = 6 ∧ rightSu (readG s) (getV (readB s) 0 2) (getV (readB s) 2 2) (getV (readB s) 4 2) = true := by
  unfold suE at h
  by_cases h1 : readE s = 0
  · rw [if_pos h1] at h
    by_cases h2 : readK s = 4
    · rw [if_pos h2] at h
      by_cases h3 : (readB s).size = 6
      · rw [if_pos h3] at h
        by_cases h4 : rightSu (readG s) (getV (readB s) 0 2) (getV (readB s) 2 2) (getV (readB s) 4 2) = true
        · exact ⟨h1, h2, h3, h4⟩
        · rw [if_neg h4] at h; omega
      · rw [if_neg h3] at h; omega
    · rw [if_neg h2] at h; omega
  · rw [if_neg h1] at h; exact absurd h h1

theorem suE_zero {s : ByteArray} (h1 : readE s = 0) (h2 : readK s = 4) (h3 : (readB s).size = 6) (h4 : rightSu (readG s) (getV (readB s) 0 2) (getV (readB s) 2 2) (getV (readB s) 4 2) = true) : suE s = 0 := by
  unfold suE
  rw [if_pos h1, if_pos h2, if_pos h3, if_pos h4]

theorem su_back {g r m z : Int} (h : rightSu g r m z = true) : suE (suS g r m z) = 0 ∧ suG (suS g r m z) = g ∧ suR (suS g r m z) = r ∧ suM (suS g r m z) = m ∧ suZ (suS g r m z) = z := by
  have hp := bodySu_page h
  have hmax := pageS_max 4 g (bodySu r m z)
  obtain ⟨r1, r2, r3, r4⟩ := page_back hp 0 (by omega)
  have hz : pageS 4 g (bodySu r m z) ++ zeros 0 = pageS 4 g (bodySu r m z) := by apply bytes_ext; rw [data_append]; simp [zeros]
  rw [hz] at r1 r2 r3 r4
  have e : suS g r m z = pageS 4 g (bodySu r m z) := by rw [suS, if_pos h]
  rw [← e] at r1 r2 r3 r4
  obtain ⟨b1, b2, b3⟩ := bodySu_at h
  have h0 : suE (suS g r m z) = 0 := suE_zero r1 r2 (by rw [r4]; exact bodySu_size h) (by rw [r3, r4, b1, b2, b3]; exact h)
  refine ⟨h0, ?_, ?_, ?_, ?_⟩
  · rw [suG, if_pos h0, r3]
  · rw [suR, if_pos h0, r4, b1]
  · rw [suM, if_pos h0, r4, b2]
  · rw [suZ, if_pos h0, r4, b3]

theorem su_size (g r m z : Int) : (suS g r m z).size ≤ 19 := by
  unfold suS
  by_cases h : rightSu g r m z = true
  · rw [if_pos h]
    have hp := bodySu_page h
    rw [pageS_ok hp, trimS_size]
    have := trimN_le (sealS (headP 4 g (bodySu r m z))) (sealS (headP 4 g (bodySu r m z))).size
    rw [sealS_size, headP_size hp, bodySu_size h] at this
    rw [sealS_size, headP_size hp, bodySu_size h]
    omega
  · rw [if_neg h]; exact Nat.zero_le _

theorem su_once {s : ByteArray} (h : suE s = 0) : rightSu (suG s) (suR s) (suM s) (suZ s) = true ∧ suS (suG s) (suR s) (suM s) (suZ s) = trimS s := by
  obtain ⟨h1, h2, h3, h4⟩ := suE_ok h
  rw [suG, suR, suM, suZ, if_pos h, if_pos h, if_pos h, if_pos h]
  refine ⟨h4, ?_⟩
  rw [suS, if_pos h4, body_put h3]
  have := (page_once h1).2
  rw [h2] at this
  exact this

theorem trim_front (s : ByteArray) : (trimS s).size ≤ s.size ∧ trimS s = s.extract 0 (trimS s).size := by
  have := trimN_le s s.size
  refine ⟨by rw [trimS_size]; exact this, ?_⟩
  conv => lhs; rw [trimS]
  rw [trimS_size]

/-! Which of many counts -/

theorem suG_pos {s : ByteArray} : 0 ≤ suG s ∧ (suE s = 0 ↔ 1 ≤ suG s) := by
  by_cases h : suE s = 0
  · have h4 := (su_once h).1
    have := (rightSu_iff _ _ _ _).1 h4
    exact ⟨by omega, fun _ => by omega, fun _ => h⟩
  · have e : suG s = 0 := by rw [suG, if_neg h]
    exact ⟨by omega, fun hh => absurd hh h, fun hh => by omega⟩

theorem suE_none : suE ⟨#[]⟩ = 41 := by
  have h := read_none
  rw [suE, if_neg (by omega), h]
theorem su_none : suG ⟨#[]⟩ = 0 ∧ suR ⟨#[]⟩ = 0 ∧ suM ⟨#[]⟩ = 0 ∧ suZ ⟨#[]⟩ = 0 := by
  have h := suE_none
  refine ⟨?_, ?_, ?_, ?_⟩
  · rw [suG, if_neg (by omega)]
  · rw [suR, if_neg (by omega)]
  · rw [suM, if_neg (by omega)]
  · rw [suZ, if_neg (by omega)]

/-- The text t at the place i is the one that counts. -/
def Best (xs : List ByteArray) (t : ByteArray) (i : Nat) : Prop :=
  (∀ (j : Nat) x, xs[j]? = some x → suG x ≤ suG t) ∧ (suG t = 0 → t = ⟨#[]⟩ ∧ i = 0) ∧ (1 ≤ suG t → xs[i]? = some t ∧ ∀ (j : Nat) x, j < i → xs[j]? = some x → suG x < suG t)

theorem Best.uniq {xs : List ByteArray} {t t' : ByteArray} {i i' : Nat} (h : Best xs t i) (h' : Best xs t' i') : t = t' ∧ i = i' := by
  obtain ⟨a, b, c⟩ := h
  obtain ⟨a', b', c'⟩ := h'
  have p := (suG_pos (s := t)).1
  have p' := (suG_pos (s := t')).1
  by_cases h0 : suG t = 0
  · by_cases h0' : suG t' = 0
    · obtain ⟨rfl, rfl⟩ := b h0
      obtain ⟨rfl, rfl⟩ := b' h0'
      exact ⟨rfl, rfl⟩
    · obtain ⟨hx, _⟩ := c' (by omega)
      have := a _ _ hx
      omega
  · obtain ⟨hx, hl⟩ := c (by omega)
    have h1 := a' _ _ hx
    by_cases h0' : suG t' = 0
    · omega
    · obtain ⟨hx', hl'⟩ := c' (by omega)
      have h2 := a _ _ hx'
      have hi : i = i' := by
        rcases Nat.lt_trichotomy i i' with hlt | he | hlt
        · have := hl' _ _ hlt hx; omega
        · exact he
        · have := hl _ _ hlt hx'; omega
      subst hi
      rw [hx] at hx'
      exact ⟨Option.some.inj hx', rfl⟩

theorem best_nil : Best [] ⟨#[]⟩ 0 := by
  refine ⟨fun j x hx => by simp at hx, fun _ => ⟨rfl, rfl⟩, fun h => ?_⟩
  have := su_none.1
  omega

/-- One text more behind the others. -/
theorem Best.snoc {xs : List ByteArray} {t x : ByteArray} {i : Nat} (h : Best xs t i) : Best (xs ++ [x]) (if suG t < suG x then x else t) (if suG t < suG x then xs.length else i) := by
  obtain ⟨a, b, c⟩ := h
  have p := (suG_pos (s := t)).1
  by_cases hlt : suG t < suG x
  · rw [if_pos hlt, if_pos hlt]
    refine ⟨fun j y hy => ?_, fun h => by omega, fun _ => ⟨by simp, fun j y hj hy => ?_⟩⟩
    · rw [List.getElem?_append] at hy
      by_cases hj : j < xs.length
      · rw [if_pos hj] at hy; have := a _ _ hy; omega
      · rw [if_neg hj] at hy
        by_cases hz : j - xs.length = 0
        · rw [hz] at hy; simp at hy; subst hy; omega
        · have : j - xs.length < 1 := (List.getElem?_eq_some_iff.1 hy).1
          omega
    · rw [List.getElem?_append_left hj] at hy
      have := a _ _ hy; omega
  · rw [if_neg hlt, if_neg hlt]
    refine ⟨fun j y hy => ?_, b, fun h1 => ?_⟩
    · rw [List.getElem?_append] at hy
      by_cases hj : j < xs.length
      · rw [if_pos hj] at hy; exact a _ _ hy
      · rw [if_neg hj] at hy
        by_cases hz : j - xs.length = 0
        · rw [hz] at hy; simp at hy; subst hy; omega
        · have : j - xs.length < 1 := (List.getElem?_eq_some_iff.1 hy).1
          omega
    · obtain ⟨hx, hl⟩ := c h1
      have hi : i < xs.length := (List.getElem?_eq_some_iff.1 hx).1
      refine ⟨by rw [List.getElem?_append_left hi]; exact hx, fun j y hj hy => ?_⟩
      rw [List.getElem?_append_left (by omega)] at hy
      exact hl _ _ hj hy

/-- One text more ahead of the others. -/
theorem Best.cons {xs : List ByteArray} {t x : ByteArray} {i : Nat} (h : Best xs t i) : Best (x :: xs) (if suE x = 0 ∧ suG t ≤ suG x then x else t) (if suE x = 0 ∧ suG t ≤ suG x then 0 else if suG t = 0 then 0 else i + 1) := by
  obtain ⟨a, b, c⟩ := h
  have p := (suG_pos (s := t)).1
  have px := suG_pos (s := x)
  by_cases hlt : suE x = 0 ∧ suG t ≤ suG x
  · rw [if_pos hlt, if_pos hlt]
    obtain ⟨h0, hle⟩ := hlt
    have hx1 := px.2.1 h0
    refine ⟨fun j y hy => ?_, fun h => by omega, fun _ => ⟨rfl, fun j y hj hy => by omega⟩⟩
    cases j with
    | zero => simp at hy; subst hy; omega
    | succ j => simp at hy; have := a _ _ hy; omega
  · rw [if_neg hlt, if_neg hlt]
    have hle : suG x ≤ suG t ∧ (1 ≤ suG t → suG x < suG t) := by
      by_cases h0 : suE x = 0
      · have : ¬ suG t ≤ suG x := fun h => hlt ⟨h0, h⟩
        omega
      · have : ¬ 1 ≤ suG x := fun h => h0 (px.2.2 h)
        omega
    refine ⟨fun j y hy => ?_, fun h => by rw [if_pos h]; exact ⟨(b h).1, rfl⟩, fun h1 => ?_⟩
    · cases j with
      | zero => simp at hy; subst hy; exact hle.1
      | succ j => simp at hy; exact a _ _ hy
    · rw [if_neg (by omega)]
      obtain ⟨hx, hl⟩ := c h1
      refine ⟨by simpa using hx, fun j y hj hy => ?_⟩
      cases j with
      | zero => simp at hy; subst hy; exact hle.2 h1
      | succ j => simp at hy; exact hl j _ (by omega) hy

/-- A text that is none, laid in between. -/
theorem Best.with {xs : List ByteArray} {t q : ByteArray} {i : Nat} (h : Best xs t i) (hq : ¬ suE q = 0) (k : Nat) (hk : k ≤ xs.length) :
    Best (xs.take k ++ q :: xs.drop k) t (if suG t = 0 then 0 else if k ≤ i then i + 1 else i) := by
  obtain ⟨a, b, c⟩ := h
  have p := (suG_pos (s := t)).1
  have gq : suG q = 0 := by rw [suG, if_neg hq]
  have hl : (xs.take k).length = k := by rw [List.length_take]; omega
  have hat : ∀ j, (xs.take k ++ q :: xs.drop k)[j]? = if j < k then xs[j]? else if j = k then some q else xs[j - 1]? := by
    intro j
    rw [List.getElem?_append, hl]
    by_cases h1 : j < k
    · rw [if_pos h1, if_pos h1, List.getElem?_take, if_pos h1]
    · rw [if_neg h1, if_neg h1]
      by_cases h2 : j = k
      · subst h2; rw [if_pos rfl, Nat.sub_self]; rfl
      · rw [if_neg h2]
        obtain ⟨d, hd⟩ : ∃ d, j - k = d + 1 := ⟨j - k - 1, by omega⟩
        rw [hd, List.getElem?_cons_succ, List.getElem?_drop]
        congr 1; omega
  refine ⟨fun j x hx => ?_, fun h => by rw [if_pos h]; exact ⟨(b h).1, rfl⟩, fun h1 => ?_⟩
  · rw [hat] at hx
    by_cases h1 : j < k
    · rw [if_pos h1] at hx; exact a _ _ hx
    · rw [if_neg h1] at hx
      by_cases h2 : j = k
      · rw [if_pos h2] at hx; obtain rfl := Option.some.inj hx; omega
      · rw [if_neg h2] at hx; exact a _ _ hx
  · rw [if_neg (by omega)]
    obtain ⟨hx, hlt⟩ := c h1
    have hi : i < xs.length := (List.getElem?_eq_some_iff.1 hx).1
    by_cases hki : k ≤ i
    · rw [if_pos hki]
      refine ⟨by rw [hat, if_neg (by omega), if_neg (by omega), Nat.add_sub_cancel]; exact hx, fun j x hj hjx => ?_⟩
      rw [hat] at hjx
      by_cases h1' : j < k
      · rw [if_pos h1'] at hjx; exact hlt _ _ (by omega) hjx
      · rw [if_neg h1'] at hjx
        by_cases h2 : j = k
        · rw [if_pos h2] at hjx; obtain rfl := Option.some.inj hjx; omega
        · rw [if_neg h2] at hjx; exact hlt _ _ (by omega) hjx
    · rw [if_neg hki]
      refine ⟨by rw [hat, if_pos (by omega)]; exact hx, fun j x hj hjx => ?_⟩
      rw [hat, if_pos (by omega)] at hjx
      exact hlt _ _ hj hjx

end Go.Proofs.Ytpjbikofomhcdaa.Plain
