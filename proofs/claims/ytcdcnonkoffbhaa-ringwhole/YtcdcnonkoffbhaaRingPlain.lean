/-
  Plain facts: a record's bytes, what is read of bytes as a record, which of many blocks are told; changes as bytes, and what is read of bytes as changes. Nothing of any program.
-/
import Derived.Test.YtcdcnonkoffbhaaPagePlain
import Derived.Test.YtcdcnonkoffbhaaNodePlain
namespace Go.Proofs.Ytcdcnonkoffbhaa.Plain
open Go.RowKit
set_option linter.unusedVariables false

/-! Records -/

def rightR (g n : Int) : Bool := decide ((1 ≤ g ∧ g ≤ 1099511627776) ∧ 0 ≤ n ∧ n ≤ 7)
theorem rightR_iff (g n : Int) : rightR g n = true ↔ ((1 ≤ g ∧ g ≤ 1099511627776) ∧ 0 ≤ n ∧ n ≤ 7) := by unfold rightR; rw [decide_eq_true_iff]
def bodyR (n : Int) (b : ByteArray) : ByteArray := cat [putS n 1, b]
def recE (g n : Int) (b : ByteArray) : Int := if rightR g n then (if b.size ≤ 480 then 0 else 2) else 1
def recS (g n : Int) (b : ByteArray) : ByteArray := if recE g n b = 0 then pageS 5 g (bodyR n b) else ⟨#[]⟩

theorem recE_ok {g n : Int} {b : ByteArray} (h : recE g n b = 0) : rightR g n = true ∧ b.size ≤ 480 := by
  unfold recE at h
  split at h
  · rename_i h1
    split at h
    · rename_i h2; exact ⟨h1, h2⟩
    · omega
  · omega
theorem recE_zero {g n : Int} {b : ByteArray} (h : rightR g n = true) (hb : b.size ≤ 480) : recE g n b = 0 := by unfold recE; rw [if_pos h, if_pos hb]

theorem oneR_ok {n : Int} (h0 : 0 ≤ n) (h : n ≤ 255) : putOk n 1 = true := (putOk_iff _ _).2 ⟨by decide, by decide, h0, by show n < 256; omega⟩

theorem bodyR_size {n : Int} (h0 : 0 ≤ n) (h : n ≤ 255) (b : ByteArray) : (bodyR n b).size = 1 + b.size := by
  have e1 := putS_size (oneR_ok h0 h)
  rw [bodyR, cat_size]
  simp
  omega

theorem bodyR_page {g n : Int} {b : ByteArray} (h : recE g n b = 0) : rightP 5 g (bodyR n b) = true := by
  obtain ⟨h1, h2⟩ := recE_ok h
  have := (rightR_iff _ _).1 h1
  rw [rightP_iff, bodyR_size (by omega) (by omega)]
  omega

theorem bodyR_at {n : Int} (h0 : 0 ≤ n) (h : n ≤ 255) (b : ByteArray) : getV (bodyR n b) 0 1 = n ∧ (bodyR n b).extract 1 (bodyR n b).size = b := by
  have e1 := putS_size (oneR_ok h0 h)
  have e2 : (putS n 1).size = 1 := by omega
  refine ⟨?_, ?_⟩
  · have := getV_mid ⟨#[]⟩ b 1 n
    rw [mod_self8 n 1 h0 (by show n < 256; omega)] at this
    have x : cat [⟨#[]⟩, ⟨(putL n 1).toArray⟩, b] = bodyR n b := by
      rw [bodyR, putS_ok (oneR_ok h0 h)]
      apply bytes_ext; simp [cat_data]
    rw [x] at this
    exact this
  · rw [bodyR_size h0 h]
    show (cat [putS n 1, b]).extract 1 (1 + b.size) = b
    rw [cat_two]
    exact extract_right _ _ 1 _ e2 rfl

/-! What is read -/

def rgE (s : ByteArray) (g : Int) : Int :=
  if readE s = 0 then (if readK s = 5 then (if readG s = g then (if 1 ≤ (readB s).size then (if (readB s).size ≤ 481 then (if getV (readB s) 0 1 ≤ 7 then 0 else 4) else 4) else 4) else 4) else 40) else readE s
def rgN (s : ByteArray) (g : Int) : Int := if rgE s g = 0 then getV (readB s) 0 1 else 0
def rgB (s : ByteArray) (g : Int) : ByteArray := if rgE s g = 0 then (readB s).extract 1 (readB s).size else ⟨#[]⟩

theorem rgE_ok {s : ByteArray} {g : Int} (h : rgE s g = 0) : readE s = 0 ∧ readK s = 5 ∧ readG s = g ∧ 1 ≤ (readB s).size ∧ (readB s).size ≤ 481 ∧ getV (readB s) 0 1 ≤ 7 := by
  unfold rgE at h
  split at h
  · rename_i h1
    split at h
    · rename_i h2
      split at h
      · rename_i h3
        split at h
        · rename_i h4
          split at h
          · rename_i h5
            split at h
            · rename_i h6; exact ⟨h1, h2, h3, h4, h5, h6⟩
            · omega
          · omega
        · omega
      · omega
    · omega
  · rename_i h1; exact absurd h h1
theorem rgE_zero {s : ByteArray} {g : Int} (h1 : readE s = 0) (h2 : readK s = 5) (h3 : readG s = g) (h4 : 1 ≤ (readB s).size) (h5 : (readB s).size ≤ 481) (h6 : getV (readB s) 0 1 ≤ 7) : rgE s g = 0 := by
  unfold rgE; rw [if_pos h1, if_pos h2, if_pos h3, if_pos h4, if_pos h5, if_pos h6]

theorem rgB_size (s : ByteArray) (g : Int) : (rgB s g).size ≤ 480 := by
  unfold rgB
  split
  · rename_i h
    have := rgE_ok h
    rw [ByteArray.size_extract]; omega
  · exact Nat.zero_le _

theorem rec_read {g n : Int} {b : ByteArray} (h : recE g n b = 0) : readE (recS g n b) = 0 ∧ readK (recS g n b) = 5 ∧ readG (recS g n b) = g ∧ readB (recS g n b) = bodyR n b := by
  have hp := bodyR_page h
  have hmax := pageS_max 5 g (bodyR n b)
  obtain ⟨r1, r2, r3, r4⟩ := page_back hp 0 (by omega)
  have hz : pageS 5 g (bodyR n b) ++ zeros 0 = pageS 5 g (bodyR n b) := by apply bytes_ext; rw [data_append]; simp [zeros]
  rw [hz] at r1 r2 r3 r4
  have e : recS g n b = pageS 5 g (bodyR n b) := by rw [recS, if_pos h]
  rw [← e] at r1 r2 r3 r4
  exact ⟨r1, r2, r3, r4⟩

theorem rec_back {g n : Int} {b : ByteArray} (h : recE g n b = 0) : rgE (recS g n b) g = 0 ∧ rgN (recS g n b) g = n ∧ rgB (recS g n b) g = b := by
  obtain ⟨r1, r2, r3, r4⟩ := rec_read h
  obtain ⟨h1, h2⟩ := recE_ok h
  have hr := (rightR_iff _ _).1 h1
  have hz := bodyR_size (n := n) (by omega) (by omega) b
  obtain ⟨a1, a2⟩ := bodyR_at (n := n) (by omega) (by omega) b
  have h0 : rgE (recS g n b) g = 0 := rgE_zero r1 r2 r3 (by rw [r4]; omega) (by rw [r4]; omega) (by rw [r4, a1]; omega)
  refine ⟨h0, ?_, ?_⟩
  · rw [rgN, if_pos h0, r4, a1]
  · rw [rgB, if_pos h0, r4, a2]

theorem rec_other {g g' n : Int} {b : ByteArray} (h : recE g n b = 0) (hg : g ≠ g') : rgE (recS g n b) g' = 4 := by
  obtain ⟨r1, r2, r3, r4⟩ := rec_read h
  unfold rgE; rw [if_pos r1, if_pos r2, if_neg (by rw [r3]; exact hg)]

theorem rec_size (g n : Int) (b : ByteArray) : (recS g n b).size ≤ 494 := by
  unfold recS
  split
  · rename_i h
    obtain ⟨h1, h2⟩ := recE_ok h
    have hr := (rightR_iff _ _).1 h1
    have hp := bodyR_page h
    rw [pageS_ok hp, trimS_size]
    have := trimN_le (sealS (headP 5 g (bodyR n b))) (sealS (headP 5 g (bodyR n b))).size
    have hz := bodyR_size (n := n) (by omega) (by omega) b
    rw [sealS_size, headP_size hp, hz] at this
    rw [sealS_size, headP_size hp, hz]
    omega
  · exact Nat.zero_le _

/-! Which of many blocks are told -/

def scanR (g : Int) : Nat → List ByteArray → List ByteArray
  | _, [] => []
  | i, x :: xs => if rgE x g = 0 ∧ rgN x g = i then rgB x g :: scanR g (i + 1) xs else []

theorem scanR_len (g : Int) (i : Nat) (xs : List ByteArray) : (scanR g i xs).length ≤ xs.length := by
  induction xs generalizing i with
  | nil => exact Nat.le_refl _
  | cons x xs ih =>
    rw [scanR]
    split
    · simp; exact ih _
    · simp

theorem scanR_size (g : Int) (i : Nat) (xs : List ByteArray) : ∀ b ∈ scanR g i xs, b.size ≤ 480 := by
  induction xs generalizing i with
  | nil => intro b hb; cases hb
  | cons x xs ih =>
    rw [scanR]
    split
    · intro b hb
      rcases List.mem_cons.1 hb with rfl | hb
      · exact rgB_size _ _
      · exact ih _ b hb
    · intro b hb; cases hb

/-- Up to the place j all are told. -/
def AllR (g : Int) (xs : List ByteArray) (j : Nat) : Prop := ∀ (i : Nat) x, i < j → xs[i]? = some x → rgE x g = 0 ∧ rgN x g = i

theorem scan_upto {g : Int} : ∀ (xs : List ByteArray) (i j : Nat), (∀ (k : Nat) x, k < j → xs[k]? = some x → rgE x g = 0 ∧ rgN x g = ((i + k : Nat) : Int)) → scanR g i xs = ((xs.take j).map fun x => rgB x g) ++ scanR g (i + j) (xs.drop j)
  | [], i, j, _ => by simp [scanR]
  | x :: xs, i, 0, _ => by simp
  | x :: xs, i, j + 1, h => by
    have h0 := h 0 x (by omega) rfl
    have ih := scan_upto (g := g) xs (i + 1) j (fun k y hk hy => by
      have := h (k + 1) y (by omega) (by simpa using hy)
      rw [show i + 1 + k = i + (k + 1) by omega]; exact this)
    rw [scanR, if_pos (by simpa using h0), ih, List.take_succ_cons, List.map_cons, List.drop_succ_cons, List.cons_append, show i + 1 + j = i + (j + 1) by omega]

theorem scan_stop {g : Int} {xs : List ByteArray} {j : Nat} (h : AllR g xs j) (hx : ∀ x, xs[j]? = some x → ¬ (rgE x g = 0 ∧ rgN x g = j)) : scanR g 0 xs = (xs.take j).map fun x => rgB x g := by
  rw [scan_upto xs 0 j (fun k x hk hx => by rw [Nat.zero_add]; exact h k x hk hx), Nat.zero_add]
  cases hd : xs.drop j with
  | nil => simp [scanR]
  | cons y ys =>
    have : xs[j]? = some y := by
      have := congrArg (fun l => l[0]?) hd
      simpa using this
    rw [scanR, if_neg (hx y this)]; simp

theorem scan_all {g : Int} {xs : List ByteArray} (h : AllR g xs xs.length) : scanR g 0 xs = xs.map fun x => rgB x g := by
  have := scan_stop h (fun x hx => by simp at hx)
  rwa [List.take_length] at this

/-! Changes -/

abbrev Chg := ByteArray × ByteArray × Bool

def mayC (c : Chg) : Bool := decide (1 ≤ c.1.size ∧ c.1.size ≤ 32 ∧ c.2.1.size ≤ 200 ∧ (c.2.2 = true → c.2.1 = ⟨#[]⟩))
theorem mayC_iff (c : Chg) : mayC c = true ↔ (1 ≤ c.1.size ∧ c.1.size ≤ 32 ∧ c.2.1.size ≤ 200 ∧ (c.2.2 = true → c.2.1 = ⟨#[]⟩)) := by unfold mayC; rw [decide_eq_true_iff]

def partC (c : Chg) : List ByteArray := if c.2.2 then [putS 1 1, textS c.1] else [putS 0 1, textS c.1, textS c.2.1]
def partsC (cs : List Chg) : List ByteArray := cs.flatMap partC
def packS (cs : List Chg) : ByteArray := cat (putS cs.length 1 :: partsC cs)
def packE (cs : List Chg) : Int := if cs.all mayC then (if cs.length ≤ 255 then (if (packS cs).size ≤ 480 then 0 else 2) else 2) else 1
def packR (cs : List Chg) : ByteArray := if packE cs = 0 then packS cs else ⟨#[]⟩

theorem packE_ok {cs : List Chg} (h : packE cs = 0) : cs.all mayC = true ∧ cs.length ≤ 255 ∧ (packS cs).size ≤ 480 := by
  unfold packE at h
  split at h
  · rename_i h1
    split at h
    · rename_i h2
      split at h
      · rename_i h3; exact ⟨h1, h2, h3⟩
      · omega
    · omega
  · omega
theorem packE_zero {cs : List Chg} (h1 : cs.all mayC = true) (h2 : cs.length ≤ 255) (h3 : (packS cs).size ≤ 480) : packE cs = 0 := by unfold packE; rw [if_pos h1, if_pos h2, if_pos h3]

theorem partsC_append (xs ys : List Chg) : partsC (xs ++ ys) = partsC xs ++ partsC ys := by simp [partsC]
theorem partsC_cons (x : Chg) (ys : List Chg) : partsC (x :: ys) = partC x ++ partsC ys := rfl

/-! Reading: a number, a text, with an error so far -/

def txS (s : ByteArray) (p e : Int) : ByteArray := if e = 0 then cutS s p else ⟨#[]⟩
def txP (s : ByteArray) (p e : Int) : Int := if e = 0 then cutT s p else p
def txE (s : ByteArray) (p e : Int) : Int := if e = 0 then cutE s p else e
def nmR (s : ByteArray) (p e : Int) : Int := if e = 0 then getR s p 1 else 0
def nmP (s : ByteArray) (p e : Int) : Int := if e = 0 then getT s p 1 else p
def nmE (s : ByteArray) (p e : Int) : Int := if e = 0 then getE s p 1 else e

structure ChS where
  p : Int
  e : Int
  cs : List Chg

def chStep (s : ByteArray) (t : ChS) : ChS :=
  if nmR s t.p t.e = 0 then ⟨txP s (txP s (nmP s t.p t.e) (nmE s t.p t.e)) (txE s (nmP s t.p t.e) (nmE s t.p t.e)), txE s (txP s (nmP s t.p t.e) (nmE s t.p t.e)) (txE s (nmP s t.p t.e) (nmE s t.p t.e)), t.cs ++ [(txS s (nmP s t.p t.e) (nmE s t.p t.e), txS s (txP s (nmP s t.p t.e) (nmE s t.p t.e)) (txE s (nmP s t.p t.e) (nmE s t.p t.e)), false)]⟩
  else if nmR s t.p t.e = 1 then ⟨txP s (nmP s t.p t.e) (nmE s t.p t.e), txE s (nmP s t.p t.e) (nmE s t.p t.e), t.cs ++ [(txS s (nmP s t.p t.e) (nmE s t.p t.e), ⟨#[]⟩, true)]⟩
  else ⟨nmP s t.p t.e, 4, t.cs ++ [(⟨#[]⟩, ⟨#[]⟩, false)]⟩

def chSt (s : ByteArray) : Nat → ChS
  | 0 => ⟨nmP s 0 0, nmE s 0 0, []⟩
  | j + 1 => chStep s (chSt s j)

def chM (s : ByteArray) : Nat := (nmR s 0 0).toNat
def chF (s : ByteArray) : ChS := chSt s (chM s)
def unpE (s : ByteArray) : Int := if s.size ≤ 480 then (if (chF s).e = 0 then (if (chF s).p = s.size then (if (chF s).cs.all mayC then 0 else 4) else 4) else (chF s).e) else 2
def unpL (s : ByteArray) : List Chg := if unpE s = 0 then (chF s).cs else []

theorem unpE_ok {s : ByteArray} (h : unpE s = 0) : s.size ≤ 480 ∧ (chF s).e = 0 ∧ (chF s).p = s.size ∧ (chF s).cs.all mayC = true := by
  unfold unpE at h
  split at h
  · rename_i h1
    split at h
    · rename_i h2
      split at h
      · rename_i h3
        split at h
        · rename_i h4; exact ⟨h1, h2, h3, h4⟩
        · omega
      · omega
    · rename_i h2; exact absurd h h2
  · omega
theorem unpE_zero {s : ByteArray} (h1 : s.size ≤ 480) (h2 : (chF s).e = 0) (h3 : (chF s).p = s.size) (h4 : (chF s).cs.all mayC = true) : unpE s = 0 := by unfold unpE; rw [if_pos h1, if_pos h2, if_pos h3, if_pos h4]

theorem chStep_stuck {s : ByteArray} {t : ChS} (h : ¬ t.e = 0) : (chStep s t).e = t.e := by
  have a : nmR s t.p t.e = 0 := by rw [nmR, if_neg h]
  have b : nmE s t.p t.e = t.e := by rw [nmE, if_neg h]
  unfold chStep
  rw [if_pos a, b]
  show txE s _ (txE s _ t.e) = t.e
  have c : ∀ p, txE s p t.e = t.e := fun p => by rw [txE, if_neg h]
  rw [c, c]

theorem chSt_stuck {s : ByteArray} {j : Nat} (h : ¬ (chSt s j).e = 0) (d : Nat) : (chSt s (j + d)).e = (chSt s j).e := by
  induction d with
  | zero => rfl
  | succ d ih =>
    rw [← Nat.add_assoc, chSt, chStep_stuck (by rw [ih]; exact h), ih]

theorem chSt_len (s : ByteArray) (j : Nat) : (chSt s j).cs.length = j := by
  induction j with
  | zero => rfl
  | succ j ih =>
    rw [chSt, chStep]
    split
    · simp [ih]
    · split
      · simp [ih]
      · simp [ih]

theorem cutS_le (s : ByteArray) (p : Int) : (cutS s p).size ≤ s.size := by
  unfold cutS
  split
  · rw [ByteArray.size_extract]; omega
  · exact Nat.zero_le _

theorem txS_le (s : ByteArray) (p e : Int) : (txS s p e).size ≤ s.size := by
  unfold txS
  split
  · exact cutS_le s p
  · exact Nat.zero_le _

theorem chSt_size (s : ByteArray) (j : Nat) : ∀ c ∈ (chSt s j).cs, c.1.size ≤ s.size ∧ c.2.1.size ≤ s.size := by
  induction j with
  | zero => intro c hc; cases hc
  | succ j ih =>
    intro c hc
    rw [chSt, chStep] at hc
    split at hc
    · rcases List.mem_append.1 hc with hc | hc
      · exact ih c hc
      · simp at hc; subst hc; exact ⟨txS_le _ _ _, txS_le _ _ _⟩
    · split at hc
      · rcases List.mem_append.1 hc with hc | hc
        · exact ih c hc
        · simp at hc; subst hc; exact ⟨txS_le _ _ _, Nat.zero_le _⟩
      · rcases List.mem_append.1 hc with hc | hc
        · exact ih c hc
        · simp at hc; subst hc; exact ⟨Nat.zero_le _, Nat.zero_le _⟩

theorem chM_le (s : ByteArray) : chM s ≤ 255 ∧ nmR s 0 0 = (chM s : Int) := by
  have : 0 ≤ nmR s 0 0 ∧ nmR s 0 0 ≤ 255 := by
    rw [nmR, if_pos rfl, getR]
    split
    · have h := getV_bd s 0 1
      have : pw 1 = 256 := by decide
      show 0 ≤ getV s 0 1 ∧ getV s 0 1 ≤ 255
      omega
    · omega
  unfold chM
  omega

/-! What is packed is unpacked again -/

theorem cutAt {s : ByteArray} {P R : List ByteArray} {t : ByteArray} {p : Int} (hs : s = cat (P ++ textS t :: R)) (ht : t.size ≤ 65535) (hp : p = ((cat P).size : Nat)) : cutE s p = 0 ∧ cutS s p = t ∧ cutT s p = ((cat (P ++ [textS t])).size : Nat) := by
  have h := cut_at (hs.trans (cat_three _ _ _)) ht hp
  rw [cat_append, cat_one]
  exact h
theorem getAt {s : ByteArray} {P R : List ByteArray} {n p : Int} (hs : s = cat (P ++ putS n 1 :: R)) (hok : putOk n 1 = true) (hp : p = ((cat P).size : Nat)) : getE s p 1 = 0 ∧ getR s p 1 = n ∧ getT s p 1 = ((cat (P ++ [putS n 1])).size : Nat) := by
  have h := get_at (k := 1) (hs.trans (cat_three _ _ _)) hok hp
  rw [cat_append, cat_one]
  exact h

theorem pack_st {cs : List Chg} (hm : cs.all mayC = true) (hl : cs.length ≤ 255) (j : Nat) (hj : j ≤ cs.length) : chSt (packS cs) j = ⟨((cat (putS cs.length 1 :: partsC (cs.take j))).size : Nat), 0, cs.take j⟩ := by
  obtain ⟨s, hS⟩ : ∃ s, s = packS cs := ⟨_, rfl⟩
  rw [← hS]
  induction j with
  | zero =>
    obtain ⟨h1, h2, h3⟩ := getAt (s := s) (P := []) (R := partsC cs) (n := cs.length) (p := 0) (by rw [hS]; rfl) (oneR_ok (by omega) (by omega)) rfl
    rw [chSt, nmP, nmE, if_pos rfl, if_pos rfl, h1, h3]; rfl
  | succ j ih =>
    have ej := ih (by omega)
    obtain ⟨c, hc⟩ : ∃ c, cs[j]? = some c := ⟨_, List.getElem?_eq_getElem (by omega)⟩
    have hcm := (mayC_iff c).1 (List.all_eq_true.1 hm c (List.mem_of_getElem? hc))
    have tk : cs.take (j + 1) = cs.take j ++ [c] := by rw [List.take_add_one, hc]; rfl
    have td : cs.drop j = c :: cs.drop (j + 1) := by
      obtain ⟨hj', e⟩ := List.getElem?_eq_some_iff.1 hc
      rw [List.drop_eq_getElem_cons hj', e]
    obtain ⟨P, hP⟩ : ∃ P, P = putS (cs.length : Int) 1 :: partsC (cs.take j) := ⟨_, rfl⟩
    have hpart : s = cat (P ++ (partC c ++ partsC (cs.drop (j + 1)))) := by
      have e : partsC cs = partsC (cs.take j) ++ (partC c ++ partsC (cs.drop (j + 1))) := by
        rw [← partsC_cons, ← td, ← partsC_append, List.take_append_drop]
      rw [hS, packS, e, hP]
      rfl
    have hfin : ∀ Q, Q = partC c → cat (P ++ Q) = cat (putS cs.length 1 :: partsC (cs.take (j + 1))) := by
      rintro Q rfl
      rw [tk, partsC_append, hP]
      simp [partsC]
    rw [← hP] at ej
    rw [chSt, ej]
    obtain ⟨k, v, g⟩ := c
    cases g with
    | true =>
      obtain rfl : v = ⟨#[]⟩ := hcm.2.2.2 rfl
      have eQ : partC (k, ⟨#[]⟩, true) = [putS 1 1, textS k] := rfl
      rw [eQ] at hpart
      obtain ⟨a1, a2, a3⟩ := getAt (p := ((cat P).size : Nat)) (R := textS k :: partsC (cs.drop (j + 1))) (n := 1) hpart (oneR_ok (by omega) (by omega)) rfl
      obtain ⟨b1, b2, b3⟩ := cutAt (s := s) (p := ((cat (P ++ [putS 1 1])).size : Nat)) (P := P ++ [putS 1 1]) (t := k) (R := partsC (cs.drop (j + 1))) (by rw [hpart]; simp) (by have : k.size ≤ 32 := hcm.2.1; omega) rfl
      have z : P ++ [putS 1 1] ++ [textS k] = P ++ [putS 1 1, textS k] := by simp
      rw [z, hfin _ eQ.symm] at b3
      simp only [chStep, nmR, nmP, nmE, txS, txP, txE]
      simp only [if_true, a1, a2, a3, b1, b2, b3, tk]
      simp
    | false =>
      have eQ : partC (k, v, false) = [putS 0 1, textS k, textS v] := rfl
      rw [eQ] at hpart
      obtain ⟨a1, a2, a3⟩ := getAt (p := ((cat P).size : Nat)) (R := textS k :: textS v :: partsC (cs.drop (j + 1))) (n := 0) hpart (oneR_ok (by omega) (by omega)) rfl
      obtain ⟨b1, b2, b3⟩ := cutAt (s := s) (p := ((cat (P ++ [putS 0 1])).size : Nat)) (P := P ++ [putS 0 1]) (t := k) (R := textS v :: partsC (cs.drop (j + 1))) (by rw [hpart]; simp) (by have : k.size ≤ 32 := hcm.2.1; omega) rfl
      obtain ⟨d1, d2, d3⟩ := cutAt (s := s) (p := ((cat (P ++ [putS 0 1] ++ [textS k])).size : Nat)) (P := P ++ [putS 0 1] ++ [textS k]) (t := v) (R := partsC (cs.drop (j + 1))) (by rw [hpart]; simp) (by have : v.size ≤ 200 := hcm.2.2.1; omega) rfl
      have z : P ++ [putS 0 1] ++ [textS k] ++ [textS v] = P ++ [putS 0 1, textS k, textS v] := by simp
      rw [z, hfin _ eQ.symm] at d3
      simp only [chStep, nmR, nmP, nmE, txS, txP, txE]
      simp only [if_true, a1, a2, a3, b1, b2, b3, d1, d2, d3, tk]

theorem unp_back {cs : List Chg} (h : packE cs = 0) : unpE (packS cs) = 0 ∧ unpL (packS cs) = cs := by
  obtain ⟨h1, h2, h3⟩ := packE_ok h
  have hst := pack_st h1 h2 cs.length (Nat.le_refl _)
  rw [List.take_length] at hst
  have hm : chM (packS cs) = cs.length := by
    obtain ⟨a1, a2, a3⟩ := getAt (s := packS cs) (P := []) (R := partsC cs) (n := cs.length) (p := 0) rfl (oneR_ok (by omega) (by omega)) rfl
    rw [chM, nmR, if_pos rfl, a2]; omega
  have hF : chF (packS cs) = ⟨(packS cs).size, 0, cs⟩ := by rw [chF, hm, hst]; rfl
  have h0 : unpE (packS cs) = 0 := unpE_zero h3 (by rw [hF]) (by rw [hF]) (by rw [hF]; exact h1)
  exact ⟨h0, by rw [unpL, if_pos h0, hF]⟩

/-! What is unpacked, packed, is the body -/

theorem get_one {s : ByteArray} {p : Nat} (h : getE s p 1 = 0) : getT s p 1 = ((p + 1 : Nat) : Int) ∧ p + 1 ≤ s.size ∧ putS (getR s p 1) 1 = s.extract p (p + 1) := by
  have h' : getE s (p : Int) ((1 : Nat) : Int) = 0 := h
  obtain ⟨h1, h2, h3, h4⟩ := getE_ok h'
  have hs : p + 1 ≤ s.size := by omega
  refine ⟨?_, hs, ?_⟩
  · rw [getT, if_pos h]; omega
  · have := (got_put (s := s) (p := p) (k := 1) (by omega) (by omega) hs).2
    have e : getR s p 1 = getV s p 1 := by rw [getR, if_pos h]; simp
    rw [e]; exact this

theorem chSt_bytes {s : ByteArray} {j : Nat} (h : (chSt s j).e = 0) : ∃ q : Nat, (chSt s j).p = q ∧ 1 ≤ q ∧ q ≤ s.size ∧ cat (partsC (chSt s j).cs) = s.extract 1 q := by
  induction j with
  | zero =>
    rw [chSt] at h ⊢
    have h' : getE s ((0 : Nat) : Int) 1 = 0 := by
      have : nmE s 0 0 = 0 := h
      rw [nmE, if_pos rfl] at this; exact this
    obtain ⟨a, b, c⟩ := get_one h'
    refine ⟨1, ?_, Nat.le_refl _, by omega, ?_⟩
    · show nmP s 0 0 = _
      rw [nmP, if_pos rfl]; exact a
    · apply bytes_ext
      rw [extract_data']
      simp [partsC, cat]
  | succ j ih =>
    have h0 : (chSt s j).e = 0 := by
      by_cases h0 : (chSt s j).e = 0
      · exact h0
      · rw [chSt, chStep_stuck h0] at h; exact absurd h h0
    obtain ⟨q, hq, hq1, hq2, hqs⟩ := ih h0
    rw [chSt] at h ⊢
    generalize chSt s j = t at *
    obtain ⟨p, e, cs⟩ := t
    simp only at hq h0 hqs
    subst hq h0
    have snoc : ∀ c : Chg, cat (partsC (cs ++ [c])) = s.extract 1 q ++ cat (partC c) := by
      intro c
      rw [partsC_append, cat_append, hqs]
      simp [partsC]
    have g1 : getE s q 1 = 0 := by
      by_cases hg : getE s q 1 = 0
      · exact hg
      · exfalso
        have a : nmR s q 0 = 0 := by rw [nmR, if_pos rfl, getR, if_neg hg]
        have b : nmE s q 0 = getE s q 1 := by rw [nmE, if_pos rfl]
        rw [chStep] at h
        simp only [a, b, if_true] at h
        rw [txE, if_neg (by rw [txE, if_neg hg]; exact hg), txE, if_neg hg] at h
        exact hg h
    obtain ⟨t1, t2, t3⟩ := get_one g1
    have eR : nmR s q 0 = getR s q 1 := by rw [nmR, if_pos rfl]
    have eP : nmP s q 0 = ((q + 1 : Nat) : Int) := by rw [nmP, if_pos rfl, t1]
    have eE : nmE s q 0 = 0 := by rw [nmE, if_pos rfl, g1]
    have uS : ∀ p, txS s p 0 = cutS s p := fun p => by rw [txS, if_pos rfl]
    have uP : ∀ p, txP s p 0 = cutT s p := fun p => by rw [txP, if_pos rfl]
    have uE : ∀ p, txE s p 0 = cutE s p := fun p => by rw [txE, if_pos rfl]
    rw [chStep] at h ⊢
    simp only [eR, eP, eE, uS, uP, uE] at h ⊢
    by_cases r0 : getR s q 1 = 0
    · rw [if_pos r0] at h ⊢
      rw [r0] at t3
      simp only at h ⊢
      have k1 : cutE s ((q + 1 : Nat) : Int) = 0 := by
        by_cases hk : cutE s ((q + 1 : Nat) : Int) = 0
        · exact hk
        · rw [txE, if_neg hk] at h; exact absurd h hk
      rw [k1] at h ⊢
      rw [uE] at h
      rw [uP, uS]
      obtain ⟨q1, f1, a1, a2, _, _, a3⟩ := cut_text k1
      rw [f1] at h ⊢
      obtain ⟨q2, f2, b1, b2, _, _, b3⟩ := cut_text h
      refine ⟨q2, f2, by omega, b2, ?_⟩
      rw [snoc]
      show _ ++ cat [putS 0 1, textS _, textS _] = _
      rw [show [putS 0 1, textS (cutS s ((q + 1 : Nat) : Int)), textS (cutS s q1)] = [putS 0 1] ++ ([textS (cutS s ((q + 1 : Nat) : Int))] ++ [textS (cutS s q1)]) by rfl, cat_append, cat_append, cat_one, cat_one, cat_one, a3, b3, t3, extract_join _ _ _ _ (by omega) (by omega), extract_join _ _ _ _ (by omega) (by omega), extract_join _ _ _ _ (by omega) (by omega)]
    · rw [if_neg r0] at h ⊢
      by_cases r1 : getR s q 1 = 1
      · rw [if_pos r1] at h ⊢
        rw [r1] at t3
        simp only at h ⊢
        obtain ⟨q1, f1, a1, a2, _, _, a3⟩ := cut_text h
        refine ⟨q1, f1, by omega, a2, ?_⟩
        rw [snoc]
        show _ ++ cat [putS 1 1, textS _] = _
        rw [show [putS 1 1, textS (cutS s ((q + 1 : Nat) : Int))] = [putS 1 1] ++ [textS (cutS s ((q + 1 : Nat) : Int))] by rfl, cat_append, cat_one, cat_one, a3, t3, extract_join _ _ _ _ (by omega) (by omega), extract_join _ _ _ _ (by omega) (by omega)]
      · rw [if_neg r1] at h
        exact absurd h (by simp)

theorem unp_once {s : ByteArray} (h : unpE s = 0) : packE (unpL s) = 0 ∧ packS (unpL s) = s := by
  obtain ⟨h1, h2, h3, h4⟩ := unpE_ok h
  have hM := chM_le s
  rw [unpL, if_pos h]
  have hl : (chF s).cs.length = chM s := chSt_len s _
  obtain ⟨q, e1, e2, e3, e4⟩ := chSt_bytes h2
  have hq : q = s.size := by
    have : (chF s).p = (q : Int) := e1
    omega
  have h0 : (chSt s 0).e = 0 := by
    by_cases h0 : (chSt s 0).e = 0
    · exact h0
    · have := chSt_stuck h0 (chM s)
      rw [Nat.zero_add] at this
      have h2' : (chSt s (chM s)).e = 0 := h2
      rw [h2'] at this; exact absurd this.symm h0
  have g0 : getE s ((0 : Nat) : Int) 1 = 0 := by
    have : nmE s 0 0 = 0 := h0
    rw [nmE, if_pos rfl] at this; exact this
  obtain ⟨_, _, t3⟩ := get_one g0
  have eR : getR s ((0 : Nat) : Int) 1 = (chM s : Int) := by
    have := hM.2
    rw [nmR, if_pos rfl] at this; exact this
  rw [eR] at t3
  have e4' : cat (partsC (chF s).cs) = s.extract 1 q := e4
  have hp : packS (chF s).cs = s := by
    rw [packS, hl]
    show cat ([putS (chM s : Int) 1] ++ partsC (chF s).cs) = s
    rw [cat_append, cat_one, t3, e4', extract_join _ _ _ _ (by omega) (by omega), hq, extract_all]
  exact ⟨packE_zero h4 (by omega) (by rw [hp]; exact h1), hp⟩

end Go.Proofs.Ytcdcnonkoffbhaa.Plain
