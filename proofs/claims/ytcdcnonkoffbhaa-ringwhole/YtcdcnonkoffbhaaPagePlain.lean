/-
  Plain facts: a page's bytes, and what is read of bytes. Nothing of any program.
-/
import Derived.Test.YtcdcnonkoffbhaaPlainE
import Derived.Test.YtcdcnonkoffbhaaPlainD
import Derived.Test.YtcdcnonkoffbhaaSumRefSeal
namespace Go.Proofs.Ytcdcnonkoffbhaa.Plain
open Go.RowKit

/-! Zeros -/

theorem zeros_add (a b : Nat) : zeros a ++ zeros b = zeros (a + b) := by
  apply bytes_ext
  rw [data_append]
  exact List.replicate_append_replicate

theorem trim_empty {s : ByteArray} (h : trimS s = ⟨#[]⟩) : s = zeros s.size := by
  have h0 : trimN s s.size = 0 := by rw [← trimS_size, h]; rfl
  have h1 := trim_pad s
  rw [h, h0, Nat.sub_zero] at h1
  exact h1.symm.trans (none_append _)

theorem trim_zeros (n : Nat) : trimS (zeros n) = ⟨#[]⟩ := by
  have h := trim_more ⟨#[]⟩ n
  have e : (⟨#[]⟩ : ByteArray) ++ zeros n = zeros n := by apply bytes_ext; rw [data_append]; rfl
  rw [e] at h
  rw [h]; rfl

/-- What was trimmed, padded as far as ever, is the text padded so far. -/
theorem trim_padded (s : ByteArray) (j m : Nat) (h : (trimS s).size + j = m) (hm : s.size ≤ m) : trimS s ++ zeros j = s ++ zeros (m - s.size) := by
  have hle := trimN_le s s.size
  have hsz := trimS_size s
  have h1 := trim_pad s
  conv => rhs; rw [← h1]
  rw [ByteArray.append_assoc, zeros_add, ByteArray.size_append, zeros_size, hsz]
  congr 2
  omega

/-! Pages -/

def rightP (k g : Int) (b : ByteArray) : Bool := decide (1 ≤ k ∧ k ≤ 5 ∧ 0 ≤ g ∧ g ≤ 1099511627776 ∧ b.size ≤ 4000)

theorem rightP_iff (k g : Int) (b : ByteArray) : rightP k g b = true ↔ (1 ≤ k ∧ k ≤ 5 ∧ 0 ≤ g ∧ g ≤ 1099511627776 ∧ b.size ≤ 4000) := by simp [rightP]

/-- A page's bytes ahead of its sum. -/
def headP (k g : Int) (b : ByteArray) : ByteArray := cat [putS k 1, putS g 6, textS b]
def pageS (k g : Int) (b : ByteArray) : ByteArray := if rightP k g b then trimS (sealS (headP k g b)) else ⟨#[]⟩
def pageE (k g : Int) (b : ByteArray) : Int := if rightP k g b then 0 else 1

theorem kind_ok {k : Int} (h1 : 1 ≤ k) (h5 : k ≤ 5) : putOk k 1 = true := (putOk_iff _ _).2 ⟨by decide, by decide, by omega, by show k < 256; omega⟩
theorem gen_ok {g : Int} (h0 : 0 ≤ g) (h1 : g ≤ 1099511627776) : putOk g 6 = true := (putOk_iff _ _).2 ⟨by decide, by decide, by omega, by show g < 281474976710656; omega⟩

theorem headP_size {k g : Int} {b : ByteArray} (h : rightP k g b = true) : (headP k g b).size = 9 + b.size := by
  obtain ⟨h1, h5, h0, hg, hb⟩ := (rightP_iff _ _ _).1 h
  have e1 := putS_size (kind_ok h1 h5)
  have e2 := putS_size (gen_ok h0 hg)
  rw [headP, cat_size]
  simp [textS_size (s := b) (by omega)]
  omega

theorem sealS_size (s : ByteArray) : (sealS s).size = s.size + 4 := by
  rw [sealS, ByteArray.size_append, le4S_size]

/-! What is read of a whole block -/

def fN (F : ByteArray) : Nat := (getV F 7 2).toNat
def fK (F : ByteArray) : Int := getV F 0 1
def fG (F : ByteArray) : Int := getV F 1 6
def fB (F : ByteArray) : ByteArray := F.extract 9 (9 + fN F)
def fSealed (F : ByteArray) : Bool := decide (sealS (F.extract 0 (9 + fN F)) = F.extract 0 (13 + fN F))
theorem fSealed_iff (F : ByteArray) : fSealed F = true ↔ sealS (F.extract 0 (9 + fN F)) = F.extract 0 (13 + fN F) := by simp [fSealed]
def fRest (F : ByteArray) : ByteArray := F.extract (13 + fN F) F.size
def fE (F : ByteArray) : Int :=
  if 4000 < fN F then 4 else if fSealed F then (if 1 ≤ fK F ∧ fK F ≤ 5 then (if fG F ≤ 1099511627776 ∧ trimS (fRest F) = ⟨#[]⟩ then 0 else 4) else 40) else 41

theorem fE_ok {F : ByteArray} (h : fE F = 0) : fN F ≤ 4000 ∧ fSealed F ∧ 1 ≤ fK F ∧ fK F ≤ 5 ∧ fG F ≤ 1099511627776 ∧ trimS (fRest F) = ⟨#[]⟩ := by
  unfold fE at h
  by_cases h1 : 4000 < fN F
  · rw [if_pos h1] at h; omega
  · rw [if_neg h1] at h
    by_cases h2 : fSealed F
    · rw [if_pos h2] at h
      by_cases h3 : 1 ≤ fK F ∧ fK F ≤ 5
      · rw [if_pos h3] at h
        by_cases h4 : fG F ≤ 1099511627776 ∧ trimS (fRest F) = ⟨#[]⟩
        · exact ⟨by omega, h2, h3.1, h3.2, h4.1, h4.2⟩
        · rw [if_neg h4] at h; omega
      · rw [if_neg h3] at h; omega
    · rw [if_neg h2] at h; omega

/-- A page's bytes with zeros behind them, up to a block's length, are read as it. -/
theorem f_page {k g : Int} {b : ByteArray} (h : rightP k g b = true) :
    let F := sealS (headP k g b) ++ zeros (4096 - (13 + b.size))
    fE F = 0 ∧ fK F = k ∧ fG F = g ∧ fB F = b := by
  intro F
  obtain ⟨h1, h5, h0, hg, hb⟩ := (rightP_iff _ _ _).1 h
  have kk := kind_ok h1 h5
  have gg := gen_ok h0 hg
  have e1 := putS_size kk
  have e2 := putS_size gg
  have et := textS_size (s := b) (by omega)
  have hs := headP_size h
  have hF : F = headP k g b ++ (le4S (ofS (headP k g b)) ++ zeros (4096 - (13 + b.size))) := by
    show (headP k g b ++ le4S _) ++ _ = _
    rw [ByteArray.append_assoc]
  have hd : F.data.toList = (putS k 1).data.toList ++ ((putS g 6).data.toList ++ ((putL b.size 2 ++ b.data.toList) ++ ((le4S (ofS (headP k g b))).data.toList ++ (zeros (4096 - (13 + b.size))).data.toList))) := by
    rw [hF, data_append, data_append, headP, cat_data]
    simp [textS_data (s := b) (by omega), List.append_assoc]
  have l1 : (putS k 1).data.toList.length = 1 := by rw [size_list]; omega
  have l2 : (putS g 6).data.toList.length = 6 := by rw [size_list]; omega
  have v1 : fK F = k := by
    unfold fK
    rw [getV_bytes F 0 1 k]
    · exact mod_self8 _ _ (by omega) (by show k < 256; omega)
    · intro i hi
      rw [hd, Nat.zero_add, List.getElem?_append_left (by omega), putS_ok kk]
      exact putL_at k 1 i hi
  have v2 : fG F = g := by
    unfold fG
    rw [getV_bytes F 1 6 g]
    · exact mod_self8 _ _ (by omega) (by show g < 281474976710656; omega)
    · intro i hi
      rw [hd, List.getElem?_append_right (by omega), l1, Nat.add_sub_cancel_left, List.getElem?_append_left (by omega), putS_ok gg]
      exact putL_at g 6 i hi
  have v3 : fN F = b.size := by
    unfold fN
    rw [getV_bytes F 7 2 b.size]
    · rw [mod_self8 _ _ (by omega) (by show (b.size : Int) < 65536; omega)]
      omega
    · intro i hi
      rw [hd, List.getElem?_append_right (by omega), l1, List.getElem?_append_right (by omega), l2, List.append_assoc, List.getElem?_append_left (by rw [putL_length]; omega)]
      have e : 7 + i - 1 - 6 = i := by omega
      rw [e]
      exact putL_at _ 2 i hi
  have v4 : fB F = b := by
    unfold fB
    rw [v3]
    apply bytes_ext
    rw [extract_data', Nat.add_sub_cancel_left, hd]
    have l3 : ((putS k 1).data.toList ++ (putS g 6).data.toList ++ putL b.size 2).length = 9 := by
      rw [List.length_append, List.length_append, l1, l2, putL_length]
    rw [← List.append_assoc, List.append_assoc (putL b.size 2), ← List.append_assoc, List.drop_left' l3, List.take_left' (size_list b)]
  refine ⟨?_, v1, v2, v4⟩
  have s1 : fSealed F := by
    rw [fSealed_iff, v3, hF, extract_left _ _ _ hs, ← ByteArray.append_assoc, extract_left _ _ (13 + b.size) (by rw [ByteArray.size_append, le4S_size, hs]; omega)]
    rfl
  have hFs : F.size = 4096 := by
    show (sealS _ ++ zeros _).size = _
    rw [ByteArray.size_append, sealS_size, hs, zeros_size]; omega
  have s2 : trimS (fRest F) = ⟨#[]⟩ := by
    unfold fRest
    rw [v3, hFs, show F = sealS (headP k g b) ++ zeros (4096 - (13 + b.size)) from rfl,
      extract_right _ _ (13 + b.size) 4096 (by rw [sealS_size, hs]; omega) (by rw [zeros_size]; omega)]
    exact trim_zeros _
  unfold fE
  rw [if_neg (by rw [v3]; omega), if_pos s1, if_pos (by rw [v1]; exact ⟨h1, h5⟩), if_pos ⟨by rw [v2]; exact hg, s2⟩]

/-- What is read of a block, put, is the block trimmed. -/
theorem f_once {F : ByteArray} (hF : F.size = 4096) (h : fE F = 0) : rightP (fK F) (fG F) (fB F) = true ∧ pageS (fK F) (fG F) (fB F) = trimS F := by
  obtain ⟨hn, hs, h1, h5, hg, hr⟩ := fE_ok h
  have hg0 : 0 ≤ fG F := (getV_bd F 1 6).1
  have hbs : (fB F).size = fN F := by unfold fB; rw [extract_size' _ _ _ (by omega) (by omega)]; omega
  have hR : rightP (fK F) (fG F) (fB F) = true := (rightP_iff _ _ _).2 ⟨h1, h5, hg0, hg, by omega⟩
  refine ⟨hR, ?_⟩
  have hv : getV F 7 2 = fN F := by have := (getV_bd F 7 2).1; unfold fN; omega
  have hh : headP (fK F) (fG F) (fB F) = F.extract 0 (9 + fN F) := by
    apply bytes_ext
    rw [headP, cat_data, putS_ok (kind_ok h1 h5), putS_ok (gen_ok hg0 hg)]
    simp only [List.map_cons, List.map_nil, List.flatten_cons, List.flatten_nil, List.append_nil]
    rw [textS_data (by omega), hbs, ← hv]
    show putL (getV F 0 1) 1 ++ (putL (getV F 1 6) 6 ++ (putL (getV F 7 2) 2 ++ (fB F).data.toList)) = _
    rw [putL_getV F 0 1 (by omega), putL_getV F 1 6 (by omega), putL_getV F 7 2 (by omega), fB, extract_data', extract_data', List.drop_zero]
    have e1 : 9 + fN F - 0 = 1 + (6 + (2 + fN F)) := by omega
    have e2 : 9 + fN F - 9 = fN F := by omega
    rw [e1, e2, List.take_add, List.take_add, List.take_add, List.drop_drop, List.drop_drop]
  unfold pageS
  rw [if_pos hR, hh, (fSealed_iff F).1 hs]
  have hrest := trim_empty hr
  have hj : F.extract 0 (13 + fN F) ++ fRest F = F := by
    rw [fRest, extract_join _ _ _ _ (by omega) (by omega), extract_all]
  rw [hrest] at hj
  conv => rhs; rw [← hj]
  rw [trim_more]

/-! What is read of any bytes -/

def fullS (s : ByteArray) : ByteArray := s ++ zeros (4096 - s.size)
def readE (s : ByteArray) : Int := if s.size ≤ 4096 then fE (fullS s) else 1
def readK (s : ByteArray) : Int := if readE s = 0 then fK (fullS s) else 0
def readG (s : ByteArray) : Int := if readE s = 0 then fG (fullS s) else 0
def readB (s : ByteArray) : ByteArray := if readE s = 0 then fB (fullS s) else ⟨#[]⟩

theorem fullS_size {s : ByteArray} (h : s.size ≤ 4096) : (fullS s).size = 4096 := by
  rw [fullS, ByteArray.size_append, zeros_size]; omega

theorem pageS_ok {k g : Int} {b : ByteArray} (h : rightP k g b = true) : pageS k g b = trimS (sealS (headP k g b)) := by rw [pageS, if_pos h]
theorem pageS_bad {k g : Int} {b : ByteArray} (h : rightP k g b = false) : pageS k g b = ⟨#[]⟩ := by rw [pageS, h]; rfl

theorem pageS_max (k g : Int) (b : ByteArray) : (pageS k g b).size ≤ 4013 := by
  by_cases h : rightP k g b = true
  · have h' := h
    obtain ⟨_, _, _, _, hb⟩ := (rightP_iff _ _ _).1 h
    rw [pageS_ok h', trimS_size]
    have := trimN_le (sealS (headP k g b)) (sealS (headP k g b)).size
    rw [sealS_size, headP_size h'] at this
    rw [sealS_size, headP_size h']
    omega
  · rw [pageS_bad (by simpa using h)]
    exact Nat.zero_le _

/-- WHAT IS PUT IS GOT AGAIN, also with zeros behind it. -/
theorem page_back {k g : Int} {b : ByteArray} (h : rightP k g b = true) (m : Nat) (hm : (pageS k g b).size + m ≤ 4096) :
    readE (pageS k g b ++ zeros m) = 0 ∧ readK (pageS k g b ++ zeros m) = k ∧ readG (pageS k g b ++ zeros m) = g ∧ readB (pageS k g b ++ zeros m) = b := by
  obtain ⟨h1, h5, h0, hg, hb⟩ := (rightP_iff _ _ _).1 h
  have hsz : (pageS k g b ++ zeros m).size = (pageS k g b).size + m := by rw [ByteArray.size_append, zeros_size]
  have hf : fullS (pageS k g b ++ zeros m) = sealS (headP k g b) ++ zeros (4096 - (13 + b.size)) := by
    rw [fullS, hsz, ByteArray.append_assoc, zeros_add, pageS_ok h, trim_padded _ _ 4096]
    · rw [sealS_size, headP_size h]
      congr 2
      omega
    · rw [pageS_ok h] at hm; omega
    · rw [sealS_size, headP_size h]; omega
  obtain ⟨r1, r2, r3, r4⟩ := f_page h
  rw [← hf] at r1 r2 r3 r4
  have e : readE (pageS k g b ++ zeros m) = 0 := by rw [readE, if_pos (by omega), r1]
  exact ⟨e, by rw [readK, if_pos e, r2], by rw [readG, if_pos e, r3], by rw [readB, if_pos e, r4]⟩

/-- WHAT IS GOT, PUT, is the bytes without the zeros at their end. -/
theorem page_once {s : ByteArray} (h : readE s = 0) : rightP (readK s) (readG s) (readB s) = true ∧ pageS (readK s) (readG s) (readB s) = trimS s := by
  have hs : s.size ≤ 4096 := by
    by_cases hs : s.size ≤ 4096
    · exact hs
    · rw [readE, if_neg hs] at h; omega
  have h' : fE (fullS s) = 0 := by rwa [readE, if_pos hs] at h
  rw [readK, readG, readB, if_pos h, if_pos h, if_pos h]
  obtain ⟨a, b⟩ := f_once (fullS_size hs) h'
  refine ⟨a, ?_⟩
  rw [b, fullS, trim_more]

theorem sum_nine : ofS (zeros 9) ≠ 0 := by
  have : ofS ⟨#[0, 0, 0, 0, 0, 0, 0, 0, 0]⟩ ≠ 0 := by decide +kernel
  exact this

/-- No bytes are no page. -/
theorem read_none : readE ⟨#[]⟩ = 41 := by
  have hf : fullS ⟨#[]⟩ = zeros 4096 := by
    apply bytes_ext
    rw [fullS, data_append]; rfl
  rw [readE, if_pos (by decide), hf]
  have hz : ∀ i, byteAt (zeros 4096) i = 0 := by
    intro i
    unfold byteAt
    show ((List.replicate 4096 (0 : UInt8))[i]?).getD 0 = 0
    rw [List.getElem?_replicate]
    split <;> rfl
  have hn : fN (zeros 4096) = 0 := by
    unfold fN
    have a := hz 7
    have b := hz 8
    unfold byteAt at a b
    simp only [getV]
    rw [show 7 + 0 = 7 from rfl, show 7 + 1 = 8 from rfl, a, b]
    rfl
  have hx : ∀ n, n ≤ 4096 → (zeros 4096).extract 0 n = zeros n := by
    intro n h
    apply bytes_ext
    rw [extract_data', List.drop_zero, Nat.sub_zero]
    show (List.replicate 4096 (0 : UInt8)).take n = List.replicate n 0
    rw [List.take_replicate, Nat.min_eq_left h]
  have hs : ¬ fSealed (zeros 4096) := by
    rw [fSealed_iff, hn, hx _ (by omega), hx _ (by omega)]
    intro h
    have h2 : le4S (ofS (zeros 9)) = zeros 4 := by
      have e := congrArg (fun x : ByteArray => x.extract 9 13) h
      have e1 : (sealS (zeros (9 + 0))).extract 9 13 = le4S (ofS (zeros 9)) := extract_right _ _ 9 13 rfl rfl
      have e2 : (zeros (13 + 0)).extract 9 13 = zeros 4 := by
        apply bytes_ext
        rw [extract_data']
        rfl
      exact (e1.symm.trans e).trans e2
    have h3 := congrArg (fun x : ByteArray => leN x.data.toList) h2
    have h4 : leN (le4 (ofS (zeros 9))) = 0 := h3
    rw [leN_le4 (ofS_lt _)] at h4
    exact sum_nine h4
  unfold fE
  rw [if_neg (by rw [hn]; omega), if_neg hs]

/-- A leaf without bytes. -/
theorem leaf_size : (pageS 1 0 ⟨#[]⟩).size = 13 := by decide +kernel

end Go.Proofs.Ytcdcnonkoffbhaa.Plain
