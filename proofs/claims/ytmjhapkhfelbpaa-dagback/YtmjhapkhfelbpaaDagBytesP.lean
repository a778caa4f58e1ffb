/-
  A graph's bytes, as plain facts: what is written; what is read, step by step with the first error kept. Nothing of any program.
-/
import Derived.Test.YtmjhapkhfelbpaaNodePlain
import Derived.Test.YtmjhapkhfelbpaaDagShape
namespace Go.Proofs.Ytmjhapkhfelbpaa.Plain
open Go.RowKit
set_option linter.unusedVariables false

/-! Written -/

def needsP (ns : List Int) : List ByteArray := ns.map fun x => putS x 1
def taskP (t : TaskP) : List ByteArray := putS t.needs.length 1 :: (needsP t.needs ++ [putS t.tries 1, putS t.wait 3, putS t.lease 3])
def tasksP (ts : List TaskP) : List ByteArray := ts.flatMap taskP
def partsD (nm : ByteArray) (ts : List TaskP) : List ByteArray := textS nm :: putS ts.length 1 :: tasksP ts
def putD (nm : ByteArray) (ts : List TaskP) : ByteArray := cat (partsD nm ts)

theorem tasksP_append (xs ys : List TaskP) : tasksP (xs ++ ys) = tasksP xs ++ tasksP ys := by simp [tasksP]
theorem tasksP_cons (x : TaskP) (ys : List TaskP) : tasksP (x :: ys) = taskP x ++ tasksP ys := rfl
theorem needsP_append (xs ys : List Int) : needsP (xs ++ ys) = needsP xs ++ needsP ys := by simp [needsP]

theorem cat_flat (xs : List (List ByteArray)) : cat (xs.map cat) = cat xs.flatten := by
  induction xs with
  | nil => rfl
  | cons x xs ih =>
    rw [List.map_cons, List.flatten_cons, cat_append, show cat x :: xs.map cat = [cat x] ++ xs.map cat by rfl, cat_append, cat_one, ih]

theorem cat_tasks (ts : List TaskP) : cat (ts.map fun t => cat (taskP t)) = cat (tasksP ts) := by
  have := cat_flat (ts.map taskP)
  rw [List.map_map] at this
  rw [show (ts.map fun t => cat (taskP t)) = ts.map (cat ∘ taskP) by rfl, this]
  congr 1

/-! Read -/

def gnR (s : ByteArray) (p e k : Int) : Int := if e = 0 then getR s p k else 0
def gnP (s : ByteArray) (p e k : Int) : Int := if e = 0 then getT s p k else p
def gnE (s : ByteArray) (p e k : Int) : Int := if e = 0 then getE s p k else e

theorem gnE_stuck {s : ByteArray} {p e k : Int} (h : ¬ e = 0) : gnE s p e k = e := if_neg h
theorem gn_ok {s : ByteArray} {p e k : Int} (h : gnE s p e k = 0) : e = 0 ∧ getE s p k = 0 := by
  unfold gnE at h
  split at h
  · rename_i h1; exact ⟨h1, h⟩
  · rename_i h1; exact absurd h h1

structure NdS where
  p : Int
  e : Int
  ns : List Int

def ndSt (s : ByteArray) (p e : Int) : Nat → NdS
  | 0 => ⟨p, e, []⟩
  | j + 1 => ⟨gnP s (ndSt s p e j).p (ndSt s p e j).e 1, gnE s (ndSt s p e j).p (ndSt s p e j).e 1, (ndSt s p e j).ns ++ [gnR s (ndSt s p e j).p (ndSt s p e j).e 1]⟩

theorem ndSt_len (s : ByteArray) (p e : Int) (j : Nat) : (ndSt s p e j).ns.length = j := by
  induction j with
  | zero => rfl
  | succ j ih => simp [ndSt, ih]

theorem ndSt_stuck {s : ByteArray} {p e : Int} {j : Nat} (h : ¬ (ndSt s p e j).e = 0) (d : Nat) : (ndSt s p e (j + d)).e = (ndSt s p e j).e := by
  induction d with
  | zero => rfl
  | succ d ih =>
    show gnE _ _ (ndSt s p e (j + d)).e _ = _
    rw [ih, gnE_stuck h]

theorem ndSt_ok {s : ByteArray} {p e : Int} {j : Nat} (h : (ndSt s p e j).e = 0) : ∀ i, i ≤ j → (ndSt s p e i).e = 0 := by
  intro i hi
  cases Classical.em ((ndSt s p e i).e = 0) with
  | inl h1 => exact h1
  | inr h1 =>
    have := ndSt_stuck h1 (j - i)
    rw [show i + (j - i) = j by omega, h] at this
    exact absurd this.symm h1

structure TkS where
  p : Int
  e : Int
  t : TaskP

def ndK (s : ByteArray) (p e : Int) : Nat := (gnR s p e 1).toNat
def ndF (s : ByteArray) (p e : Int) : NdS := ndSt s (gnP s p e 1) (gnE s p e 1) (ndK s p e)

def tkSt (s : ByteArray) (p e : Int) : TkS :=
  let A := ndF s p e
  let p1 := gnP s A.p A.e 1
  let e1 := gnE s A.p A.e 1
  let p2 := gnP s p1 e1 3
  let e2 := gnE s p1 e1 3
  ⟨gnP s p2 e2 3, gnE s p2 e2 3, ⟨A.ns, gnR s A.p A.e 1, gnR s p1 e1 3, gnR s p2 e2 3⟩⟩

structure DgS where
  p : Int
  e : Int
  ts : List TaskP

def dgSt (s : ByteArray) (p e : Int) : Nat → DgS
  | 0 => ⟨p, e, []⟩
  | j + 1 => ⟨(tkSt s (dgSt s p e j).p (dgSt s p e j).e).p, (tkSt s (dgSt s p e j).p (dgSt s p e j).e).e, (dgSt s p e j).ts ++ [(tkSt s (dgSt s p e j).p (dgSt s p e j).e).t]⟩

def dgM (s : ByteArray) : Nat := (gnR s (cutT s 0) (cutE s 0) 1).toNat
def dgF (s : ByteArray) : DgS := dgSt s (gnP s (cutT s 0) (cutE s 0) 1) (gnE s (cutT s 0) (cutE s 0) 1) (dgM s)

/-- What Get answers. -/
def gtE (s : ByteArray) : Int := if (dgF s).e = 0 then (if (dgF s).p = s.size then rightG (cutS s 0) (dgF s).ts else 4) else (dgF s).e
def gtN (s : ByteArray) : ByteArray := if gtE s = 0 then cutS s 0 else ⟨#[]⟩
def gtT (s : ByteArray) : List TaskP := if gtE s = 0 then (dgF s).ts else []

theorem gtE_ok {s : ByteArray} (h : gtE s = 0) : (dgF s).e = 0 ∧ (dgF s).p = s.size ∧ rightG (cutS s 0) (dgF s).ts = 0 := by
  unfold gtE at h
  split at h
  · rename_i h1
    split at h
    · rename_i h2; exact ⟨h1, h2, h⟩
    · cases h
  · rename_i h1; exact absurd h h1

theorem gnR_bd (s : ByteArray) (p e : Int) : 0 ≤ gnR s p e 1 ∧ gnR s p e 1 ≤ 255 := by
  unfold gnR
  split
  · unfold getR
    split
    · have := getV_bd s p.toNat (Int.toNat 1)
      have h2 : pw (Int.toNat 1) = 256 := by decide
      omega
    · omega
  · omega

theorem dgM_le (s : ByteArray) : dgM s ≤ 255 ∧ gnR s (cutT s 0) (cutE s 0) 1 = (dgM s : Int) := by
  have := gnR_bd s (cutT s 0) (cutE s 0)
  unfold dgM
  omega

theorem ndK_le (s : ByteArray) (p e : Int) : ndK s p e ≤ 255 ∧ gnR s p e 1 = (ndK s p e : Int) := by
  have := gnR_bd s p e
  unfold ndK
  omega

theorem dgSt_len (s : ByteArray) (p e : Int) (j : Nat) : (dgSt s p e j).ts.length = j := by
  induction j with
  | zero => rfl
  | succ j ih => simp [dgSt, ih]

theorem tkSt_stuck {s : ByteArray} {p e : Int} (h : ¬ e = 0) : (tkSt s p e).e = e := by
  have h0 : ndK s p e = 0 := by unfold ndK gnR; rw [if_neg h]; rfl
  have hA : (ndF s p e).e = e := by unfold ndF; rw [h0]; show gnE s p e 1 = e; exact gnE_stuck h
  show gnE s _ (gnE s _ (gnE s _ (ndF s p e).e 1) 3) 3 = e
  rw [hA, gnE_stuck h, gnE_stuck h, gnE_stuck h]

theorem dgSt_stuck {s : ByteArray} {p e : Int} {j : Nat} (h : ¬ (dgSt s p e j).e = 0) (d : Nat) : (dgSt s p e (j + d)).e = (dgSt s p e j).e := by
  induction d with
  | zero => rfl
  | succ d ih =>
    show (tkSt s _ (dgSt s p e (j + d)).e).e = _
    rw [ih, tkSt_stuck h]

/-! What is put is got again -/

theorem getAtK {s : ByteArray} {P R : List ByteArray} {n p : Int} {k : Nat} (hs : s = cat (P ++ putS n k :: R)) (hok : putOk n k = true) (hp : p = ((cat P).size : Nat)) : getE s p k = 0 ∧ getR s p k = n ∧ getT s p k = ((cat (P ++ [putS n k])).size : Nat) := by
  have h := get_at (k := k) (hs.trans (cat_three _ _ _)) hok hp
  rw [cat_append, cat_one]
  exact h

theorem cutAtD {s : ByteArray} {P R : List ByteArray} {t : ByteArray} {p : Int} (hs : s = cat (P ++ textS t :: R)) (ht : t.size ≤ 65535) (hp : p = ((cat P).size : Nat)) : cutE s p = 0 ∧ cutS s p = t ∧ cutT s p = ((cat (P ++ [textS t])).size : Nat) := by
  have h := cut_at (hs.trans (cat_three _ _ _)) ht hp
  rw [cat_append, cat_one]
  exact h

theorem oneOk {n : Int} (h0 : 0 ≤ n) (h : n ≤ 255) : putOk n 1 = true := (putOk_iff _ _).2 ⟨by decide, by decide, h0, by show n < 256; omega⟩
theorem threeOk {n : Int} (h0 : 0 ≤ n) (h : n ≤ 1048576) : putOk n 3 = true := (putOk_iff _ _).2 ⟨by decide, by decide, h0, by show n < 16777216; omega⟩

theorem nd_fwd {s : ByteArray} {P R : List ByteArray} {ns : List Int} {p : Int} (hs : s = cat (P ++ (needsP ns ++ R))) (hok : ∀ x ∈ ns, 0 ≤ x ∧ x ≤ 255) (hp : p = ((cat P).size : Nat)) : ∀ j, j ≤ ns.length → ndSt s p 0 j = ⟨((cat (P ++ needsP (ns.take j))).size : Nat), 0, ns.take j⟩
  | 0, _ => by simp [ndSt, needsP, hp]
  | j + 1, hj => by
    have ih := nd_fwd hs hok hp j (by omega)
    obtain ⟨x, hx⟩ : ∃ x, ns[j]? = some x := ⟨_, List.getElem?_eq_getElem (by omega)⟩
    have hxo := hok x (List.mem_of_getElem? hx)
    have tk : ns.take (j + 1) = ns.take j ++ [x] := by rw [List.take_add_one, hx]; rfl
    have td : ns = ns.take j ++ x :: ns.drop (j + 1) := by
      obtain ⟨hj', e⟩ := List.getElem?_eq_some_iff.1 hx
      rw [← e, List.getElem_cons_drop, List.take_append_drop]
    have hs2 : s = cat ((P ++ needsP (ns.take j)) ++ putS x 1 :: (needsP (ns.drop (j + 1)) ++ R)) := by
      rw [hs]
      conv => lhs; rw [td, needsP_append]
      simp [needsP]
    obtain ⟨a1, a2, a3⟩ := getAtK (k := 1) hs2 (oneOk hxo.1 hxo.2) rfl
    rw [ndSt, ih]
    simp only [gnP, gnE, gnR, if_true]
    have b1 : getE s ((cat (P ++ needsP (ns.take j))).size : Nat) 1 = 0 := a1
    have b2 : getR s ((cat (P ++ needsP (ns.take j))).size : Nat) 1 = x := a2
    have b3 : getT s ((cat (P ++ needsP (ns.take j))).size : Nat) 1 = ((cat (P ++ needsP (ns.take j) ++ [putS x ((1 : Nat) : Int)])).size : Nat) := a3
    rw [b1, b2, b3, tk, needsP_append]
    simp [needsP]

def okTask (t : TaskP) : Prop := t.needs.length ≤ 255 ∧ (∀ x ∈ t.needs, 0 ≤ x ∧ x ≤ 255) ∧ (0 ≤ t.tries ∧ t.tries ≤ 255) ∧ (0 ≤ t.wait ∧ t.wait ≤ 1048576) ∧ 0 ≤ t.lease ∧ t.lease ≤ 1048576

theorem tk_fwd {s : ByteArray} {P R : List ByteArray} {t : TaskP} {p : Int} (hs : s = cat (P ++ (taskP t ++ R))) (hok : okTask t) (hp : p = ((cat P).size : Nat)) : tkSt s p 0 = ⟨((cat (P ++ taskP t)).size : Nat), 0, t⟩ := by
  obtain ⟨ns, tr, wt, le⟩ := t
  obtain ⟨h1, h2, h3, h4, h5⟩ := hok
  obtain ⟨a1, a2, a3⟩ := getAtK (k := 1) (s := s) (P := P) (R := needsP ns ++ ([putS tr 1, putS wt 3, putS le 3] ++ R)) (n := (ns.length : Int)) (by rw [hs]; simp [taskP]) (oneOk (by omega) (by have : ns.length ≤ 255 := h1; omega)) hp
  have a1' : getE s p 1 = 0 := a1
  have a2' : getR s p 1 = (ns.length : Int) := a2
  have a3' : getT s p 1 = ((cat (P ++ [putS (ns.length : Int) 1])).size : Nat) := a3
  have hk : ndK s p 0 = ns.length := by unfold ndK gnR; rw [if_pos rfl, a2']; omega
  have hN := nd_fwd (s := s) (P := P ++ [putS (ns.length : Int) 1]) (R := [putS tr 1, putS wt 3, putS le 3] ++ R) (ns := ns) (by rw [hs]; simp [taskP]) h2 rfl ns.length (Nat.le_refl _)
  rw [List.take_length] at hN
  have hF : ndF s p 0 = ⟨((cat (P ++ [putS (ns.length : Int) 1] ++ needsP ns)).size : Nat), 0, ns⟩ := by
    unfold ndF
    rw [hk, gnP, gnE, if_pos rfl, if_pos rfl, a1', a3', hN]
  obtain ⟨b1, b2, b3⟩ := getAtK (k := 1) (s := s) (P := P ++ [putS (ns.length : Int) 1] ++ needsP ns) (R := putS wt 3 :: putS le 3 :: R) (n := tr) (by rw [hs]; simp [taskP]) (oneOk h3.1 h3.2) rfl
  obtain ⟨c1, c2, c3⟩ := getAtK (k := 3) (s := s) (P := P ++ [putS (ns.length : Int) 1] ++ needsP ns ++ [putS tr 1]) (R := putS le 3 :: R) (n := wt) (by rw [hs]; simp [taskP]) (threeOk h4.1 h4.2) rfl
  obtain ⟨d1, d2, d3⟩ := getAtK (k := 3) (s := s) (P := P ++ [putS (ns.length : Int) 1] ++ needsP ns ++ [putS tr 1] ++ [putS wt 3]) (R := R) (n := le) (by rw [hs]; simp [taskP]) (threeOk h5.1 h5.2) rfl
  simp only [Int.natCast_one, show ((3 : Nat) : Int) = 3 by rfl] at b1 b2 b3 c1 c2 c3 d1 d2 d3
  simp only [tkSt, hF, gnP, gnE, gnR, if_true, b1, b2, b3, c1, c2, c3, d1, d2, d3]
  simp [taskP]

theorem dg_fwd {s : ByteArray} {P R : List ByteArray} {ts : List TaskP} {p : Int} (hs : s = cat (P ++ (tasksP ts ++ R))) (hok : ∀ t ∈ ts, okTask t) (hp : p = ((cat P).size : Nat)) : ∀ j, j ≤ ts.length → dgSt s p 0 j = ⟨((cat (P ++ tasksP (ts.take j))).size : Nat), 0, ts.take j⟩
  | 0, _ => by simp [dgSt, tasksP, hp]
  | j + 1, hj => by
    have ih := dg_fwd hs hok hp j (by omega)
    obtain ⟨x, hx⟩ : ∃ x, ts[j]? = some x := ⟨_, List.getElem?_eq_getElem (by omega)⟩
    have hxo := hok x (List.mem_of_getElem? hx)
    have tk : ts.take (j + 1) = ts.take j ++ [x] := by rw [List.take_add_one, hx]; rfl
    have td : ts = ts.take j ++ x :: ts.drop (j + 1) := by
      obtain ⟨hj', e⟩ := List.getElem?_eq_some_iff.1 hx
      rw [← e, List.getElem_cons_drop, List.take_append_drop]
    have hs2 : s = cat ((P ++ tasksP (ts.take j)) ++ (taskP x ++ (tasksP (ts.drop (j + 1)) ++ R))) := by
      rw [hs]
      conv => lhs; rw [td, tasksP_append]
      simp [tasksP_cons]
    have := tk_fwd hs2 hxo rfl
    rw [dgSt, ih]
    simp only [this, tk, tasksP_append]
    simp [tasksP]

theorem right_ok {nm : ByteArray} {ts : List TaskP} (h : rightG nm ts = 0) : ts.length ≤ 10 ∧ nm.size ≤ 16 ∧ (∀ t ∈ ts, okTask t ∧ t.needs.length ≤ 10) := by
  obtain ⟨h1, h2, h3, h4, -⟩ := rightG_ok h
  refine ⟨h1, h2.2, fun t ht => ?_⟩
  have hb := List.all_eq_true.1 h4 t ht
  obtain ⟨g1, g2⟩ := (taskB_iff _ _).1 hb
  have gl := needsB_len g1
  have hl : t.needs.length ≤ 10 := by
    rcases gl with e | e
    · omega
    · rw [e]; simp
  refine ⟨⟨by omega, fun x hx => ?_, by omega, by omega, by omega⟩, hl⟩
  have := needsB_in g1 (Int.le_refl _) x hx
  omega

theorem get_back {nm : ByteArray} {ts : List TaskP} (h : rightG nm ts = 0) : gtE (putD nm ts) = 0 ∧ gtN (putD nm ts) = nm ∧ gtT (putD nm ts) = ts := by
  obtain ⟨h1, h2, h3⟩ := right_ok h
  obtain ⟨s, hs⟩ : ∃ s, s = putD nm ts := ⟨_, rfl⟩
  rw [← hs]
  obtain ⟨a1, a2, a3⟩ := cutAtD (s := s) (P := []) (R := putS ts.length 1 :: tasksP ts) (t := nm) (p := 0) (by rw [hs]; rfl) (by omega) rfl
  obtain ⟨b1, b2, b3⟩ := getAtK (k := 1) (s := s) (P := [textS nm]) (R := tasksP ts) (n := (ts.length : Int)) (p := cutT s 0) (by rw [hs]; rfl) (oneOk (by omega) (by omega)) (by rw [a3]; rfl)
  have b1' : getE s (cutT s 0) 1 = 0 := b1
  have b2' : getR s (cutT s 0) 1 = (ts.length : Int) := b2
  have b3' : getT s (cutT s 0) 1 = ((cat ([textS nm] ++ [putS (ts.length : Int) 1])).size : Nat) := b3
  have hM : dgM s = ts.length := by unfold dgM gnR; rw [if_pos a1, b2']; omega
  have hF : dgF s = ⟨(s.size : Nat), 0, ts⟩ := by
    have := dg_fwd (s := s) (P := [textS nm, putS (ts.length : Int) 1]) (R := []) (ts := ts) (by rw [hs]; simp [putD, partsD]) (fun t ht => (h3 t ht).1) rfl ts.length (Nat.le_refl _)
    unfold dgF
    rw [hM, gnP, gnE, if_pos a1, if_pos a1, b1', b3']
    rw [List.take_length] at this
    rw [show ([textS nm] ++ [putS (ts.length : Int) 1]) = [textS nm, putS (ts.length : Int) 1] by rfl, this]
    rw [hs]
    rfl
  have h0 : gtE s = 0 := by
    unfold gtE
    rw [hF, if_pos rfl, if_pos rfl, a2]
    exact h
  exact ⟨h0, by unfold gtN; rw [if_pos h0, a2], by unfold gtT; rw [if_pos h0, hF]⟩

/-! What is got, put, is the bytes -/

theorem gn_bytes {s : ByteArray} {q k : Nat} (h1 : 1 ≤ k) (h6 : k ≤ 6) (h : getE s (q : Int) (k : Int) = 0) : getT s q k = ((q + k : Nat) : Int) ∧ q + k ≤ s.size ∧ putS (getR s q k) k = s.extract q (q + k) := by
  obtain ⟨-, -, -, h4⟩ := getE_ok h
  have hs : q + k ≤ s.size := by omega
  refine ⟨?_, hs, ?_⟩
  · rw [getT, if_pos h]; omega
  · have := (got_put (s := s) (p := q) (k := k) h1 h6 hs).2
    have e : getR s q k = getV s q k := by rw [getR, if_pos h]; simp
    rw [e]; exact this

theorem nd_bytes {s : ByteArray} {q : Nat} (hq : q ≤ s.size) : ∀ j, (ndSt s q 0 j).e = 0 → ∃ q', (ndSt s q 0 j).p = ((q' : Nat) : Int) ∧ q ≤ q' ∧ q' ≤ s.size ∧ cat (needsP (ndSt s q 0 j).ns) = s.extract q q'
  | 0, _ => ⟨q, rfl, Nat.le_refl _, hq, by apply bytes_ext; rw [extract_data']; simp [needsP, ndSt, cat]⟩
  | j + 1, h => by
    have h0 := ndSt_ok h j (by omega)
    obtain ⟨q1, e1, l1, l2, b1⟩ := nd_bytes hq j h0
    have h' : gnE s (ndSt s q 0 j).p (ndSt s q 0 j).e 1 = 0 := h
    rw [e1, h0] at h'
    have hg := (gn_ok h').2
    obtain ⟨t1, t2, t3⟩ := gn_bytes (s := s) (q := q1) (k := 1) (by omega) (by omega) hg
    have t1' : getT s q1 1 = ((q1 + 1 : Nat) : Int) := t1
    have t3' : putS (getR s q1 1) 1 = s.extract q1 (q1 + 1) := t3
    refine ⟨q1 + 1, ?_, by omega, t2, ?_⟩
    · show gnP s (ndSt s q 0 j).p (ndSt s q 0 j).e 1 = _
      rw [e1, h0, gnP, if_pos rfl, t1']
    · show cat (needsP ((ndSt s q 0 j).ns ++ [gnR s (ndSt s q 0 j).p (ndSt s q 0 j).e 1])) = _
      rw [needsP_append, cat_append, b1, e1, h0, gnR, if_pos rfl]
      show _ ++ cat [putS (getR s q1 1) 1] = _
      rw [cat_one, t3', extract_join _ _ _ _ (by omega) (by omega)]

theorem tk_bytes {s : ByteArray} {q : Nat} (hq : q ≤ s.size) (h : (tkSt s q 0).e = 0) : ∃ q', (tkSt s q 0).p = ((q' : Nat) : Int) ∧ q ≤ q' ∧ q' ≤ s.size ∧ cat (taskP (tkSt s q 0).t) = s.extract q q' := by
  have h3 : gnE s (gnP s (gnP s (ndF s q 0).p (ndF s q 0).e 1) (gnE s (ndF s q 0).p (ndF s q 0).e 1) 3) (gnE s (gnP s (ndF s q 0).p (ndF s q 0).e 1) (gnE s (ndF s q 0).p (ndF s q 0).e 1) 3) 3 = 0 := h
  obtain ⟨h2, g3⟩ := gn_ok h3
  obtain ⟨h1, g2⟩ := gn_ok h2
  obtain ⟨hA, g1⟩ := gn_ok h1
  have hB := ndSt_ok (s := s) (p := gnP s q 0 1) (e := gnE s q 0 1) (j := ndK s q 0) hA 0 (Nat.zero_le _)
  have g0 := (gn_ok (show gnE s q 0 1 = 0 from hB)).2
  obtain ⟨a1, a2, a3⟩ := gn_bytes (s := s) (q := q) (k := 1) (by omega) (by omega) g0
  have a1' : getT s q 1 = ((q + 1 : Nat) : Int) := a1
  have a3' : putS (getR s q 1) 1 = s.extract q (q + 1) := a3
  have hF : ndF s q 0 = ndSt s ((q + 1 : Nat) : Int) 0 (ndK s q 0) := by
    unfold ndF
    rw [show gnE s q 0 1 = 0 from hB, gnP, if_pos rfl, a1']
  have hK : putS ((ndF s q 0).ns.length : Nat) 1 = s.extract q (q + 1) := by
    rw [hF, ndSt_len, ← (ndK_le s q 0).2, gnR, if_pos rfl, a3']
  obtain ⟨q1, e1, l1, l2, b1⟩ := nd_bytes (s := s) (q := q + 1) a2 (ndK s q 0) (by rw [← hF]; exact hA)
  rw [← hF] at e1 b1
  rw [e1] at g1
  obtain ⟨c1, c2, c3⟩ := gn_bytes (s := s) (q := q1) (k := 1) (by omega) (by omega) g1
  have c1' : getT s q1 1 = ((q1 + 1 : Nat) : Int) := c1
  have c3' : putS (getR s q1 1) 1 = s.extract q1 (q1 + 1) := c3
  have p1 : gnP s (ndF s q 0).p (ndF s q 0).e 1 = ((q1 + 1 : Nat) : Int) := by rw [e1, hA, gnP, if_pos rfl, c1']
  rw [p1] at g2 h2
  obtain ⟨d1, d2, d3⟩ := gn_bytes (s := s) (q := q1 + 1) (k := 3) (by omega) (by omega) g2
  have d1' : getT s ((q1 + 1 : Nat) : Int) 3 = ((q1 + 1 + 3 : Nat) : Int) := d1
  have d3' : putS (getR s ((q1 + 1 : Nat) : Int) 3) 3 = s.extract (q1 + 1) (q1 + 1 + 3) := d3
  have p2 : gnP s ((q1 + 1 : Nat) : Int) (gnE s (ndF s q 0).p (ndF s q 0).e 1) 3 = ((q1 + 1 + 3 : Nat) : Int) := by rw [h1, gnP, if_pos rfl, d1']
  rw [p1, p2] at g3
  obtain ⟨f1, f2, f3⟩ := gn_bytes (s := s) (q := q1 + 1 + 3) (k := 3) (by omega) (by omega) g3
  have f1' : getT s ((q1 + 1 + 3 : Nat) : Int) 3 = ((q1 + 1 + 3 + 3 : Nat) : Int) := f1
  have f3' : putS (getR s ((q1 + 1 + 3 : Nat) : Int) 3) 3 = s.extract (q1 + 1 + 3) (q1 + 1 + 3 + 3) := f3
  refine ⟨q1 + 1 + 3 + 3, ?_, by omega, f2, ?_⟩
  · show gnP s (gnP s (gnP s (ndF s q 0).p (ndF s q 0).e 1) (gnE s (ndF s q 0).p (ndF s q 0).e 1) 3) (gnE s (gnP s (ndF s q 0).p (ndF s q 0).e 1) (gnE s (ndF s q 0).p (ndF s q 0).e 1) 3) 3 = _
    rw [p1, p2, h2, gnP, if_pos rfl, f1']
  · show cat (putS ((ndF s q 0).ns.length : Nat) 1 :: (needsP (ndF s q 0).ns ++ [putS (gnR s (ndF s q 0).p (ndF s q 0).e 1) 1, putS (gnR s (gnP s (ndF s q 0).p (ndF s q 0).e 1) (gnE s (ndF s q 0).p (ndF s q 0).e 1) 3) 3, putS (gnR s (gnP s (gnP s (ndF s q 0).p (ndF s q 0).e 1) (gnE s (ndF s q 0).p (ndF s q 0).e 1) 3) (gnE s (gnP s (ndF s q 0).p (ndF s q 0).e 1) (gnE s (ndF s q 0).p (ndF s q 0).e 1) 3) 3) 3])) = _
    rw [p1, p2, h2, h1, hA, e1]
    rw [show gnR s (q1 : Int) 0 1 = getR s q1 1 from if_pos rfl, show gnR s ((q1 + 1 : Nat) : Int) 0 3 = getR s ((q1 + 1 : Nat) : Int) 3 from if_pos rfl, show gnR s ((q1 + 1 + 3 : Nat) : Int) 0 3 = getR s ((q1 + 1 + 3 : Nat) : Int) 3 from if_pos rfl, c3', d3', f3', hK]
    rw [show ∀ (A : ByteArray) (B : List ByteArray) (C D E : ByteArray), A :: (B ++ [C, D, E]) = [A] ++ (B ++ ([C] ++ ([D] ++ [E]))) by intros; rfl, cat_append, cat_append, cat_append, cat_append, cat_one, cat_one, cat_one, cat_one, b1]
    rw [extract_join _ _ _ _ (by omega) (by omega), extract_join _ _ _ _ (by omega) (by omega), extract_join _ _ _ _ (by omega) (by omega), extract_join _ _ _ _ (by omega) (by omega)]

theorem dg_bytes {s : ByteArray} {q : Nat} (hq : q ≤ s.size) : ∀ j, (dgSt s q 0 j).e = 0 → ∃ q', (dgSt s q 0 j).p = ((q' : Nat) : Int) ∧ q ≤ q' ∧ q' ≤ s.size ∧ cat (tasksP (dgSt s q 0 j).ts) = s.extract q q'
  | 0, _ => ⟨q, rfl, Nat.le_refl _, hq, by apply bytes_ext; rw [extract_data']; simp [tasksP, dgSt, cat]⟩
  | j + 1, h => by
    have h0 : (dgSt s q 0 j).e = 0 := by
      cases Classical.em ((dgSt s q 0 j).e = 0) with
      | inl h1 => exact h1
      | inr h1 => rw [dgSt_stuck h1 1] at h; exact h
    obtain ⟨q1, e1, l1, l2, b1⟩ := dg_bytes hq j h0
    have h' : (tkSt s (dgSt s q 0 j).p (dgSt s q 0 j).e).e = 0 := h
    rw [e1, h0] at h'
    obtain ⟨q2, e2, l3, l4, b2⟩ := tk_bytes l2 h'
    refine ⟨q2, ?_, by omega, l4, ?_⟩
    · show (tkSt s (dgSt s q 0 j).p (dgSt s q 0 j).e).p = _
      rw [e1, h0, e2]
    · show cat (tasksP ((dgSt s q 0 j).ts ++ [(tkSt s (dgSt s q 0 j).p (dgSt s q 0 j).e).t])) = _
      rw [tasksP_append, cat_append, b1, e1, h0, show tasksP [(tkSt s q1 0).t] = taskP (tkSt s q1 0).t by simp [tasksP], b2, extract_join _ _ _ _ (by omega) (by omega)]

theorem get_once {s : ByteArray} (h : gtE s = 0) : rightG (gtN s) (gtT s) = 0 ∧ putD (gtN s) (gtT s) = s := by
  obtain ⟨h1, h2, h3⟩ := gtE_ok h
  rw [gtN, gtT, if_pos h, if_pos h]
  refine ⟨h3, ?_⟩
  have h0 : gnE s (cutT s 0) (cutE s 0) 1 = 0 := by
    cases Classical.em (gnE s (cutT s 0) (cutE s 0) 1 = 0) with
    | inl h4 => exact h4
    | inr h4 =>
      have := dgSt_stuck (s := s) (p := gnP s (cutT s 0) (cutE s 0) 1) (e := gnE s (cutT s 0) (cutE s 0) 1) (j := 0) h4 (dgM s)
      rw [Nat.zero_add] at this
      rw [show dgSt s (gnP s (cutT s 0) (cutE s 0) 1) (gnE s (cutT s 0) (cutE s 0) 1) (dgM s) = dgF s by rfl, h1] at this
      exact this.symm
  obtain ⟨hc, hg⟩ := gn_ok h0
  obtain ⟨q0, c1, c2, c3, c4, c5, c6⟩ := cut_text (s := s) (p := 0) hc
  have c1' : cutT s 0 = (q0 : Int) := c1
  rw [c1'] at hg
  obtain ⟨a1, a2, a3⟩ := gn_bytes (s := s) (q := q0) (k := 1) (by omega) (by omega) hg
  have a1' : getT s q0 1 = ((q0 + 1 : Nat) : Int) := a1
  have a3' : putS (getR s q0 1) 1 = s.extract q0 (q0 + 1) := a3
  have hF : dgF s = dgSt s ((q0 + 1 : Nat) : Int) 0 (dgM s) := by
    unfold dgF
    rw [h0, c1', hc, gnP, if_pos rfl, a1']
  obtain ⟨q1, e1, l1, l2, b1⟩ := dg_bytes (s := s) (q := q0 + 1) a2 (dgM s) (by rw [← hF]; exact h1)
  rw [← hF] at e1 b1
  have hq : q1 = s.size := by rw [h2] at e1; omega
  have hl : ((dgF s).ts.length : Int) = getR s q0 1 := by
    rw [hF, dgSt_len, ← (dgM_le s).2, c1', hc, gnR, if_pos rfl]
  have c6' : textS (cutS s 0) = s.extract 0 q0 := c6
  unfold putD partsD
  rw [show ∀ (A B : ByteArray) (C : List ByteArray), A :: B :: C = [A] ++ ([B] ++ C) by intros; rfl, cat_append, cat_append, cat_one, cat_one, b1, hl, a3', c6', extract_join _ _ _ _ (by omega) (by omega), extract_join _ _ _ _ (by omega) (by omega), hq]
  apply bytes_ext
  rw [extract_data', List.drop_zero, Nat.sub_zero, List.take_of_length_le]
  rw [Array.length_toList]
  exact Nat.le_refl _

/-! Lengths -/

theorem sum_le {l : List Nat} {b : Nat} (h : ∀ x ∈ l, x ≤ b) : l.sum ≤ b * l.length := by
  induction l with
  | nil => simp
  | cons x xs ih =>
    have h1 := h x (by simp)
    have h2 := ih fun y hy => h y (by simp [hy])
    rw [List.sum_cons, List.length_cons, Nat.mul_succ]
    omega

theorem putS_le (n k : Int) (j : Nat) (hk : k ≤ j) : (putS n k).size ≤ j := by
  by_cases h : putOk n k = true
  · have := putS_size h; omega
  · have : putOk n k = false := by simpa using h
    rw [putS_bad this]; exact Nat.zero_le _

theorem task_size (t : TaskP) : (cat (taskP t)).size ≤ 8 + t.needs.length := by
  rw [cat_size]
  unfold taskP
  have h0 := putS_le (t.needs.length : Int) 1 1 (by omega)
  have h1 := putS_le t.tries 1 1 (by omega)
  have h2 := putS_le t.wait 3 3 (by omega)
  have h3 := putS_le t.lease 3 3 (by omega)
  have h4 : ((needsP t.needs).map (·.size)).sum ≤ 1 * ((needsP t.needs).map (·.size)).length := sum_le fun x hx => by
    obtain ⟨y, hy, rfl⟩ := List.mem_map.1 hx
    obtain ⟨z, _, rfl⟩ := List.mem_map.1 hy
    exact putS_le z 1 1 (by omega)
  simp [needsP] at h4 ⊢
  omega

theorem tasks_size {ts : List TaskP} {b : Nat} (h : ∀ t ∈ ts, t.needs.length ≤ b) : (cat (tasksP ts)).size ≤ (8 + b) * ts.length := by
  induction ts with
  | nil => simp [tasksP, cat, ByteArray.size]
  | cons t ts ih =>
    have h1 := task_size t
    have h2 := h t (by simp)
    have h3 := ih fun u hu => h u (by simp [hu])
    rw [tasksP_cons, cat_append, ByteArray.size_append, List.length_cons, Nat.mul_succ]
    omega

theorem putD_size {nm : ByteArray} {ts : List TaskP} (h : rightG nm ts = 0) : (putD nm ts).size ≤ 200 := by
  obtain ⟨h1, h2, h3⟩ := right_ok h
  have h4 := tasks_size (b := 10) (ts := ts) fun t ht => (h3 t ht).2
  have h5 := putS_le (ts.length : Int) 1 1 (by omega)
  have h6 := textS_size (s := nm) (by omega)
  unfold putD partsD
  rw [show ∀ (A B : ByteArray) (C : List ByteArray), A :: B :: C = [A] ++ ([B] ++ C) by intros; rfl, cat_append, cat_append, cat_one, cat_one, ByteArray.size_append, ByteArray.size_append]
  omega

end Go.Proofs.Ytmjhapkhfelbpaa.Plain
