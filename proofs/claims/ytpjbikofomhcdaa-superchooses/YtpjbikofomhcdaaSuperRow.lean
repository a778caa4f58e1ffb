/-
  Rows of superblocks as they are handed in; what the statement makes of them, on plain lists.
-/
import Derived.Test.YtpjbikofomhcdaaSuperMem
import Derived.Test.YtpjbikofomhcdaaSuperPlain
import Derived.Deep.SlicePairs
namespace Go.Proofs.Ytpjbikofomhcdaa.Plain
open Go.RowKit

abbrev Sup := Int × Int × Int × Int
def okU (u : Sup) : Bool := rightSu u.1 u.2.1 u.2.2.1 u.2.2.2
def sU (u : Sup) : ByteArray := suS u.1 u.2.1 u.2.2.1 u.2.2.2
/-- What the statement lays down for one superblock. -/
def bytU (q : ByteArray) (u : Sup) : ByteArray := if okU u then sU u else q
def mostU (us : List Sup) : Int := us.foldl (fun m u => if okU u then max m u.1 else m) 0

theorem bytU_gen {q : ByteArray} (hq : ¬ suE q = 0) (u : Sup) : suG (bytU q u) = if okU u then u.1 else 0 := by
  unfold bytU
  by_cases h : okU u = true
  · rw [if_pos h, if_pos h]; exact (su_back h).2.1
  · rw [if_neg h, if_neg h, suG, if_neg hq]

theorem okU_gen {u : Sup} (h : okU u = true) : 1 ≤ u.1 := ((rightSu_iff _ _ _ _).1 h).1.1

theorem most_fold {q : ByteArray} (hq : ¬ suE q = 0) (us : List Sup) : ∀ m0 : Int, 0 ≤ m0 →
    m0 ≤ us.foldl (fun m u => if okU u then max m u.1 else m) m0 ∧ (∀ u ∈ us, suG (bytU q u) ≤ us.foldl (fun m u => if okU u then max m u.1 else m) m0) ∧
      (us.foldl (fun m u => if okU u then max m u.1 else m) m0 = m0 ∨ ∃ u ∈ us, us.foldl (fun m u => if okU u then max m u.1 else m) m0 = suG (bytU q u)) := by
  induction us with
  | nil => intro m0 h; exact ⟨Int.le_refl _, fun u hu => (by cases hu), .inl rfl⟩
  | cons u us ih =>
    intro m0 h0
    have hg := bytU_gen hq u
    rw [List.foldl_cons]
    by_cases h : okU u = true
    · rw [if_pos h] at hg ⊢
      obtain ⟨a, b, c⟩ := ih (max m0 u.1) (by omega)
      refine ⟨by omega, fun x hx => ?_, ?_⟩
      · rcases List.mem_cons.1 hx with rfl | hx
        · omega
        · exact b x hx
      · rcases c with c | ⟨x, hx, c⟩
        · by_cases hle : m0 ≤ u.1
          · exact .inr ⟨u, List.mem_cons_self .., by omega⟩
          · exact .inl (by omega)
        · exact .inr ⟨x, List.mem_cons_of_mem _ hx, c⟩
    · rw [if_neg h] at hg ⊢
      obtain ⟨a, b, c⟩ := ih m0 h0
      refine ⟨a, fun x hx => ?_, ?_⟩
      · rcases List.mem_cons.1 hx with rfl | hx
        · omega
        · exact b x hx
      · rcases c with c | ⟨x, hx, c⟩
        · exact .inl c
        · exact .inr ⟨x, List.mem_cons_of_mem _ hx, c⟩

/-- The one that counts has the greatest Gen. -/
theorem best_most {q : ByteArray} (hq : ¬ suE q = 0) {us : List Sup} {t : ByteArray} {i : Nat} (h : Best (us.map (bytU q)) t i) : suG t = mostU us := by
  obtain ⟨a, b, c⟩ := most_fold hq us 0 (Int.le_refl _)
  have p := (suG_pos (s := t)).1
  have h1 : mostU us ≤ suG t := by
    rcases c with c | ⟨u, hu, c⟩
    · show us.foldl _ 0 ≤ _; omega
    · obtain ⟨j, hj⟩ := List.getElem?_of_mem hu
      have := h.1 j (bytU q u) (by rw [List.getElem?_map, hj]; rfl)
      show us.foldl _ 0 ≤ _; omega
  have h2 : suG t ≤ mostU us := by
    by_cases h0 : suG t = 0
    · show _ ≤ us.foldl _ 0; omega
    · obtain ⟨hx, _⟩ := h.2.2 (by omega)
      rw [List.getElem?_map] at hx
      cases hu : us[i]? with
      | none => rw [hu] at hx; cases hx
      | some u =>
        rw [hu] at hx
        obtain rfl : bytU q u = t := Option.some.inj hx
        exact b u (List.mem_of_getElem? hu)
  omega

theorem most_next {us : List Sup} {j : Nat} {u : Sup} (h : us[j]? = some u) : mostU (us.take (j + 1)) = if okU u then max (mostU (us.take j)) u.1 else mostU (us.take j) := by
  rw [List.take_add_one, h, mostU, Option.toList_some, List.foldl_append]
  rfl

theorem byt_next {q : ByteArray} {us : List Sup} {j : Nat} {u : Sup} (h : us[j]? = some u) : (us.take (j + 1)).map (bytU q) = (us.take j).map (bytU q) ++ [bytU q u] := by
  rw [List.take_add_one, h, Option.toList_some, List.map_append]
  rfl

theorem byt_size {q : ByteArray} (hq : q.size ≤ maxLen) (us : List Sup) : ∀ x ∈ us.map (bytU q), x.size ≤ maxLen := by
  intro x hx
  obtain ⟨u, _, rfl⟩ := List.mem_map.1 hx
  unfold bytU
  by_cases h : okU u = true
  · rw [if_pos h]
    have := su_size u.1 u.2.1 u.2.2.1 u.2.2.2
    show (suS _ _ _ _).size ≤ _
    unfold maxLen; omega
  · rw [if_neg h]; exact hq

end Go.Proofs.Ytpjbikofomhcdaa.Plain
namespace Go.Proofs.Ytpjbikofomhcdaa
open Go.RowKit Plain Go.ChangeShapes Go.WideShapes
set_option linter.unusedVariables false

def IsU (w : World) (a : Option Addr) (c : Nat) (us : List Sup) : Prop :=
  us.length ≤ c ∧ c ≤ maxLen ∧ ∀ (j : Nat) u, us[j]? = some u → ∃ b o, a = some ⟨b, o, none⟩ ∧ b < w.heap.size ∧ w.cell? ⟨b, o + j * 4, none⟩ = some (.int .i64 u.1) ∧ w.cell? ⟨b, o + j * 4 + 1, none⟩ = some (.int .i64 u.2.1) ∧ w.cell? ⟨b, o + j * 4 + 2, none⟩ = some (.int .i64 u.2.2.1) ∧ w.cell? ⟨b, o + j * 4 + 3, none⟩ = some (.int .i64 u.2.2.2)

theorem IsU.take {w : World} {a : Option Addr} {c : Nat} {ms : List Sup} (h : IsU w a c ms) (n : Nat) : IsU w a c (ms.take n) := by
  refine ⟨by rw [List.length_take]; have := h.1; omega, h.2.1, fun j x hx => h.2.2 j x ?_⟩
  rw [List.getElem?_take] at hx
  split at hx
  · exact hx
  · cases hx

theorem IsU.size {w : World} {a : Option Addr} {c : Nat} {bs : List Sup} (h : IsU w a c bs) : bs.length ≤ 9223372036854775807 := Nat.le_trans h.1 h.2.1

theorem list_four {α : Type} (l : List α) (h : l.length = 4) : ∃ a b c d, l = [a, b, c, d] := by
  match l, h with
  | [a, b, c, d], _ => exact ⟨a, b, c, d, rfl⟩

set_option maxRecDepth 20000 in
theorem open_supers {H : Type} {enc : TypeId × Value → H} {w : World} {r : Reach} {b0 : Nat} {v : Value} {d : DataW H} {p : List MemPlace}
    (hv : Value.okWide Try.prog w r b0 38 v) (h : DataW.Trod enc Try.prog w 0 (fun _ => true) true 38 v d p) :
    ∃ a c xs, v = .slice a xs.length c ∧ IsU w a c xs := by
  obtain ⟨a, len, cap, rfl⟩ := okWide_slice Try.underlying38 hv
  obtain ⟨fuel, hf⟩ := h
  have hf' : DataW.trod enc Try.prog w 0 (fun _ => true) true fuel 38 [.slice a len cap] = some (d, p) := by simpa [Value.cells] using hf
  have ce : Try.prog.cellsOf 23 = 4 := by kernel_rfl
  rcases Deep.open_slice Try.underlying38 hf' with ⟨hcs, _⟩ | ⟨a, l, c, m, n, D, Pl, hcs, _, hl, hm, hmm, _, hcell⟩
  · simp at hcs
    obtain ⟨rfl, rfl, rfl⟩ := hcs
    exact ⟨none, 0, [], rfl, Nat.le_refl _, Nat.zero_le _, fun j u hu => by simp at hu⟩
  · simp at hcs
    obtain ⟨rfl, rfl, rfl⟩ := hcs
    simp at hmm
    have each : ∀ i, i < m → ∃ p : Sup, w.cell? (a.add (i * 4)) = some (.int .i64 p.1) ∧ w.cell? (a.add (i * 4 + 1)) = some (.int .i64 p.2.1) ∧ w.cell? (a.add (i * 4 + 2)) = some (.int .i64 p.2.2.1) ∧ w.cell? (a.add (i * 4 + 3)) = some (.int .i64 p.2.2.2) := by
      intro i hi
      obtain ⟨cs', h1, h2⟩ := hcell i hi
      rw [ce] at h1
      obtain ⟨_, hlen, hc⟩ := World.cells?_some h1
      obtain ⟨y0, y1, y2, y3, k, _, _, g0, g1, g2, g3⟩ := Joins.trod_struct4 Try.underlying23 h2
      obtain ⟨v0, v1, v2, v3, rfl⟩ := list_four cs' hlen
      obtain ⟨x0, e0, _⟩ := DataW.trod_int (k := .i64) Try.underlying3 g0
      obtain ⟨x1, e1, _⟩ := DataW.trod_int (k := .i64) Try.underlying3 g1
      obtain ⟨x2, e2, _⟩ := DataW.trod_int (k := .i64) Try.underlying3 g2
      obtain ⟨x3, e3, _⟩ := DataW.trod_int (k := .i64) Try.underlying3 g3
      have ci : Try.prog.cellsOf 3 = 1 := by kernel_rfl
      simp [ci] at e0 e1 e2 e3
      subst e0 e1 e2 e3
      have c0 := hc 0 (by omega)
      have c1 := hc 1 (by omega)
      have c2 := hc 2 (by omega)
      have c3 := hc 3 (by omega)
      rw [Deep.add_add] at c0 c1 c2 c3
      exact ⟨(x0, x1, x2, x3), by simpa using c0, by simpa using c1, by simpa using c2, by simpa using c3⟩
    obtain ⟨q, hq⟩ := Deep.choose_lt each
    refine ⟨some a, cap, (List.range len).map q, by simp, by simpa using hl, hm, fun j p hp => ?_⟩
    have hj : j < len := by simpa using (List.getElem?_eq_some_iff.1 hp).1
    rw [List.getElem?_map, List.getElem?_range hj] at hp
    obtain rfl : q j = p := Option.some.inj hp
    obtain ⟨h0, h1, h2, h3⟩ := hq j (by omega)
    obtain ⟨b, o, rfl, hb⟩ := spot_none (hq 0 (by omega)).1
    rw [at_add] at h0 h1 h2 h3
    exact ⟨b, o, rfl, hb, h0, by rw [Nat.add_assoc]; exact h1, by rw [Nat.add_assoc]; exact h2, by rw [Nat.add_assoc]; exact h3⟩

end Go.Proofs.Ytpjbikofomhcdaa
