/-
  slices.Contains at numbers; package page's Want.
-/
import Derived.Test.YtcdcnonkoffbhaaPageGet
namespace Go.Proofs.Ytcdcnonkoffbhaa
open Go.RowKit Plain
set_option linter.unusedVariables false

theorem not_take {ms : List Int} {v x : Int} {j : Nat} (h : ∀ y ∈ ms.take j, ¬ y = v) (hx : ms[j]? = some x) (hne : ¬ v = x) : ∀ y ∈ ms.take (j + 1), ¬ y = v := by
  intro y hy
  rw [List.take_add_one, hx] at hy
  simp at hy
  rcases hy with hy | hy
  · exact h y hy
  · subst hy; exact fun e => hne e.symm

set_option maxHeartbeats 400000 in
theorem index_any (a : Option Addr) (c : Nat) (ms : List Int) (v : Int) (w : World) (hI : IsI w a c ms) :
    Calls Try.prog 78 #[.slice a ms.length c, .int .i64 v] w fun e w' => (∃ r : Int, e = .returned (.int .i64 r) ∧ (decide (0 ≤ r) = decide (v ∈ ms))) ∧ w = w' := by
  have hm : ms.length ≤ 9223372036854775807 := Nat.le_trans hI.1 hI.2.1
  have HI : Hid (IsI w a c ms) := hI
  clear hI
  go_enter Try.func78, Try.ntmps78
  go_wp2
  go_loop [8] (fun u => ∃ j : Nat, j ≤ ms.length ∧ u = .int .i64 j ∧ ∀ y ∈ ms.take j, ¬ y = v) (fun u => ms.length - (intOf u).toNat)
  case atStart => exact ⟨0, by omega, rfl, fun y hy => by simp at hy⟩
  case round =>
    obtain ⟨j, hj, rfl, HA⟩ := hrel
    by_cases hlt : j < ms.length
    · obtain ⟨x, hx⟩ : ∃ x, ms[j]? = some x := ⟨_, List.getElem?_eq_getElem hlt⟩
      obtain ⟨b, o, rfl, hlb, hc⟩ := HI.out.2.2 j x hx
      have hmem : Hid (x ∈ ms) := List.mem_of_getElem? hx
      have hA' : Hid (¬ v = x → ∀ y ∈ ms.take (j + 1), ¬ y = v) := not_take HA hx
      clear HA hx hlb
      have hlt' : (j : Int) < ms.length := by omega
      by_cases he : v = x
      · subst he
        go_wp2
        go_ret
        exact ⟨⟨j, rfl, by simpa using hmem.out⟩, rfl⟩
      · have he' : (v == x) = false := by simpa using he
        go_wp2
        go_round
        case rel => exact ⟨j + 1, by omega, by go_num, hA'.out he⟩
        case measure => simp [intOf]; omega
    · obtain rfl : j = ms.length := by omega
      rw [List.take_length] at HA
      have HB : Hid (¬ v ∈ ms) := fun h => HA v h rfl
      clear HA hj hlt
      go_wp2
      go_ret
      exact ⟨⟨-1, rfl, by simpa using HB.out⟩, rfl⟩

theorem contains_any (a : Option Addr) (c : Nat) (ms : List Int) (v : Int) (w : World) (hI : IsI w a c ms) :
    Calls Try.prog 54 #[.slice a ms.length c, .int .i64 v] w fun e w' => e = .returned (.bool (decide (v ∈ ms))) ∧ w = w' := by
  have c1 := index_any a c ms v w hI
  obtain ⟨n, hn⟩ : ∃ n, n = ms.length := ⟨_, rfl⟩
  rw [← hn] at c1 ⊢
  clear hI hn
  go_enter Try.func54, Try.ntmps54
  go_wp2_with (go_at_call 78; refine c1.mono ?_; rintro e w1 ⟨⟨r, rfl, hr⟩, rfl⟩; have hr' : Hid _ := hr; clear hr)
  go_ret
  exact ⟨ret_bool hr'.out, rfl⟩

/-- What Want hands back. -/
def wantE (s : ByteArray) (ms : List Int) : Int := if readE s = 0 then (if readK s ∈ ms then 0 else 40) else readE s
def wantK (s : ByteArray) (ms : List Int) : Int := if wantE s ms = 0 then readK s else 0
def wantG (s : ByteArray) (ms : List Int) : Int := if wantE s ms = 0 then readG s else 0
def wantB (s : ByteArray) (ms : List Int) : ByteArray := if wantE s ms = 0 then readB s else ⟨#[]⟩

set_option maxHeartbeats 1000000 in
theorem want_any (s : ByteArray) (a : Option Addr) (c : Nat) (ms : List Int) (w : World) (hs : s.size ≤ maxLen) (hI : IsI w a c ms) :
    Calls Try.prog 30 #[.string s, .slice a ms.length c] w fun e w' => e = .returned (.tuple #[.agg #[.int .i64 (wantK s ms), .int .i64 (wantG s ms), .string (wantB s ms)], .int .i64 (wantE s ms)]) ∧ Below w.heap.size w w' := by
  have c1 := fun W => pageGet_any s W hs
  obtain ⟨E, hE⟩ : ∃ E, E = readE s := ⟨_, rfl⟩
  obtain ⟨K, hK⟩ : ∃ K, K = readK s := ⟨_, rfl⟩
  obtain ⟨G, hG⟩ : ∃ G, G = readG s := ⟨_, rfl⟩
  obtain ⟨B, hB⟩ : ∃ B, B = readB s := ⟨_, rfl⟩
  have c2 : ∀ W, Below w.heap.size w W → Calls Try.prog 54 #[.slice a ms.length c, .int .i64 K] W fun e w' => e = .returned (.bool (decide (K ∈ ms))) ∧ W = w' :=
    fun W hW => contains_any a c ms K W (hI.below hW)
  have xE : wantE s ms = if E = 0 then (if K ∈ ms then 0 else 40) else E := by rw [hE, hK]; rfl
  have xK : wantK s ms = if wantE s ms = 0 then K else 0 := by rw [hK]; rfl
  have xG : wantG s ms = if wantE s ms = 0 then G else 0 := by rw [hG]; rfl
  have xB : wantB s ms = if wantE s ms = 0 then B else ⟨#[]⟩ := by rw [hB]; rfl
  rw [← hE, ← hK, ← hG, ← hB] at c1
  clear hE hK hG hB hI
  obtain ⟨n, hn⟩ : ∃ n, n = ms.length := ⟨_, rfl⟩
  rw [← hn] at c2 ⊢
  clear hn
  obtain ⟨rE, hrE⟩ : ∃ r, r = wantE s ms := ⟨_, rfl⟩
  obtain ⟨rK, hrK⟩ : ∃ r, r = wantK s ms := ⟨_, rfl⟩
  obtain ⟨rG, hrG⟩ : ∃ r, r = wantG s ms := ⟨_, rfl⟩
  obtain ⟨rB, hrB⟩ : ∃ r, r = wantB s ms := ⟨_, rfl⟩
  rw [← hrE, ← hrK, ← hrG, ← hrB]
  rw [← hrE] at xE xK xG xB
  rw [← hrK] at xK
  rw [← hrG] at xG
  rw [← hrB] at xB
  clear hrE hrK hrG hrB
  by_cases h0 : E = 0
  · rw [if_pos h0] at xE
    by_cases hm : K ∈ ms
    · rw [if_pos hm] at xE
      rw [xE] at xK xG xB ⊢
      rw [show rK = K from xK, show rG = G from xG, show rB = B from xB]
      have hd : ∀ W, Below w.heap.size w W → Calls Try.prog 54 #[.slice a n c, .int .i64 K] W fun e w' => e = .returned (.bool true) ∧ W = w' := by
        intro W hW; have := c2 W hW; rwa [decide_eq_true hm] at this
      clear xE xK xG xB c2 hm
      subst h0
      go_enter Try.func30, Try.ntmps30
      go_wp2_with (first
        | (go_at_call 53; refine (c1 _).mono ?_; rintro e w1 ⟨rfl, hb⟩; have hB := below_box hb; obtain ⟨⟨q0, q1, q2⟩, f0, f1, f2⟩ := ((box3_new _ _ _ _ _).below hb).alloc (.cells #[.int .i64 K, .int .i64 G, .string B] 57); replace hB := hB.alloc hB.size (.cells #[.int .i64 K, .int .i64 G, .string B] 57); clear hb)
        | (go_at_call 54; refine (hd _ hB).mono ?_; rintro e w2 ⟨rfl, rfl⟩))
      obtain ⟨z0, z1, z2⟩ := set3_cells (v0 := .int .i64 K) (v1 := .int .i64 G) (v2 := .string B) q0 q1 q2
      exact bodyPost_ret (v := .tuple #[.agg #[.int .i64 K, .int .i64 G, .string B], .int .i64 0]) (by simp [results, Try.results30, go_sem, z0, z1, z2]) rfl ⟨rfl, below_set3 hB (Nat.le_refl _)⟩
    · rw [if_neg hm] at xE
      rw [xE] at xK xG xB ⊢
      rw [show rK = 0 from xK, show rG = 0 from xG, show rB = ⟨#[]⟩ from xB]
      have hd : ∀ W, Below w.heap.size w W → Calls Try.prog 54 #[.slice a n c, .int .i64 K] W fun e w' => e = .returned (.bool false) ∧ W = w' := by
        intro W hW; have := c2 W hW; rwa [decide_eq_false hm] at this
      clear xE xK xG xB c2 hm
      subst h0
      go_enter Try.func30, Try.ntmps30
      go_wp2_with (first
        | (go_at_call 53; refine (c1 _).mono ?_; rintro e w1 ⟨rfl, hb⟩; have hB := below_box hb; obtain ⟨⟨q0, q1, q2⟩, f0, f1, f2⟩ := ((box3_new _ _ _ _ _).below hb).alloc (.cells #[.int .i64 K, .int .i64 G, .string B] 57); replace hB := hB.alloc hB.size (.cells #[.int .i64 K, .int .i64 G, .string B] 57); clear hb)
        | (go_at_call 54; refine (hd _ hB).mono ?_; rintro e w2 ⟨rfl, rfl⟩))
      obtain ⟨z0, z1, z2⟩ := set3_cells (v0 := .int .i64 0) (v1 := .int .i64 0) (v2 := .string ⟨#[]⟩) q0 q1 q2
      exact bodyPost_ret (v := .tuple #[.agg #[.int .i64 0, .int .i64 0, .string ⟨#[]⟩], .int .i64 40]) (by simp [results, Try.results30, go_sem, z0, z1, z2]) rfl ⟨rfl, below_set3 hB (Nat.le_refl _)⟩
  · rw [if_neg h0] at xE
    rw [if_neg (by rw [xE]; exact h0)] at xK xG xB
    rw [xK, xG, xB, xE]
    clear xE xK xG xB c2
    have h0' : (E == 0) = false := by simpa using h0
    go_enter Try.func30, Try.ntmps30
    go_wp2_with (first
      | (go_at_call 53; refine (c1 _).mono ?_; rintro e w1 ⟨rfl, hb⟩; have hB := below_box hb; obtain ⟨⟨q0, q1, q2⟩, f0, f1, f2⟩ := ((box3_new _ _ _ _ _).below hb).alloc (.cells #[.int .i64 K, .int .i64 G, .string B] 57); replace hB := hB.alloc hB.size (.cells #[.int .i64 K, .int .i64 G, .string B] 57); clear hb))
    obtain ⟨z0, z1, z2⟩ := set3_cells (v0 := .int .i64 0) (v1 := .int .i64 0) (v2 := .string ⟨#[]⟩) q0 q1 q2
    exact bodyPost_ret (v := .tuple #[.agg #[.int .i64 0, .int .i64 0, .string ⟨#[]⟩], .int .i64 E]) (by simp [results, Try.results30, go_sem, z0, z1, z2]) rfl ⟨rfl, below_set3 hB (Nat.le_refl _)⟩

end Go.Proofs.Ytcdcnonkoffbhaa
