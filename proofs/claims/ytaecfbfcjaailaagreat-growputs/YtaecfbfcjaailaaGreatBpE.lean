/-
  Texts laid together: LookOwn LookLaw NodeLike NodeIn LookRightsOf PageWant LookLoad GrowConcat GrowMem GrowClone GrowBox GrowCopied Anylate GrowWrite GrowLay GrowRenew GrowReplace NodeFind GrowWay GrowEqual GrowSplice GrowConcatI GrowSpliceI NodeJoin GrowRow.
-/
import Derived.Test.YtaecfbfcjaailaaGreatBpC
import Derived.Test.YtaecfbfcjaailaaGreatBpA
import Derived.Test.YtaecfbfcjaailaaGreatBpB
import Derived.Deep.RegionHeld3
import Derived.Test.YtaecfbfcjaailaaGreatBpD
import Derived.Lib.AppendZeros
import Derived.BigQuiet
namespace Go.Proofs.YtaecfbfcjaailaaGreat
open Go.RowKit Plain
set_option linter.unusedVariables false
set_option maxRecDepth 20000 in
theorem haveRoom_any (b : Option Addr) (p f : Nat) (ps : List ByteArray) (w : World) (hp : p = ps.length) (hP : IsS w b f ps) :
  Calls Tryz.prog 44 #[.slice b p f] w fun e w' => e = .returned (.bool (ps.all fun s => decide (s.size ≤ 4096))) ∧ Below w.heap.size w w' := by
 have mp : p ≤ 9223372036854775807 := by rw [hp]; exact Nat.le_trans hP.1 hP.2.1
 have EP : Hid (p = ps.length) := hp
 have RP : Hid (IsS w b f ps) := hP
 have HB : Below w.heap.size w w := Below.refl _ _
 obtain ⟨r, hr⟩ : ∃ r, Hid (r = ps.all fun s => decide (s.size ≤ 4096)) := ⟨_, rfl⟩
 rw [← hr.out]
 clear hp hP
 go_enter Tryz.func44, Tryz.ntmps44
 go_wp2
 go_loop [7] (fun v => ∃ j : Nat, j ≤ p ∧ v = .int .i64 j ∧ (ps.take j).all (fun s => decide (s.size ≤ 4096)) = true) (fun v => p - (intOf v).toNat)
 case atStart => exact ⟨0, by omega, rfl, rfl⟩
 case round =>
  obtain ⟨j, hj, rfl, hA⟩ := hrel
  have HA : Hid ((ps.take j).all (fun s => decide (s.size ≤ 4096)) = true) := hA
  clear hA
  by_cases hlt : j < p
  ·
   have hlt' : (j : Int) < p := by omega
   obtain ⟨s, hs⟩ : ∃ x, Hid (ps[j]? = some x) := get_some (by rw [← EP.out]; exact hlt)
   obtain ⟨b1, o1, rfl, -, hc, hss⟩ := RP.out.2.2 j s hs.out
   by_cases hsz : s.size ≤ 4096
   ·
    have hsz' : ¬ (4096 : Int) < s.size := by omega
    go_wp2
    go_round
    case rel => exact ⟨j + 1, by omega, by go_num, by rw [all_more hs.out, HA.out, decide_eq_true hsz]; rfl⟩
    case measure => simp [intOf]; omega
   ·
    have hsz' : (4096 : Int) < s.size := by omega
    have hrf : Hid (r = false) := by
     show _ = _
     rw [hr.out, List.all_eq_false.2 ⟨s, List.mem_of_getElem? hs.out, by simpa using hsz⟩]
    go_wp2
    go_ret
    exact ⟨by rw [hrf.out]; rfl, HB⟩
  ·
   obtain rfl : p = j := by omega
   have hj0 : ¬ (p : Int) < p := by omega
   have hall : Hid (r = true) := by
    show _ = _
    have := HA.out
    rw [EP.out, List.take_length] at this
    rw [hr.out]
    exact this
   go_wp2
   go_ret
   exact ⟨by rw [hall.out]; rfl, HB⟩
set_option maxRecDepth 20000 in
theorem behind_any (a a' b : Option Addr) (n c n' c' p f : Nat) (root gen block : Int) (w : World) (mn : n' ≤ 9223372036854775807) :
  Calls Tryz.prog 45 #[.agg #[.slice a n c, .slice a' n' c', .slice b p f, .int .i64 root, .int .i64 gen], .int .i64 block] w fun e w' => e = .returned (.bool (decide (10 ≤ block) && decide (block < (n' : Int)))) ∧ Below w.heap.size w w' := by
 have HB : Below w.heap.size w (w.alloc (.cells #[.slice a n c, .slice a' n' c', .slice b p f, .int .i64 root, .int .i64 gen] 27)) := (Below.refl _ _).alloc (Nat.le_refl _) _
 have BW := woodBox_new w (.slice a n c) (.slice a' n' c') (.slice b p f) (.int .i64 root) (.int .i64 gen) 27 rfl
 obtain ⟨x0, x1, x2, x3, x4⟩ := BW
 obtain ⟨r, hr⟩ : ∃ r, r = (decide (10 ≤ block) && decide (block < (n' : Int))) := ⟨_, rfl⟩
 rw [← hr]
 by_cases h1 : 10 ≤ block
 ·
  have hr' : Hid (r = decide (block < (n' : Int))) := by show _ = _; rw [hr, decide_eq_true h1]; rfl
  clear hr
  go_enter Tryz.func45, Tryz.ntmps45
  go_wp2
  go_ret
  exact ⟨by rw [hr'.out]; rfl, HB⟩
 ·
  have hr' : Hid (r = false) := by show _ = _; rw [hr, decide_eq_false h1]; rfl
  have h1' : ¬ 10 ≤ block := h1
  clear hr
  go_enter Tryz.func45, Tryz.ntmps45
  go_wp2
  go_ret
  exact ⟨by rw [hr'.out]; rfl, HB⟩
set_option maxRecDepth 20000 in
set_option maxHeartbeats 2000000 in
theorem lookRight_any (a a' b : Option Addr) (n c n' c' p f : Nat) (bs ns : List Bool) (ps : List ByteArray) (root gen : Int) (w : World) (hn : n = bs.length) (hn' : n' = ns.length) (hp : p = ps.length) (hB : IsB w a c bs) (hB' : IsB w a' c' ns) (hP : IsS w b f ps) :
  Calls Tryz.prog 30 #[.agg #[.slice a n c, .slice a' n' c', .slice b p f, .int .i64 root, .int .i64 gen]] w fun e w' => e = .returned (.bool (rightW bs ns ps root gen)) ∧ Below w.heap.size w w' := by
 obtain ⟨W, hW⟩ : ∃ W, W = w.alloc (.cells #[.slice a n c, .slice a' n' c', .slice b p f, .int .i64 root, .int .i64 gen] 27) := ⟨_, rfl⟩
 have HB : Below w.heap.size w W := by rw [hW]; exact (Below.refl _ _).alloc (Nat.le_refl _) _
 have BW : WoodBox W w.heap.size (.slice a n c) (.slice a' n' c') (.slice b p f) (.int .i64 root) (.int .i64 gen) := by rw [hW]; exact woodBox_new _ _ _ _ _ _ _ rfl
 have cA := allocRight_any a a' c c' n n' bs ns W hn hn' (hB.below HB) (hB'.below HB)
 have cH0 : ∀ V, Below w.heap.size w V → Calls Tryz.prog 44 #[.slice b p f] V fun e w' => e = .returned (.bool (ps.all fun s => decide (s.size ≤ 4096))) ∧ Below V.heap.size V w' := fun V hV => haveRoom_any b p f ps V hp (hP.below hV)
 have mn : n' ≤ 9223372036854775807 := by rw [hn']; exact Nat.le_trans hB'.1 hB'.2.1
 have mp : p ≤ 9223372036854775807 := by rw [hp]; exact Nat.le_trans hP.1 hP.2.1
 have cB0 : ∀ V, Calls Tryz.prog 45 #[.agg #[.slice a n c, .slice a' n' c', .slice b p f, .int .i64 root, .int .i64 gen], .int .i64 root] V fun e w' => e = .returned (.bool (decide (10 ≤ root) && decide (root < (n' : Int)))) ∧ Below V.heap.size V w' := fun V => behind_any a a' b n c n' c' p f root gen root V mn
 obtain ⟨r, hr⟩ : ∃ r, r = rightW bs ns ps root gen := ⟨_, rfl⟩
 rw [← hr]
 unfold rightW at hr
 rw [← hp, ← hn'] at hr
 obtain ⟨rA, hA⟩ : ∃ x, x = rightA bs ns := ⟨_, rfl⟩
 obtain ⟨rH, hH⟩ : ∃ x, x = ps.all fun s => decide (s.size ≤ 4096) := ⟨_, rfl⟩
 obtain ⟨rB, hBB⟩ : ∃ x, x = (decide (10 ≤ root) && decide (root < (n' : Int))) := ⟨_, rfl⟩
 rw [← hA] at hr cA
 rw [← hH, ← hBB] at hr
 obtain ⟨x0, x1, x2, x3, x4⟩ := id (hW ▸ BW)
 have cH : ∀ V, Below w.heap.size w V → Calls Tryz.prog 44 #[.slice b p f] V fun e w' => e = .returned (.bool rH) ∧ Below V.heap.size V w' := fun V hV => by rw [hH]; exact cH0 V hV
 have cB : ∀ V, Calls Tryz.prog 45 #[.agg #[.slice a n c, .slice a' n' c', .slice b p f, .int .i64 root, .int .i64 gen], .int .i64 root] V fun e w' => e = .returned (.bool rB) ∧ Below V.heap.size V w' := fun V => by rw [hBB]; exact cB0 V
 clear hn hn' hp hB hB' hP cH0 cB0 hA hH hBB
 cases rA with
 | false =>
  have hrf : Hid (r = false) := by show _ = _; rw [hr]; simp
  clear hr
  go_enter Tryz.func30, Tryz.ntmps30
  go_wp2_with (first
   | (go_at_call 43; rw [← hW]; refine cA.mono ?_; rintro y w1 ⟨rfl, hb⟩; replace HB := Below.tr HB hb; replace BW := BW.below hb; clear x0 x1 x2 x3 x4; obtain ⟨x0, x1, x2, x3, x4⟩ := id BW; clear hb)
   | (go_at_call 44; refine (cH _ HB).mono ?_; rintro y w2 ⟨rfl, hb⟩; replace HB := Below.tr HB hb; replace BW := BW.below hb; clear x0 x1 x2 x3 x4; obtain ⟨x0, x1, x2, x3, x4⟩ := id BW; clear hb)
   | (go_at_call 45; refine (cB _).mono ?_; rintro y w3 ⟨rfl, hb⟩; replace HB := Below.tr HB hb; replace BW := BW.below hb; clear x0 x1 x2 x3 x4; obtain ⟨x0, x1, x2, x3, x4⟩ := id BW; clear hb))
  go_ret
  exact ⟨by rw [hrf.out]; rfl, HB⟩
 | true =>
  by_cases h1 : p = n'
  ·
   have h1' : ((p : Int) == n') = true := by simp [h1]
   replace hr : r = (decide (1 ≤ gen) && decide (gen ≤ 1099511627776) && rH && (decide (root = 0) || rB)) := by rw [hr, decide_eq_true h1]; simp
   clear h1
   cases rH with
   | false =>
    have hrf : Hid (r = false) := by show _ = _; rw [hr]; simp
    clear hr
    go_enter Tryz.func30, Tryz.ntmps30
    go_wp2_with (first
     | (go_at_call 43; rw [← hW]; refine cA.mono ?_; rintro y w1 ⟨rfl, hb⟩; replace HB := Below.tr HB hb; replace BW := BW.below hb; clear x0 x1 x2 x3 x4; obtain ⟨x0, x1, x2, x3, x4⟩ := id BW; clear hb)
     | (go_at_call 44; refine (cH _ HB).mono ?_; rintro y w2 ⟨rfl, hb⟩; replace HB := Below.tr HB hb; replace BW := BW.below hb; clear x0 x1 x2 x3 x4; obtain ⟨x0, x1, x2, x3, x4⟩ := id BW; clear hb)
     | (go_at_call 45; refine (cB _).mono ?_; rintro y w3 ⟨rfl, hb⟩; replace HB := Below.tr HB hb; replace BW := BW.below hb; clear x0 x1 x2 x3 x4; obtain ⟨x0, x1, x2, x3, x4⟩ := id BW; clear hb))
    go_ret
    exact ⟨by rw [hrf.out]; rfl, HB⟩
   | true =>
    by_cases h2 : root = 0
    ·
     have h2' : (root == 0) = true := by simp [h2]
     replace hr : r = (decide (1 ≤ gen) && decide (gen ≤ 1099511627776)) := by rw [hr, decide_eq_true h2]; simp
     clear h2
     by_cases h3 : 1 ≤ gen
     ·
      have hrf : Hid (r = decide (gen ≤ 1099511627776)) := by show _ = _; rw [hr, decide_eq_true h3]; rfl
      clear hr
      go_enter Tryz.func30, Tryz.ntmps30
      go_wp2_with (first
       | (go_at_call 43; rw [← hW]; refine cA.mono ?_; rintro y w1 ⟨rfl, hb⟩; replace HB := Below.tr HB hb; replace BW := BW.below hb; clear x0 x1 x2 x3 x4; obtain ⟨x0, x1, x2, x3, x4⟩ := id BW; clear hb)
       | (go_at_call 44; refine (cH _ HB).mono ?_; rintro y w2 ⟨rfl, hb⟩; replace HB := Below.tr HB hb; replace BW := BW.below hb; clear x0 x1 x2 x3 x4; obtain ⟨x0, x1, x2, x3, x4⟩ := id BW; clear hb)
       | (go_at_call 45; refine (cB _).mono ?_; rintro y w3 ⟨rfl, hb⟩; replace HB := Below.tr HB hb; replace BW := BW.below hb; clear x0 x1 x2 x3 x4; obtain ⟨x0, x1, x2, x3, x4⟩ := id BW; clear hb))
      go_ret
      exact ⟨by rw [hrf.out]; rfl, HB⟩
     ·
      have hrf : Hid (r = false) := by show _ = _; rw [hr, decide_eq_false h3]; rfl
      clear hr
      go_enter Tryz.func30, Tryz.ntmps30
      go_wp2_with (first
       | (go_at_call 43; rw [← hW]; refine cA.mono ?_; rintro y w1 ⟨rfl, hb⟩; replace HB := Below.tr HB hb; replace BW := BW.below hb; clear x0 x1 x2 x3 x4; obtain ⟨x0, x1, x2, x3, x4⟩ := id BW; clear hb)
       | (go_at_call 44; refine (cH _ HB).mono ?_; rintro y w2 ⟨rfl, hb⟩; replace HB := Below.tr HB hb; replace BW := BW.below hb; clear x0 x1 x2 x3 x4; obtain ⟨x0, x1, x2, x3, x4⟩ := id BW; clear hb)
       | (go_at_call 45; refine (cB _).mono ?_; rintro y w3 ⟨rfl, hb⟩; replace HB := Below.tr HB hb; replace BW := BW.below hb; clear x0 x1 x2 x3 x4; obtain ⟨x0, x1, x2, x3, x4⟩ := id BW; clear hb))
      go_ret
      exact ⟨by rw [hrf.out]; rfl, HB⟩
    ·
     have h2' : (root == 0) = false := by simp [h2]
     replace hr : r = (decide (1 ≤ gen) && decide (gen ≤ 1099511627776) && rB) := by rw [hr, decide_eq_false h2]; simp
     cases rB with
     | false =>
      have hrf : Hid (r = false) := by show _ = _; rw [hr]; simp
      clear hr
      go_enter Tryz.func30, Tryz.ntmps30
      go_wp2_with (first
       | (go_at_call 43; rw [← hW]; refine cA.mono ?_; rintro y w1 ⟨rfl, hb⟩; replace HB := Below.tr HB hb; replace BW := BW.below hb; clear x0 x1 x2 x3 x4; obtain ⟨x0, x1, x2, x3, x4⟩ := id BW; clear hb)
       | (go_at_call 44; refine (cH _ HB).mono ?_; rintro y w2 ⟨rfl, hb⟩; replace HB := Below.tr HB hb; replace BW := BW.below hb; clear x0 x1 x2 x3 x4; obtain ⟨x0, x1, x2, x3, x4⟩ := id BW; clear hb)
       | (go_at_call 45; refine (cB _).mono ?_; rintro y w3 ⟨rfl, hb⟩; replace HB := Below.tr HB hb; replace BW := BW.below hb; clear x0 x1 x2 x3 x4; obtain ⟨x0, x1, x2, x3, x4⟩ := id BW; clear hb))
      go_ret
      exact ⟨by rw [hrf.out]; rfl, HB⟩
     | true =>
      by_cases h3 : 1 ≤ gen
      ·
       have hrf : Hid (r = decide (gen ≤ 1099511627776)) := by show _ = _; rw [hr, decide_eq_true h3]; simp
       clear hr
       go_enter Tryz.func30, Tryz.ntmps30
       go_wp2_with (first
        | (go_at_call 43; rw [← hW]; refine cA.mono ?_; rintro y w1 ⟨rfl, hb⟩; replace HB := Below.tr HB hb; replace BW := BW.below hb; clear x0 x1 x2 x3 x4; obtain ⟨x0, x1, x2, x3, x4⟩ := id BW; clear hb)
        | (go_at_call 44; refine (cH _ HB).mono ?_; rintro y w2 ⟨rfl, hb⟩; replace HB := Below.tr HB hb; replace BW := BW.below hb; clear x0 x1 x2 x3 x4; obtain ⟨x0, x1, x2, x3, x4⟩ := id BW; clear hb)
        | (go_at_call 45; refine (cB _).mono ?_; rintro y w3 ⟨rfl, hb⟩; replace HB := Below.tr HB hb; replace BW := BW.below hb; clear x0 x1 x2 x3 x4; obtain ⟨x0, x1, x2, x3, x4⟩ := id BW; clear hb))
       go_ret
       exact ⟨by rw [hrf.out]; rfl, HB⟩
      ·
       have hrf : Hid (r = false) := by show _ = _; rw [hr, decide_eq_false h3]; rfl
       clear hr
       go_enter Tryz.func30, Tryz.ntmps30
       go_wp2_with (first
        | (go_at_call 43; rw [← hW]; refine cA.mono ?_; rintro y w1 ⟨rfl, hb⟩; replace HB := Below.tr HB hb; replace BW := BW.below hb; clear x0 x1 x2 x3 x4; obtain ⟨x0, x1, x2, x3, x4⟩ := id BW; clear hb)
        | (go_at_call 44; refine (cH _ HB).mono ?_; rintro y w2 ⟨rfl, hb⟩; replace HB := Below.tr HB hb; replace BW := BW.below hb; clear x0 x1 x2 x3 x4; obtain ⟨x0, x1, x2, x3, x4⟩ := id BW; clear hb)
        | (go_at_call 45; refine (cB _).mono ?_; rintro y w3 ⟨rfl, hb⟩; replace HB := Below.tr HB hb; replace BW := BW.below hb; clear x0 x1 x2 x3 x4; obtain ⟨x0, x1, x2, x3, x4⟩ := id BW; clear hb))
       go_ret
       exact ⟨by rw [hrf.out]; rfl, HB⟩
  ·
   have h1' : ((p : Int) == n') = false := by simp; omega
   have hrf : Hid (r = false) := by show _ = _; rw [hr, decide_eq_false h1]; simp
   clear hr h1
   go_enter Tryz.func30, Tryz.ntmps30
   go_wp2_with (first
    | (go_at_call 43; rw [← hW]; refine cA.mono ?_; rintro y w1 ⟨rfl, hb⟩; replace HB := Below.tr HB hb; replace BW := BW.below hb; clear x0 x1 x2 x3 x4; obtain ⟨x0, x1, x2, x3, x4⟩ := id BW; clear hb)
    | (go_at_call 44; refine (cH _ HB).mono ?_; rintro y w2 ⟨rfl, hb⟩; replace HB := Below.tr HB hb; replace BW := BW.below hb; clear x0 x1 x2 x3 x4; obtain ⟨x0, x1, x2, x3, x4⟩ := id BW; clear hb)
    | (go_at_call 45; refine (cB _).mono ?_; rintro y w3 ⟨rfl, hb⟩; replace HB := Below.tr HB hb; replace BW := BW.below hb; clear x0 x1 x2 x3 x4; obtain ⟨x0, x1, x2, x3, x4⟩ := id BW; clear hb))
   go_ret
   exact ⟨by rw [hrf.out]; rfl, HB⟩
def NodeIn (V : World) (h : Nat) (l : Bool) (a : Option Addr) (m c : Nat) (a' : Option Addr) (m' c' : Nat) (a'' : Option Addr) (m'' c'' : Nat) (ks vs : List ByteArray) (cs : List Int) : Prop :=
 Box4 V h (.bool l) (.slice a m c) (.slice a' m' c') (.slice a'' m'' c'') ∧ m = ks.length ∧ m' = vs.length ∧ m'' = cs.length ∧ IsS V a c ks ∧ IsS V a' c' vs ∧ IsI V a'' c'' cs
theorem NodeIn.box {V : World} {h : Nat} {l : Bool} {a : Option Addr} {m c : Nat} {a' : Option Addr} {m' c' : Nat} {a'' : Option Addr} {m'' c'' : Nat} {ks vs : List ByteArray} {cs : List Int} (n : NodeIn V h l a m c a' m' c' a'' m'' c'' ks vs cs) : Box4 V h (.bool l) (.slice a m c) (.slice a' m' c') (.slice a'' m'' c'') := n.1
def LoadC (V : World) (x : Ending) (V' : World) (right : Bool) (o : Option NodeS) : Prop :=
 if right = true then (match o with
  | none => Answers V x V' false [] [] [] 81
  | some nd => Answers V x V' nd.1 nd.2.1 nd.2.2.1 nd.2.2.2 0) else Answers V x V' false [] [] [] 1
theorem not_take {ms : List Int} {v x : Int} {j : Nat} (h : ∀ y ∈ ms.take j, ¬ y = v) (hx : ms[j]? = some x) (hne : ¬ v = x) : ∀ y ∈ ms.take (j + 1), ¬ y = v := by
 intro y hy
 rw [List.take_add_one, hx] at hy
 simp at hy
 rcases hy with hy | hy
 ·
  exact h y hy
 ·
  subst hy; exact fun e => hne e.symm
set_option maxHeartbeats 400000 in
theorem index_any (a : Option Addr) (c : Nat) (ms : List Int) (v : Int) (w : World) (hI : IsI w a c ms) :
  Calls Tryz.prog 115 #[.slice a ms.length c, .int .i64 v] w fun e w' => (∃ r : Int, e = .returned (.int .i64 r) ∧ (decide (0 ≤ r) = decide (v ∈ ms))) ∧ w = w' := by
 have hm : ms.length ≤ 9223372036854775807 := Nat.le_trans hI.1 hI.2.1
 have HI : Hid (IsI w a c ms) := hI
 clear hI
 go_enter Tryz.func115, Tryz.ntmps115
 go_wp2
 go_loop [8] (fun u => ∃ j : Nat, j ≤ ms.length ∧ u = .int .i64 j ∧ ∀ y ∈ ms.take j, ¬ y = v) (fun u => ms.length - (intOf u).toNat)
 case atStart => exact ⟨0, by omega, rfl, fun y hy => by simp at hy⟩
 case round =>
  obtain ⟨j, hj, rfl, HA⟩ := hrel
  by_cases hlt : j < ms.length
  ·
   obtain ⟨x, hx⟩ : ∃ x, ms[j]? = some x := ⟨_, List.getElem?_eq_getElem hlt⟩
   obtain ⟨b, o, rfl, hlb, hc⟩ := HI.out.2.2 j x hx
   have hmem : Hid (x ∈ ms) := List.mem_of_getElem? hx
   have hA' : Hid (¬ v = x → ∀ y ∈ ms.take (j + 1), ¬ y = v) := not_take HA hx
   clear HA hx hlb
   have hlt' : (j : Int) < ms.length := by omega
   by_cases he : v = x
   ·
    subst he
    go_wp2
    go_ret
    exact ⟨⟨j, rfl, by simpa using hmem.out⟩, rfl⟩
   ·
    have he' : (v == x) = false := by simpa using he
    go_wp2
    go_round
    case rel => exact ⟨j + 1, by omega, by go_num, hA'.out he⟩
    case measure => simp [intOf]; omega
  ·
   obtain rfl : j = ms.length := by omega
   rw [List.take_length] at HA
   have HB : Hid (¬ v ∈ ms) := fun h => HA v h rfl
   clear HA hj hlt
   go_wp2
   go_ret
   exact ⟨⟨-1, rfl, by simpa using HB.out⟩, rfl⟩
theorem contains_any (a : Option Addr) (c : Nat) (ms : List Int) (v : Int) (w : World) (hI : IsI w a c ms) :
  Calls Tryz.prog 90 #[.slice a ms.length c, .int .i64 v] w fun e w' => e = .returned (.bool (decide (v ∈ ms))) ∧ w = w' := by
 have c1 := index_any a c ms v w hI
 obtain ⟨n, hn⟩ : ∃ n, n = ms.length := ⟨_, rfl⟩
 rw [← hn] at c1 ⊢
 clear hI hn
 go_enter Tryz.func90, Tryz.ntmps90
 go_wp2_with (go_at_call 115; refine c1.mono ?_; rintro e w1 ⟨⟨r, rfl, hr⟩, rfl⟩; have hr' : Hid _ := hr; clear hr)
 go_ret
 exact ⟨ret_bool hr'.out, rfl⟩
def wantE (s : ByteArray) (ms : List Int) : Int := if readE s = 0 then (if readK s ∈ ms then 0 else 40) else readE s
def wantK (s : ByteArray) (ms : List Int) : Int := if wantE s ms = 0 then readK s else 0
def wantG (s : ByteArray) (ms : List Int) : Int := if wantE s ms = 0 then readG s else 0
def wantB (s : ByteArray) (ms : List Int) : ByteArray := if wantE s ms = 0 then readB s else ⟨#[]⟩
set_option maxHeartbeats 1000000 in
theorem want_any (s : ByteArray) (a : Option Addr) (c : Nat) (ms : List Int) (w : World) (hs : s.size ≤ maxLen) (hI : IsI w a c ms) :
  Calls Tryz.prog 78 #[.string s, .slice a ms.length c] w fun e w' => e = .returned (.tuple #[.agg #[.int .i64 (wantK s ms), .int .i64 (wantG s ms), .string (wantB s ms)], .int .i64 (wantE s ms)]) ∧ Below w.heap.size w w' := by
 have c1 := fun W => pageGet_any s W hs
 obtain ⟨E, hE⟩ : ∃ E, E = readE s := ⟨_, rfl⟩
 obtain ⟨K, hK⟩ : ∃ K, K = readK s := ⟨_, rfl⟩
 obtain ⟨G, hG⟩ : ∃ G, G = readG s := ⟨_, rfl⟩
 obtain ⟨B, hB⟩ : ∃ B, B = readB s := ⟨_, rfl⟩
 have c2 : ∀ W, Below w.heap.size w W → Calls Tryz.prog 90 #[.slice a ms.length c, .int .i64 K] W fun e w' => e = .returned (.bool (decide (K ∈ ms))) ∧ W = w' :=
  fun W hW => contains_any a c ms K W (hI.below hW)
 have xE : wantE s ms = if E = 0 then (if K ∈ ms then 0 else 40) else E := by rw [hE, hK]; rfl
 have xK : wantK s ms = if wantE s ms = 0 then K else 0 := by rw [hK]; rfl
 have xG : wantG s ms = if wantE s ms = 0 then G else 0 := by rw [hG]; rfl
 have xB : wantB s ms = if wantE s ms = 0 then B else ⟨#[]⟩ := by rw [hB]; rfl
 rw [← hE, ← hK, ← hG, ← hB] at c1
 clear hE hK hG hB hI
 obtain ⟨n, hn⟩ : ∃ n, n = ms.length := ⟨_, rfl⟩
 rw [← hn] at c2 ⊢
 clear hn
 obtain ⟨rE, hrE⟩ : ∃ r, r = wantE s ms := ⟨_, rfl⟩
 obtain ⟨rK, hrK⟩ : ∃ r, r = wantK s ms := ⟨_, rfl⟩
 obtain ⟨rG, hrG⟩ : ∃ r, r = wantG s ms := ⟨_, rfl⟩
 obtain ⟨rB, hrB⟩ : ∃ r, r = wantB s ms := ⟨_, rfl⟩
 rw [← hrE, ← hrK, ← hrG, ← hrB]
 rw [← hrE] at xE xK xG xB
 rw [← hrK] at xK
 rw [← hrG] at xG
 rw [← hrB] at xB
 clear hrE hrK hrG hrB
 by_cases h0 : E = 0
 ·
  rw [if_pos h0] at xE
  by_cases hm : K ∈ ms
  ·
   rw [if_pos hm] at xE
   rw [xE] at xK xG xB ⊢
   rw [show rK = K from xK, show rG = G from xG, show rB = B from xB]
   have hd : ∀ W, Below w.heap.size w W → Calls Tryz.prog 90 #[.slice a n c, .int .i64 K] W fun e w' => e = .returned (.bool true) ∧ W = w' := by
    intro W hW; have := c2 W hW; rwa [decide_eq_true hm] at this
   clear xE xK xG xB c2 hm
   subst h0
   go_enter Tryz.func78, Tryz.ntmps78
   go_wp2_with (first
    | (go_at_call 89; refine (c1 _).mono ?_; rintro e w1 ⟨rfl, hb⟩; have hB := below_box hb; obtain ⟨⟨q0, q1, q2⟩, f0, f1, f2⟩ := ((box3_new _ _ _ _ _).below hb).alloc (.cells #[.int .i64 K, .int .i64 G, .string B] 63); replace hB := hB.alloc hB.size (.cells #[.int .i64 K, .int .i64 G, .string B] 63); clear hb)
    | (go_at_call 90; refine (hd _ hB).mono ?_; rintro e w2 ⟨rfl, rfl⟩))
   obtain ⟨z0, z1, z2⟩ := set3_cells (v0 := .int .i64 K) (v1 := .int .i64 G) (v2 := .string B) q0 q1 q2
   exact bodyPost_ret (v := .tuple #[.agg #[.int .i64 K, .int .i64 G, .string B], .int .i64 0]) (by simp [results, Tryz.results78, go_sem, z0, z1, z2]) rfl ⟨rfl, below_set3 hB (Nat.le_refl _)⟩
  ·
   rw [if_neg hm] at xE
   rw [xE] at xK xG xB ⊢
   rw [show rK = 0 from xK, show rG = 0 from xG, show rB = ⟨#[]⟩ from xB]
   have hd : ∀ W, Below w.heap.size w W → Calls Tryz.prog 90 #[.slice a n c, .int .i64 K] W fun e w' => e = .returned (.bool false) ∧ W = w' := by
    intro W hW; have := c2 W hW; rwa [decide_eq_false hm] at this
   clear xE xK xG xB c2 hm
   subst h0
   go_enter Tryz.func78, Tryz.ntmps78
   go_wp2_with (first
    | (go_at_call 89; refine (c1 _).mono ?_; rintro e w1 ⟨rfl, hb⟩; have hB := below_box hb; obtain ⟨⟨q0, q1, q2⟩, f0, f1, f2⟩ := ((box3_new _ _ _ _ _).below hb).alloc (.cells #[.int .i64 K, .int .i64 G, .string B] 63); replace hB := hB.alloc hB.size (.cells #[.int .i64 K, .int .i64 G, .string B] 63); clear hb)
    | (go_at_call 90; refine (hd _ hB).mono ?_; rintro e w2 ⟨rfl, rfl⟩))
   obtain ⟨z0, z1, z2⟩ := set3_cells (v0 := .int .i64 0) (v1 := .int .i64 0) (v2 := .string ⟨#[]⟩) q0 q1 q2
   exact bodyPost_ret (v := .tuple #[.agg #[.int .i64 0, .int .i64 0, .string ⟨#[]⟩], .int .i64 40]) (by simp [results, Tryz.results78, go_sem, z0, z1, z2]) rfl ⟨rfl, below_set3 hB (Nat.le_refl _)⟩
 ·
  rw [if_neg h0] at xE
  rw [if_neg (by rw [xE]; exact h0)] at xK xG xB
  rw [xK, xG, xB, xE]
  clear xE xK xG xB c2
  have h0' : (E == 0) = false := by simpa using h0
  go_enter Tryz.func78, Tryz.ntmps78
  go_wp2_with (first
   | (go_at_call 89; refine (c1 _).mono ?_; rintro e w1 ⟨rfl, hb⟩; have hB := below_box hb; obtain ⟨⟨q0, q1, q2⟩, f0, f1, f2⟩ := ((box3_new _ _ _ _ _).below hb).alloc (.cells #[.int .i64 K, .int .i64 G, .string B] 63); replace hB := hB.alloc hB.size (.cells #[.int .i64 K, .int .i64 G, .string B] 63); clear hb))
  obtain ⟨z0, z1, z2⟩ := set3_cells (v0 := .int .i64 0) (v1 := .int .i64 0) (v2 := .string ⟨#[]⟩) q0 q1 q2
  exact bodyPost_ret (v := .tuple #[.agg #[.int .i64 0, .int .i64 0, .string ⟨#[]⟩], .int .i64 E]) (by simp [results, Tryz.results78, go_sem, z0, z1, z2]) rfl ⟨rfl, below_set3 hB (Nat.le_refl _)⟩
theorem isI_pair (W : World) (m n : Int) : IsI (W.alloc (.cells #[.int .i64 m, .int .i64 n] 3)) (some ⟨W.heap.size, 0, none⟩) 2 [m, n] := by
 refine ⟨Nat.le_refl _, by decide, fun j x hx => ⟨W.heap.size, 0, rfl, by simp, ?_⟩⟩
 match j, hx with
 | 0, hx => simp at hx; subst hx; exact World.cell?_alloc_at _ _ _ _ rfl
 | 1, hx => simp at hx; subst hx; exact World.cell?_alloc_at _ _ _ _ rfl
theorem gE_kind {K : Int} {s : ByteArray} (h : ¬ K ∈ [(1 : Int), 2]) : gE K s = 81 := by
 unfold gE nodeR
 simp at h
 rw [if_neg h.1, if_neg h.2]
theorem pageN_want (s : ByteArray) (gen : Int) (rt : Bool) : pageN s gen rt = if wantE s [1, 2] = 0 ∧ wantG s [1, 2] ≤ gen ∧ gE (wantK s [1, 2]) (wantB s [1, 2]) = 0 ∧ rightN (gN (wantK s [1, 2]) (wantB s [1, 2])).1 (gN (wantK s [1, 2]) (wantB s [1, 2])).2.1 (gN (wantK s [1, 2]) (wantB s [1, 2])).2.2.1 (gN (wantK s [1, 2]) (wantB s [1, 2])).2.2.2 rt = true then some (gN (wantK s [1, 2]) (wantB s [1, 2])) else none := by
 by_cases h0 : readE s = 0
 ·
  by_cases h1 : readK s ∈ [(1 : Int), 2]
  ·
   have hE : wantE s [1, 2] = 0 := by unfold wantE; rw [if_pos h0, if_pos h1]
   have hK : wantK s [1, 2] = readK s := by unfold wantK; rw [if_pos hE]
   have hG : wantG s [1, 2] = readG s := by unfold wantG; rw [if_pos hE]
   have hB : wantB s [1, 2] = readB s := by unfold wantB; rw [if_pos hE]
   rw [hE, hK, hG, hB]
   unfold pageN
   rw [h0]
  ·
   have hE : wantE s [1, 2] = 40 := by unfold wantE; rw [if_pos h0, if_neg h1]
   unfold pageN
   rw [if_neg (fun h => by rw [gE_kind h1] at h; exact absurd h.2.2.1 (by decide)), if_neg (fun h => by rw [hE] at h; exact absurd h.1 (by decide))]
 ·
  have hE : wantE s [1, 2] = readE s := by unfold wantE; rw [if_neg h0]
  unfold pageN
  rw [if_neg (fun h => h0 h.1), if_neg (fun h => h0 (by rw [← hE]; exact h.1))]
theorem wantB_few (s : ByteArray) (ms : List Int) : (wantB s ms).size ≤ maxLen := by
 unfold wantB
 split
 ·
  exact Nat.le_trans (readB_few s) (by unfold maxLen; omega)
 ·
  exact Nat.zero_le _
set_option maxRecDepth 20000 in
set_option maxHeartbeats 4000000 in
theorem load_any (h : Nat) (a a' b : Option Addr) (n c n' c' p f : Nat) (ns : List Bool) (ps : List ByteArray) (root gen block : Int) (rt : Bool) (V : World) (hn' : n' = ns.length) (hp : p = ps.length) (hpn : p = n') (BV : WoodBox V h (.slice a n c) (.slice a' n' c') (.slice b p f) (.int .i64 root) (.int .i64 gen)) (hB' : IsB V a' c' ns) (hP : IsS V b f ps) :
  Calls Tryz.prog 63 #[.pointer (some ⟨h, 0, none⟩), .int .i64 block, .bool rt] V fun x V' => LoadC V x V' true (holdsS ns ps gen block rt) := by
 obtain ⟨W, hW⟩ : ∃ W, W = V.alloc (.cells #[.bool false, .slice none 0 0, .slice none 0 0, .slice none 0 0] 76) := ⟨_, rfl⟩
 have HB : Below V.heap.size V W := by rw [hW]; exact (Below.refl _ _).alloc (Nat.le_refl _) _
 have BR : Box4 W V.heap.size (.bool false) (.slice none 0 0) (.slice none 0 0) (.slice none 0 0) := by rw [hW]; exact box4_new _ _ _ _ _ _ rfl
 have BW := BV.below HB
 have mn : n' ≤ 9223372036854775807 := by rw [hn']; exact Nat.le_trans hB'.1 hB'.2.1
 have cB0 : ∀ U, Calls Tryz.prog 45 #[.agg #[.slice a n c, .slice a' n' c', .slice b p f, .int .i64 root, .int .i64 gen], .int .i64 block] U fun e w' => e = .returned (.bool (decide (10 ≤ block) && decide (block < (n' : Int)))) ∧ Below U.heap.size U w' := fun U => behind_any a a' b n c n' c' p f root gen block U mn
 obtain ⟨O, hO'⟩ : ∃ O, O = holdsS ns ps gen block rt := ⟨_, rfl⟩
 rw [← hO']
 obtain ⟨⟨r0, r1, r2, r3⟩, f0, f1, f2, f3⟩ := id (hW ▸ BR)
 obtain ⟨x0, x1, x2, x3, x4⟩ := id (hW ▸ BW)
 by_cases hin : 10 ≤ block ∧ block < n'
 ·
  have cB : ∀ U, Calls Tryz.prog 45 #[.agg #[.slice a n c, .slice a' n' c', .slice b p f, .int .i64 root, .int .i64 gen], .int .i64 block] U fun e w' => e = .returned (.bool true) ∧ Below U.heap.size U w' := fun U => by have := cB0 U; rw [decide_eq_true hin.1, decide_eq_true hin.2] at this; exact this
  obtain ⟨h10, hl1⟩ := hin
  obtain ⟨i, rfl⟩ : ∃ i : Nat, block = i := ⟨block.toNat, by omega⟩
  have hi1 : i < ns.length := by omega
  have hi2 : i < ps.length := by omega
  obtain ⟨nw, hgn⟩ : ∃ s, ns[i]? = some s := ⟨_, List.getElem?_eq_getElem hi1⟩
  obtain ⟨s, hs⟩ : ∃ s, ps[i]? = some s := ⟨_, List.getElem?_eq_getElem hi2⟩
  have hO1 : O = if nw = true then pageN s gen rt else none := by
   rw [hO']
   unfold holdsS
   simp only [Int.toNat_natCast, List.getD_eq_getElem?_getD, hgn, hs, Option.getD_some]
   by_cases hh : nw = true
   ·
    rw [if_pos ⟨h10, by omega, by omega, hh⟩, if_pos hh]
   ·
    rw [if_neg (fun x => hh x.2.2.2), if_neg hh]
  obtain ⟨b1, o1, rfl, hlb1, hc1⟩ := hB'.2.2 i nw hgn
  obtain ⟨b2, o2, rfl, hlb2, hc2, hss⟩ := hP.2.2 i s hs
  have z1 := cell_below HB hc1
  have z2 := cell_below HB hc2
  have k4 : (i : Int) < n' := by omega
  have k5 : (i : Int) < p := by omega
  have cW0 := fun U => want_any s (some ⟨U.heap.size, 0, none⟩) 2 [1, 2] (U.alloc (.cells #[.int .i64 1, .int .i64 2] 3)) hss (isI_pair U 1 2)
  have cG := fun U => nodeGet_any (wantK s [1, 2]) (wantB s [1, 2]) U (wantB_few s _)
  rw [pageN_want] at hO1
  clear hO' hn' hp hpn hB' hP h10 hl1 hi1 hi2 hgn hs hlb1 hlb2 hc1 hc2 hss BV cB0
  obtain ⟨rE, hrE⟩ : ∃ x, x = wantE s [1, 2] := ⟨_, rfl⟩
  obtain ⟨rK, hrK⟩ : ∃ x, x = wantK s [1, 2] := ⟨_, rfl⟩
  obtain ⟨rG, hrG⟩ : ∃ x, x = wantG s [1, 2] := ⟨_, rfl⟩
  obtain ⟨rB, hrB⟩ : ∃ x, x = wantB s [1, 2] := ⟨_, rfl⟩
  rw [← hrE, ← hrK, ← hrG, ← hrB] at hO1
  rw [← hrE, ← hrK, ← hrG, ← hrB] at cW0
  rw [← hrK, ← hrB] at cG
  clear hrE hrK hrG hrB
  have cW : ∀ U, Calls Tryz.prog 78 #[.string s, .slice (some ⟨U.heap.size, 0, none⟩) 2 2] (U.alloc (.cells #[.int .i64 1, .int .i64 2] 3)) fun e w' => e = .returned (.tuple #[.agg #[.int .i64 rK, .int .i64 rG, .string rB], .int .i64 rE]) ∧ Below U.heap.size U w' := fun U => (cW0 U).mono fun e w' h => ⟨h.1, Below.tr ((Below.refl _ _).alloc (Nat.le_refl _) _) h.2⟩
  clear cW0
  obtain ⟨nE, hnE⟩ : ∃ x, x = gE rK rB := ⟨_, rfl⟩
  obtain ⟨⟨nl, nk, nv, nc⟩, hnd⟩ : ∃ x, x = gN rK rB := ⟨_, rfl⟩
  rw [← hnE, ← hnd] at hO1 cG
  clear hnE hnd
  have cR : ∀ U a1 d1 k1 a2 d2 k2 a3 d3 k3, k1 = nk.length → k2 = nv.length → k3 = nc.length → IsS U a1 d1 nk → IsS U a2 d2 nv → IsI U a3 d3 nc → Calls Tryz.prog 80 #[.agg #[.bool nl, .slice a1 k1 d1, .slice a2 k2 d2, .slice a3 k3 d3], .bool rt] U fun e w' => e = .returned (.bool (rightN nl nk nv nc rt)) ∧ Below U.heap.size U w' := fun U a1 d1 k1 a2 d2 k2 a3 d3 k3 h1 h2 h3 i1 i2 i3 => nodeRight_any nl a1 a2 a3 d1 d2 d3 k1 k2 k3 nk nv nc rt U h1 h2 h3 i1 i2 i3
  cases nw with
  | false =>
   replace hO1 : O = none := hO1
   clear cW cG cR
   go_enter Tryz.func63, Tryz.ntmps63
   go_wp2_with (
    (go_at_call 45; rw [← hW]; refine (cB _).mono ?_; rintro y w1 ⟨rfl, hb⟩; replace HB := Below.tr HB hb; replace BR := BR.below hb; replace BW := BW.below hb; replace z1 := cell_below hb z1; replace z2 := cell_below hb z2; clear r0 r1 r2 r3 f0 f1 f2 f3 x0 x1 x2 x3 x4; obtain ⟨⟨r0, r1, r2, r3⟩, f0, f1, f2, f3⟩ := id BR; obtain ⟨x0, x1, x2, x3, x4⟩ := id BW; clear hb))
   refine bodyPost_ret (v := .tuple #[.agg #[.bool false, .slice none 0 0, .slice none 0 0, .slice none 0 0], .int .i64 81]) (by simp [results, Tryz.results63, go_sem, r0, r1, r2, r3]) rfl ?_
   rw [hO1]
   exact answers_none (below_put4 HB (Nat.le_refl _) _ _ _ _)
  | true =>
   replace hO1 : O = _ := hO1.trans (if_pos rfl)
   by_cases hE : rE = 0
   ·
    subst hE
    by_cases hG : rG ≤ gen
    ·
     have hG' : ¬ gen < rG := by omega
     by_cases hNE : nE = 0
     ·
      subst hNE
      cases hR : rightN nl nk nv nc rt with
      | true =>
       replace hO1 : O = some (nl, nk, nv, nc) := by rw [hO1, if_pos ⟨rfl, hG, rfl, hR⟩]
       rw [hR] at cR
       clear hR hG
       go_enter Tryz.func63, Tryz.ntmps63
       go_wp2_with (first
        | (go_at_call 45; rw [← hW]; refine (cB _).mono ?_; rintro y w1 ⟨rfl, hb⟩; replace HB := Below.tr HB hb; replace BR := BR.below hb; replace BW := BW.below hb; replace z1 := cell_below hb z1; replace z2 := cell_below hb z2; clear r0 r1 r2 r3 f0 f1 f2 f3 x0 x1 x2 x3 x4; obtain ⟨⟨r0, r1, r2, r3⟩, f0, f1, f2, f3⟩ := id BR; obtain ⟨x0, x1, x2, x3, x4⟩ := id BW; clear hb)
        | (go_at_call 78; refine (cW _).mono ?_; rintro y w2 ⟨rfl, hb⟩; have hA : Below w2.heap.size w2 (w2.alloc (.cells #[.int .i64 rK, .int .i64 rG, .string rB] 63)) := (Below.refl _ _).alloc (Nat.le_refl _) _; have b3 := box3_new w2 (.int .i64 rK) (.int .i64 rG) (.string rB) 63; replace HB := Below.tr (Below.tr HB hb) hA; replace BR := (BR.below hb).below hA; replace BW := (BW.below hb).below hA; clear z1 z2 r0 r1 r2 r3 f0 f1 f2 f3 x0 x1 x2 x3 x4; obtain ⟨⟨r0, r1, r2, r3⟩, f0, f1, f2, f3⟩ := id BR; obtain ⟨x0, x1, x2, x3, x4⟩ := id BW; obtain ⟨⟨g0, g1, g2⟩, -⟩ := id b3; clear hb hA))
       go_region
       have HU : Below (w2.alloc (.cells #[.int .i64 rK, .int .i64 rG, .string rB] 63)).heap.size (w2.alloc (.cells #[.int .i64 rK, .int .i64 rG, .string rB] 63)) (w2.alloc (.cells #[.int .i64 rK, .int .i64 rG, .string rB] 63)).drew := (Below.refl _ _).drew
       generalize (w2.alloc (.cells #[.int .i64 rK, .int .i64 rG, .string rB] 63)).drew = U at HU ⊢
       replace HB := Below.tr HB HU
       replace BR := BR.below HU
       replace b3 := b3.below HU
       clear r0 r1 r2 r3 f0 f1 f2 f3 x0 x1 x2 x3 x4 g0 g1 g2 BW HU
       obtain ⟨⟨r0, r1, r2, r3⟩, f0, f1, f2, f3⟩ := id BR
       obtain ⟨⟨g0, g1, g2⟩, -⟩ := id b3
       go_wp2_with (first
        | (go_at_call 79; refine (cG _).mono ?_; rintro y w3 ⟨k1, a1, d1, k2, a2, d2, k3, a3, d3, rfl, e1, e2, e3, i1, i2, i3, j1, j2, j3, hb⟩; have hA : Below w3.heap.size w3 (w3.alloc (.cells #[.bool nl, .slice a1 k1 d1, .slice a2 k2 d2, .slice a3 k3 d3] 76)) := (Below.refl _ _).alloc (Nat.le_refl _) _; have b4 := box4_new w3 (.bool nl) (.slice a1 k1 d1) (.slice a2 k2 d2) (.slice a3 k3 d3) 76 rfl; have hlo : V.heap.size + 1 ≤ U.heap.size := (by have := BR.lt; omega); replace HB := Below.tr (Below.tr HB hb) hA; replace BR := (BR.below hb).below hA; clear r0 r1 r2 r3 f0 f1 f2 f3 g0 g1 g2 b3; obtain ⟨⟨r0, r1, r2, r3⟩, f0, f1, f2, f3⟩ := id BR; obtain ⟨⟨m0, m1, m2, m3⟩, -⟩ := id b4; have E : Hid (k1 = nk.length ∧ k2 = nv.length ∧ k3 = nc.length) := ⟨e1, e2, e3⟩; have I : Hid (IsS (w3.alloc (.cells #[.bool nl, .slice a1 k1 d1, .slice a2 k2 d2, .slice a3 k3 d3] 76)) a1 d1 nk ∧ IsS (w3.alloc (.cells #[.bool nl, .slice a1 k1 d1, .slice a2 k2 d2, .slice a3 k3 d3] 76)) a2 d2 nv ∧ IsI (w3.alloc (.cells #[.bool nl, .slice a1 k1 d1, .slice a2 k2 d2, .slice a3 k3 d3] 76)) a3 d3 nc) := ⟨i1.below hA, i2.below hA, i3.below hA⟩; have J : Hid (From (V.heap.size + 1) a1 ∧ From (V.heap.size + 1) a2 ∧ From (V.heap.size + 1) a3) := ⟨j1.mono hlo, j2.mono hlo, j3.mono hlo⟩; clear hb hA hlo e1 e2 e3 i1 i2 i3 j1 j2 j3)
        | (go_at_call 80; refine (cR _ a1 d1 k1 a2 d2 k2 a3 d3 k3 E.out.1 E.out.2.1 E.out.2.2 I.out.1 I.out.2.1 I.out.2.2).mono ?_; rintro y w4 ⟨rfl, hb⟩; replace HB := Below.tr HB hb; replace BR := BR.below hb; replace b4 := b4.below hb; clear r0 r1 r2 r3 f0 f1 f2 f3 m0 m1 m2 m3; obtain ⟨⟨r0, r1, r2, r3⟩, f0, f1, f2, f3⟩ := id BR; obtain ⟨⟨m0, m1, m2, m3⟩, -⟩ := id b4; replace I : Hid (IsS w4 a1 d1 nk ∧ IsS w4 a2 d2 nv ∧ IsI w4 a3 d3 nc) := ⟨I.out.1.below hb, I.out.2.1.below hb, I.out.2.2.below hb⟩; clear hb))
       have T4 := turns_put4 w4 V.heap.size (.bool nl) (.slice a1 k1 d1) (.slice a2 k2 d2) (.slice a3 k3 d3)
       obtain ⟨j1, j2, j3⟩ := J.out
       refine bodyPost_ret (v := .tuple #[.agg #[.bool nl, .slice a1 k1 d1, .slice a2 k2 d2, .slice a3 k3 d3], .int .i64 0]) (by simp [results, Tryz.results63, go_sem, r0, r1, r2, r3]) rfl ?_
       rw [hO1]
       exact ⟨k1, a1, d1, k2, a2, d2, k3, a3, d3, rfl, E.out.1, E.out.2.1, E.out.2.2, I.out.1.turns T4 (fun x hx e => by have := j1 x hx; omega), I.out.2.1.turns T4 (fun x hx e => by have := j2 x hx; omega), I.out.2.2.turns T4 (fun x hx e => by have := j3 x hx; omega), j1.mono (by omega), j2.mono (by omega), j3.mono (by omega), below_put4 HB (Nat.le_refl _) _ _ _ _⟩
      | false =>
       replace hO1 : O = none := by rw [hO1, if_neg (fun h => by rw [hR] at h; exact absurd h.2.2.2 (by decide))]
       rw [hR] at cR
       clear hR hG
       go_enter Tryz.func63, Tryz.ntmps63
       go_wp2_with (first
        | (go_at_call 45; rw [← hW]; refine (cB _).mono ?_; rintro y w1 ⟨rfl, hb⟩; replace HB := Below.tr HB hb; replace BR := BR.below hb; replace BW := BW.below hb; replace z1 := cell_below hb z1; replace z2 := cell_below hb z2; clear r0 r1 r2 r3 f0 f1 f2 f3 x0 x1 x2 x3 x4; obtain ⟨⟨r0, r1, r2, r3⟩, f0, f1, f2, f3⟩ := id BR; obtain ⟨x0, x1, x2, x3, x4⟩ := id BW; clear hb)
        | (go_at_call 78; refine (cW _).mono ?_; rintro y w2 ⟨rfl, hb⟩; have hA : Below w2.heap.size w2 (w2.alloc (.cells #[.int .i64 rK, .int .i64 rG, .string rB] 63)) := (Below.refl _ _).alloc (Nat.le_refl _) _; have b3 := box3_new w2 (.int .i64 rK) (.int .i64 rG) (.string rB) 63; replace HB := Below.tr (Below.tr HB hb) hA; replace BR := (BR.below hb).below hA; replace BW := (BW.below hb).below hA; clear z1 z2 r0 r1 r2 r3 f0 f1 f2 f3 x0 x1 x2 x3 x4; obtain ⟨⟨r0, r1, r2, r3⟩, f0, f1, f2, f3⟩ := id BR; obtain ⟨x0, x1, x2, x3, x4⟩ := id BW; obtain ⟨⟨g0, g1, g2⟩, -⟩ := id b3; clear hb hA))
       go_region
       have HU : Below (w2.alloc (.cells #[.int .i64 rK, .int .i64 rG, .string rB] 63)).heap.size (w2.alloc (.cells #[.int .i64 rK, .int .i64 rG, .string rB] 63)) (w2.alloc (.cells #[.int .i64 rK, .int .i64 rG, .string rB] 63)).drew := (Below.refl _ _).drew
       generalize (w2.alloc (.cells #[.int .i64 rK, .int .i64 rG, .string rB] 63)).drew = U at HU ⊢
       replace HB := Below.tr HB HU
       replace BR := BR.below HU
       replace b3 := b3.below HU
       clear r0 r1 r2 r3 f0 f1 f2 f3 x0 x1 x2 x3 x4 g0 g1 g2 BW HU
       obtain ⟨⟨r0, r1, r2, r3⟩, f0, f1, f2, f3⟩ := id BR
       obtain ⟨⟨g0, g1, g2⟩, -⟩ := id b3
       go_wp2_with (first
        | (go_at_call 79; refine (cG _).mono ?_; rintro y w3 ⟨k1, a1, d1, k2, a2, d2, k3, a3, d3, rfl, e1, e2, e3, i1, i2, i3, j1, j2, j3, hb⟩; have hA : Below w3.heap.size w3 (w3.alloc (.cells #[.bool nl, .slice a1 k1 d1, .slice a2 k2 d2, .slice a3 k3 d3] 76)) := (Below.refl _ _).alloc (Nat.le_refl _) _; have b4 := box4_new w3 (.bool nl) (.slice a1 k1 d1) (.slice a2 k2 d2) (.slice a3 k3 d3) 76 rfl; have hlo : V.heap.size + 1 ≤ U.heap.size := (by have := BR.lt; omega); replace HB := Below.tr (Below.tr HB hb) hA; replace BR := (BR.below hb).below hA; clear r0 r1 r2 r3 f0 f1 f2 f3 g0 g1 g2 b3; obtain ⟨⟨r0, r1, r2, r3⟩, f0, f1, f2, f3⟩ := id BR; obtain ⟨⟨m0, m1, m2, m3⟩, -⟩ := id b4; have E : Hid (k1 = nk.length ∧ k2 = nv.length ∧ k3 = nc.length) := ⟨e1, e2, e3⟩; have I : Hid (IsS (w3.alloc (.cells #[.bool nl, .slice a1 k1 d1, .slice a2 k2 d2, .slice a3 k3 d3] 76)) a1 d1 nk ∧ IsS (w3.alloc (.cells #[.bool nl, .slice a1 k1 d1, .slice a2 k2 d2, .slice a3 k3 d3] 76)) a2 d2 nv ∧ IsI (w3.alloc (.cells #[.bool nl, .slice a1 k1 d1, .slice a2 k2 d2, .slice a3 k3 d3] 76)) a3 d3 nc) := ⟨i1.below hA, i2.below hA, i3.below hA⟩; have J : Hid (From (V.heap.size + 1) a1 ∧ From (V.heap.size + 1) a2 ∧ From (V.heap.size + 1) a3) := ⟨j1.mono hlo, j2.mono hlo, j3.mono hlo⟩; clear hb hA hlo e1 e2 e3 i1 i2 i3 j1 j2 j3)
        | (go_at_call 80; refine (cR _ a1 d1 k1 a2 d2 k2 a3 d3 k3 E.out.1 E.out.2.1 E.out.2.2 I.out.1 I.out.2.1 I.out.2.2).mono ?_; rintro y w4 ⟨rfl, hb⟩; replace HB := Below.tr HB hb; replace BR := BR.below hb; replace b4 := b4.below hb; clear r0 r1 r2 r3 f0 f1 f2 f3 m0 m1 m2 m3; obtain ⟨⟨r0, r1, r2, r3⟩, f0, f1, f2, f3⟩ := id BR; obtain ⟨⟨m0, m1, m2, m3⟩, -⟩ := id b4; replace I : Hid (IsS w4 a1 d1 nk ∧ IsS w4 a2 d2 nv ∧ IsI w4 a3 d3 nc) := ⟨I.out.1.below hb, I.out.2.1.below hb, I.out.2.2.below hb⟩; clear hb))
       refine bodyPost_ret (v := .tuple #[.agg #[.bool false, .slice none 0 0, .slice none 0 0, .slice none 0 0], .int .i64 81]) (by simp [results, Tryz.results63, go_sem, r0, r1, r2, r3]) rfl ?_
       rw [hO1]
       exact answers_none (below_put4 HB (Nat.le_refl _) _ _ _ _)
     ·
      have hNE' : (nE != 0) = true := by simpa using hNE
      replace hO1 : O = none := by rw [hO1, if_neg (fun h => hNE h.2.2.1)]
      clear hG
      go_enter Tryz.func63, Tryz.ntmps63
      go_wp2_with (first
       | (go_at_call 45; rw [← hW]; refine (cB _).mono ?_; rintro y w1 ⟨rfl, hb⟩; replace HB := Below.tr HB hb; replace BR := BR.below hb; replace BW := BW.below hb; replace z1 := cell_below hb z1; replace z2 := cell_below hb z2; clear r0 r1 r2 r3 f0 f1 f2 f3 x0 x1 x2 x3 x4; obtain ⟨⟨r0, r1, r2, r3⟩, f0, f1, f2, f3⟩ := id BR; obtain ⟨x0, x1, x2, x3, x4⟩ := id BW; clear hb)
       | (go_at_call 78; refine (cW _).mono ?_; rintro y w2 ⟨rfl, hb⟩; have hA : Below w2.heap.size w2 (w2.alloc (.cells #[.int .i64 rK, .int .i64 rG, .string rB] 63)) := (Below.refl _ _).alloc (Nat.le_refl _) _; have b3 := box3_new w2 (.int .i64 rK) (.int .i64 rG) (.string rB) 63; replace HB := Below.tr (Below.tr HB hb) hA; replace BR := (BR.below hb).below hA; replace BW := (BW.below hb).below hA; clear z1 z2 r0 r1 r2 r3 f0 f1 f2 f3 x0 x1 x2 x3 x4; obtain ⟨⟨r0, r1, r2, r3⟩, f0, f1, f2, f3⟩ := id BR; obtain ⟨x0, x1, x2, x3, x4⟩ := id BW; obtain ⟨⟨g0, g1, g2⟩, -⟩ := id b3; clear hb hA))
      go_region
      have HU : Below (w2.alloc (.cells #[.int .i64 rK, .int .i64 rG, .string rB] 63)).heap.size (w2.alloc (.cells #[.int .i64 rK, .int .i64 rG, .string rB] 63)) (w2.alloc (.cells #[.int .i64 rK, .int .i64 rG, .string rB] 63)).drew := (Below.refl _ _).drew
      generalize (w2.alloc (.cells #[.int .i64 rK, .int .i64 rG, .string rB] 63)).drew = U at HU ⊢
      replace HB := Below.tr HB HU
      replace BR := BR.below HU
      replace b3 := b3.below HU
      clear r0 r1 r2 r3 f0 f1 f2 f3 x0 x1 x2 x3 x4 g0 g1 g2 BW HU
      obtain ⟨⟨r0, r1, r2, r3⟩, f0, f1, f2, f3⟩ := id BR
      obtain ⟨⟨g0, g1, g2⟩, -⟩ := id b3
      go_wp2_with (
       (go_at_call 79; refine (cG _).mono ?_; rintro y w3 ⟨k1, a1, d1, k2, a2, d2, k3, a3, d3, rfl, e1, e2, e3, i1, i2, i3, j1, j2, j3, hb⟩; have hA : Below w3.heap.size w3 (w3.alloc (.cells #[.bool nl, .slice a1 k1 d1, .slice a2 k2 d2, .slice a3 k3 d3] 76)) := (Below.refl _ _).alloc (Nat.le_refl _) _; have b4 := box4_new w3 (.bool nl) (.slice a1 k1 d1) (.slice a2 k2 d2) (.slice a3 k3 d3) 76 rfl; have hlo : V.heap.size + 1 ≤ U.heap.size := (by have := BR.lt; omega); replace HB := Below.tr (Below.tr HB hb) hA; replace BR := (BR.below hb).below hA; clear r0 r1 r2 r3 f0 f1 f2 f3 g0 g1 g2 b3; obtain ⟨⟨r0, r1, r2, r3⟩, f0, f1, f2, f3⟩ := id BR; obtain ⟨⟨m0, m1, m2, m3⟩, -⟩ := id b4; have E : Hid (k1 = nk.length ∧ k2 = nv.length ∧ k3 = nc.length) := ⟨e1, e2, e3⟩; have I : Hid (IsS (w3.alloc (.cells #[.bool nl, .slice a1 k1 d1, .slice a2 k2 d2, .slice a3 k3 d3] 76)) a1 d1 nk ∧ IsS (w3.alloc (.cells #[.bool nl, .slice a1 k1 d1, .slice a2 k2 d2, .slice a3 k3 d3] 76)) a2 d2 nv ∧ IsI (w3.alloc (.cells #[.bool nl, .slice a1 k1 d1, .slice a2 k2 d2, .slice a3 k3 d3] 76)) a3 d3 nc) := ⟨i1.below hA, i2.below hA, i3.below hA⟩; have J : Hid (From (V.heap.size + 1) a1 ∧ From (V.heap.size + 1) a2 ∧ From (V.heap.size + 1) a3) := ⟨j1.mono hlo, j2.mono hlo, j3.mono hlo⟩; clear hb hA hlo e1 e2 e3 i1 i2 i3 j1 j2 j3))
      refine bodyPost_ret (v := .tuple #[.agg #[.bool false, .slice none 0 0, .slice none 0 0, .slice none 0 0], .int .i64 81]) (by simp [results, Tryz.results63, go_sem, r0, r1, r2, r3]) rfl ?_
      rw [hO1]
      exact answers_none (below_put4 HB (Nat.le_refl _) _ _ _ _)
    ·
     have hG' : gen < rG := by omega
     replace hO1 : O = none := by rw [hO1, if_neg (fun h => hG h.2.1)]
     clear hG cG cR
     go_enter Tryz.func63, Tryz.ntmps63
     go_wp2_with (first
      | (go_at_call 45; rw [← hW]; refine (cB _).mono ?_; rintro y w1 ⟨rfl, hb⟩; replace HB := Below.tr HB hb; replace BR := BR.below hb; replace BW := BW.below hb; replace z1 := cell_below hb z1; replace z2 := cell_below hb z2; clear r0 r1 r2 r3 f0 f1 f2 f3 x0 x1 x2 x3 x4; obtain ⟨⟨r0, r1, r2, r3⟩, f0, f1, f2, f3⟩ := id BR; obtain ⟨x0, x1, x2, x3, x4⟩ := id BW; clear hb)
      | (go_at_call 78; refine (cW _).mono ?_; rintro y w2 ⟨rfl, hb⟩; have hA : Below w2.heap.size w2 (w2.alloc (.cells #[.int .i64 rK, .int .i64 rG, .string rB] 63)) := (Below.refl _ _).alloc (Nat.le_refl _) _; have b3 := box3_new w2 (.int .i64 rK) (.int .i64 rG) (.string rB) 63; replace HB := Below.tr (Below.tr HB hb) hA; replace BR := (BR.below hb).below hA; replace BW := (BW.below hb).below hA; clear z1 z2 r0 r1 r2 r3 f0 f1 f2 f3 x0 x1 x2 x3 x4; obtain ⟨⟨r0, r1, r2, r3⟩, f0, f1, f2, f3⟩ := id BR; obtain ⟨x0, x1, x2, x3, x4⟩ := id BW; obtain ⟨⟨g0, g1, g2⟩, -⟩ := id b3; clear hb hA))
     go_region
     have HU : Below (w2.alloc (.cells #[.int .i64 rK, .int .i64 rG, .string rB] 63)).heap.size (w2.alloc (.cells #[.int .i64 rK, .int .i64 rG, .string rB] 63)) (w2.alloc (.cells #[.int .i64 rK, .int .i64 rG, .string rB] 63)).drew := (Below.refl _ _).drew
     generalize (w2.alloc (.cells #[.int .i64 rK, .int .i64 rG, .string rB] 63)).drew = U at HU ⊢
     replace HB := Below.tr HB HU
     replace BR := BR.below HU
     replace b3 := b3.below HU
     clear r0 r1 r2 r3 f0 f1 f2 f3 x0 x1 x2 x3 x4 g0 g1 g2 BW HU
     obtain ⟨⟨r0, r1, r2, r3⟩, f0, f1, f2, f3⟩ := id BR
     obtain ⟨⟨g0, g1, g2⟩, -⟩ := id b3
     go_wp2
     refine bodyPost_ret (v := .tuple #[.agg #[.bool false, .slice none 0 0, .slice none 0 0, .slice none 0 0], .int .i64 81]) (by simp [results, Tryz.results63, go_sem, r0, r1, r2, r3]) rfl ?_
     rw [hO1]
     exact answers_none (below_put4 HB (Nat.le_refl _) _ _ _ _)
   ·
    have hE' : (rE != 0) = true := by simpa using hE
    replace hO1 : O = none := by rw [hO1, if_neg (fun h => hE h.1)]
    clear cG cR
    go_enter Tryz.func63, Tryz.ntmps63
    go_wp2_with (first
     | (go_at_call 45; rw [← hW]; refine (cB _).mono ?_; rintro y w1 ⟨rfl, hb⟩; replace HB := Below.tr HB hb; replace BR := BR.below hb; replace BW := BW.below hb; replace z1 := cell_below hb z1; replace z2 := cell_below hb z2; clear r0 r1 r2 r3 f0 f1 f2 f3 x0 x1 x2 x3 x4; obtain ⟨⟨r0, r1, r2, r3⟩, f0, f1, f2, f3⟩ := id BR; obtain ⟨x0, x1, x2, x3, x4⟩ := id BW; clear hb)
     | (go_at_call 78; refine (cW _).mono ?_; rintro y w2 ⟨rfl, hb⟩; have hA : Below w2.heap.size w2 (w2.alloc (.cells #[.int .i64 rK, .int .i64 rG, .string rB] 63)) := (Below.refl _ _).alloc (Nat.le_refl _) _; have b3 := box3_new w2 (.int .i64 rK) (.int .i64 rG) (.string rB) 63; replace HB := Below.tr (Below.tr HB hb) hA; replace BR := (BR.below hb).below hA; replace BW := (BW.below hb).below hA; clear z1 z2 r0 r1 r2 r3 f0 f1 f2 f3 x0 x1 x2 x3 x4; obtain ⟨⟨r0, r1, r2, r3⟩, f0, f1, f2, f3⟩ := id BR; obtain ⟨x0, x1, x2, x3, x4⟩ := id BW; obtain ⟨⟨g0, g1, g2⟩, -⟩ := id b3; clear hb hA))
    go_region
    have HU : Below (w2.alloc (.cells #[.int .i64 rK, .int .i64 rG, .string rB] 63)).heap.size (w2.alloc (.cells #[.int .i64 rK, .int .i64 rG, .string rB] 63)) (w2.alloc (.cells #[.int .i64 rK, .int .i64 rG, .string rB] 63)).drew := (Below.refl _ _).drew
    generalize (w2.alloc (.cells #[.int .i64 rK, .int .i64 rG, .string rB] 63)).drew = U at HU ⊢
    replace HB := Below.tr HB HU
    replace BR := BR.below HU
    replace b3 := b3.below HU
    clear r0 r1 r2 r3 f0 f1 f2 f3 x0 x1 x2 x3 x4 g0 g1 g2 BW HU
    obtain ⟨⟨r0, r1, r2, r3⟩, f0, f1, f2, f3⟩ := id BR
    obtain ⟨⟨g0, g1, g2⟩, -⟩ := id b3
    go_wp2
    refine bodyPost_ret (v := .tuple #[.agg #[.bool false, .slice none 0 0, .slice none 0 0, .slice none 0 0], .int .i64 81]) (by simp [results, Tryz.results63, go_sem, r0, r1, r2, r3]) rfl ?_
    rw [hO1]
    exact answers_none (below_put4 HB (Nat.le_refl _) _ _ _ _)
 ·
  have cB : ∀ U, Calls Tryz.prog 45 #[.agg #[.slice a n c, .slice a' n' c', .slice b p f, .int .i64 root, .int .i64 gen], .int .i64 block] U fun e w' => e = .returned (.bool false) ∧ Below U.heap.size U w' := fun U => by
   have := cB0 U
   have hh : (decide (10 ≤ block) && decide (block < (n' : Int))) = false := by
    rw [Bool.and_eq_false_iff, decide_eq_false_iff_not, decide_eq_false_iff_not]
    by_cases h10 : 10 ≤ block
    ·
     exact .inr fun h => hin ⟨h10, h⟩
    ·
     exact .inl h10
   rw [hh] at this
   exact this
  have hO1 : O = none := by
   rw [hO']
   unfold holdsS
   rw [if_neg (fun h => hin ⟨h.1, by omega⟩)]
  have z1 : True := trivial
  have z2 : True := trivial
  clear hO' hn' hp hpn hB' hP BV cB0 hin
  go_enter Tryz.func63, Tryz.ntmps63
  go_wp2_with (go_at_call 45; rw [← hW]; refine (cB _).mono ?_; rintro y w1 ⟨rfl, hb⟩; replace HB := Below.tr HB hb; replace BR := BR.below hb; replace BW := BW.below hb; clear r0 r1 r2 r3 f0 f1 f2 f3 x0 x1 x2 x3 x4; obtain ⟨⟨r0, r1, r2, r3⟩, f0, f1, f2, f3⟩ := id BR; obtain ⟨x0, x1, x2, x3, x4⟩ := id BW; clear hb)
  refine bodyPost_ret (v := .tuple #[.agg #[.bool false, .slice none 0 0, .slice none 0 0, .slice none 0 0], .int .i64 81]) (by simp [results, Tryz.results63, go_sem, r0, r1, r2, r3]) rfl ?_
  rw [hO1]
  exact answers_none (below_put4 HB (Nat.le_refl _) _ _ _ _)
def nodeO : Option NodeS → NodeS
 | none => (false, [], [], [])
 | some nd => nd
def errO : Option NodeS → Int
 | none => 81
 | some _ => 0
theorem loadC_true (V : World) (x : Ending) (V' : World) (O : Option NodeS) : LoadC V x V' true O ↔ Answers V x V' (nodeO O).1 (nodeO O).2.1 (nodeO O).2.2.1 (nodeO O).2.2.2 (errO O) := by
 unfold LoadC
 rw [if_pos rfl]
 cases O <;> exact Iff.rfl
def WalkBox (V : World) (h : Nat) (v0 v1 v2 v3 v4 : Value) (lv : Int) : Prop := WoodBox V h v0 v1 v2 v3 v4 ∧ V.cell? ⟨h, 5, none⟩ = some (.int .i64 lv) ∧ V.frozen? ⟨h, 5, none⟩ = false
theorem walkBox_new (w : World) (v0 v1 v2 v3 v4 : Value) (lv : Int) (t : TypeId) {h : Nat} (hh : h = w.heap.size) : WalkBox (w.alloc (.cells #[v0, v1, v2, v3, v4, .int .i64 lv] t)) h v0 v1 v2 v3 v4 lv := by
 subst hh
 refine ⟨⟨World.cell?_alloc_at _ _ _ _ rfl, World.cell?_alloc_at _ _ _ _ rfl, World.cell?_alloc_at _ _ _ _ rfl, World.cell?_alloc_at _ _ _ _ rfl, World.cell?_alloc_at _ _ _ _ rfl⟩, World.cell?_alloc_at _ _ _ _ rfl, ?_⟩
 exact (World.frozen?_alloc_mark w _ _ _ _ 5).trans (by simp)
theorem WalkBox.below {V V' : World} {h : Nat} {v0 v1 v2 v3 v4 : Value} {lv : Int} (b : WalkBox V h v0 v1 v2 v3 v4 lv) (hb : Below V.heap.size V V') : WalkBox V' h v0 v1 v2 v3 v4 lv :=
 ⟨b.1.below hb, cell_below hb b.2.1, by rw [hb.frozen (p := ⟨h, 5, none⟩) (cell_lt b.2.1)]; exact b.2.2⟩
theorem rightW_len {bs ns : List Bool} {ps : List ByteArray} {root gen : Int} (h : rightW bs ns ps root gen = true) : ps.length = ns.length := by
 unfold rightW at h
 simp only [Bool.and_eq_true, decide_eq_true_eq] at h
 exact h.1.1.1.1.2
set_option maxRecDepth 20000 in
set_option maxHeartbeats 4000000 in
theorem lookLoad_any (a a' b : Option Addr) (n c n' c' p f : Nat) (bs ns : List Bool) (ps : List ByteArray) (root gen block : Int) (rt : Bool) (w : World) (hn : n = bs.length) (hn' : n' = ns.length) (hp : p = ps.length) (hB : IsB w a c bs) (hB' : IsB w a' c' ns) (hP : IsS w b f ps) :
  Calls Tryz.prog 69 #[.agg #[.slice a n c, .slice a' n' c', .slice b p f, .int .i64 root, .int .i64 gen], .int .i64 block, .bool rt] w fun x w' => LoadC w x w' (rightW bs ns ps root gen) (holdsS ns ps gen block rt) := by
 obtain ⟨W, hW⟩ : ∃ W, W = (w.alloc (.cells #[.slice a n c, .slice a' n' c', .slice b p f, .int .i64 root, .int .i64 gen] 27)).alloc (.cells #[.bool false, .slice none 0 0, .slice none 0 0, .slice none 0 0] 76) := ⟨_, rfl⟩
 have BW : WoodBox W w.heap.size (.slice a n c) (.slice a' n' c') (.slice b p f) (.int .i64 root) (.int .i64 gen) := by rw [hW]; exact (woodBox_new _ _ _ _ _ _ _ rfl).below ((Below.refl _ _).alloc (Nat.le_refl _) _)
 have BR : Box4 W (w.heap.size + 1) (.bool false) (.slice none 0 0) (.slice none 0 0) (.slice none 0 0) := by rw [hW]; exact box4_new _ _ _ _ _ _ (by simp)
 have HB : Below w.heap.size w W := by rw [hW]; exact ((Below.refl _ _).alloc (Nat.le_refl _) _).alloc (by simp) _
 have cR := lookRight_any a a' b n c n' c' p f bs ns ps root gen W hn hn' hp (hB.below HB) (hB'.below HB) (hP.below HB)
 obtain ⟨⟨r0, r1, r2, r3⟩, f0, f1, f2, f3⟩ := id (hW ▸ BR)
 obtain ⟨x0, x1, x2, x3, x4⟩ := id (hW ▸ BW)
 have hle : w.heap.size ≤ w.heap.size + 1 := by omega
 cases hR : rightW bs ns ps root gen with
 | false =>
  rw [hR] at cR
  clear hn hn' hp hB hB' hP hR
  go_enter Tryz.func69, Tryz.ntmps69
  go_wp2_with (
   (go_at_call 30; rw [← hW]; refine cR.mono ?_; rintro y w1 ⟨rfl, hb⟩; replace HB := Below.tr HB hb; replace BR := BR.below hb; replace BW := BW.below hb; clear r0 r1 r2 r3 f0 f1 f2 f3 x0 x1 x2 x3 x4; obtain ⟨⟨r0, r1, r2, r3⟩, f0, f1, f2, f3⟩ := id BR; obtain ⟨x0, x1, x2, x3, x4⟩ := id BW; clear hb))
  refine bodyPost_ret (v := .tuple #[.agg #[.bool false, .slice none 0 0, .slice none 0 0, .slice none 0 0], .int .i64 1]) (by simp [results, Tryz.results69, go_sem, r0, r1, r2, r3]) rfl ?_
  exact answers_none (below_put4 HB hle _ _ _ _)
 | true =>
  rw [hR] at cR
  have hpn : p = n' := by rw [hp, hn']; exact rightW_len hR
  obtain ⟨O, hO⟩ : ∃ O, O = holdsS ns ps gen block rt := ⟨_, rfl⟩
  rw [← hO]
  simp only [loadC_true]
  obtain ⟨⟨nl, nk, nv, nc⟩, hN⟩ : ∃ x, x = nodeO O := ⟨_, rfl⟩
  obtain ⟨nE, hE⟩ : ∃ x, x = errO O := ⟨_, rfl⟩
  rw [← hN, ← hE]
  have cL : ∀ (h : Nat) U, Below w.heap.size w U → WoodBox U h (.slice a n c) (.slice a' n' c') (.slice b p f) (.int .i64 root) (.int .i64 gen) → Calls Tryz.prog 63 #[.pointer (some ⟨h, 0, none⟩), .int .i64 block, .bool rt] U fun x V' => Answers U x V' nl nk nv nc nE := fun h U hU hb => by
   refine (load_any h a a' b n c n' c' p f ns ps root gen block rt U hn' hp hpn hb (hB'.below hU) (hP.below hU)).mono fun x V' hx => ?_
   rw [← hO, loadC_true, ← hN, ← hE] at hx
   exact hx
  clear hn hn' hp hB hB' hP hR hO hpn hN hE
  go_enter Tryz.func69, Tryz.ntmps69
  go_wp2_with (first
   | (go_at_call 30; rw [← hW]; refine cR.mono ?_; rintro y w1 ⟨rfl, hb⟩; replace HB := Below.tr HB hb; replace BR := BR.below hb; replace BW := BW.below hb; clear r0 r1 r2 r3 f0 f1 f2 f3 x0 x1 x2 x3 x4; obtain ⟨⟨r0, r1, r2, r3⟩, f0, f1, f2, f3⟩ := id BR; obtain ⟨x0, x1, x2, x3, x4⟩ := id BW; clear hb)
   | (go_at_call 63; have hA : Below w1.heap.size w1 (w1.alloc (.cells #[.slice a n c, .slice a' n' c', .slice b p f, .int .i64 root, .int .i64 gen, .int .i64 0] 67)) := (Below.refl _ _).alloc (Nat.le_refl _) _; have BK := walkBox_new w1 (.slice a n c) (.slice a' n' c') (.slice b p f) (.int .i64 root) (.int .i64 gen) 0 67 rfl; refine (cL _ _ (Below.tr HB hA) BK.1).mono ?_; rintro y w2 ⟨k1, a1, d1, k2, a2, d2, k3, a3, d3, rfl, e1, e2, e3, i1, i2, i3, j1, j2, j3, hb⟩; have hlo : w.heap.size + 2 ≤ (w1.alloc (.cells #[.slice a n c, .slice a' n' c', .slice b p f, .int .i64 root, .int .i64 gen, .int .i64 0] 67)).heap.size := (by have := BR.lt; simp; omega); replace HB := Below.tr (Below.tr HB hA) hb; replace BR := (BR.below hA).below hb; clear r0 r1 r2 r3 f0 f1 f2 f3 x0 x1 x2 x3 x4 BW BK; obtain ⟨⟨r0, r1, r2, r3⟩, f0, f1, f2, f3⟩ := id BR; have E : Hid (k1 = nk.length ∧ k2 = nv.length ∧ k3 = nc.length) := ⟨e1, e2, e3⟩; have I : Hid (IsS w2 a1 d1 nk ∧ IsS w2 a2 d2 nv ∧ IsI w2 a3 d3 nc) := ⟨i1, i2, i3⟩; have J : Hid (From (w.heap.size + 2) a1 ∧ From (w.heap.size + 2) a2 ∧ From (w.heap.size + 2) a3) := ⟨j1.mono hlo, j2.mono hlo, j3.mono hlo⟩; clear hb hA hlo e1 e2 e3 i1 i2 i3 j1 j2 j3))
  have T4 := turns_put4 w2 (w.heap.size + 1) (.bool nl) (.slice a1 k1 d1) (.slice a2 k2 d2) (.slice a3 k3 d3)
  obtain ⟨j1, j2, j3⟩ := J.out
  refine bodyPost_ret (v := .tuple #[.agg #[.bool nl, .slice a1 k1 d1, .slice a2 k2 d2, .slice a3 k3 d3], .int .i64 nE]) (by simp [results, Tryz.results69, go_sem, r0, r1, r2, r3]) rfl ?_
  exact ⟨k1, a1, d1, k2, a2, d2, k3, a3, d3, rfl, E.out.1, E.out.2.1, E.out.2.2, I.out.1.turns T4 (fun x hx e => by have := j1 x hx; omega), I.out.2.1.turns T4 (fun x hx e => by have := j2 x hx; omega), I.out.2.2.turns T4 (fun x hx e => by have := j3 x hx; omega), j1.mono (by omega), j2.mono (by omega), j3.mono (by omega), below_put4 HB hle _ _ _ _⟩
set_option maxHeartbeats 2000000 in
set_option maxRecDepth 100000 in
theorem growS_any (n : Nat) (w : World) (h2 : n ≤ 4096) :
  Calls Tryz.prog 103 #[.slice none 0 0, .int .i64 n] w fun e w' => ∃ v, e = .returned v ∧ w'.ownsRow w.heap.size 9 1 v 0 [] ∧ Below w.heap.size w w' := by
 by_cases h0 : n = 0
 ·
  subst h0
  go_enter Tryz.func103, Tryz.ntmps103
  go_wp2
  all_goals (go_ret; exact ⟨_, rfl, World.ownsRow_nil _ _ _ _, Below.refl _ _⟩)
 ·
  have h1 : 1 ≤ n := by omega
  obtain ⟨i0, hi, hz0, hz1, hz2⟩ := info_parts Tryz.info9
  obtain ⟨G, hG⟩ : ∃ G, G = grownCap w n 0 9 := ⟨_, rfl⟩
  obtain ⟨Z, hZ⟩ : ∃ Z, Z = Builtin.zeroCells (Value.string ⟨#[]⟩).cells n ++ Builtin.zeroCells (Value.string ⟨#[]⟩).cells (G - n) := ⟨_, rfl⟩
  have hGn : n ≤ G := by rw [hG]; exact grownCap_ge w _ _ _
  have hGm : G ≤ maxLen := by rw [hG]; exact grownCap_le_maxLen w n 0 _ (by unfold maxLen; omega)
  have hZs : Hid (Z.size = G * 1) := by
   show _ = _
   rw [hZ, Array.size_append]
   have hc : (Value.string ⟨#[]⟩).cells.size = 1 := by rfl
   simp only [Builtin.zeroCells, Array.size_map, Array.size_range, hc]
   omega
  have hrz : ∀ ty, (Builtin.append_ #[25, 3] ty #[.slice none 0 0, .int .i64 n]).run Tryz.prog w = .ok (.slice (some ⟨w.heap.size, 0, none⟩) n G) (w.drew.alloc (.cells Z 9)) := fun ty => by
   have := Lib.run_append_nil_zeros (P := Tryz.prog) w 25 3 ty 9 i0 _ .i64 .i64 Tryz.underlying25 Tryz.underlying3 hi hz0 n (by omega) (by omega) (by omega) (by rw [hz2]; omega)
   rw [← hG, ← hZ] at this
   exact this
  have hG63 : G ≤ 9223372036854775807 := hGm
  have h1' : (1 : Int) ≤ n := by omega
  have h2' : (n : Int) ≤ 4096 := by omega
  clear hZ hG h0
  go_enter Tryz.func103, Tryz.ntmps103
  go_wp2_with (at_builtin; refine Lib.wpList_append_run _ rfl _ _ _ _ rfl _ _ rfl rfl _ _ (hrz _) ?_)
  all_goals (go_ret; exact ⟨_, rfl, ⟨rfl, .inr ⟨w.heap.size, G, Z, rfl, Nat.le_refl _, heap_new w.drew _, Nat.zero_le _, hGm, hZs.out, rfl⟩⟩, (Below.refl _ _).drew.alloc (Nat.le_refl _) _⟩)
set_option maxRecDepth 20000 in
set_option maxHeartbeats 2000000 in
theorem concatS_any (H k n : Nat) (rs : List (Option Addr × Nat × List ByteArray)) (w : World) (hR : RowsS w H rs) (hk : k = rs.length) (hl : (flatS rs).length ≤ 4096) (hk9 : k ≤ 9) (hn : n = (flatS rs).length) :
  Calls Tryz.prog 85 #[.slice (some ⟨H, 0, none⟩) k k] w fun e w' => ∃ a c, e = .returned (.slice a n c) ∧ IsS w' a c (flatS rs) ∧ From w.heap.size a ∧ Below w.heap.size w w' := by
 have HR : Hid (RowsS w H rs) := hR
 have HK : Hid (k = rs.length) := hk
 have HL : Hid ((flatS rs).length ≤ 4096) := hl
 have HN : Hid (n = (flatS rs).length) := hn
 have hn4 : n ≤ 4096 := by omega
 have cG := growS_any n w hn4
 clear hR hk hl hn
 go_enter Tryz.func85, Tryz.ntmps85
 go_wp2
 go_loop [3, 11] (fun s i => ∃ (j m : Nat), j ≤ k ∧ i = .int .i64 j ∧ s = .int .i64 m ∧ m = (flatS (rs.take j)).length) (fun _ i => k - (intOf i).toNat)
 case atStart => exact ⟨0, 0, by omega, rfl, rfl, rfl⟩
 case round =>
  obtain ⟨j, m, hj, rfl, rfl, hm⟩ := hrel
  have HM : Hid (m = (flatS (rs.take j)).length) := hm
  clear hm
  by_cases hlt : j < k
  ·
   have hlt' : (j : Int) < k := by omega
   obtain ⟨r, hr⟩ : ∃ r, rs[j]? = some r := ⟨_, List.getElem?_eq_getElem (by rw [← HK.out]; exact hlt)⟩
   obtain ⟨hc, hI⟩ := HR.out j r hr
   obtain ⟨a, c, ys⟩ := r
   have hf := flatS_take hr
   have hle := flatS_le rs (j + 1)
   simp only at hc hI hf
   obtain ⟨y, hy⟩ : ∃ y, y = ys.length := ⟨_, rfl⟩
   rw [← hy] at hc
   have hle2 := HL.out
   have hsum : m + y ≤ 4096 := by rw [hf, List.length_append, ← HM.out, ← hy] at hle; omega
   have hm' : Hid (m + y = (flatS (rs.take (j + 1))).length) := by show _ = _; rw [hf, List.length_append, ← HM.out, ← hy]
   have hs0 : ¬ ((m : Int) + y) < 0 := by omega
   have hs1 : (m : Int) + y ≤ 4096 := by omega
   clear hr hI hf hle hle2 hy
   go_wp2
   go_round
   case rel => exact ⟨j + 1, m + y, by omega, by go_num, by go_num, hm'.out⟩
   case measure => simp [intOf]; omega
  ·
   obtain rfl : j = k := by omega
   have ht : rs.take j = rs := List.take_of_length_le (by rw [← HK.out]; exact Nat.le_refl _)
   have hmn : m = n := by rw [HM.out, ht, HN.out]
   subst hmn
   clear ht HM
   go_wp2_with (go_at_call 103; refine cG.mono ?_; rintro e w1 ⟨v1, rfl, hown1, hb⟩; clear cG)
   go_loopw [6, 27] (fun v i wr => ∃ i0 : Nat, i0 ≤ j ∧ i = .int .i64 i0 ∧ wr.ownsRow w.heap.size 9 1 v (flatS (rs.take i0)).length ((flatS (rs.take i0)).map Value.string) ∧ Below w.heap.size w wr) (fun _ i _ => j - (intOf i).toNat)
   case atStart => exact ⟨0, by omega, rfl, hown1, hb⟩
   case round =>
    obtain ⟨i0, hi0, rfl, hown, hbel⟩ := hrel
    clear hown1 hb
    by_cases hlt2 : i0 < j
    ·
     have hlt2' : (i0 : Int) < j := by omega
     obtain ⟨r, hr⟩ : ∃ r, rs[i0]? = some r := ⟨_, List.getElem?_eq_getElem (by rw [← HK.out]; exact hlt2)⟩
     obtain ⟨hc0, hI⟩ := HR.out i0 r hr
     have hc := cell_below hbel hc0
     obtain ⟨a, c, ys⟩ := r
     have hf := flatS_take hr
     have hle := flatS_le rs (i0 + 1)
     simp only at hc hI hf
     have hle2 := HL.out
     obtain ⟨v', w', hrun, hown', hgr, _⟩ := append_S wr w.heap.size _ _ _ hown hbel.size a c ys.length ys rfl (hI.below hbel) (by rw [hf, List.length_append] at hle; omega)
     have HO : Hid (w'.ownsRow w.heap.size 9 1 v' (flatS (rs.take (i0 + 1))).length ((flatS (rs.take (i0 + 1))).map Value.string)) := by
      show World.ownsRow _ _ _ _ _ _ _
      rw [hf, List.length_append]; exact hown'
     have HB : Hid (Below w.heap.size w w') := hbel.grown hgr hbel.size fun g hg => (hown.lt g hg).1
     clear hown hown' hgr hr hc0 hI hf hle hle2 hbel
     go_wp2_with (at_builtin; refine Lib.wpList_append_run _ rfl _ _ _ _ rfl _ _ rfl rfl _ _ hrun ?_)
     go_roundw
     case rel => exact ⟨i0 + 1, by omega, by go_num, HO.out, HB.out⟩
     case measure => simp [intOf]; omega
    ·
     obtain rfl : i0 = j := by omega
     have ht : rs.take i0 = rs := List.take_of_length_le (by rw [← HK.out]; exact Nat.le_refl _)
     rw [ht] at hown
     obtain ⟨a, c, rfl, hn, hI, hF⟩ := owns_S hown (fun x hx => by
      obtain ⟨r, hr, hx⟩ := List.mem_flatMap.1 hx
      obtain ⟨i, hi⟩ := List.getElem?_of_mem hr
      obtain ⟨q, hq⟩ := List.getElem?_of_mem hx
      obtain ⟨_, _, _, _, _, hs⟩ := (HR.out i r hi).2.2.2 q x hq
      exact hs)
     have HI : Hid (IsS wr a c (flatS rs) ∧ From w.heap.size a) := ⟨hI, hF⟩
     clear hown hI hF hn ht
     rw [← HN.out]
     go_wp2
     go_ret
     exact ⟨a, c, rfl, HI.out.1, HI.out.2, hbel⟩
theorem IsB.turns {P : Nat → Prop} {w w' : World} {a : Option Addr} {c : Nat} {l : List Bool} (h : IsB w a c l) (t : Turns P w w') (hp : ∀ x, a = .some x → ¬ P x.block) : IsB w' a c l := by
 refine ⟨h.1, h.2.1, fun j x hx => ?_⟩
 obtain ⟨b, o, ha, hlt, hc⟩ := h.2.2 j x hx
 exact ⟨b, o, ha, Nat.lt_of_lt_of_le hlt t.size, t.cell (p := ⟨b, o + j, none⟩) (hp ⟨b, o, none⟩ ha) hc⟩
structure RowP (w : World) (q cp : Nat) (l : List ByteArray) : Prop where
 le : l.length ≤ cp
 mx : cp ≤ maxLen
 lt : q < w.heap.size
 at_ : ∀ j s, l[j]? = some s → w.cell? ⟨q, j, none⟩ = some (.string s) ∧ w.frozen? ⟨q, j, none⟩ = false ∧ s.size ≤ maxLen
theorem RowP.isS {w : World} {q cp : Nat} {l : List ByteArray} (h : RowP w q cp l) : IsS w (some ⟨q, 0, none⟩) cp l :=
 ⟨h.le, h.mx, fun j s hs => ⟨q, 0, rfl, h.lt, by rw [Nat.zero_add]; exact (h.at_ j s hs).1, (h.at_ j s hs).2.2⟩⟩
theorem RowP.turns {P : Nat → Prop} {w w' : World} {q cp : Nat} {l : List ByteArray} (h : RowP w q cp l) (t : Turns P w w') (hp : ¬ P q) : RowP w' q cp l :=
 ⟨h.le, h.mx, Nat.lt_of_lt_of_le h.lt t.size, fun j s hs => ⟨t.cell (p := ⟨q, j, none⟩) hp (h.at_ j s hs).1, t.frozen (p := ⟨q, j, none⟩) h.lt hp (h.at_ j s hs).2.1, (h.at_ j s hs).2.2⟩⟩
theorem RowP.set {w : World} {q cp : Nat} {l : List ByteArray} (h : RowP w q cp l) (i : Nat) (s : ByteArray) (hs : s.size ≤ maxLen) : RowP (w.setCell ⟨q, i, none⟩ (.string s)) q cp (l.set i s) := by
 refine ⟨by rw [List.length_set]; exact h.le, h.mx, by simpa using h.lt, fun j x hx => ?_⟩
 rw [List.getElem?_set] at hx
 split at hx
 ·
  rename_i e
  subst e
  split at hx
  ·
   rename_i hl
   cases hx
   obtain ⟨h1, h2, _⟩ := h.at_ i l[i] (List.getElem?_eq_getElem hl)
   exact ⟨World.cell?_setCell_same _ _ _ h1, by rw [World.frozen?_setCell]; exact h2, hs⟩
  ·
   cases hx
 ·
  rename_i e
  obtain ⟨h1, h2, h3⟩ := h.at_ j x hx
  exact ⟨by rw [World.cell?_setCell_other _ _ _ _ (fun hh => e (by cases hh; rfl))]; exact h1, by rw [World.frozen?_setCell]; exact h2, h3⟩
def Off2 (h q : Nat) (a : Option Addr) : Prop := ∀ x, a = some x → x.block ≠ h ∧ x.block ≠ q
theorem off2_nil (h q : Nat) : Off2 h q none := fun x hx => by cases hx
theorem From.off2 {B h q : Nat} {a : Option Addr} (f : From B a) (hh : h < B) (hq : q < B) : Off2 h q a := fun x hx => by have := f x hx; omega
def Mine (h q : Nat) : Nat → Prop := fun k => k = h ∨ k = q
theorem Off2.mine {h q : Nat} {a : Option Addr} (o : Off2 h q a) : ∀ x, a = some x → ¬ Mine h q x.block := fun x hx e => by
 obtain ⟨h1, h2⟩ := o x hx
 rcases e with e | e
 ·
  exact h1 e
 ·
  exact h2 e
def Held (w : World) (a : Option Addr) : Prop := ∀ x, a = some x → x.block < w.heap.size
theorem held_nil (w : World) : Held w none := fun x hx => by cases hx
theorem Held.mono {w w' : World} {a : Option Addr} (h : Held w a) (hs : w.heap.size ≤ w'.heap.size) : Held w' a := fun x hx => Nat.lt_of_lt_of_le (h x hx) hs
def Newer (w : World) (a b : Option Addr) : Prop := b = a ∨ From w.heap.size b
theorem newer_refl (w : World) (a : Option Addr) : Newer w a a := .inl rfl
theorem Newer.trans {w w1 : World} {a b c : Option Addr} (h : Newer w a b) (k : Newer w1 b c) (hs : w.heap.size ≤ w1.heap.size) : Newer w a c := by
 rcases k with rfl | k
 ·
  exact h
 ·
  exact .inr (k.mono hs)
theorem Newer.low {w w1 : World} {a b : Option Addr} (h : Newer w1 a b) (hs : w.heap.size ≤ w1.heap.size) : Newer w a b := (newer_refl w a).trans h hs
theorem Newer.off {w w1 : World} {a b : Option Addr} (h : Newer w1 a b) (l : Held w a) {z : Nat} (h1 : w.heap.size ≤ z) (h2 : z < w1.heap.size) : ∀ x, b = some x → ¬ x.block = z := by
 intro x hx e
 rcases h with rfl | h
 ·
  have := l x hx; omega
 ·
  have := h x hx; omega
theorem Turns.own {P Q : Nat → Prop} {a b c : World} (h : Turns P a b) (k : Turns Q b c) (hQ : ∀ i, i < a.heap.size → Q i → P i) : Turns P a c :=
 ⟨k.os.trans h.os, k.tape.trans h.tape, k.output.trans h.output, Nat.le_trans h.size k.size, fun i hi hp => (k.block i (Nat.lt_of_lt_of_le hi h.size) fun x => hp (hQ i hi x)).trans (h.block i hi hp)⟩
structure GrowAt (V : World) (h q cp : Nat) (a : Option Addr) (c : Nat) (a' : Option Addr) (c' : Nat) (G : WoodS) : Prop where
 box : WoodBox V h (.slice a G.base.length c) (.slice a' G.now.length c') (.slice (some ⟨q, 0, none⟩) G.pages.length cp) (.int .i64 G.root) (.int .i64 G.gen)
 f0 : V.frozen? ⟨h, 0, none⟩ = false
 f1 : V.frozen? ⟨h, 1, none⟩ = false
 f3 : V.frozen? ⟨h, 3, none⟩ = false
 bs : IsB V a c G.base
 ns : IsB V a' c' G.now
 ob : Off2 h q a
 on : Off2 h q a'
 pg : RowP V q cp G.pages
 hq : h ≠ q
 lb : Held V a
 ln : Held V a'
theorem GrowAt.lt {V : World} {h q cp : Nat} {a : Option Addr} {c : Nat} {a' : Option Addr} {c' : Nat} {G : WoodS} (g : GrowAt V h q cp a c a' c' G) : h < V.heap.size := cell_lt g.box.1
theorem GrowAt.turns {P : Nat → Prop} {V V' : World} {h q cp : Nat} {a : Option Addr} {c : Nat} {a' : Option Addr} {c' : Nat} {G : WoodS} (g : GrowAt V h q cp a c a' c' G) (t : Turns P V V') (h1 : ¬ P h) (h2 : ¬ P q) (h3 : ∀ x, a = some x → ¬ P x.block) (h4 : ∀ x, a' = some x → ¬ P x.block) : GrowAt V' h q cp a c a' c' G :=
 ⟨g.box.turns t h1, t.frozen (p := ⟨h, 0, none⟩) g.lt h1 g.f0, t.frozen (p := ⟨h, 1, none⟩) g.lt h1 g.f1, t.frozen (p := ⟨h, 3, none⟩) g.lt h1 g.f3, g.bs.turns t h3, g.ns.turns t h4, g.ob, g.on, g.pg.turns t h2, g.hq, g.lb.mono t.size, g.ln.mono t.size⟩
theorem GrowAt.below {V V' : World} {h q cp : Nat} {a : Option Addr} {c : Nat} {a' : Option Addr} {c' : Nat} {G : WoodS} (g : GrowAt V h q cp a c a' c' G) (hb : Below V.heap.size V V') : GrowAt V' h q cp a c a' c' G :=
 g.turns (P := fun _ => False) (Turns.of_below hb) id id (fun _ _ => id) (fun _ _ => id)
theorem GrowAt.page {V : World} {h q cp : Nat} {a : Option Addr} {c : Nat} {a' : Option Addr} {c' : Nat} {G : WoodS} (g : GrowAt V h q cp a c a' c' G) (i : Nat) (s : ByteArray) (hs : s.size ≤ maxLen) : GrowAt (V.setCell ⟨q, i, none⟩ (.string s)) h q cp a c a' c' (G.withPage i s) ∧ Turns (Mine h q) V (V.setCell ⟨q, i, none⟩ (.string s)) := by
 have t : Turns (fun k => k = q) V (V.setCell ⟨q, i, none⟩ (.string s)) := Turns.setCell (P := fun k => k = q) (Turns.refl _ _) (p := ⟨q, i, none⟩) rfl _
 refine ⟨⟨?_, t.frozen (p := ⟨h, 0, none⟩) g.lt g.hq g.f0, t.frozen (p := ⟨h, 1, none⟩) g.lt g.hq g.f1, t.frozen (p := ⟨h, 3, none⟩) g.lt g.hq g.f3, g.bs.turns t fun x hx => (g.ob x hx).2, g.ns.turns t fun x hx => (g.on x hx).2, g.ob, g.on, g.pg.set i s hs, g.hq, g.lb.mono t.size, g.ln.mono t.size⟩, t.mono fun k hk => .inr hk⟩
 have := g.box.turns t g.hq
 show WoodBox _ _ _ _ (.slice (some ⟨q, 0, none⟩) (G.pages.set i s).length cp) _ _
 rw [List.length_set]
 exact this
theorem GrowAt.alloc2 {V : World} {h q cp : Nat} {a : Option Addr} {c : Nat} {a' : Option Addr} {c' : Nat} {G : WoodS} (g : GrowAt V h q cp a c a' c' G) {d : Option Addr} {e : Nat} {d' : Option Addr} {e' : Nat} {b m : List Bool} (hb : IsB V d e b) (hm : IsB V d' e' m) (od : Off2 h q d) (od' : Off2 h q d') (ld : Held V d) (ld' : Held V d') :
  GrowAt ((V.setCell ⟨h, 0, none⟩ (.slice d b.length e)).setCell ⟨h, 1, none⟩ (.slice d' m.length e')) h q cp d e d' e' (G.withAlloc b m) ∧ Turns (Mine h q) V ((V.setCell ⟨h, 0, none⟩ (.slice d b.length e)).setCell ⟨h, 1, none⟩ (.slice d' m.length e')) := by
 have t : Turns (fun k => k = h) V ((V.setCell ⟨h, 0, none⟩ (.slice d b.length e)).setCell ⟨h, 1, none⟩ (.slice d' m.length e')) := Turns.setCell (P := fun k => k = h) (Turns.setCell (P := fun k => k = h) (Turns.refl _ _) (p := ⟨h, 0, none⟩) rfl _) (p := ⟨h, 1, none⟩) rfl _
 obtain ⟨b0, b1, b2, b3, b4⟩ := g.box
 refine ⟨⟨⟨?_, ?_, ?_, ?_, ?_⟩, ?_, ?_, ?_, hb.turns t fun x hx => (od x hx).1, hm.turns t fun x hx => (od' x hx).1, od, od', g.pg.turns t (fun e => g.hq e.symm), g.hq, ld.mono t.size, ld'.mono t.size⟩, t.mono fun k hk => .inl hk⟩
 ·
  rw [World.cell?_setCell_other _ _ _ _ (fun hh => by cases hh)]; exact World.cell?_setCell_same _ _ _ b0
 ·
  exact World.cell?_setCell_same _ _ _ (by rw [World.cell?_setCell_other _ _ _ _ (fun hh => by cases hh)]; exact b1)
 ·
  rw [World.cell?_setCell_other _ _ _ _ (fun hh => by cases hh), World.cell?_setCell_other _ _ _ _ (fun hh => by cases hh)]; exact b2
 ·
  rw [World.cell?_setCell_other _ _ _ _ (fun hh => by cases hh), World.cell?_setCell_other _ _ _ _ (fun hh => by cases hh)]; exact b3
 ·
  rw [World.cell?_setCell_other _ _ _ _ (fun hh => by cases hh), World.cell?_setCell_other _ _ _ _ (fun hh => by cases hh)]; exact b4
 ·
  simpa using g.f0
 ·
  simpa using g.f1
 ·
  simpa using g.f3
theorem GrowAt.setRoot {V : World} {h q cp : Nat} {a : Option Addr} {c : Nat} {a' : Option Addr} {c' : Nat} {G : WoodS} (g : GrowAt V h q cp a c a' c' G) (r : Int) : GrowAt (V.setCell ⟨h, 3, none⟩ (.int .i64 r)) h q cp a c a' c' (G.withRoot r) ∧ Turns (Mine h q) V (V.setCell ⟨h, 3, none⟩ (.int .i64 r)) := by
 have t : Turns (fun k => k = h) V (V.setCell ⟨h, 3, none⟩ (.int .i64 r)) := Turns.setCell (P := fun k => k = h) (Turns.refl _ _) (p := ⟨h, 3, none⟩) rfl _
 obtain ⟨b0, b1, b2, b3, b4⟩ := g.box
 refine ⟨⟨⟨?_, ?_, ?_, ?_, ?_⟩, ?_, ?_, ?_, g.bs.turns t fun x hx => (g.ob x hx).1, g.ns.turns t fun x hx => (g.on x hx).1, g.ob, g.on, g.pg.turns t (fun e => g.hq e.symm), g.hq, g.lb.mono t.size, g.ln.mono t.size⟩, t.mono fun k hk => .inl hk⟩
 ·
  rw [World.cell?_setCell_other _ _ _ _ (fun hh => by cases hh)]; exact b0
 ·
  rw [World.cell?_setCell_other _ _ _ _ (fun hh => by cases hh)]; exact b1
 ·
  rw [World.cell?_setCell_other _ _ _ _ (fun hh => by cases hh)]; exact b2
 ·
  exact World.cell?_setCell_same _ _ _ b3
 ·
  rw [World.cell?_setCell_other _ _ _ _ (fun hh => by cases hh)]; exact b4
 ·
  simpa using g.f0
 ·
  simpa using g.f1
 ·
  simpa using g.f3
theorem OwnT.held {base : Nat} {w : World} {a : Option Addr} {cap : Nat} {l : List Bool} (h : OwnT base w a cap l) : Held w a := by
 rcases h with ⟨rfl, _, _⟩ | ⟨g, rfl, hg, hr⟩
 ·
  exact held_nil _
 ·
  exact fun x hx => by cases hx; exact hr.lt
theorem OwnT.from {base : Nat} {w : World} {a : Option Addr} {cap : Nat} {l : List Bool} (h : OwnT base w a cap l) : From base a := by
 rcases h with ⟨rfl, _, _⟩ | ⟨g, rfl, hg, _⟩
 ·
  exact from_nil _
 ·
  exact fun x hx => by cases hx; exact hg
set_option maxRecDepth 20000 in
theorem kindOf_any (l : Bool) (a a' a'' : Option Addr) (n c n' c' n'' c'' : Nat) (w : World) :
  Calls Tryz.prog 102 #[.agg #[.bool l, .slice a n c, .slice a' n' c', .slice a'' n'' c'']] w fun e w' => e = .returned (.int .i64 (if l = true then 1 else 2)) ∧ Below w.heap.size w w' := by
 have HB : Below w.heap.size w (w.alloc (.cells #[.bool l, .slice a n c, .slice a' n' c', .slice a'' n'' c''] 76)) := (Below.refl _ _).alloc (Nat.le_refl _) _
 obtain ⟨⟨q0, q1, q2, q3⟩, -⟩ := box4_new w (.bool l) (.slice a n c) (.slice a' n' c') (.slice a'' n'' c'') 76 rfl
 cases l with
 | true =>
  go_enter Tryz.func102, Tryz.ntmps102
  go_wp2
  go_ret
  exact ⟨rfl, HB⟩
 | false =>
  go_enter Tryz.func102, Tryz.ntmps102
  go_wp2
  go_ret
  exact ⟨rfl, HB⟩
theorem isS_src {w : World} {ad : Addr} {c : Nat} {l : List ByteArray} (h : IsS w (some ad) c l) : ∀ j u, (l.map Value.string)[j]? = some u → w.cell? (ad.add j) = some u := by
 intro j u hj
 rw [List.getElem?_map] at hj
 obtain ⟨x, hx, rfl⟩ := Option.map_eq_some_iff.1 hj
 obtain ⟨b', o', ha, _, hc, _⟩ := h.2.2 j x hx
 cases ha
 rw [at_add]
 exact hc
set_option maxHeartbeats 1000000 in
theorem cloneS_any (a : Option Addr) (c n : Nat) (l : List ByteArray) (w : World) (hn : n = l.length) (hB : IsS w a c l) (h1 : 1 ≤ n) (h2 : n ≤ 4096) :
  Calls Tryz.prog 52 #[.slice a n c] w fun e w' => ∃ g cap, e = .returned (.slice (some ⟨g, 0, none⟩) n cap) ∧ RowP w' g cap l ∧ w.heap.size ≤ g ∧ Below w.heap.size w w' := by
 have q : ∀ (w : World) (a : Option Addr) (n c n' c' : Nat), (binOp .eql 25 (.slice a n c) (.slice none n' c')).run Tryz.prog w = .ok (.bool a.isNone) w := fun w a n c n' c' => Lib.run_eql_slice_nil w _ _ a n c n' c' Tryz.underlying25
 obtain ⟨ad, rfl⟩ : ∃ ad, a = some ad := by
  cases a with
  | none => have := hB.none; rw [this] at hn; simp at hn; omega
  | some ad => exact ⟨ad, rfl⟩
 subst hn
 obtain ⟨i0, hi, hz0, hz1, hz2⟩ := info_parts Tryz.info9
 have hown := World.ownsRow_made (base := w.heap.size) (e := 9) (size := 1) w #[] 0 (Nat.le_refl _) (Nat.zero_le _) rfl
 have hB0 := (Below.refl w.heap.size w).alloc (Nat.le_refl _) (.cells #[] 9)
 obtain ⟨v', w', hrun, p2, p3, p4⟩ := run_append_own (P := Tryz.prog) (w.alloc (.cells #[] 9)) w.heap.size 25 25 9 i0 _ 1 16 Tryz.underlying25 hi hz0 hz1 hz2 rfl (by decide) _ 0 _ hown ad l.length c (l.map Value.string) (by simp) (isS_src (hB.below hB0))
  (fun u hu => by obtain ⟨x, _, rfl⟩ := List.mem_map.1 hu; rfl) (by have := hB.1; have := hB.2.1; unfold maxLen at *; omega) (by omega) (by simp)
 rcases p2.2 with ⟨e, _⟩ | ⟨g, cap, cur, e, hg, hcur, hnc, hcm, hsz, htk⟩
 ·
  exact absurd (p4.1 e).1 (by simp)
 ·
  subst e
  have hrow : RowP w' g cap l := by
   have hlt := p2.lt g rfl
   have hcells := p2.cells (g := g) rfl
   refine ⟨by omega, hcm, hlt.2, fun j s hs => ⟨?_, ?_, ?_⟩⟩
   ·
    have := hcells j (.string s) (by simp [hs])
    rw [at_add] at this
    simpa using this
   ·
    exact Joins.unfrozen_of_block hcur j
   ·
    obtain ⟨_, _, _, _, _, hs'⟩ := hB.2.2 j s hs
    exact hs'
  have HB : Hid (RowP w' g cap l ∧ w.heap.size ≤ g ∧ Below w.heap.size w w') := ⟨hrow, hg, hB0.grown p3 (by simp) (by intro k hk; simp [Value.ownBlock] at hk; omega)⟩
  rw [Nat.zero_add] at hrun
  generalize l.length = n at *
  clear hrow p2 p3 p4 hcur hnc hcm hsz htk hown hB0 hB hg
  go_enter Tryz.func52, Tryz.ntmps52
  go_wp2_with (at_builtin; refine Lib.wpList_append_run _ rfl _ _ _ _ rfl _ _ rfl rfl _ _ hrun ?_)
  go_ret
  exact ⟨g, cap, rfl, HB.out.1, HB.out.2.1, HB.out.2.2⟩
def Box5 (w : World) (h : Nat) (v0 v1 v2 v3 v4 : Value) : Prop :=
 WoodBox w h v0 v1 v2 v3 v4 ∧ w.frozen? ⟨h, 0, none⟩ = false ∧ w.frozen? ⟨h, 1, none⟩ = false ∧ w.frozen? ⟨h, 2, none⟩ = false ∧ w.frozen? ⟨h, 3, none⟩ = false ∧ w.frozen? ⟨h, 4, none⟩ = false
theorem box5_new (w : World) (v0 v1 v2 v3 v4 : Value) (t : TypeId) {h : Nat} (hh : h = w.heap.size) : Box5 (w.alloc (.cells #[v0, v1, v2, v3, v4] t)) h v0 v1 v2 v3 v4 := by
 refine ⟨woodBox_new w v0 v1 v2 v3 v4 t hh, ?_⟩
 subst hh
 refine ⟨?_, ?_, ?_, ?_, ?_⟩
 ·
  exact (World.frozen?_alloc_mark w _ _ _ _ 0).trans (by simp)
 ·
  exact (World.frozen?_alloc_mark w _ _ _ _ 1).trans (by simp)
 ·
  exact (World.frozen?_alloc_mark w _ _ _ _ 2).trans (by simp)
 ·
  exact (World.frozen?_alloc_mark w _ _ _ _ 3).trans (by simp)
 ·
  exact (World.frozen?_alloc_mark w _ _ _ _ 4).trans (by simp)
theorem Box5.lt {w : World} {h : Nat} {v0 v1 v2 v3 v4 : Value} (b : Box5 w h v0 v1 v2 v3 v4) : h < w.heap.size := cell_lt b.1.1
theorem Box5.turns {P : Nat → Prop} {w w' : World} {h : Nat} {v0 v1 v2 v3 v4 : Value} (b : Box5 w h v0 v1 v2 v3 v4) (t : Turns P w w') (hp : ¬ P h) : Box5 w' h v0 v1 v2 v3 v4 :=
 ⟨b.1.turns t hp, t.frozen (p := ⟨h, 0, none⟩) b.lt hp b.2.1, t.frozen (p := ⟨h, 1, none⟩) b.lt hp b.2.2.1, t.frozen (p := ⟨h, 2, none⟩) b.lt hp b.2.2.2.1, t.frozen (p := ⟨h, 3, none⟩) b.lt hp b.2.2.2.2.1, t.frozen (p := ⟨h, 4, none⟩) b.lt hp b.2.2.2.2.2⟩
theorem Box5.below {w w' : World} {h : Nat} {v0 v1 v2 v3 v4 : Value} (b : Box5 w h v0 v1 v2 v3 v4) (hb : Below w.heap.size w w') : Box5 w' h v0 v1 v2 v3 v4 := b.turns (P := fun _ => False) (Turns.of_below hb) id
theorem Box5.alloc {w : World} {h : Nat} {v0 v1 v2 v3 v4 : Value} (b : Box5 w h v0 v1 v2 v3 v4) (o : Obj) : Box5 (w.alloc o) h v0 v1 v2 v3 v4 := b.below ((Below.refl _ _).alloc (Nat.le_refl _) o)
theorem Box5.set0 {w : World} {h : Nat} {v0 v1 v2 v3 v4 : Value} (b : Box5 w h v0 v1 v2 v3 v4) (u : Value) : Box5 (w.setCell ⟨h, 0, none⟩ u) h u v1 v2 v3 v4 := by
 obtain ⟨⟨b0, b1, b2, b3, b4⟩, f0, f1, f2, f3, f4⟩ := b
 have o : ∀ (i : Nat) (x : Value), i ≠ 0 → w.cell? ⟨h, i, none⟩ = some x → (w.setCell ⟨h, 0, none⟩ u).cell? ⟨h, i, none⟩ = some x := fun i x hi hx => by rw [World.cell?_setCell_other _ _ _ _ (fun hh => hi (by cases hh; rfl))]; exact hx
 exact ⟨⟨World.cell?_setCell_same _ _ _ b0, o 1 _ (by decide) b1, o 2 _ (by decide) b2, o 3 _ (by decide) b3, o 4 _ (by decide) b4⟩, by simpa using f0, by simpa using f1, by simpa using f2, by simpa using f3, by simpa using f4⟩
theorem Box5.set1 {w : World} {h : Nat} {v0 v1 v2 v3 v4 : Value} (b : Box5 w h v0 v1 v2 v3 v4) (u : Value) : Box5 (w.setCell ⟨h, 1, none⟩ u) h v0 u v2 v3 v4 := by
 obtain ⟨⟨b0, b1, b2, b3, b4⟩, f0, f1, f2, f3, f4⟩ := b
 have o : ∀ (i : Nat) (x : Value), i ≠ 1 → w.cell? ⟨h, i, none⟩ = some x → (w.setCell ⟨h, 1, none⟩ u).cell? ⟨h, i, none⟩ = some x := fun i x hi hx => by rw [World.cell?_setCell_other _ _ _ _ (fun hh => hi (by cases hh; rfl))]; exact hx
 exact ⟨⟨o 0 _ (by decide) b0, World.cell?_setCell_same _ _ _ b1, o 2 _ (by decide) b2, o 3 _ (by decide) b3, o 4 _ (by decide) b4⟩, by simpa using f0, by simpa using f1, by simpa using f2, by simpa using f3, by simpa using f4⟩
theorem Box5.set2 {w : World} {h : Nat} {v0 v1 v2 v3 v4 : Value} (b : Box5 w h v0 v1 v2 v3 v4) (u : Value) : Box5 (w.setCell ⟨h, 2, none⟩ u) h v0 v1 u v3 v4 := by
 obtain ⟨⟨b0, b1, b2, b3, b4⟩, f0, f1, f2, f3, f4⟩ := b
 have o : ∀ (i : Nat) (x : Value), i ≠ 2 → w.cell? ⟨h, i, none⟩ = some x → (w.setCell ⟨h, 2, none⟩ u).cell? ⟨h, i, none⟩ = some x := fun i x hi hx => by rw [World.cell?_setCell_other _ _ _ _ (fun hh => hi (by cases hh; rfl))]; exact hx
 exact ⟨⟨o 0 _ (by decide) b0, o 1 _ (by decide) b1, World.cell?_setCell_same _ _ _ b2, o 3 _ (by decide) b3, o 4 _ (by decide) b4⟩, by simpa using f0, by simpa using f1, by simpa using f2, by simpa using f3, by simpa using f4⟩
def set5 (w : World) (h : Nat) (u0 u1 u2 u3 u4 : Value) : World := ((((w.setCell ⟨h, 0, none⟩ u0).setCell ⟨h, 1, none⟩ u1).setCell ⟨h, 2, none⟩ u2).setCell ⟨h, 3, none⟩ u3).setCell ⟨h, 4, none⟩ u4
theorem set5_box {w : World} {h : Nat} {v0 v1 v2 v3 v4 : Value} (b : WoodBox w h v0 v1 v2 v3 v4) (u0 u1 u2 u3 u4 : Value) : WoodBox (set5 w h u0 u1 u2 u3 u4) h u0 u1 u2 u3 u4 := by
 obtain ⟨b0, b1, b2, b3, b4⟩ := b
 have o : ∀ (V : World) (i j : Nat) (x u : Value), i ≠ j → V.cell? ⟨h, i, none⟩ = some x → (V.setCell ⟨h, j, none⟩ u).cell? ⟨h, i, none⟩ = some x := fun V i j x u hi hx => by rw [World.cell?_setCell_other _ _ _ _ (fun hh => hi (by cases hh; rfl))]; exact hx
 unfold set5
 refine ⟨?_, ?_, ?_, ?_, ?_⟩
 ·
  exact o _ 0 4 _ _ (by decide) (o _ 0 3 _ _ (by decide) (o _ 0 2 _ _ (by decide) (o _ 0 1 _ _ (by decide) (World.cell?_setCell_same _ _ _ b0))))
 ·
  exact o _ 1 4 _ _ (by decide) (o _ 1 3 _ _ (by decide) (o _ 1 2 _ _ (by decide) (World.cell?_setCell_same _ _ _ (o _ 1 0 _ _ (by decide) b1))))
 ·
  exact o _ 2 4 _ _ (by decide) (o _ 2 3 _ _ (by decide) (World.cell?_setCell_same _ _ _ (o _ 2 1 _ _ (by decide) (o _ 2 0 _ _ (by decide) b2))))
 ·
  exact o _ 3 4 _ _ (by decide) (World.cell?_setCell_same _ _ _ (o _ 3 2 _ _ (by decide) (o _ 3 1 _ _ (by decide) (o _ 3 0 _ _ (by decide) b3))))
 ·
  exact World.cell?_setCell_same _ _ _ (o _ 4 3 _ _ (by decide) (o _ 4 2 _ _ (by decide) (o _ 4 1 _ _ (by decide) (o _ 4 0 _ _ (by decide) b4))))
theorem set5_turns {P : Nat → Prop} {a w : World} {h : Nat} (t : Turns P a w) (hp : P h) (u0 u1 u2 u3 u4 : Value) : Turns P a (set5 w h u0 u1 u2 u3 u4) :=
 ((((t.setCell (p := ⟨h, 0, none⟩) hp _).setCell (p := ⟨h, 1, none⟩) hp _).setCell (p := ⟨h, 2, none⟩) hp _).setCell (p := ⟨h, 3, none⟩) hp _).setCell (p := ⟨h, 4, none⟩) hp _
theorem OwnT.turns {P : Nat → Prop} {base : Nat} {w w' : World} {a : Option Addr} {cap : Nat} {l : List Bool} (h : OwnT base w a cap l) (t : Turns P w w') (hp : ∀ i, P i → i < base) : OwnT base w' a cap l := by
 rcases h with h | ⟨g, e, hg, hr⟩
 ·
  exact .inl h
 ·
  have hl := hr.lt
  obtain ⟨cur, hc, hx⟩ := hr
  exact .inr ⟨g, e, hg, cur, (t.block g hl fun x => by have := hp g x; omega).trans hc, hx⟩
end Go.Proofs.YtaecfbfcjaailaaGreat
namespace Go.Proofs.YtaecfbfcjaailaaGreat.Anylast
open Go
theorem op_skip {P : Program} {ops : Array Oper} {Q : Exit → Act → World → Prop} {i : Nat} {o : Oper} {a : Act} {w w' : World} {V : Nat → Value → World → Prop} {S : World → Prop} {R : World → World → Prop} (hi : ops[i]? = some o) (hw : Region.wanted o (yielded ops a.tmps) = true) (hd : o.dst = none)
  (hr : (execOp a.eval o).run P w = .ok .skip w') (hV : V i undef w') (hS : S w') (hR : R w w') :
  wpOp P ops Q i (fun a' w' => ∃ v, a' = a.put o.dst v ∧ V i v w' ∧ S w' ∧ R w w') a w := by
 unfold wpOp
 simp only [hi, hw, if_true]
 refine .inl ?_
 unfold Oper.wp
 rw [hr]
 refine ⟨undef, ?_, hV, hS, hR⟩
 rw [hd]
end Go.Proofs.YtaecfbfcjaailaaGreat.Anylast
namespace Go.Proofs.YtaecfbfcjaailaaGreat
open Go.RowKit Plain
open Anylast
set_option linter.unusedVariables false
def CopP (B n : Nat) (l : List Bool) (u : Value) (X : World) : Prop := ∃ a c, u = .slice a n c ∧ OwnT B X a c l
def CopQ (B n : Nat) (l : List ByteArray) (u : Value) (X : World) : Prop := ∃ q c, u = .slice (some ⟨q, 0, none⟩) n c ∧ RowP X q c l ∧ B ≤ q
theorem CopP.turns {P : Nat → Prop} {B n : Nat} {l : List Bool} {u : Value} {X Y : World} (h : CopP B n l u X) (t : Turns P X Y) (hp : ∀ i, P i → i < B) : CopP B n l u Y := by
 obtain ⟨a, c, e, o⟩ := h
 exact ⟨a, c, e, o.turns t hp⟩
theorem CopQ.turns {P : Nat → Prop} {B n : Nat} {l : List ByteArray} {u : Value} {X Y : World} (h : CopQ B n l u X) (t : Turns P X Y) (hp : ∀ i, P i → i < B) : CopQ B n l u Y := by
 obtain ⟨q, c, e, o, hq⟩ := h
 exact ⟨q, c, e, o.turns t (fun x => by have := hp q x; omega), hq⟩
def CopS (h : Nat) (W : World) (n n' p : Nat) (bs ns : List Bool) (ps : List ByteArray) (s0 s1 s2 r g : Value) (k : Nat) (X : World) : Prop :=
 ∃ u0 u1 u2, ((k ≤ 3 → u0 = s0) ∧ (4 ≤ k → CopP (h + 2) n bs u0 X)) ∧ ((k ≤ 4 → u1 = s1) ∧ (5 ≤ k → CopP (h + 2) n' ns u1 X)) ∧ ((k ≤ 5 → u2 = s2) ∧ (6 ≤ k → CopQ (h + 2) p ps u2 X)) ∧ Box5 X h u0 u1 u2 r g ∧ Box5 X (h + 1) (.slice none 0 0) (.slice none 0 0) (.slice none 0 0) (.int .i64 0) (.int .i64 0) ∧ Turns (fun k => k = h) W X
section
variable {h : Nat} {W X Y : World} {n n' p : Nat} {bs ns : List Bool} {ps : List ByteArray} {s0 s1 s2 r g u : Value} {k : Nat}
theorem CopS.call (s : CopS h W n n' p bs ns ps s0 s1 s2 r g k X) (hb : Below X.heap.size X Y) (hk : k ≤ 2) : CopS h W n n' p bs ns ps s0 s1 s2 r g (k + 1) Y := by
 obtain ⟨u0, u1, u2, e0, e1, e2, bx, bo, tt⟩ := s
 exact ⟨u0, u1, u2, ⟨fun _ => e0.1 (by omega), fun h => by omega⟩, ⟨fun _ => e1.1 (by omega), fun h => by omega⟩, ⟨fun _ => e2.1 (by omega), fun h => by omega⟩, bx.below hb, bo.below hb, tt.tr hb⟩
theorem CopS.lo (s : CopS h W n n' p bs ns ps s0 s1 s2 r g k X) : Turns (fun k => k = h) W X := s.choose_spec.choose_spec.choose_spec.2.2.2.2.2
theorem CopS.put0 (s : CopS h W n n' p bs ns ps s0 s1 s2 r g 3 X) (hu : CopP (h + 2) n bs u X) : CopS h W n n' p bs ns ps s0 s1 s2 r g 4 (X.setCell ⟨h, 0, none⟩ u) := by
 obtain ⟨u0, u1, u2, e0, e1, e2, bx, bo, tt⟩ := s
 have t : Turns (fun k => k = h) X (X.setCell ⟨h, 0, none⟩ u) := Turns.setCell (P := fun k => k = h) (Turns.refl _ _) (p := ⟨h, 0, none⟩) rfl _
 exact ⟨u, u1, u2, ⟨fun h => by omega, fun _ => hu.turns t (fun i e => by omega)⟩, ⟨fun _ => e1.1 (by omega), fun h => by omega⟩, ⟨fun _ => e2.1 (by omega), fun h => by omega⟩, bx.set0 u, bo.turns t (by omega), tt.trans t⟩
theorem CopS.put1 (s : CopS h W n n' p bs ns ps s0 s1 s2 r g 4 X) (hu : CopP (h + 2) n' ns u X) : CopS h W n n' p bs ns ps s0 s1 s2 r g 5 (X.setCell ⟨h, 1, none⟩ u) := by
 obtain ⟨u0, u1, u2, e0, e1, e2, bx, bo, tt⟩ := s
 have t : Turns (fun k => k = h) X (X.setCell ⟨h, 1, none⟩ u) := Turns.setCell (P := fun k => k = h) (Turns.refl _ _) (p := ⟨h, 1, none⟩) rfl _
 exact ⟨u0, u, u2, ⟨fun h => by omega, fun _ => (e0.2 (by omega)).turns t (fun i e => by omega)⟩, ⟨fun h => by omega, fun _ => hu.turns t (fun i e => by omega)⟩, ⟨fun _ => e2.1 (by omega), fun h => by omega⟩, bx.set1 u, bo.turns t (by omega), tt.trans t⟩
theorem CopS.put2 (s : CopS h W n n' p bs ns ps s0 s1 s2 r g 5 X) (hu : CopQ (h + 2) p ps u X) : CopS h W n n' p bs ns ps s0 s1 s2 r g 6 (X.setCell ⟨h, 2, none⟩ u) := by
 obtain ⟨u0, u1, u2, e0, e1, e2, bx, bo, tt⟩ := s
 have t : Turns (fun k => k = h) X (X.setCell ⟨h, 2, none⟩ u) := Turns.setCell (P := fun k => k = h) (Turns.refl _ _) (p := ⟨h, 2, none⟩) rfl _
 exact ⟨u0, u1, u, ⟨fun h => by omega, fun _ => (e0.2 (by omega)).turns t (fun i e => by omega)⟩, ⟨fun h => by omega, fun _ => (e1.2 (by omega)).turns t (fun i e => by omega)⟩, ⟨fun h => by omega, fun _ => hu.turns t (fun i e => by omega)⟩, bx.set2 u, bo.turns t (by omega), tt.trans t⟩
end
def copV (h n n' p : Nat) (bs ns : List Bool) (ps : List ByteArray) (s0 s1 s2 : Value) (i : Nat) (v : Value) (X : World) : Prop :=
 match i with
 | 0 | 1 | 4 | 11 | 12 | 14 => v = .pointer (some ⟨h, 0, none⟩)
 | 5 | 15 => v = .pointer (some ⟨h, 1, none⟩)
 | 8 | 17 => v = .pointer (some ⟨h, 2, none⟩)
 | 2 => v = s0
 | 6 => v = s1
 | 9 => v = s2
 | 3 => CopP (h + 2) n bs v X
 | 7 => CopP (h + 2) n' ns v X
 | 10 => CopQ (h + 2) p ps v X
 | _ => True
def CopC (w : World) (e : Ending) (w' : World) (n n' p : Nat) (bs ns : List Bool) (ps : List ByteArray) (root gen : Int) : Prop :=
 ∃ a1 c1 a2 c2 q cp, e = .returned (.agg #[.slice a1 n c1, .slice a2 n' c2, .slice (some ⟨q, 0, none⟩) p cp, .int .i64 root, .int .i64 gen]) ∧ OwnT w.heap.size w' a1 c1 bs ∧ OwnT w.heap.size w' a2 c2 ns ∧ RowP w' q cp ps ∧ w.heap.size ≤ q ∧ Below w.heap.size w w'
set_option maxRecDepth 20000 in
set_option maxHeartbeats 4000000 in
theorem copied_any (a a' b : Option Addr) (n c n' c' p f : Nat) (bs ns : List Bool) (ps : List ByteArray) (root gen : Int) (w : World) (hn : n = bs.length) (hn' : n' = ns.length) (hp : p = ps.length) (hB : IsB w a c bs) (hB' : IsB w a' c' ns) (hP : IsS w b f ps) (h1 : 1 ≤ p) (h2 : n ≤ 4096) (h3 : n' ≤ 4096) (h4 : p ≤ 4096) :
  Calls Tryz.prog 32 #[.agg #[.slice a n c, .slice a' n' c', .slice b p f, .int .i64 root, .int .i64 gen]] w fun e w' => CopC w e w' n n' p bs ns ps root gen := by
 obtain ⟨W, hW⟩ : ∃ W, W = (w.alloc (.cells #[.slice a n c, .slice a' n' c', .slice b p f, .int .i64 root, .int .i64 gen] 27)).alloc (.cells #[.slice none 0 0, .slice none 0 0, .slice none 0 0, .int .i64 0, .int .i64 0] 27) := ⟨_, rfl⟩
 have BX : Box5 W w.heap.size (.slice a n c) (.slice a' n' c') (.slice b p f) (.int .i64 root) (.int .i64 gen) := by rw [hW]; exact (box5_new _ _ _ _ _ _ _ rfl).alloc _
 have BO : Box5 W (w.heap.size + 1) (.slice none 0 0) (.slice none 0 0) (.slice none 0 0) (.int .i64 0) (.int .i64 0) := by rw [hW]; exact box5_new _ _ _ _ _ _ _ (by simp)
 have HB : Below w.heap.size w W := by rw [hW]; exact ((Below.refl _ _).alloc (Nat.le_refl _) _).alloc (by simp) _
 have hWs : W.heap.size = w.heap.size + 2 := by rw [hW]; simp
 obtain ⟨V0, hV0⟩ : ∃ X, X = W.drew := ⟨_, rfl⟩
 have hD0 : Below W.heap.size W V0 := by rw [hV0]; exact (Below.refl _ _).drew
 have hVs : V0.heap.size = w.heap.size + 2 := by rw [hV0]; exact hWs
 have hBV := Below.tr HB hD0
 have lowT : ∀ X, Turns (fun k => k = w.heap.size) V0 X → Below w.heap.size w X := fun X t => Below.turns hBV t fun i e => by omega
 have c0 : ∀ X, Turns (fun k => k = w.heap.size) V0 X → Calls Tryz.prog 51 #[.slice a n c] X fun e w' => ∃ v, e = .returned v ∧ CopP (w.heap.size + 2) n bs v w' ∧ Below X.heap.size X w' := fun X t =>
  (clone_any a c n bs X hn (hB.below (lowT X t)) h2).mono fun e w' hx => by
   obtain ⟨a1, k1, rfl, o, hb⟩ := hx
   exact ⟨_, rfl, ⟨a1, k1, rfl, o.mono (by have := t.size; omega)⟩, hb⟩
 have c1 : ∀ X, Turns (fun k => k = w.heap.size) V0 X → Calls Tryz.prog 51 #[.slice a' n' c'] X fun e w' => ∃ v, e = .returned v ∧ CopP (w.heap.size + 2) n' ns v w' ∧ Below X.heap.size X w' := fun X t =>
  (clone_any a' c' n' ns X hn' (hB'.below (lowT X t)) h3).mono fun e w' hx => by
   obtain ⟨a1, k1, rfl, o, hb⟩ := hx
   exact ⟨_, rfl, ⟨a1, k1, rfl, o.mono (by have := t.size; omega)⟩, hb⟩
 have c2 : ∀ X, Turns (fun k => k = w.heap.size) V0 X → Calls Tryz.prog 52 #[.slice b p f] X fun e w' => ∃ v, e = .returned v ∧ CopQ (w.heap.size + 2) p ps v w' ∧ Below X.heap.size X w' := fun X t =>
  (cloneS_any b f p ps X hp (hP.below (lowT X t)) h1 h4).mono fun e w' hx => by
   obtain ⟨g, cap, rfl, o, hg, hb⟩ := hx
   exact ⟨_, rfl, ⟨g, cap, rfl, o, by have := t.size; omega⟩, hb⟩
 have S0 : CopS w.heap.size V0 n n' p bs ns ps (.slice a n c) (.slice a' n' c') (.slice b p f) (.int .i64 root) (.int .i64 gen) 0 V0 :=
  ⟨_, _, _, ⟨fun _ => rfl, fun h => by omega⟩, ⟨fun _ => rfl, fun h => by omega⟩, ⟨fun _ => rfl, fun h => by omega⟩, BX.below hD0, BO.below hD0, Turns.refl _ _⟩
 clear hn hn' hp hB hB' hP h1 h2 h3 h4 hWs
 go_enter Tryz.func32, Tryz.ntmps32
 go_wp2
 rw [← hW]
 refine region_chain (by kernel_rfl) [3, 7, 10, 13, 16, 18] (copV w.heap.size n n' p bs ns ps (.slice a n c) (.slice a' n' c') (.slice b p f)) (CopS w.heap.size V0 n n' p bs ns ps (.slice a n c) (.slice a' n' c') (.slice b p f) (.int .i64 root) (.int .i64 gen)) (Turns (fun k => k = w.heap.size)) (by kernel_rfl) (by kernel_rfl) ?mono (by rw [← hV0]; exact S0) ?step 19 rfl ?done
 case mono =>
  intro i v X Y t hv
  unfold copV at hv ⊢
  split at hv
  all_goals first
   | exact hv
   | exact CopP.turns hv t (fun i e => by omega)
   | exact CopQ.turns hv t (fun i e => by omega)
   | trivial
 case step =>
  clear hW hV0 hD0 hBV lowT S0 BX BO HB hVs
  intro i oo ho k a9 X hk6 hmay hS hdf hsz hdep hsame
  simp only [List.length_cons, List.length_nil] at hk6
  match i, ho with
  | 0, ho =>
   cases ho
   have h1 := hsame 1 rfl
   exact op_value rfl (wanted_free rfl) (by clear hdep hsame hsz hdf; go_simp) rfl (by rw [if_neg (by decide)]; exact hS) (Turns.refl _ _)
  | 1, ho =>
   cases ho
   obtain ⟨_, h3, rfl⟩ := hdep 0 _ 3 rfl rfl rfl
   exact op_value rfl (wanted_free rfl) (by clear hdep hsame hsz hdf; go_simp) rfl (by rw [if_neg (by decide)]; exact hS) (Turns.refl _ _)
  | 2, ho =>
   cases ho
   obtain ⟨_, h4, rfl⟩ := hdep 1 _ 4 rfl rfl rfl
   have hk : k ≤ 0 := by
    clear hS hdep hsame
    rcases (by omega : k = 0 ∨ k = 1 ∨ k = 2 ∨ k = 3 ∨ k = 4 ∨ k = 5 ∨ k = 6) with rfl | rfl | rfl | rfl | rfl | rfl | rfl <;> first | omega | exact absurd hmay (Bool.eq_false_iff.1 (by kernel_rfl))
   obtain ⟨u0, u1, u2, e0, e1, e2, bx, bo, tt⟩ := id hS
   obtain rfl := e0.1 (by omega)
   obtain rfl := e1.1 (by omega)
   obtain rfl := e2.1 (by omega)
   obtain ⟨x0, x1, x2, x3, x4⟩ := bx.1
   exact op_value rfl (wanted_free rfl) (by clear hdep hsame hsz hdf; go_simp) rfl (by rw [if_neg (by decide)]; exact hS) (Turns.refl _ _)
  | 3, ho =>
   cases ho
   obtain ⟨_, h5, rfl⟩ := hdep 2 _ 5 rfl rfl rfl
   have hk : k = 0 := by
    clear hS hdep hsame
    rcases (by omega : k = 0 ∨ k = 1 ∨ k = 2 ∨ k = 3 ∨ k = 4 ∨ k = 5 ∨ k = 6) with rfl | rfl | rfl | rfl | rfl | rfl | rfl <;> first | omega | exact absurd hmay (Bool.eq_false_iff.1 (by kernel_rfl))
   subst hk
   exact op_call rfl (wanted_free rfl) (by clear hdep hsame hsz hdf; go_simp) ((c0 X (CopS.lo hS)).mono fun e X' hx => by
    obtain ⟨v, he, hv, hb⟩ := hx
    exact ⟨v, he, hv, by rw [if_pos (by decide)]; exact hS.call hb (by decide), Turns.of_below hb⟩)
  | 4, ho =>
   cases ho
   have h1 := hsame 1 rfl
   exact op_value rfl (wanted_free rfl) (by clear hdep hsame hsz hdf; go_simp) rfl (by rw [if_neg (by decide)]; exact hS) (Turns.refl _ _)
  | 5, ho =>
   cases ho
   obtain ⟨_, h7, rfl⟩ := hdep 4 _ 7 rfl rfl rfl
   exact op_value rfl (wanted_free rfl) (by clear hdep hsame hsz hdf; go_simp) rfl (by rw [if_neg (by decide)]; exact hS) (Turns.refl _ _)
  | 6, ho =>
   cases ho
   obtain ⟨_, h8, rfl⟩ := hdep 5 _ 8 rfl rfl rfl
   have hk : k ≤ 1 := by
    clear hS hdep hsame
    rcases (by omega : k = 0 ∨ k = 1 ∨ k = 2 ∨ k = 3 ∨ k = 4 ∨ k = 5 ∨ k = 6) with rfl | rfl | rfl | rfl | rfl | rfl | rfl <;> first | omega | exact absurd hmay (Bool.eq_false_iff.1 (by kernel_rfl))
   obtain ⟨u0, u1, u2, e0, e1, e2, bx, bo, tt⟩ := id hS
   obtain rfl := e0.1 (by omega)
   obtain rfl := e1.1 (by omega)
   obtain rfl := e2.1 (by omega)
   obtain ⟨x0, x1, x2, x3, x4⟩ := bx.1
   exact op_value rfl (wanted_free rfl) (by clear hdep hsame hsz hdf; go_simp) rfl (by rw [if_neg (by decide)]; exact hS) (Turns.refl _ _)
  | 7, ho =>
   cases ho
   obtain ⟨_, h9, rfl⟩ := hdep 6 _ 9 rfl rfl rfl
   have hk : k = 1 := by
    clear hS hdep hsame
    rcases (by omega : k = 0 ∨ k = 1 ∨ k = 2 ∨ k = 3 ∨ k = 4 ∨ k = 5 ∨ k = 6) with rfl | rfl | rfl | rfl | rfl | rfl | rfl <;> first | omega | exact absurd hmay (Bool.eq_false_iff.1 (by kernel_rfl))
   subst hk
   exact op_call rfl (wanted_free rfl) (by clear hdep hsame hsz hdf; go_simp) ((c1 X (CopS.lo hS)).mono fun e X' hx => by
    obtain ⟨v, he, hv, hb⟩ := hx
    exact ⟨v, he, hv, by rw [if_pos (by decide)]; exact hS.call hb (by decide), Turns.of_below hb⟩)
  | 8, ho =>
   cases ho
   have h1 := hsame 1 rfl
   exact op_value rfl (wanted_free rfl) (by clear hdep hsame hsz hdf; go_simp) rfl (by rw [if_neg (by decide)]; exact hS) (Turns.refl _ _)
  | 9, ho =>
   cases ho
   obtain ⟨_, h11, rfl⟩ := hdep 8 _ 11 rfl rfl rfl
   have hk : k ≤ 2 := by
    clear hS hdep hsame
    rcases (by omega : k = 0 ∨ k = 1 ∨ k = 2 ∨ k = 3 ∨ k = 4 ∨ k = 5 ∨ k = 6) with rfl | rfl | rfl | rfl | rfl | rfl | rfl <;> first | omega | exact absurd hmay (Bool.eq_false_iff.1 (by kernel_rfl))
   obtain ⟨u0, u1, u2, e0, e1, e2, bx, bo, tt⟩ := id hS
   obtain rfl := e0.1 (by omega)
   obtain rfl := e1.1 (by omega)
   obtain rfl := e2.1 (by omega)
   obtain ⟨x0, x1, x2, x3, x4⟩ := bx.1
   exact op_value rfl (wanted_free rfl) (by clear hdep hsame hsz hdf; go_simp) rfl (by rw [if_neg (by decide)]; exact hS) (Turns.refl _ _)
  | 10, ho =>
   cases ho
   obtain ⟨_, h12, rfl⟩ := hdep 9 _ 12 rfl rfl rfl
   have hk : k = 2 := by
    clear hS hdep hsame
    rcases (by omega : k = 0 ∨ k = 1 ∨ k = 2 ∨ k = 3 ∨ k = 4 ∨ k = 5 ∨ k = 6) with rfl | rfl | rfl | rfl | rfl | rfl | rfl <;> first | omega | exact absurd hmay (Bool.eq_false_iff.1 (by kernel_rfl))
   subst hk
   exact op_call rfl (wanted_free rfl) (by clear hdep hsame hsz hdf; go_simp) ((c2 X (CopS.lo hS)).mono fun e X' hx => by
    obtain ⟨v, he, hv, hb⟩ := hx
    exact ⟨v, he, hv, by rw [if_pos (by decide)]; exact hS.call hb (by decide), Turns.of_below hb⟩)
  | 11, ho =>
   cases ho
   have h1 := hsame 1 rfl
   exact op_value rfl (wanted_free rfl) (by clear hdep hsame hsz hdf; go_simp) rfl (by rw [if_neg (by decide)]; exact hS) (Turns.refl _ _)
  | 12, ho =>
   cases ho
   obtain ⟨_, h14, rfl⟩ := hdep 11 _ 14 rfl rfl rfl
   exact op_value rfl (wanted_free rfl) (by clear hdep hsame hsz hdf; go_simp) rfl (by rw [if_neg (by decide)]; exact hS) (Turns.refl _ _)
  | 13, ho =>
   cases ho
   obtain ⟨_, h15, rfl⟩ := hdep 12 _ 15 rfl rfl rfl
   obtain ⟨u, h6, hu⟩ := hdep 3 _ 6 rfl rfl rfl
   have hk : k = 3 := by
    clear hS hdep hsame
    rcases (by omega : k = 0 ∨ k = 1 ∨ k = 2 ∨ k = 3 ∨ k = 4 ∨ k = 5 ∨ k = 6) with rfl | rfl | rfl | rfl | rfl | rfl | rfl <;> first | omega | exact absurd hmay (Bool.eq_false_iff.1 (by kernel_rfl))
   subst hk
   obtain ⟨v0, v1, v2, e0, e1, e2, bx, bo, tt⟩ := id hS
   obtain ⟨⟨x0, x1, x2, x3, x4⟩, f0, f1, f2, f3, f4⟩ := bx
   clear e0 e1 e2 bo tt
   have hu1 : CopP _ _ _ u X := hu
   obtain ⟨z, zc, rfl, -⟩ := id hu1
   clear hu
   exact op_skip (w' := X.setCell ⟨w.heap.size, 0, none⟩ (.slice z n zc)) rfl (wanted_free rfl) rfl (by clear hdep hsame hsz hdf; go_simp) trivial (by rw [if_pos (by decide)]; exact hS.put0 hu1) (Turns.setCell (P := fun k => k = w.heap.size) (Turns.refl _ _) (p := ⟨w.heap.size, 0, none⟩) rfl _)
  | 14, ho =>
   cases ho
   have h1 := hsame 1 rfl
   exact op_value rfl (wanted_free rfl) (by clear hdep hsame hsz hdf; go_simp) rfl (by rw [if_neg (by decide)]; exact hS) (Turns.refl _ _)
  | 15, ho =>
   cases ho
   obtain ⟨_, h16, rfl⟩ := hdep 14 _ 16 rfl rfl rfl
   exact op_value rfl (wanted_free rfl) (by clear hdep hsame hsz hdf; go_simp) rfl (by rw [if_neg (by decide)]; exact hS) (Turns.refl _ _)
  | 16, ho =>
   cases ho
   obtain ⟨_, h17, rfl⟩ := hdep 15 _ 17 rfl rfl rfl
   obtain ⟨u, h10, hu⟩ := hdep 7 _ 10 rfl rfl rfl
   have hk : k = 4 := by
    clear hS hdep hsame
    rcases (by omega : k = 0 ∨ k = 1 ∨ k = 2 ∨ k = 3 ∨ k = 4 ∨ k = 5 ∨ k = 6) with rfl | rfl | rfl | rfl | rfl | rfl | rfl <;> first | omega | exact absurd hmay (Bool.eq_false_iff.1 (by kernel_rfl))
   subst hk
   obtain ⟨v0, v1, v2, e0, e1, e2, bx, bo, tt⟩ := id hS
   obtain ⟨⟨x0, x1, x2, x3, x4⟩, f0, f1, f2, f3, f4⟩ := bx
   clear e0 e1 e2 bo tt
   have hu1 : CopP _ _ _ u X := hu
   obtain ⟨z, zc, rfl, -⟩ := id hu1
   clear hu
   exact op_skip (w' := X.setCell ⟨w.heap.size, 1, none⟩ (.slice z n' zc)) rfl (wanted_free rfl) rfl (by clear hdep hsame hsz hdf; go_simp) trivial (by rw [if_pos (by decide)]; exact hS.put1 hu1) (Turns.setCell (P := fun k => k = w.heap.size) (Turns.refl _ _) (p := ⟨w.heap.size, 1, none⟩) rfl _)
  | 17, ho =>
   cases ho
   have h1 := hsame 1 rfl
   exact op_value rfl (wanted_free rfl) (by clear hdep hsame hsz hdf; go_simp) rfl (by rw [if_neg (by decide)]; exact hS) (Turns.refl _ _)
  | 18, ho =>
   cases ho
   obtain ⟨_, h18, rfl⟩ := hdep 17 _ 18 rfl rfl rfl
   obtain ⟨u, h13, hu⟩ := hdep 10 _ 13 rfl rfl rfl
   have hk : k = 5 := by
    clear hS hdep hsame
    rcases (by omega : k = 0 ∨ k = 1 ∨ k = 2 ∨ k = 3 ∨ k = 4 ∨ k = 5 ∨ k = 6) with rfl | rfl | rfl | rfl | rfl | rfl | rfl <;> first | omega | exact absurd hmay (Bool.eq_false_iff.1 (by kernel_rfl))
   subst hk
   obtain ⟨v0, v1, v2, e0, e1, e2, bx, bo, tt⟩ := id hS
   obtain ⟨⟨x0, x1, x2, x3, x4⟩, f0, f1, f2, f3, f4⟩ := bx
   clear e0 e1 e2 bo tt
   have hu1 : CopQ _ _ _ u X := hu
   obtain ⟨z, zc, rfl, -⟩ := id hu1
   clear hu
   exact op_skip (w' := X.setCell ⟨w.heap.size, 2, none⟩ (.slice (some ⟨z, 0, none⟩) p zc)) rfl (wanted_free rfl) rfl (by clear hdep hsame hsz hdf; go_simp) trivial (by rw [if_pos (by decide)]; exact hS.put2 hu1) (Turns.setCell (P := fun k => k = w.heap.size) (Turns.refl _ _) (p := ⟨w.heap.size, 2, none⟩) rfl _)
  | k + 19, ho => simp at ho
 case done =>
  intro val X hS hV
  clear hV c0 c1 c2 S0 BX BO
  obtain ⟨u0, u1, u2, e0, e1, e2, bx, bo, tt⟩ := hS
  obtain ⟨a1, k1, rfl, o1⟩ := e0.2 (by decide)
  obtain ⟨a2, k2, rfl, o2⟩ := e1.2 (by decide)
  obtain ⟨q, cp, rfl, o3, hq⟩ := e2.2 (by decide)
  clear e0 e1 e2
  have HO : Hid (OwnT (w.heap.size + 2) X a1 k1 bs ∧ OwnT (w.heap.size + 2) X a2 k2 ns ∧ RowP X q cp ps ∧ w.heap.size + 2 ≤ q) := ⟨o1, o2, o3, hq⟩
  have HL : Hid (Below w.heap.size w X) := lowT X tt
  clear o1 o2 o3 hq tt lowT hBV hD0 hVs HB hV0 hW
  have hz := set5_box bo.1 (.slice a1 n k1) (.slice a2 n' k2) (.slice (some ⟨q, 0, none⟩) p cp) (.int .i64 root) (.int .i64 gen)
  have hzt : Turns (fun k => k = w.heap.size + 1) X (set5 X (w.heap.size + 1) (.slice a1 n k1) (.slice a2 n' k2) (.slice (some ⟨q, 0, none⟩) p cp) (.int .i64 root) (.int .i64 gen)) := set5_turns (P := fun k => k = w.heap.size + 1) (Turns.refl _ _) rfl _ _ _ _ _
  obtain ⟨⟨x0, x1, x2, x3, x4⟩, -⟩ := bx
  obtain ⟨⟨y0, y1, y2, y3, y4⟩, f0, f1, f2, f3, f4⟩ := bo
  obtain ⟨z0, z1, z2, z3, z4⟩ := hz
  have HZ : Hid (CopC w (.returned (.agg #[.slice a1 n k1, .slice a2 n' k2, .slice (some ⟨q, 0, none⟩) p cp, .int .i64 root, .int .i64 gen])) (set5 X (w.heap.size + 1) (.slice a1 n k1) (.slice a2 n' k2) (.slice (some ⟨q, 0, none⟩) p cp) (.int .i64 root) (.int .i64 gen)) n n' p bs ns ps root gen) := by
   obtain ⟨o1, o2, o3, hq⟩ := HO.out
   exact ⟨a1, k1, a2, k2, q, cp, rfl, (o1.turns hzt fun i e => by omega).mono (by omega), (o2.turns hzt fun i e => by omega).mono (by omega), o3.turns hzt (by omega), by omega, Below.turns HL.out hzt fun i e => by omega⟩
  clear hzt HO HL
  unfold set5 at z0 z1 z2 z3 z4 HZ
  simp [filledN]
  go_wp2
  refine bodyPost_ret (v := .agg #[.slice a1 n k1, .slice a2 n' k2, .slice (some ⟨q, 0, none⟩) p cp, .int .i64 root, .int .i64 gen]) (by simp [results, Tryz.results32, go_sem, z0, z1, z2, z3, z4]) rfl HZ.out
end Go.Proofs.YtaecfbfcjaailaaGreat
namespace Go.Proofs.YtaecfbfcjaailaaGreat.Anylast
open Go
theorem region_late {P : Program} {ops : Array Oper} {Q : Exit → Act → World → Prop} {id : Nat} {a0 : Act} {w0 : World} (hm : P.follows .mixedOrders = true) (l : Nat) (val : Nat → Value) (S : Bool → World → Prop)
  (hfit : fit ops a0.tmps.size = true) (hch : chained ops [l] = true)
  (hS : S false w0.drew)
  (hstep : ∀ i o, ops[i]? = some o → i ≠ l → ∀ b a w, S b w → a.defers = a0.defers → a.tmps.size = a0.tmps.size →
   (∀ j oj d, ops[j]? = some oj → oj.dst = some d → waits o j = true → a.tmps[d]? = some (val j)) →
   (∀ d, free ops i d = true → a.tmps[d]? = a0.tmps[d]?) →
   wpOp P ops Q i (fun a' w' => ∃ v, a' = a.put o.dst v ∧ (o.dst.isSome = true → v = val i) ∧ S b w' ∧ True) a w)
  (hlast : ∀ o, ops[l]? = some o → ∀ a w, S false w → a.defers = a0.defers → a.tmps.size = a0.tmps.size →
   (∀ j oj d, ops[j]? = some oj → oj.dst = some d → waits o j = true → a.tmps[d]? = some (val j)) →
   (∀ d, free ops l d = true → a.tmps[d]? = a0.tmps[d]?) →
   wpOp P ops Q l (fun a' w' => ∃ v, a' = a.put o.dst v ∧ (o.dst.isSome = true → v = val l) ∧ S true w' ∧ True) a w)
  (n : Nat) (hn : ops.size = n) (hdone : ∀ w, S true w → Q .normal ⟨filledN ops val a0.tmps n, a0.defers⟩ w) :
  (Code.region id ops true).wp P Q a0 w0 := by
 refine region_chain hm [l] (fun i v _ => ∀ o, ops[i]? = some o → o.dst.isSome = true → v = val i) (fun k w => S (decide (k ≠ 0)) w) (fun _ _ => True) hfit hch (fun i v w w' _ h => h) hS ?_ n hn ?_
 ·
  intro i o ho k a w hk hmay hs hdf hsz hdep hsame
  have hdep' : ∀ j oj d, ops[j]? = some oj → oj.dst = some d → waits o j = true → a.tmps[d]? = some (val j) := by
   intro j oj d hj hd hw
   obtain ⟨v, hv, hV⟩ := hdep j oj d hj hd hw
   rw [hv, hV oj hj (by rw [hd]; rfl)]
  by_cases hi : i = l
  ·
   subst hi
   have hk0 : k = 0 := by
    unfold mayAt at hmay
    rw [if_pos (by simp)] at hmay
    match k, hmay with
    | 0, _ => rfl
    | k + 1, h => simp at h
   subst hk0
   refine wpOp_mono ?_ (hlast o ho a w hs hdf hsz hdep' hsame)
   rintro a' w' ⟨v, h1, h2, h3, _⟩
   refine ⟨v, h1, fun o' ho' hd' => ?_, ?_, trivial⟩
   ·
    rw [ho] at ho'
    cases ho'
    exact h2 hd'
   ·
    rw [if_pos (by simp)]
    exact h3
  ·
   refine wpOp_mono ?_ (hstep i o ho hi _ a w hs hdf hsz hdep' hsame)
   rintro a' w' ⟨v, h1, h2, h3, _⟩
   refine ⟨v, h1, fun o' ho' hd' => ?_, ?_, trivial⟩
   ·
    rw [ho] at ho'
    cases ho'
    exact h2 hd'
   ·
    rw [if_neg (by simpa using hi)]
    exact h3
 ·
  intro val' w hs hV
  rw [filledN_congr n fun j oj hj hd => hV j oj hj hd oj hj hd]
  exact hdone w hs
end Go.Proofs.YtaecfbfcjaailaaGreat.Anylast
namespace Go.Proofs.YtaecfbfcjaailaaGreat
open Go.RowKit Plain Anylast
set_option linter.unusedVariables false
def writeV (h q p cp i : Nat) (kind gen E : Int) (nd : Value) (body S : ByteArray) : Nat → Value
 | 0 => .pointer (some ⟨h, 0, none⟩)
 | 1 => .pointer (some ⟨h, 0, none⟩)
 | 2 => .pointer (some ⟨h, 0, none⟩)
 | 3 => .pointer (some ⟨h, 2, none⟩)
 | 4 => .slice (some ⟨q, 0, none⟩) p cp
 | 5 => .int .i64 i
 | 6 => nd
 | 7 => .int .i64 kind
 | 8 => .pointer (some ⟨h, 0, none⟩)
 | 9 => .pointer (some ⟨h, 0, none⟩)
 | 10 => .pointer (some ⟨h, 0, none⟩)
 | 11 => .pointer (some ⟨h, 4, none⟩)
 | 12 => .int .i64 gen
 | 13 => .string body
 | 14 => .agg #[.int .i64 kind, .int .i64 gen, .string body]
 | 15 => .tuple #[.string S, .int .i64 E]
 | 16 => .tuple #[.string S, .int .i64 E]
 | 17 => .string S
 | 18 => .int .i64 E
 | 19 => .pointer (some ⟨q, i, none⟩)
 | _ => undef
set_option maxRecDepth 20000 in
set_option maxHeartbeats 4000000 in
theorem write_any (h q cp : Nat) (a : Option Addr) (c : Nat) (a' : Option Addr) (c' : Nat) (G : WoodS) (i : Nat) (l : Bool) (a1 : Option Addr) (k1 d1 : Nat) (a2 : Option Addr) (k2 d2 : Nat) (a3 : Option Addr) (k3 d3 : Nat) (ks vs : List ByteArray) (cs : List Int) (w : World) (GA : GrowAt w h q cp a c a' c' G) (hi : i < G.pages.length)
  (hk1 : k1 = ks.length) (hk2 : k2 = vs.length) (hk3 : k3 = cs.length) (h1 : IsS w a1 d1 ks) (h2 : IsS w a2 d2 vs) (h3 : IsI w a3 d3 cs) :
  Calls Tryz.prog 84 #[.pointer (some ⟨h, 0, none⟩), .int .i64 i, .agg #[.bool l, .slice a1 k1 d1, .slice a2 k2 d2, .slice a3 k3 d3]] w fun e w' => e = .returned (.int .i64 (writeG G i (l, ks, vs, cs)).1) ∧ GrowAt w' h q cp a c a' c' (writeG G i (l, ks, vs, cs)).2 ∧ Turns (Mine h q) w w' := by
 obtain ⟨W, hW⟩ : ∃ W, W = w.alloc (.cells #[.bool l, .slice a1 k1 d1, .slice a2 k2 d2, .slice a3 k3 d3] 76) := ⟨_, rfl⟩
 have BN : Box4 W w.heap.size (.bool l) (.slice a1 k1 d1) (.slice a2 k2 d2) (.slice a3 k3 d3) := by rw [hW]; exact box4_new _ _ _ _ _ _ rfl
 have HB : Below w.heap.size w W := by rw [hW]; exact (Below.refl _ _).alloc (Nat.le_refl _) _
 have GAw := GA
 replace GA := GA.below HB
 have TT : Turns (Mine h q) w W := Turns.of_below HB
 have cN := nodePut_any l a1 a2 a3 d1 d2 d3 k1 k2 k3 ks vs cs W hk1 hk2 hk3 (h1.below HB) (h2.below HB) (h3.below HB)
 have cK : ∀ X, Calls Tryz.prog 102 #[.agg #[.bool l, .slice a1 k1 d1, .slice a2 k2 d2, .slice a3 k3 d3]] X fun e w' => e = .returned (.int .i64 (kindN (l, ks, vs, cs))) ∧ Below X.heap.size X w' := fun X => kindOf_any l a1 a2 a3 k1 d1 k2 d2 k3 d3 X
 have hlt : (i : Int) < G.pages.length := by omega
 have mp : G.pages.length ≤ 9223372036854775807 := Nat.le_trans GA.pg.le GA.pg.mx
 clear h1 h2 h3 hk1 hk2 hk3
 obtain ⟨⟨q0, q1, q2, q3⟩, -⟩ := id (hW ▸ BN)
 cases hr : rightN l ks vs cs true with
 | false =>
  have e1 : nPutS l ks vs cs = ⟨#[]⟩ := by unfold nPutS; rw [hr]; rfl
  have e2 : nPutE l ks vs cs = 1 := by unfold nPutE; rw [hr]; rfl
  have e3 : writeG G i (l, ks, vs, cs) = (81, G) := write_bad (by unfold nodeRight; exact hr)
  rw [e1, e2] at cN
  rw [e3]
  clear e1 e2 e3 hr cK hlt mp hi
  go_enter Tryz.func84, Tryz.ntmps84
  go_wp2_with (go_at_call 100; rw [← hW]; refine cN.mono ?_; rintro y w1 ⟨rfl, hb⟩; replace GA := GA.below hb; replace TT := Turns.tr TT hb; clear hb)
  go_ret
  exact ⟨rfl, GA, TT⟩
 | true =>
  have e1 : nPutS l ks vs cs = nodeBytes (l, ks, vs, cs) := by unfold nPutS; rw [hr]; rfl
  have e2 : nPutE l ks vs cs = 0 := by unfold nPutE; rw [hr]; rfl
  have e3 : writeG G i (l, ks, vs, cs) = (0, G.withPage i (nodePage G.gen (l, ks, vs, cs))) := by unfold writeG; rw [if_pos (by unfold nodeRight; exact hr), Int.toNat_natCast]
  have ms : (nodeBytes (l, ks, vs, cs)).size ≤ maxLen := Nat.le_trans (node_size hr) (by decide)
  have cP : ∀ X, Calls Tryz.prog 101 #[.agg #[.int .i64 (kindN (l, ks, vs, cs)), .int .i64 G.gen, .string (nodeBytes (l, ks, vs, cs))]] X fun e w' => e = .returned (.tuple #[.string (nodePage G.gen (l, ks, vs, cs)), .int .i64 (pageE (kindN (l, ks, vs, cs)) G.gen (nodeBytes (l, ks, vs, cs)))]) ∧ Below X.heap.size X w' := fun X => pagePut_any _ _ _ X ms
  have mS : (nodePage G.gen (l, ks, vs, cs)).size ≤ maxLen := Nat.le_trans (nodePage_size _ _) (by decide)
  have hfz : ∃ s, G.pages[i]? = some s := ⟨_, List.getElem?_eq_getElem hi⟩
  rw [e1, e2] at cN
  rw [e3]
  clear e1 e2 e3 hr ms
  generalize nodeBytes (l, ks, vs, cs) = body at *
  generalize nodePage G.gen (l, ks, vs, cs) = S at *
  generalize kindN (l, ks, vs, cs) = kind at *
  generalize pageE kind G.gen body = E at *
  go_enter Tryz.func84, Tryz.ntmps84
  go_wp2_with (go_at_call 100; rw [← hW]; refine cN.mono ?_; rintro y w1 ⟨rfl, hb⟩; replace GA := GA.below hb; replace BN := BN.below hb; replace TT := Turns.tr TT hb; clear hb q0 q1 q2 q3)
  clear hW cN HB
  have hU := (Below.refl w1.heap.size w1).drew
  refine region_late (by kernel_rfl) 20 (writeV h q G.pages.length cp i kind G.gen E (.agg #[.bool l, .slice a1 k1 d1, .slice a2 k2 d2, .slice a3 k3 d3]) body S)
   (fun b X => GrowAt X h q cp a c a' c' (if b = true then G.withPage i S else G) ∧ Box4 X w.heap.size (.bool l) (.slice a1 k1 d1) (.slice a2 k2 d2) (.slice a3 k3 d3) ∧ Turns (Mine h q) w X)
   (by kernel_rfl) (by kernel_rfl) ⟨GA.below hU, BN.below hU, Turns.tr TT hU⟩ ?step ?last 21 rfl ?done
  case step =>
   clear hU GA BN TT
   intro j oo ho hne bb a9 X hS hdf hsz hdep hsame
   obtain ⟨GA, BN, TT⟩ := id hS
   have hbox : WoodBox X h (.slice a G.base.length c) (.slice a' G.now.length c') (.slice (some ⟨q, 0, none⟩) G.pages.length cp) (.int .i64 G.root) (.int .i64 G.gen) := by
    have := GA.box
    cases bb with
    | false => exact this
    | true =>
     have e : (G.withPage i S).pages.length = G.pages.length := List.length_set ..
     simp only [if_true] at this
     rw [e] at this
     exact this
   obtain ⟨x0, x1, x2, x3, x4⟩ := hbox
   obtain ⟨⟨n0, n1, n2, n3⟩, -⟩ := id BN
   match j, ho with
   | 0, ho =>
    cases ho
    have h0 := hsame 0 rfl
    exact val_op rfl (wanted_free rfl) (by clear hdep hsame hsz hdf; simp only [writeV]; go_simp) rfl hS
   | 1, ho =>
    cases ho
    have h17 := hdep 0 _ 17 rfl rfl rfl
    simp only [writeV] at h17
    exact val_op rfl (wanted_free rfl) (by clear hdep hsame hsz hdf; simp only [writeV]; go_simp) rfl hS
   | 2, ho =>
    cases ho
    have h18 := hdep 1 _ 18 rfl rfl rfl
    simp only [writeV] at h18
    exact val_op rfl (wanted_free rfl) (by clear hdep hsame hsz hdf; simp only [writeV]; go_simp) rfl hS
   | 3, ho =>
    cases ho
    have h19 := hdep 2 _ 19 rfl rfl rfl
    simp only [writeV] at h19
    exact val_op rfl (wanted_free rfl) (by clear hdep hsame hsz hdf; simp only [writeV]; go_simp) rfl hS
   | 4, ho =>
    cases ho
    have h20 := hdep 3 _ 20 rfl rfl rfl
    simp only [writeV] at h20
    exact val_op rfl (wanted_free rfl) (by clear hdep hsame hsz hdf; simp only [writeV]; go_simp) rfl hS
   | 5, ho =>
    cases ho
    have h1 := hsame 1 rfl
    exact val_op rfl (wanted_free rfl) (by clear hdep hsame hsz hdf; simp only [writeV]; go_simp) rfl hS
   | 6, ho =>
    cases ho
    have h5 := hsame 5 rfl
    exact val_op rfl (wanted_free rfl) (by clear hdep hsame hsz hdf; simp only [writeV]; go_simp) rfl hS
   | 7, ho =>
    cases ho
    have h23 := hdep 6 _ 23 rfl rfl rfl
    simp only [writeV] at h23
    exact val_call rfl (wanted_free rfl) (by clear hdep hsame hsz hdf; go_simp) ((cK X).mono fun e w'' ⟨he, hb⟩ => ⟨he, GA.below hb, BN.below hb, (Turns.tr TT hb)⟩)
   | 8, ho =>
    cases ho
    have h0 := hsame 0 rfl
    exact val_op rfl (wanted_free rfl) (by clear hdep hsame hsz hdf; simp only [writeV]; go_simp) rfl hS
   | 9, ho =>
    cases ho
    have h25 := hdep 8 _ 25 rfl rfl rfl
    simp only [writeV] at h25
    exact val_op rfl (wanted_free rfl) (by clear hdep hsame hsz hdf; simp only [writeV]; go_simp) rfl hS
   | 10, ho =>
    cases ho
    have h26 := hdep 9 _ 26 rfl rfl rfl
    simp only [writeV] at h26
    exact val_op rfl (wanted_free rfl) (by clear hdep hsame hsz hdf; simp only [writeV]; go_simp) rfl hS
   | 11, ho =>
    cases ho
    have h27 := hdep 10 _ 27 rfl rfl rfl
    simp only [writeV] at h27
    exact val_op rfl (wanted_free rfl) (by clear hdep hsame hsz hdf; simp only [writeV]; go_simp) rfl hS
   | 12, ho =>
    cases ho
    have h28 := hdep 11 _ 28 rfl rfl rfl
    simp only [writeV] at h28
    exact val_op rfl (wanted_free rfl) (by clear hdep hsame hsz hdf; simp only [writeV]; go_simp) rfl hS
   | 13, ho =>
    cases ho
    have h7 := hsame 7 rfl
    exact val_op rfl (wanted_free rfl) (by clear hdep hsame hsz hdf; simp only [writeV]; go_simp) rfl hS
   | 14, ho =>
    cases ho
    have h24 := hdep 7 _ 24 rfl rfl rfl
    have h29 := hdep 12 _ 29 rfl rfl rfl
    have h30 := hdep 13 _ 30 rfl rfl rfl
    simp only [writeV] at h24 h29 h30
    exact val_op rfl (wanted_free rfl) (by clear hdep hsame hsz hdf; simp only [writeV]; go_simp) rfl hS
   | 15, ho =>
    cases ho
    have h31 := hdep 14 _ 31 rfl rfl rfl
    simp only [writeV] at h31
    exact val_call rfl (wanted_free rfl) (by clear hdep hsame hsz hdf; go_simp) ((cP X).mono fun e w'' ⟨he, hb⟩ => ⟨he, GA.below hb, BN.below hb, (Turns.tr TT hb)⟩)
   | 16, ho =>
    cases ho
    have h32 := hdep 15 _ 32 rfl rfl rfl
    simp only [writeV] at h32
    exact val_op rfl (wanted_free rfl) (by clear hdep hsame hsz hdf; simp only [writeV]; go_simp) rfl hS
   | 17, ho =>
    cases ho
    have h16 := hdep 16 _ 16 rfl rfl rfl
    simp only [writeV] at h16
    exact val_op rfl (wanted_free rfl) (by clear hdep hsame hsz hdf; simp only [writeV]; go_simp) rfl hS
   | 18, ho =>
    cases ho
    have h16 := hdep 16 _ 16 rfl rfl rfl
    simp only [writeV] at h16
    exact val_op rfl (wanted_free rfl) (by clear hdep hsame hsz hdf; simp only [writeV]; go_simp) rfl hS
   | 19, ho =>
    cases ho
    have h21 := hdep 4 _ 21 rfl rfl rfl
    have h22 := hdep 5 _ 22 rfl rfl rfl
    simp only [writeV] at h21 h22
    exact val_op rfl (wanted_free rfl) (by clear hdep hsame hsz hdf; simp only [writeV]; go_simp) rfl hS
   | 20, ho => exact absurd rfl hne
   | k + 21, ho => simp at ho
  case last =>
   clear hU GA BN TT
   intro oo ho a9 X hS hdf hsz hdep hsame
   obtain ⟨GA, BN, TT⟩ := id hS
   simp only [Bool.false_eq_true, if_false] at GA
   obtain ⟨s0, hs0⟩ := hfz
   obtain ⟨z0, z1, -⟩ := GA.pg.at_ i s0 hs0
   have BN2 := BN.turns (GA.page i S mS).2 (by show ¬ Mine h q w.heap.size; have e1 := GAw.lt; have e2 := GAw.pg.lt; unfold Mine; omega)
   cases ho
   have h35 := hdep 19 _ 35 rfl rfl rfl
   have h33 := hdep 17 _ 33 rfl rfl rfl
   simp only [writeV] at h35 h33
   exact val_skip (w' := X.setCell ⟨q, i, none⟩ (.string S)) rfl (wanted_free rfl) rfl (by clear hdep hsame hsz hdf; go_simp) ⟨(GA.page i S mS).1, BN2, TT.trans (GA.page i S mS).2⟩
  case done =>
   rintro X ⟨GA2, -, TT2⟩
   simp [filledN, writeV]
   go_wp2
   go_ret
   exact ⟨rfl, GA2, TT2⟩
end Go.Proofs.YtaecfbfcjaailaaGreat
namespace Go.Proofs.YtaecfbfcjaailaaGreat
open Go.RowKit Plain
set_option linter.unusedVariables false
theorem IsS.mine {h q : Nat} {w w' : World} {a : Option Addr} {c : Nat} {l : List ByteArray} (x : IsS w a c l) (t : Turns (Mine h q) w w') (o : Off2 h q a) : IsS w' a c l := x.turns t o.mine
theorem IsI.mine {h q : Nat} {w w' : World} {a : Option Addr} {c : Nat} {l : List Int} (x : IsI w a c l) (t : Turns (Mine h q) w w') (o : Off2 h q a) : IsI w' a c l := x.turns t o.mine
structure NodeR (w : World) (h q : Nat) (a1 : Option Addr) (k1 d1 : Nat) (a2 : Option Addr) (k2 d2 : Nat) (a3 : Option Addr) (k3 d3 : Nat) (ks vs : List ByteArray) (cs : List Int) : Prop where
 e1 : k1 = ks.length
 e2 : k2 = vs.length
 e3 : k3 = cs.length
 i1 : IsS w a1 d1 ks
 i2 : IsS w a2 d2 vs
 i3 : IsI w a3 d3 cs
 o1 : Off2 h q a1
 o2 : Off2 h q a2
 o3 : Off2 h q a3
theorem NodeR.mine {w w' : World} {h q : Nat} {a1 : Option Addr} {k1 d1 : Nat} {a2 : Option Addr} {k2 d2 : Nat} {a3 : Option Addr} {k3 d3 : Nat} {ks vs : List ByteArray} {cs : List Int} (n : NodeR w h q a1 k1 d1 a2 k2 d2 a3 k3 d3 ks vs cs) (t : Turns (Mine h q) w w') : NodeR w' h q a1 k1 d1 a2 k2 d2 a3 k3 d3 ks vs cs :=
 ⟨n.e1, n.e2, n.e3, n.i1.mine t n.o1, n.i2.mine t n.o2, n.i3.mine t n.o3, n.o1, n.o2, n.o3⟩
theorem NodeR.below {w w' : World} {h q : Nat} {a1 : Option Addr} {k1 d1 : Nat} {a2 : Option Addr} {k2 d2 : Nat} {a3 : Option Addr} {k3 d3 : Nat} {ks vs : List ByteArray} {cs : List Int} (n : NodeR w h q a1 k1 d1 a2 k2 d2 a3 k3 d3 ks vs cs) (hb : Below w.heap.size w w') : NodeR w' h q a1 k1 d1 a2 k2 d2 a3 k3 d3 ks vs cs := n.mine (Turns.of_below hb)
theorem write_at (h q cp : Nat) (a : Option Addr) (c : Nat) (a' : Option Addr) (c' : Nat) (G : WoodS) (i : Nat) (l : Bool) (a1 : Option Addr) (k1 d1 : Nat) (a2 : Option Addr) (k2 d2 : Nat) (a3 : Option Addr) (k3 d3 : Nat) (ks vs : List ByteArray) (cs : List Int) (w : World) (GA : GrowAt w h q cp a c a' c' G) (hi : i < G.pages.length) (N : NodeR w h q a1 k1 d1 a2 k2 d2 a3 k3 d3 ks vs cs) :
  Calls Tryz.prog 84 #[.pointer (some ⟨h, 0, none⟩), .int .i64 i, .agg #[.bool l, .slice a1 k1 d1, .slice a2 k2 d2, .slice a3 k3 d3]] w fun e w' => e = .returned (.int .i64 (writeG G i (l, ks, vs, cs)).1) ∧ GrowAt w' h q cp a c a' c' (writeG G i (l, ks, vs, cs)).2 ∧ Turns (Mine h q) w w' :=
 write_any h q cp a c a' c' G i l a1 k1 d1 a2 k2 d2 a3 k3 d3 ks vs cs w GA hi N.e1 N.e2 N.e3 N.i1 N.i2 N.i3
set_option maxRecDepth 20000 in
set_option maxHeartbeats 4000000 in
theorem lay_any (h q cp : Nat) (a : Option Addr) (c : Nat) (a' : Option Addr) (c' : Nat) (G : WoodS) (l : Bool) (a1 : Option Addr) (k1 d1 : Nat) (a2 : Option Addr) (k2 d2 : Nat) (a3 : Option Addr) (k3 d3 : Nat) (ks vs : List ByteArray) (cs : List Int) (w : World) (GA : GrowAt w h q cp a c a' c' G) (hp : rightA G.base G.now = true → G.pages.length = G.now.length) (N : NodeR w h q a1 k1 d1 a2 k2 d2 a3 k3 d3 ks vs cs) :
  Calls Tryz.prog 67 #[.pointer (some ⟨h, 0, none⟩), .agg #[.bool l, .slice a1 k1 d1, .slice a2 k2 d2, .slice a3 k3 d3]] w fun e w' => ∃ b1 e1 b2 e2, e = .returned (.tuple #[.int .i64 (layG G (l, ks, vs, cs)).1, .int .i64 (layG G (l, ks, vs, cs)).2.1]) ∧ GrowAt w' h q cp b1 e1 b2 e2 (layG G (l, ks, vs, cs)).2.2 ∧ (Newer w a b1 ∧ Newer w a' b2) ∧ Turns (Mine h q) w w' := by
 obtain ⟨W, hW⟩ : ∃ W, W = w.alloc (.cells #[.bool l, .slice a1 k1 d1, .slice a2 k2 d2, .slice a3 k3 d3] 76) := ⟨_, rfl⟩
 have BN : Box4 W w.heap.size (.bool l) (.slice a1 k1 d1) (.slice a2 k2 d2) (.slice a3 k3 d3) := by rw [hW]; exact box4_new _ _ _ _ _ _ rfl
 have HB : Below w.heap.size w W := by rw [hW]; exact (Below.refl _ _).alloc (Nat.le_refl _) _
 have hh : h < w.heap.size := GA.lt
 have hqq : q < w.heap.size := GA.pg.lt
 replace GA := GA.below HB
 replace N := N.below HB
 have TT : Turns (Mine h q) w W := Turns.of_below HB
 have hWs : w.heap.size < W.heap.size := by rw [hW]; simp
 have cT := allocTake_any a a' c c' G.base.length G.now.length G.base G.now W rfl rfl GA.bs GA.ns
 obtain ⟨⟨q0, q1, q2, q3⟩, -⟩ := id (hW ▸ BN)
 obtain ⟨x0, x1, x2, x3, x4⟩ := id (hW ▸ GA.box)
 by_cases hE : takeE G.base G.now = 0
 ·
  have hr : rightA G.base G.now = true := by
   unfold takeE at hE
   split at hE
   ·
    assumption
   ·
    cases hE
  have hl := ((rightA_iff _ _).1 hr).1
  obtain ⟨p, hp1, hp2⟩ : ∃ p : Nat, takeK G.base G.now = p ∧ p < G.pages.length := by
   rcases takeP_spec hl with ⟨e, -⟩ | ⟨p, e, hpl, -, -⟩
   ·
    unfold takeE at hE; rw [if_pos hr, if_pos e] at hE; cases hE
   ·
    exact ⟨p, by unfold takeK; rw [if_pos hE, e], by rw [hp hr]; exact hpl⟩
  have eL : layG G (l, ks, vs, cs) = ((p : Int), writeG (G.withAlloc (takeB G.base G.now) (takeNow G.base G.now)) p (l, ks, vs, cs)) := by unfold layG; rw [if_pos hE, hp1]
  rw [eL]
  rw [hE, hp1] at cT
  generalize takeB G.base G.now = B1 at *
  generalize takeNow G.base G.now = N1 at *
  obtain ⟨⟨wE, wG⟩, hwr⟩ : ∃ x, x = writeG (G.withAlloc B1 N1) p (l, ks, vs, cs) := ⟨_, rfl⟩
  have cW : ∀ V {d : Option Addr} {e : Nat} {d' : Option Addr} {e' : Nat}, GrowAt V h q cp d e d' e' (G.withAlloc B1 N1) → NodeR V h q a1 k1 d1 a2 k2 d2 a3 k3 d3 ks vs cs → Calls Tryz.prog 84 #[.pointer (some ⟨h, 0, none⟩), .int .i64 p, .agg #[.bool l, .slice a1 k1 d1, .slice a2 k2 d2, .slice a3 k3 d3]] V fun x w' => x = .returned (.int .i64 wE) ∧ GrowAt w' h q cp d e d' e' wG ∧ Turns (Mine h q) V w' := fun V d e d' e' g n => by
   have := write_at h q cp d e d' e' (G.withAlloc B1 N1) p l a1 k1 d1 a2 k2 d2 a3 k3 d3 ks vs cs V g hp2 n
   rw [← hwr] at this
   exact this
  rw [← hwr]
  clear hE hr hl hp hp1 hp2 eL hwr
  go_enter Tryz.func67, Tryz.ntmps67
  go_wp2_with (first
   | (go_at_call 83; rw [← hW]; refine cT.mono ?_; rintro y w1 ⟨b1, e1, b2, e2, rfl, o1, o2, hb⟩; have hA : Below w1.heap.size w1 (w1.alloc (.cells #[.slice b1 B1.length e1, .slice b2 N1.length e2] 24)) := (Below.refl _ _).alloc (Nat.le_refl _) _; have BA := box2_new w1 (.slice b1 B1.length e1) (.slice b2 N1.length e2) 24 rfl; replace GA := (GA.below hb).below hA; replace N := (N.below hb).below hA; replace BN := (BN.below hb).below hA; replace TT := Turns.tr (Turns.tr TT hb) hA; obtain ⟨GA3, T3⟩ := GA.alloc2 (o1.isB.below hA) (o2.isB.below hA) (o1.from.off2 (by omega) (by omega)) (o2.from.off2 (by omega) (by omega)) (o1.held.mono hA.size) (o2.held.mono hA.size); have NW : Hid (Newer w a b1 ∧ Newer w a' b2) := ⟨.inr (o1.from.mono (by omega)), .inr (o2.from.mono (by omega))⟩; have N3 := N.mine T3; have f0 := GA.f0; have f1 := GA.f1; replace BN := BN.turns T3 (by show ¬ Mine h q w.heap.size; unfold Mine; omega); clear q0 q1 q2 q3 x0 x1 x2 x3 x4; obtain ⟨⟨q0, q1, q2, q3⟩, -⟩ := id BN; obtain ⟨x0, x1, x2, x3, x4⟩ := id GA.box; obtain ⟨⟨y0, y1⟩, -⟩ := id BA; clear hb hA cT)
   | (go_at_call 84; refine (cW _ GA3 N3).mono ?_; rintro y w2 ⟨rfl, GA4, T4⟩; clear q0 q1 q2 q3 x0 x1 x2 x3 x4 y0 y1 f0 f1))
  go_ret2
  exact ⟨_, _, _, _, rfl, GA4, NW.out, (TT.trans T3).trans T4⟩
 ·
  have eL : layG G (l, ks, vs, cs) = (0, takeE G.base G.now, G) := by unfold layG; rw [if_neg hE]
  rw [eL]
  have hE' : (takeE G.base G.now == 0) = false := by simpa using hE
  generalize takeE G.base G.now = E at *
  clear hE hp eL
  go_enter Tryz.func67, Tryz.ntmps67
  go_wp2_with (
   (go_at_call 83; rw [← hW]; refine cT.mono ?_; rintro y w1 ⟨b1, e1, b2, e2, rfl, o1, o2, hb⟩; have hA : Below w1.heap.size w1 (w1.alloc (.cells #[.slice b1 (takeB G.base G.now).length e1, .slice b2 (takeNow G.base G.now).length e2] 24)) := (Below.refl _ _).alloc (Nat.le_refl _) _; replace GA := (GA.below hb).below hA; replace TT := Turns.tr (Turns.tr TT hb) hA; clear q0 q1 q2 q3 x0 x1 x2 x3 x4 hb hA cT))
  go_ret2
  exact ⟨_, _, _, _, rfl, GA, ⟨newer_refl _ _, newer_refl _ _⟩, TT⟩
theorem give_room {G : WoodS} {xs : List Int} (hp : rightA G.base G.now = true → G.pages.length = G.now.length) (h : rightA (giveB G.base G.now xs) (giveN G.base G.now xs) = true) : G.pages.length = (giveN G.base G.now xs).length := by
 by_cases hE : giveE G.base G.now xs = 0
 ·
  have hr : rightA G.base G.now = true := by
   unfold giveE at hE
   split at hE
   ·
    assumption
   ·
    cases hE
  unfold giveN
  rw [if_pos hE, hp hr]
  cases hg : giveR G.now xs with
  | none => unfold giveE at hE; rw [if_pos hr, hg] at hE; simp at hE
  | some m => exact (giveR_length hg).symm
 ·
  have e1 : giveB G.base G.now xs = [] := by unfold giveB; rw [if_neg hE]
  have e2 : giveN G.base G.now xs = [] := by unfold giveN; rw [if_neg hE]
  rw [e1, e2] at h
  exact absurd h (by decide)
set_option maxRecDepth 20000 in
set_option maxHeartbeats 4000000 in
theorem renew_any (h q cp : Nat) (a : Option Addr) (c : Nat) (a' : Option Addr) (c' : Nat) (G : WoodS) (i : Nat) (l : Bool) (a1 : Option Addr) (k1 d1 : Nat) (a2 : Option Addr) (k2 d2 : Nat) (a3 : Option Addr) (k3 d3 : Nat) (ks vs : List ByteArray) (cs : List Int) (w : World) (GA : GrowAt w h q cp a c a' c' G) (hi : i < G.base.length) (hip : i < G.pages.length) (hp : rightA G.base G.now = true → G.pages.length = G.now.length) (N : NodeR w h q a1 k1 d1 a2 k2 d2 a3 k3 d3 ks vs cs) :
  Calls Tryz.prog 86 #[.pointer (some ⟨h, 0, none⟩), .int .i64 i, .agg #[.bool l, .slice a1 k1 d1, .slice a2 k2 d2, .slice a3 k3 d3]] w fun e w' => ∃ b1 e1 b2 e2, e = .returned (.tuple #[.int .i64 (renewG G i (l, ks, vs, cs)).1, .int .i64 (renewG G i (l, ks, vs, cs)).2.1]) ∧ GrowAt w' h q cp b1 e1 b2 e2 (renewG G i (l, ks, vs, cs)).2.2 ∧ (Newer w a b1 ∧ Newer w a' b2) ∧ Turns (Mine h q) w w' := by
 obtain ⟨W, hW⟩ : ∃ W, W = w.alloc (.cells #[.bool l, .slice a1 k1 d1, .slice a2 k2 d2, .slice a3 k3 d3] 76) := ⟨_, rfl⟩
 have BN : Box4 W w.heap.size (.bool l) (.slice a1 k1 d1) (.slice a2 k2 d2) (.slice a3 k3 d3) := by rw [hW]; exact box4_new _ _ _ _ _ _ rfl
 have HB : Below w.heap.size w W := by rw [hW]; exact (Below.refl _ _).alloc (Nat.le_refl _) _
 have hh : h < w.heap.size := GA.lt
 have hqq : q < w.heap.size := GA.pg.lt
 replace GA := GA.below HB
 replace N := N.below HB
 have TT : Turns (Mine h q) w W := Turns.of_below HB
 have hWs : w.heap.size < W.heap.size := by rw [hW]; simp
 have mb : G.base.length ≤ 9223372036854775807 := Nat.le_trans GA.bs.1 GA.bs.2.1
 have hlt : (i : Int) < G.base.length := by omega
 obtain ⟨⟨q0, q1, q2, q3⟩, -⟩ := id (hW ▸ BN)
 obtain ⟨x0, x1, x2, x3, x4⟩ := id (hW ▸ GA.box)
 obtain ⟨b, hbb⟩ : ∃ b, G.base[i]? = some b := ⟨_, List.getElem?_eq_getElem hi⟩
 have hat : atB G.base i = b := atB_some hbb
 obtain ⟨bb, oo, rfl, hbl, hc0⟩ := GA.bs.2.2 i b hbb
 have hc := hW ▸ hc0
 cases b with
 | false =>
  have eR : renewG G i (l, ks, vs, cs) = ((i : Int), writeG G i (l, ks, vs, cs)) := by unfold renewG; rw [Int.toNat_natCast, if_pos hat]
  rw [eR]
  obtain ⟨⟨wE, wG⟩, hwr⟩ : ∃ x, x = writeG G i (l, ks, vs, cs) := ⟨_, rfl⟩
  have cW := write_at h q cp _ c a' c' G i l a1 k1 d1 a2 k2 d2 a3 k3 d3 ks vs cs W GA hip N
  rw [← hwr] at cW ⊢
  clear eR hwr hp hbb hat hip
  go_enter Tryz.func86, Tryz.ntmps86
  go_wp2_with (go_at_call 84; rw [← hW]; refine cW.mono ?_; rintro y w2 ⟨rfl, GA4, T4⟩; clear q0 q1 q2 q3 x0 x1 x2 x3 x4)
  go_ret2
  exact ⟨_, _, _, _, rfl, GA4, ⟨newer_refl _ _, newer_refl _ _⟩, TT.trans T4⟩
 | true =>
  have eR : renewG G i (l, ks, vs, cs) = layG (G.withAlloc (giveB G.base G.now [(i : Int)]) (giveN G.base G.now [(i : Int)])) (l, ks, vs, cs) := by unfold renewG; rw [Int.toNat_natCast, if_neg (by rw [hat]; decide)]
  rw [eR]
  have hroom := fun h => give_room (xs := [(i : Int)]) hp h
  have hA1 : Below W.heap.size W (W.alloc (.cells #[.int .i64 i] 3)) := (Below.refl _ _).alloc (Nat.le_refl _) _
  have cG := allocGive_any (some ⟨bb, oo, none⟩) a' (some ⟨W.heap.size, 0, none⟩) c c' 1 G.base.length G.now.length 1 G.base G.now [(i : Int)] (W.alloc (.cells #[.int .i64 i] 3)) rfl rfl rfl (GA.bs.below hA1) (GA.ns.below hA1) (isI_one W i)
  generalize giveB G.base G.now [(i : Int)] = B1 at *
  generalize giveN G.base G.now [(i : Int)] = N1 at *
  generalize giveE G.base G.now [(i : Int)] = E1 at *
  obtain ⟨⟨lk, lE, lG⟩, hlr⟩ : ∃ x, x = layG (G.withAlloc B1 N1) (l, ks, vs, cs) := ⟨_, rfl⟩
  have cL : ∀ V {d : Option Addr} {e : Nat} {d' : Option Addr} {e' : Nat}, GrowAt V h q cp d e d' e' (G.withAlloc B1 N1) → NodeR V h q a1 k1 d1 a2 k2 d2 a3 k3 d3 ks vs cs → Calls Tryz.prog 67 #[.pointer (some ⟨h, 0, none⟩), .agg #[.bool l, .slice a1 k1 d1, .slice a2 k2 d2, .slice a3 k3 d3]] V fun x w' => ∃ b1 e1 b2 e2, x = .returned (.tuple #[.int .i64 lk, .int .i64 lE]) ∧ GrowAt w' h q cp b1 e1 b2 e2 lG ∧ (Newer V d b1 ∧ Newer V d' b2) ∧ Turns (Mine h q) V w' := fun V d e d' e' g n => by
   have := lay_any h q cp d e d' e' (G.withAlloc B1 N1) l a1 k1 d1 a2 k2 d2 a3 k3 d3 ks vs cs V g (fun hr => hroom hr) n
   rw [← hlr] at this
   exact this
  rw [← hlr]
  have hsz : W.heap.size = w.heap.size + 1 := by rw [hW]; simp
  rw [hsz] at cG
  clear eR hlr hp hbb hat hip hroom
  go_enter Tryz.func86, Tryz.ntmps86
  go_wp2_with (first
   | (go_at_call 104; rw [← hW]; refine cG.mono ?_; rintro y w1 ⟨b1, e1, b2, e2, rfl, o1, o2, hb⟩; replace GA := (GA.below hA1).below hb; replace N := (N.below hA1).below hb; replace BN := (BN.below hA1).below hb; replace TT := Turns.tr (Turns.tr TT hA1) hb; have hs1 : w.heap.size < (W.alloc (.cells #[.int .i64 i] 3)).heap.size := (by simp; omega); obtain ⟨GA3, T3⟩ := GA.alloc2 o1.isB o2.isB (o1.from.off2 (by omega) (by omega)) (o2.from.off2 (by omega) (by omega)) o1.held o2.held; have NW : Hid (Newer w (some ⟨bb, oo, none⟩) b1 ∧ Newer w a' b2) := ⟨.inr (o1.from.mono (by omega)), .inr (o2.from.mono (by omega))⟩; have hsT : w.heap.size ≤ w1.heap.size := TT.size; have N3 := N.mine T3; have f0 := GA.f0; have f1 := GA.f1; replace BN := BN.turns T3 (by show ¬ Mine h q w.heap.size; unfold Mine; omega); clear q0 q1 q2 q3 x0 x1 x2 x3 x4; obtain ⟨⟨q0, q1, q2, q3⟩, -⟩ := id BN; obtain ⟨x0, x1, x2, x3, x4⟩ := id GA.box; clear hb hA1 cG)
   | (go_at_call 67; refine (cL _ GA3 N3).mono ?_; rintro y w2 ⟨c1, f1', c2, f2', rfl, GA4, ⟨v1, v2⟩, T4⟩; clear q0 q1 q2 q3 x0 x1 x2 x3 x4 f0 f1))
  go_ret2
  exact ⟨_, _, _, _, rfl, GA4, ⟨NW.out.1.trans v1 (TT.trans T3).size, NW.out.2.trans v2 (TT.trans T3).size⟩, (TT.trans T3).trans T4⟩
set_option maxRecDepth 20000 in
set_option maxHeartbeats 4000000 in
theorem plant_any (h q cp : Nat) (a : Option Addr) (c : Nat) (a' : Option Addr) (c' : Nat) (G : WoodS) (l : Bool) (a1 : Option Addr) (k1 d1 : Nat) (a2 : Option Addr) (k2 d2 : Nat) (a3 : Option Addr) (k3 d3 : Nat) (ks vs : List ByteArray) (cs : List Int) (w : World) (GA : GrowAt w h q cp a c a' c' G) (hp : rightA G.base G.now = true → G.pages.length = G.now.length) (N : NodeR w h q a1 k1 d1 a2 k2 d2 a3 k3 d3 ks vs cs) :
  Calls Tryz.prog 53 #[.pointer (some ⟨h, 0, none⟩), .agg #[.bool l, .slice a1 k1 d1, .slice a2 k2 d2, .slice a3 k3 d3]] w fun e w' => ∃ b1 e1 b2 e2, e = .returned (.int .i64 (plantG G (l, ks, vs, cs)).1) ∧ GrowAt w' h q cp b1 e1 b2 e2 (plantG G (l, ks, vs, cs)).2 ∧ (Newer w a b1 ∧ Newer w a' b2) ∧ Turns (Mine h q) w w' := by
 obtain ⟨W, hW⟩ : ∃ W, W = w.alloc (.cells #[.bool l, .slice a1 k1 d1, .slice a2 k2 d2, .slice a3 k3 d3] 76) := ⟨_, rfl⟩
 have BN : Box4 W w.heap.size (.bool l) (.slice a1 k1 d1) (.slice a2 k2 d2) (.slice a3 k3 d3) := by rw [hW]; exact box4_new _ _ _ _ _ _ rfl
 have HB : Below w.heap.size w W := by rw [hW]; exact (Below.refl _ _).alloc (Nat.le_refl _) _
 replace GA := GA.below HB
 replace N := N.below HB
 have TT : Turns (Mine h q) w W := Turns.of_below HB
 obtain ⟨⟨q0, q1, q2, q3⟩, -⟩ := id (hW ▸ BN)
 have cL := lay_any h q cp a c a' c' G l a1 k1 d1 a2 k2 d2 a3 k3 d3 ks vs cs W GA hp N
 unfold plantG
 obtain ⟨⟨lk, lE, lG⟩, hlr⟩ : ∃ x, x = layG G (l, ks, vs, cs) := ⟨_, rfl⟩
 rw [← hlr] at cL ⊢
 clear hlr hp
 go_enter Tryz.func53, Tryz.ntmps53
 go_wp2_with (go_at_call 67; rw [← hW]; refine cL.mono ?_; rintro y w2 ⟨c1, e1, c2, e2, rfl, GA4, ⟨v1, v2⟩, T4⟩; obtain ⟨x0, x1, x2, x3, x4⟩ := id GA4.box; have f3 := GA4.f3; clear q0 q1 q2 q3)
 go_ret
 exact ⟨_, _, _, _, rfl, (GA4.setRoot lk).1, ⟨v1.low TT.size, v2.low TT.size⟩, (TT.trans T4).trans (GA4.setRoot lk).2⟩
def ReplC (w : World) (x : Ending) (w' : World) (h q cp : Nat) (a a' : Option Addr) (R : Int × (List ByteArray × List Int) × WoodS) : Prop :=
 ∃ b1 e1 b2 e2 ak kk dk ac kc dc, x = .returned (.tuple #[.agg #[.bool false, .slice ak kk dk, .slice none 0 0, .slice ac kc dc], .int .i64 R.1]) ∧ kk = R.2.1.1.length ∧ kc = R.2.1.2.length ∧ IsS w' ak dk R.2.1.1 ∧ IsI w' ac dc R.2.1.2 ∧ From w.heap.size ak ∧ From w.heap.size ac ∧ GrowAt w' h q cp b1 e1 b2 e2 R.2.2 ∧ (Newer w a b1 ∧ Newer w a' b2) ∧ Turns (Mine h q) w w'
theorem write_room {G : WoodS} {block : Int} {n : NodeS} : (writeG G block n).2.base = G.base ∧ (writeG G block n).2.now = G.now ∧ (writeG G block n).2.pages.length = G.pages.length := by
 unfold writeG
 split
 ·
  exact ⟨rfl, rfl, List.length_set ..⟩
 ·
  exact ⟨rfl, rfl, rfl⟩
theorem lay_room {G : WoodS} {n : NodeS} (hp : rightA G.base G.now = true → G.pages.length = G.now.length) : rightA (layG G n).2.2.base (layG G n).2.2.now = true → (layG G n).2.2.pages.length = (layG G n).2.2.now.length := by
 unfold layG
 split
 ·
  rename_i hE
  obtain ⟨e1, e2, e3⟩ := write_room (G := G.withAlloc (takeB G.base G.now) (takeNow G.base G.now)) (block := takeK G.base G.now) (n := n)
  intro _
  rw [e3, e2]
  have hr : rightA G.base G.now = true := by
   unfold takeE at hE
   split at hE
   ·
    assumption
   ·
    cases hE
  show G.pages.length = (takeNow G.base G.now).length
  unfold takeNow
  rw [if_pos hE, List.length_set]
  exact hp hr
 ·
  exact hp
theorem renew_room {G : WoodS} {block : Int} {n : NodeS} (hp : rightA G.base G.now = true → G.pages.length = G.now.length) : rightA (renewG G block n).2.2.base (renewG G block n).2.2.now = true → (renewG G block n).2.2.pages.length = (renewG G block n).2.2.now.length := by
 unfold renewG
 split
 ·
  obtain ⟨e1, e2, e3⟩ := write_room (G := G) (block := block) (n := n)
  intro h
  rw [e3, e2]
  have h' : rightA (writeG G block n).2.base (writeG G block n).2.now = true := h
  rw [e1, e2] at h'
  exact hp h'
 ·
  exact lay_room fun h => give_room hp h
set_option maxRecDepth 20000 in
set_option maxHeartbeats 4000000 in
theorem replace_any (h q cp : Nat) (a : Option Addr) (c : Nat) (a' : Option Addr) (c' : Nat) (G : WoodS) (i : Nat) (l : Bool) (a1 : Option Addr) (k1 d1 : Nat) (a2 : Option Addr) (k2 d2 : Nat) (a3 : Option Addr) (k3 d3 : Nat) (ks vs : List ByteArray) (cs : List Int) (w : World) (GA : GrowAt w h q cp a c a' c' G) (hi : i < G.base.length) (hip : i < G.pages.length) (hp : rightA G.base G.now = true → G.pages.length = G.now.length) (N : NodeR w h q a1 k1 d1 a2 k2 d2 a3 k3 d3 ks vs cs) :
  Calls Tryz.prog 70 #[.pointer (some ⟨h, 0, none⟩), .int .i64 i, .agg #[.bool l, .slice a1 k1 d1, .slice a2 k2 d2, .slice a3 k3 d3]] w fun x w' => ReplC w x w' h q cp a a' (replaceG G i (l, ks, vs, cs)) := by
 obtain ⟨W, hW⟩ : ∃ W, W = (w.alloc (.cells #[.bool l, .slice a1 k1 d1, .slice a2 k2 d2, .slice a3 k3 d3] 76)).alloc (.cells #[.bool false, .slice none 0 0, .slice none 0 0, .slice none 0 0] 76) := ⟨_, rfl⟩
 have BN : Box4 W w.heap.size (.bool l) (.slice a1 k1 d1) (.slice a2 k2 d2) (.slice a3 k3 d3) := by rw [hW]; exact (box4_new _ _ _ _ _ _ rfl).alloc _
 have BR : Box4 W (w.heap.size + 1) (.bool false) (.slice none 0 0) (.slice none 0 0) (.slice none 0 0) := by rw [hW]; exact box4_new _ _ _ _ _ _ (by simp)
 have HB : Below w.heap.size w W := by rw [hW]; exact ((Below.refl _ _).alloc (Nat.le_refl _) _).alloc (by simp) _
 have hh : h < w.heap.size := GA.lt
 have hqq : q < w.heap.size := GA.pg.lt
 have LB := GA.lb
 have LN := GA.ln
 replace GA := GA.below HB
 replace N := N.below HB
 have TT : Turns (Mine h q) w W := Turns.of_below HB
 have hWs : W.heap.size = w.heap.size + 2 := by rw [hW]; simp
 have offN : ¬ Mine h q w.heap.size := by unfold Mine; omega
 have offR : ¬ Mine h q (w.heap.size + 1) := by unfold Mine; omega
 obtain ⟨⟨q0, q1, q2, q3⟩, -⟩ := id (hW ▸ BN)
 have m1 : k1 ≤ 9223372036854775807 := by rw [N.e1]; exact Nat.le_trans N.i1.1 N.i1.2.1
 by_cases h8 : ks.length ≤ 8
 ·
  have h8' : (k1 : Int) ≤ 8 := by rw [N.e1]; omega
  have cR := renew_any h q cp a c a' c' G i l a1 k1 d1 a2 k2 d2 a3 k3 d3 ks vs cs W GA hi hip hp N
  have eR : replaceG G i (l, ks, vs, cs) = ((renewG G i (l, ks, vs, cs)).2.1, ([], [(renewG G i (l, ks, vs, cs)).1]), (renewG G i (l, ks, vs, cs)).2.2) := by unfold replaceG; rw [if_pos h8]
  rw [eR]
  obtain ⟨⟨rk, rE, rG⟩, hrr⟩ : ∃ x, x = renewG G i (l, ks, vs, cs) := ⟨_, rfl⟩
  rw [← hrr] at cR ⊢
  clear hrr eR hp h8 hi hip N
  go_enter Tryz.func70, Tryz.ntmps70
  go_wp2_with (go_at_call 86; rw [← hW]; refine cR.mono ?_; rintro y w1 ⟨b1, e1, b2, e2, rfl, GA4, ⟨v1, v2⟩, T4⟩; have hA : Below w1.heap.size w1 (w1.alloc (.cells #[.int .i64 rk] 3)) := (Below.refl _ _).alloc (Nat.le_refl _) _; replace BR := (BR.turns T4 offR).below hA; obtain ⟨⟨r0, r1, r2, r3⟩, g0, g1, g2, g3⟩ := id BR; have II := isI_one w1 rk; have hs4 := T4.size; clear q0 q1 q2 q3)
  have T5 := turns_put4 (w1.alloc (.cells #[.int .i64 rk] 3)) (w.heap.size + 1) (.bool false) (.slice none 0 0) (.slice none 0 0) (.slice (some ⟨w1.heap.size, 0, none⟩) 1 1)
  refine bodyPost_ret (v := .tuple #[.agg #[.bool false, .slice none 0 0, .slice none 0 0, .slice (some ⟨w1.heap.size, 0, none⟩) 1 1], .int .i64 rE]) (by simp [results, Tryz.results70, go_sem, r0, r1, r2, r3]) rfl ?_
  exact ⟨b1, e1, b2, e2, none, 0, 0, some ⟨w1.heap.size, 0, none⟩, 1, 1, rfl, rfl, rfl, isS_nil _, II.turns T5 (fun x hx e => by cases hx; have e' : w1.heap.size = w.heap.size + 1 := e; omega), from_nil _, fun x hx => by cases hx; show w.heap.size ≤ w1.heap.size; omega, (GA4.below hA).turns T5 (by omega) (by omega) (v1.off LB (by omega) (by omega)) (v2.off LN (by omega) (by omega)), ⟨v1.low TT.size, v2.low TT.size⟩, ((TT.trans T4).tr hA).own T5 (fun k hk e => by omega)⟩
 ·
  have h8' : ¬ (k1 : Int) ≤ 8 := by rw [N.e1]; omega
  have cC := nodeCutF_any l a1 a2 a3 d1 d2 d3 k1 k2 k3 ks vs cs W N.e1 N.e2 N.e3 N.i1 N.i2 N.i3
  by_cases hok : cutNOk (l, ks, vs, cs) = true
  ·
   have hE : cutEr l ks vs cs = 0 := by unfold cutEr; rw [if_pos (show cutOk l ks vs cs = true from hok)]
   have eA : cutNA (l, ks, vs, cs) = (cutL l ks vs cs, cutAK l ks vs cs, cutAV l ks vs cs, cutAC l ks vs cs) := rfl
   have eB : cutNB (l, ks, vs, cs) = (cutL l ks vs cs, cutBK l ks vs cs, cutBV l ks vs cs, cutBC l ks vs cs) := rfl
   have eM : cutNM (l, ks, vs, cs) = cutM l ks vs cs := rfl
   have mM : (cutM l ks vs cs).size ≤ maxLen := by
    have h1 := (cut_parts hok).2.2
    rw [eM] at h1
    obtain ⟨_, _, _, _, _, hs⟩ := N.i1.2.2 4 _ h1
    exact hs
   have eR : replaceG G i (l, ks, vs, cs) = if (renewG G i (cutNA (l, ks, vs, cs))).2.1 = 0 then ((layG (renewG G i (cutNA (l, ks, vs, cs))).2.2 (cutNB (l, ks, vs, cs))).2.1, ([cutNM (l, ks, vs, cs)], [(renewG G i (cutNA (l, ks, vs, cs))).1, (layG (renewG G i (cutNA (l, ks, vs, cs))).2.2 (cutNB (l, ks, vs, cs))).1]), (layG (renewG G i (cutNA (l, ks, vs, cs))).2.2 (cutNB (l, ks, vs, cs))).2.2) else ((renewG G i (cutNA (l, ks, vs, cs))).2.1, ([], []), (renewG G i (cutNA (l, ks, vs, cs))).2.2) := by unfold replaceG; rw [if_neg h8, if_pos hok]
   rw [eR, eA, eB, eM]
   rw [hE] at cC
   clear hE eA eB eM eR hok h8
   generalize cutL l ks vs cs = la at *
   generalize cutAK l ks vs cs = AK at *
   generalize cutAV l ks vs cs = AV at *
   generalize cutAC l ks vs cs = AC at *
   generalize cutBK l ks vs cs = BK at *
   generalize cutBV l ks vs cs = BV at *
   generalize cutBC l ks vs cs = BC at *
   generalize cutM l ks vs cs = mid at *
   obtain ⟨⟨rk, rE, rG⟩, hrr⟩ : ∃ x, x = renewG G i (la, AK, AV, AC) := ⟨_, rfl⟩
   rw [← hrr]
   have cR : ∀ V {a1 : Option Addr} {k1 d1 : Nat} {a2 : Option Addr} {k2 d2 : Nat} {a3 : Option Addr} {k3 d3 : Nat}, GrowAt V h q cp a c a' c' G → NodeR V h q a1 k1 d1 a2 k2 d2 a3 k3 d3 AK AV AC → Calls Tryz.prog 86 #[.pointer (some ⟨h, 0, none⟩), .int .i64 i, .agg #[.bool la, .slice a1 k1 d1, .slice a2 k2 d2, .slice a3 k3 d3]] V fun x w' => ∃ b1 e1 b2 e2, x = .returned (.tuple #[.int .i64 rk, .int .i64 rE]) ∧ GrowAt w' h q cp b1 e1 b2 e2 rG ∧ (Newer V a b1 ∧ Newer V a' b2) ∧ Turns (Mine h q) V w' := fun V a1 k1 d1 a2 k2 d2 a3 k3 d3 g n => by
    have := renew_any h q cp a c a' c' G i la a1 k1 d1 a2 k2 d2 a3 k3 d3 AK AV AC V g hi hip hp n
    rw [← hrr] at this
    exact this
   have hp2 : rightA rG.base rG.now = true → rG.pages.length = rG.now.length := by
    have := renew_room (n := (la, AK, AV, AC)) (block := (i : Int)) hp
    rw [← hrr] at this
    exact this
   obtain ⟨⟨lk, lE, lG⟩, hlr⟩ : ∃ x, x = layG rG (la, BK, BV, BC) := ⟨_, rfl⟩
   have cL : ∀ V {d : Option Addr} {e : Nat} {d' : Option Addr} {e' : Nat} {a1 : Option Addr} {k1 d1 : Nat} {a2 : Option Addr} {k2 d2 : Nat} {a3 : Option Addr} {k3 d3 : Nat}, GrowAt V h q cp d e d' e' rG → NodeR V h q a1 k1 d1 a2 k2 d2 a3 k3 d3 BK BV BC → Calls Tryz.prog 67 #[.pointer (some ⟨h, 0, none⟩), .agg #[.bool la, .slice a1 k1 d1, .slice a2 k2 d2, .slice a3 k3 d3]] V fun x w' => ∃ b1 e1 b2 e2, x = .returned (.tuple #[.int .i64 lk, .int .i64 lE]) ∧ GrowAt w' h q cp b1 e1 b2 e2 lG ∧ (Newer V d b1 ∧ Newer V d' b2) ∧ Turns (Mine h q) V w' := fun V d e d' e' a1 k1 d1 a2 k2 d2 a3 k3 d3 g n => by
    have := lay_any h q cp d e d' e' rG la a1 k1 d1 a2 k2 d2 a3 k3 d3 BK BV BC V g hp2 n
    rw [← hlr] at this
    exact this
   rw [← hlr]
   clear hrr hlr hp hp2 hi hip N
   by_cases hE0 : rE = 0
   ·
    subst hE0
    simp only [if_true]
    go_enter Tryz.func70, Tryz.ntmps70
    go_wp2_with (first
     | (go_at_call 87; rw [← hW]; refine cC.mono ?_; rintro y w1 ⟨n1, u1, s1, n2, u2, s2, n3, u3, s3, m1, p1, t1, m2, p2, t2, m3, p3, t3, rfl, e1, e2, e3, e4, e5, e6, i1, i2, i3, i4, i5, i6, ⟨o1, o2, o3, o4, o5, o6⟩, hb⟩; have hA : Below w1.heap.size w1 (w1.alloc (.cells #[.bool la, .slice u1 n1 s1, .slice u2 n2 s2, .slice u3 n3 s3] 76)) := (Below.refl _ _).alloc (Nat.le_refl _) _; have hA' : Below (w1.alloc (.cells #[.bool la, .slice u1 n1 s1, .slice u2 n2 s2, .slice u3 n3 s3] 76)).heap.size (w1.alloc (.cells #[.bool la, .slice u1 n1 s1, .slice u2 n2 s2, .slice u3 n3 s3] 76)) ((w1.alloc (.cells #[.bool la, .slice u1 n1 s1, .slice u2 n2 s2, .slice u3 n3 s3] 76)).alloc (.cells #[.bool la, .slice p1 m1 t1, .slice p2 m2 t2, .slice p3 m3 t3] 76)) := (Below.refl _ _).alloc (Nat.le_refl _) _; have NA : Hid (NodeR ((w1.alloc (.cells #[.bool la, .slice u1 n1 s1, .slice u2 n2 s2, .slice u3 n3 s3] 76)).alloc (.cells #[.bool la, .slice p1 m1 t1, .slice p2 m2 t2, .slice p3 m3 t3] 76)) h q u1 n1 s1 u2 n2 s2 u3 n3 s3 AK AV AC) := ⟨e1, e2, e3, (i1.below hA).below hA', (i2.below hA).below hA', (i3.below hA).below hA', o1.off2 (by omega) (by omega), o2.off2 (by omega) (by omega), o3.off2 (by omega) (by omega)⟩; have NB : Hid (NodeR ((w1.alloc (.cells #[.bool la, .slice u1 n1 s1, .slice u2 n2 s2, .slice u3 n3 s3] 76)).alloc (.cells #[.bool la, .slice p1 m1 t1, .slice p2 m2 t2, .slice p3 m3 t3] 76)) h q p1 m1 t1 p2 m2 t2 p3 m3 t3 BK BV BC) := ⟨e4, e5, e6, (i4.below hA).below hA', (i5.below hA).below hA', (i6.below hA).below hA', o4.off2 (by omega) (by omega), o5.off2 (by omega) (by omega), o6.off2 (by omega) (by omega)⟩; have hs1 : W.heap.size ≤ w1.heap.size := hb.size; replace GA := ((GA.below hb).below hA).below hA'; replace TT := ((TT.tr hb).tr hA).tr hA'; replace BR := ((BR.below hb).below hA).below hA'; have BA := (box4_new w1 (.bool la) (.slice u1 n1 s1) (.slice u2 n2 s2) (.slice u3 n3 s3) 76 rfl).below hA'; have BB := box4_new (w1.alloc (.cells #[.bool la, .slice u1 n1 s1, .slice u2 n2 s2, .slice u3 n3 s3] 76)) (.bool la) (.slice p1 m1 t1) (.slice p2 m2 t2) (.slice p3 m3 t3) 76 rfl; have hzA : (w1.alloc (.cells #[.bool la, .slice u1 n1 s1, .slice u2 n2 s2, .slice u3 n3 s3] 76)).heap.size = w1.heap.size + 1 := (by simp); rw [hzA] at BB; clear q0 q1 q2 q3 e1 e2 e3 e4 e5 e6 i1 i2 i3 i4 i5 i6 o1 o2 o3 o4 o5 o6 hb hA hA' hzA; obtain ⟨⟨q0, q1, q2, q3⟩, -⟩ := id BA; obtain ⟨⟨p0, p1', p2', p3'⟩, -⟩ := id BB)
     | (go_at_call 86; refine (cR _ GA NA.out).mono ?_; rintro y w2 ⟨b1, e1, b2, e2, rfl, GA2, ⟨v1, v2⟩, T4⟩; replace NB := NB.out.mine T4; replace NB : Hid _ := NB; replace BR := BR.turns T4 offR; replace BB := BB.turns T4 (by unfold Mine; omega); have hs2 := T4.size; clear GA; have GA := GA2; clear GA2; replace TT := TT.trans T4; have hs2' : W.heap.size ≤ w2.heap.size := (by simp at hs2; omega); replace v1 := v1.low (w := W) (by simp; omega); replace v2 := v2.low (w := W) (by simp; omega); clear q0 q1 q2 q3 p0 p1' p2' p3' NA; obtain ⟨⟨p0, p1', p2', p3'⟩, -⟩ := id BB; obtain ⟨⟨r0, r1, r2, r3⟩, g0, g1, g2, g3⟩ := id BR)
     | (go_at_call 67; refine (cL _ GA NB.out).mono ?_; rintro y w3 ⟨b3, e3, b4, e4, rfl, GA4, ⟨v3, v4⟩, T5⟩; have hB1 : Below w3.heap.size w3 (w3.alloc (.cells #[.string mid] 9)) := (Below.refl _ _).alloc (Nat.le_refl _) _; have hB2 : Below (w3.alloc (.cells #[.string mid] 9)).heap.size (w3.alloc (.cells #[.string mid] 9)) ((w3.alloc (.cells #[.string mid] 9)).alloc (.cells #[.int .i64 rk, .int .i64 lk] 3)) := (Below.refl _ _).alloc (Nat.le_refl _) _; replace BR := ((BR.turns T5 offR).below hB1).below hB2; have I1 := (isS_one w3 mid mM).below hB2; have I2 := isI_pair (w3.alloc (.cells #[.string mid] 9)) rk lk; replace TT := ((TT.trans T5).tr hB1).tr hB2; have hs5 := T5.size; replace GA4 := (GA4.below hB1).below hB2; clear p0 p1' p2' p3' r0 r1 r2 r3 g0 g1 g2 g3; obtain ⟨⟨r0, r1, r2, r3⟩, g0, g1, g2, g3⟩ := id BR))
    have T6 := turns_put4 ((w3.alloc (.cells #[.string mid] 9)).alloc (.cells #[.int .i64 rk, .int .i64 lk] 3)) (w.heap.size + 1) (.bool false) (.slice (some ⟨w3.heap.size, 0, none⟩) 1 1) (.slice none 0 0) (.slice (some ⟨w3.heap.size + 1, 0, none⟩) 2 2)
    refine bodyPost_ret (v := .tuple #[.agg #[.bool false, .slice (some ⟨w3.heap.size, 0, none⟩) 1 1, .slice none 0 0, .slice (some ⟨w3.heap.size + 1, 0, none⟩) 2 2], .int .i64 lE]) (by simp [results, Tryz.results70, go_sem, r0, r1, r2, r3]) rfl ?_
    have hz : (w3.alloc (.cells #[.string mid] 9)).heap.size = w3.heap.size + 1 := by simp
    rw [hz] at I2
    have n3 := v1.trans v3 hs2'
    have n4 := v2.trans v4 hs2'
    exact ⟨b3, e3, b4, e4, some ⟨w3.heap.size, 0, none⟩, 1, 1, some ⟨w3.heap.size + 1, 0, none⟩, 2, 2, rfl, rfl, rfl, I1.turns T6 (fun x hx e => by cases hx; have e' : w3.heap.size = w.heap.size + 1 := e; omega), I2.turns T6 (fun x hx e => by cases hx; have e' : w3.heap.size + 1 = w.heap.size + 1 := e; omega), fun x hx => by cases hx; show w.heap.size ≤ w3.heap.size; omega, fun x hx => by cases hx; show w.heap.size ≤ w3.heap.size + 1; omega, GA4.turns T6 (by omega) (by omega) (n3.off LB (by omega) (by omega)) (n4.off LN (by omega) (by omega)), ⟨n3.low (by omega), n4.low (by omega)⟩, TT.own T6 (fun k hk e => by omega)⟩
   ·
    rw [if_neg hE0]
    have hE0' : (rE == 0) = false := by simpa using hE0
    clear hE0 cL
    go_enter Tryz.func70, Tryz.ntmps70
    go_wp2_with (first
     | (go_at_call 87; rw [← hW]; refine cC.mono ?_; rintro y w1 ⟨n1, u1, s1, n2, u2, s2, n3, u3, s3, m1, p1, t1, m2, p2, t2, m3, p3, t3, rfl, e1, e2, e3, e4, e5, e6, i1, i2, i3, i4, i5, i6, ⟨o1, o2, o3, o4, o5, o6⟩, hb⟩; have hA : Below w1.heap.size w1 (w1.alloc (.cells #[.bool la, .slice u1 n1 s1, .slice u2 n2 s2, .slice u3 n3 s3] 76)) := (Below.refl _ _).alloc (Nat.le_refl _) _; have hA' : Below (w1.alloc (.cells #[.bool la, .slice u1 n1 s1, .slice u2 n2 s2, .slice u3 n3 s3] 76)).heap.size (w1.alloc (.cells #[.bool la, .slice u1 n1 s1, .slice u2 n2 s2, .slice u3 n3 s3] 76)) ((w1.alloc (.cells #[.bool la, .slice u1 n1 s1, .slice u2 n2 s2, .slice u3 n3 s3] 76)).alloc (.cells #[.bool la, .slice p1 m1 t1, .slice p2 m2 t2, .slice p3 m3 t3] 76)) := (Below.refl _ _).alloc (Nat.le_refl _) _; have NA : Hid (NodeR ((w1.alloc (.cells #[.bool la, .slice u1 n1 s1, .slice u2 n2 s2, .slice u3 n3 s3] 76)).alloc (.cells #[.bool la, .slice p1 m1 t1, .slice p2 m2 t2, .slice p3 m3 t3] 76)) h q u1 n1 s1 u2 n2 s2 u3 n3 s3 AK AV AC) := ⟨e1, e2, e3, (i1.below hA).below hA', (i2.below hA).below hA', (i3.below hA).below hA', o1.off2 (by omega) (by omega), o2.off2 (by omega) (by omega), o3.off2 (by omega) (by omega)⟩; have NB : Hid (NodeR ((w1.alloc (.cells #[.bool la, .slice u1 n1 s1, .slice u2 n2 s2, .slice u3 n3 s3] 76)).alloc (.cells #[.bool la, .slice p1 m1 t1, .slice p2 m2 t2, .slice p3 m3 t3] 76)) h q p1 m1 t1 p2 m2 t2 p3 m3 t3 BK BV BC) := ⟨e4, e5, e6, (i4.below hA).below hA', (i5.below hA).below hA', (i6.below hA).below hA', o4.off2 (by omega) (by omega), o5.off2 (by omega) (by omega), o6.off2 (by omega) (by omega)⟩; have hs1 : W.heap.size ≤ w1.heap.size := hb.size; replace GA := ((GA.below hb).below hA).below hA'; replace TT := ((TT.tr hb).tr hA).tr hA'; replace BR := ((BR.below hb).below hA).below hA'; have BA := (box4_new w1 (.bool la) (.slice u1 n1 s1) (.slice u2 n2 s2) (.slice u3 n3 s3) 76 rfl).below hA'; have BB := box4_new (w1.alloc (.cells #[.bool la, .slice u1 n1 s1, .slice u2 n2 s2, .slice u3 n3 s3] 76)) (.bool la) (.slice p1 m1 t1) (.slice p2 m2 t2) (.slice p3 m3 t3) 76 rfl; have hzA : (w1.alloc (.cells #[.bool la, .slice u1 n1 s1, .slice u2 n2 s2, .slice u3 n3 s3] 76)).heap.size = w1.heap.size + 1 := (by simp); rw [hzA] at BB; clear q0 q1 q2 q3 e1 e2 e3 e4 e5 e6 i1 i2 i3 i4 i5 i6 o1 o2 o3 o4 o5 o6 hb hA hA' hzA; obtain ⟨⟨q0, q1, q2, q3⟩, -⟩ := id BA; obtain ⟨⟨p0, p1', p2', p3'⟩, -⟩ := id BB)
     | (go_at_call 86; refine (cR _ GA NA.out).mono ?_; rintro y w2 ⟨b1, e1, b2, e2, rfl, GA2, ⟨v1, v2⟩, T4⟩; replace NB := NB.out.mine T4; replace NB : Hid _ := NB; replace BR := BR.turns T4 offR; replace BB := BB.turns T4 (by unfold Mine; omega); have hs2 := T4.size; clear GA; have GA := GA2; clear GA2; replace TT := TT.trans T4; have hs2' : W.heap.size ≤ w2.heap.size := (by simp at hs2; omega); replace v1 := v1.low (w := W) (by simp; omega); replace v2 := v2.low (w := W) (by simp; omega); clear q0 q1 q2 q3 p0 p1' p2' p3' NA; obtain ⟨⟨p0, p1', p2', p3'⟩, -⟩ := id BB; obtain ⟨⟨r0, r1, r2, r3⟩, g0, g1, g2, g3⟩ := id BR))
    have T6 := turns_put4 w2 (w.heap.size + 1) (.bool false) (.slice none 0 0) (.slice none 0 0) (.slice none 0 0)
    refine bodyPost_ret (v := .tuple #[.agg #[.bool false, .slice none 0 0, .slice none 0 0, .slice none 0 0], .int .i64 rE]) (by simp [results, Tryz.results70, go_sem, r0, r1, r2, r3]) rfl ?_
    exact ⟨b1, e1, b2, e2, none, 0, 0, none, 0, 0, rfl, rfl, rfl, isS_nil _, isI_nil _, from_nil _, from_nil _, GA.turns T6 (by omega) (by omega) (v1.off LB (by omega) (by omega)) (v2.off LN (by omega) (by omega)), ⟨v1.low (by omega), v2.low (by omega)⟩, TT.own T6 (fun k hk e => by omega)⟩
  ·
   have hE : cutEr l ks vs cs = 1 := by unfold cutEr; rw [if_neg (show ¬ cutOk l ks vs cs = true from hok)]
   have eR : replaceG G i (l, ks, vs, cs) = (81, ([], []), G) := by unfold replaceG; rw [if_neg h8, if_neg hok]
   rw [eR]
   rw [hE] at cC
   clear hE eR hok h8 hp hi hip N
   go_enter Tryz.func70, Tryz.ntmps70
   go_wp2_with (go_at_call 87; rw [← hW]; refine cC.mono ?_; rintro y w1 ⟨n1, u1, s1, n2, u2, s2, n3, u3, s3, m1, p1, t1, m2, p2, t2, m3, p3, t3, rfl, e1, e2, e3, e4, e5, e6, i1, i2, i3, i4, i5, i6, -, hb⟩; clear e1 e2 e3 e4 e5 e6 i1 i2 i3 i4 i5 i6; generalize cutL l ks vs cs = la at *; generalize cutM l ks vs cs = mid at *; have hA : Below w1.heap.size w1 (w1.alloc (.cells #[.bool la, .slice u1 n1 s1, .slice u2 n2 s2, .slice u3 n3 s3] 76)) := (Below.refl _ _).alloc (Nat.le_refl _) _; have hA' : Below (w1.alloc (.cells #[.bool la, .slice u1 n1 s1, .slice u2 n2 s2, .slice u3 n3 s3] 76)).heap.size (w1.alloc (.cells #[.bool la, .slice u1 n1 s1, .slice u2 n2 s2, .slice u3 n3 s3] 76)) ((w1.alloc (.cells #[.bool la, .slice u1 n1 s1, .slice u2 n2 s2, .slice u3 n3 s3] 76)).alloc (.cells #[.bool la, .slice p1 m1 t1, .slice p2 m2 t2, .slice p3 m3 t3] 76)) := (Below.refl _ _).alloc (Nat.le_refl _) _; replace GA := ((GA.below hb).below hA).below hA'; replace TT := ((TT.tr hb).tr hA).tr hA'; replace BR := ((BR.below hb).below hA).below hA'; obtain ⟨⟨r0, r1, r2, r3⟩, g0, g1, g2, g3⟩ := id BR; clear q0 q1 q2 q3)
   have T6 := turns_put4 ((w1.alloc (.cells #[.bool la, .slice u1 n1 s1, .slice u2 n2 s2, .slice u3 n3 s3] 76)).alloc (.cells #[.bool la, .slice p1 m1 t1, .slice p2 m2 t2, .slice p3 m3 t3] 76)) (w.heap.size + 1) (.bool false) (.slice none 0 0) (.slice none 0 0) (.slice none 0 0)
   refine bodyPost_ret (v := .tuple #[.agg #[.bool false, .slice none 0 0, .slice none 0 0, .slice none 0 0], .int .i64 81]) (by simp [results, Tryz.results70, go_sem, r0, r1, r2, r3]) rfl ?_
   exact ⟨_, _, _, _, none, 0, 0, none, 0, 0, rfl, rfl, rfl, isS_nil _, isI_nil _, from_nil _, from_nil _, GA.turns T6 (by omega) (by omega) ((newer_refl W a).off LB (by omega) (by omega)) ((newer_refl W a').off LN (by omega) (by omega)), ⟨newer_refl _ _, newer_refl _ _⟩, TT.own T6 (fun k hk e => by omega)⟩
set_option maxHeartbeats 400000 in
theorem isNaN_any (s : ByteArray) (w : World) :
  Calls Tryz.prog 96 #[.string s] w fun e w' => e = .returned (.bool false) ∧ w = w' := by
 go_enter Tryz.func96, Tryz.ntmps96
 go_wp2
 go_ret
 exact ⟨ret_bool (by simp), rfl⟩
set_option maxHeartbeats 400000 in
theorem isNaN2_any (s : ByteArray) (w : World) :
  Calls Tryz.prog 119 #[.string s] w fun e w' => e = .returned (.bool false) ∧ w = w' := by
 go_enter Tryz.func119, Tryz.ntmps119
 go_wp2
 go_ret
 exact ⟨ret_bool (by simp), rfl⟩
set_option maxHeartbeats 400000 in
theorem less_any (s t : ByteArray) (w : World) :
  Calls Tryz.prog 95 #[.string s, .string t] w fun e w' => e = .returned (.bool (ltB s t)) ∧ w = w' := by
 go_enter Tryz.func95, Tryz.ntmps95
 go_wp2_with (go_at_call 119; refine (isNaN2_any _ _).mono ?_; rintro e w' ⟨rfl, rfl⟩)
 go_ret
 exact ⟨ret_bool rfl, rfl⟩
theorem isN_here {key x : ByteArray} {ks : List ByteArray} {j : Nat} (hf : findN key ks = j) (hx : ks[j]? = some x) : isN ks key = (x.toList == key.toList) := by
 rw [Bool.eq_iff_iff, isN_iff, hf, hx, str_beq]
 exact ⟨fun h => Option.some.inj h, fun h => by rw [h]⟩
theorem isN_off {key : ByteArray} {ks : List ByteArray} (hf : findN key ks = ks.length) : isN ks key = false := by
 rw [Bool.eq_false_iff]
 intro h
 rw [isN_iff, hf, List.getElem?_eq_none (Nat.le_refl _)] at h
 cases h
set_option maxRecDepth 20000 in
set_option maxHeartbeats 1000000 in
theorem search_any (a : Option Addr) (c n : Nat) (ks : List ByteArray) (key : ByteArray) (w : World) (hn : n = ks.length) (hK : IsS w a c ks) (hr : risingK ks = true) (h9 : n ≤ 9) :
  Calls Tryz.prog 82 #[.slice a n c, .string key] w fun e w' => e = .returned (.tuple #[.int .i64 (findN key ks : Nat), .bool (isN ks key)]) ∧ w = w' := by
 have HK : Hid (IsS w a c ks) := hK
 have EK : Hid (n = ks.length) := hn
 have HR : Hid (risingK ks = true) := hr
 obtain ⟨f, hf⟩ : ∃ f, f = findN key ks := ⟨_, rfl⟩
 have HF : Hid (f = findN key ks) := hf
 have hfn : f ≤ n := by rw [hf, hn]; exact findN_le _ _
 obtain ⟨q, hq⟩ : ∃ q, q = isN ks key := ⟨_, rfl⟩
 have HQ : Hid (q = isN ks key) := hq
 rw [← hf, ← hq]
 clear hK hn hr hf hq
 go_enter Tryz.func82, Tryz.ntmps82
 go_wp2
 go_loop [7, 8] (fun u v => ∃ i j : Nat, u = .int .i64 i ∧ v = .int .i64 j ∧ i ≤ f ∧ f ≤ j ∧ j ≤ n) (fun u v => (intOf v).toNat - (intOf u).toNat)
 case atStart => exact ⟨0, n, rfl, rfl, by omega, by omega, by omega⟩
 case round =>
  obtain ⟨i, j, rfl, rfl, hif, hfj, hjn⟩ := hrel
  by_cases hlt : i < j
  ·
   have hlt' : (i : Int) < j := by omega
   obtain ⟨h, hh⟩ : ∃ h, h = (i + j) / 2 := ⟨_, rfl⟩
   have hhi : i ≤ h := by omega
   have hhj : h < j := by omega
   have hhn : (h : Int) < n := by omega
   obtain ⟨x, hx⟩ : ∃ x, Hid (ks[h]? = some x) := ⟨_, List.getElem?_eq_getElem (by rw [← EK.out]; omega)⟩
   obtain ⟨b, o, rfl, hlb, hc, hxs⟩ := HK.out.2.2 h x hx.out
   have hmid : ((i : Int) + j) / 2 = (h : Int) := by omega
   clear hh
   cases hl : ltB x key with
   | true =>
    have hN : Hid (h < f) := by
     rw [HF.out]
     rcases Nat.lt_or_ge h (findN key ks) with g | g
     ·
      exact g
     ·
      rw [findN_behind HR.out hx.out g] at hl; cases hl
    have cL := less_any x key w
    rw [hl] at cL
    clear hl
    go_wp2_with (go_at_call 95; refine cL.mono ?_; rintro e w' ⟨rfl, rfl⟩)
    go_round
    case rel => exact ⟨h + 1, j, by go_num, rfl, hN.out, hfj, hjn⟩
    case measure => simp [intOf]; omega
   | false =>
    have hN : Hid (f ≤ h) := by
     rw [HF.out]
     rcases Nat.lt_or_ge h (findN key ks) with g | g
     ·
      rw [findN_ahead hx.out g] at hl; cases hl
     ·
      exact g
    have cL := less_any x key w
    rw [hl] at cL
    clear hl
    go_wp2_with (go_at_call 95; refine cL.mono ?_; rintro e w' ⟨rfl, rfl⟩)
    go_round
    case rel => exact ⟨i, h, rfl, rfl, hif, hN.out, by omega⟩
    case measure => simp [intOf]; omega
  ·
   obtain rfl : i = f := by omega
   obtain rfl : i = j := by omega
   clear hlt hif hfj
   by_cases hin : (i : Int) < n
   ·
    obtain ⟨x, hx⟩ : ∃ x, Hid (ks[i]? = some x) := ⟨_, List.getElem?_eq_getElem (by rw [← EK.out]; omega)⟩
    obtain ⟨b, o, rfl, hlb, hc, hxs⟩ := HK.out.2.2 i x hx.out
    have hQ' : Hid (q = (x.toList == key.toList)) := by show _ = _; rw [HQ.out]; exact isN_here HF.out.symm hx.out
    cases he : (x.toList == key.toList) with
    | true =>
     have hQ2 : Hid (q = true) := by show _ = _; rw [hQ'.out, he]
     go_wp2
     go_ret2
     exact ⟨by rw [hQ2.out]; rfl, rfl⟩
    | false =>
     have hQ2 : Hid (q = false) := by show _ = _; rw [hQ'.out, he]
     go_wp2_with (go_at_call 96; refine (isNaN_any _ _).mono ?_; rintro e w' ⟨rfl, rfl⟩)
     go_ret2
     exact ⟨by rw [hQ2.out]; rfl, rfl⟩
   ·
    have hQ2 : Hid (q = false) := by show _ = _; rw [HQ.out]; exact isN_off (by rw [← HF.out, ← EK.out]; omega)
    go_wp2
    go_ret2
    exact ⟨by rw [hQ2.out]; rfl, rfl⟩
set_option maxHeartbeats 1000000 in
theorem nodeFind_any (l : Bool) (a a' a'' : Option Addr) (c c' c'' n n' n'' : Nat) (ks vs : List ByteArray) (cs : List Int) (key : ByteArray) (w : World) (hn : n = ks.length) (hn' : n' = vs.length) (hn'' : n'' = cs.length) (hK : IsS w a c ks) (hV : IsS w a' c' vs) (hC : IsI w a'' c'' cs) :
  Calls Tryz.prog 66 #[.agg #[.bool l, .slice a n c, .slice a' n' c', .slice a'' n'' c''], .string key] w fun e w' => e = .returned (.tuple #[.int .i64 (findR l ks vs cs key), .bool (findI l ks vs cs key)]) ∧ Below w.heap.size w w' := by
 have hB0 : Below w.heap.size w (w.alloc (.cells #[.bool l, .slice a n c, .slice a' n' c', .slice a'' n'' c''] 76)) := (Below.refl _ _).alloc (Nat.le_refl _) _
 have hX := box4_new w (.bool l) (.slice a n c) (.slice a' n' c') (.slice a'' n'' c'') 76 rfl
 have cS := mayStand_any l a a' a'' c c' c'' n n' n'' ks vs cs _ hn hn' hn'' (hK.below hB0) (hV.below hB0) (hC.below hB0)
 obtain ⟨r, hr⟩ : ∃ r, r = findR l ks vs cs key := ⟨_, rfl⟩
 obtain ⟨q, hq⟩ : ∃ q, q = findI l ks vs cs key := ⟨_, rfl⟩
 rw [← hr, ← hq]
 cases hs : standsN l ks vs cs with
 | true =>
  have HR : r = (findN key ks : Nat) := by rw [hr, findR, if_pos hs]
  have HQ : q = isN ks key := by rw [hq, findI, hs, Bool.true_and]
  rw [hs] at cS
  obtain ⟨h9, _, hri, _⟩ := standsN_iff.1 hs
  have cB : ∀ V, Below w.heap.size w V → Calls Tryz.prog 82 #[.slice a n c, .string key] V fun e w' => e = .returned (.tuple #[.int .i64 r, .bool q]) ∧ V = w' := fun V h => by rw [HR, HQ]; exact search_any a c n ks key V hn (hK.below h) hri (by rw [hn]; exact h9)
  clear hr hq hs HR HQ hn hn' hn'' hK hV hC h9 hri
  go_enter Tryz.func66, Tryz.ntmps66
  go_wp2_with (first
   | (go_at_call 81; refine cS.mono ?_; rintro e w1 ⟨rfl, hb⟩; obtain ⟨⟨q0, q1, q2, q3⟩, -⟩ := hX.below hb; have hB1 := Below.tr hB0 hb; clear hb cS hX hB0)
   | (go_at_call 82; refine (cB _ hB1).mono ?_; rintro e w2 ⟨rfl, rfl⟩))
  go_ret2
  exact ⟨rfl, hB1⟩
 | false =>
  have HR : Hid (r = 0) := by show _ = _; rw [hr, findR, if_neg (by rw [hs]; simp)]
  have HQ : Hid (q = false) := by show _ = _; rw [hq, findI, hs, Bool.false_and]
  rw [hs] at cS
  clear hr hq hs hn hn' hn'' hK hV hC
  go_enter Tryz.func66, Tryz.ntmps66
  go_wp2_with (go_at_call 81; refine cS.mono ?_; rintro e w1 ⟨rfl, hb⟩; obtain ⟨⟨q0, q1, q2, q3⟩, -⟩ := hX.below hb; have hB1 := Below.tr hB0 hb)
  go_ret2
  exact ⟨by rw [HR.out, HQ.out]; rfl, hB1⟩
theorem kidR_find {l : Bool} {ks vs : List ByteArray} {cs : List Int} {key : ByteArray} (hl : l = false) : kidR l ks vs cs key = findR l ks vs cs key + (if findI l ks vs cs key = true then 1 else 0) := by
 subst hl
 unfold kidR findR findI
 cases hs : standsN false ks vs cs with
 | true =>
  obtain ⟨_, _, hri, _⟩ := standsN_iff.1 hs
  rw [if_pos ⟨rfl, rfl⟩, if_pos rfl, Bool.true_and, kidN_find hri]
  split <;> simp
 | false => simp
set_option maxHeartbeats 1000000 in
theorem nodeKid_any (l : Bool) (a a' a'' : Option Addr) (c c' c'' n n' n'' : Nat) (ks vs : List ByteArray) (cs : List Int) (key : ByteArray) (w : World) (hn : n = ks.length) (hn' : n' = vs.length) (hn'' : n'' = cs.length) (hK : IsS w a c ks) (hV : IsS w a' c' vs) (hC : IsI w a'' c'' cs) :
  Calls Tryz.prog 50 #[.agg #[.bool l, .slice a n c, .slice a' n' c', .slice a'' n'' c''], .string key] w fun e w' => e = .returned (.int .i64 (kidR l ks vs cs key)) ∧ Below w.heap.size w w' := by
 have hB0 : Below w.heap.size w (w.alloc (.cells #[.bool l, .slice a n c, .slice a' n' c', .slice a'' n'' c''] 76)) := (Below.refl _ _).alloc (Nat.le_refl _) _
 have hX := box4_new w (.bool l) (.slice a n c) (.slice a' n' c') (.slice a'' n'' c'') 76 rfl
 have cS := nodeFind_any l a a' a'' c c' c'' n n' n'' ks vs cs key _ hn hn' hn'' (hK.below hB0) (hV.below hB0) (hC.below hB0)
 obtain ⟨r, hr⟩ : ∃ r, r = kidR l ks vs cs key := ⟨_, rfl⟩
 rw [← hr]
 cases l with
 | true =>
  have HR : Hid (r = 0) := by show _ = _; rw [hr, kidR, if_neg (by simp)]
  clear hr cS hn hn' hn'' hK hV hC
  go_enter Tryz.func50, Tryz.ntmps50
  go_wp2
  go_ret
  exact ⟨ret_int HR.out.symm, hB0⟩
 | false =>
  rw [kidR_find rfl] at hr
  have hb0 : 0 ≤ findR false ks vs cs key ∧ findR false ks vs cs key ≤ n := by
   unfold findR
   have := findN_le key ks
   split <;> omega
  have hm : n ≤ 9223372036854775807 := by rw [hn]; exact hK.size
  have hb9 : findR false ks vs cs key ≤ 9 := by
   unfold findR
   have := findN_le key ks
   split
   ·
    rename_i h; have := (standsN_iff.1 h).1; omega
   ·
    omega
  generalize findR false ks vs cs key = f at cS hr hb0 hb9
  generalize findI false ks vs cs key = g at cS hr
  clear hn hn' hn'' hK hV hC
  cases g with
  | true =>
   have HR : Hid (r = f + 1) := by show _ = _; rw [hr]; rfl
   clear hr
   go_enter Tryz.func50, Tryz.ntmps50
   go_wp2_with (go_at_call 66; refine cS.mono ?_; rintro e w1 ⟨rfl, hb⟩; have hB1 := Below.tr hB0 hb)
   go_ret
   exact ⟨ret_int HR.out.symm, hB1⟩
  | false =>
   have HR : Hid (r = f) := by show _ = _; rw [hr]; simp
   clear hr
   go_enter Tryz.func50, Tryz.ntmps50
   go_wp2_with (go_at_call 66; refine cS.mono ?_; rintro e w1 ⟨rfl, hb⟩; have hB1 := Below.tr hB0 hb)
   go_ret
   exact ⟨ret_int HR.out.symm, hB1⟩
structure MStep where
 block : Int
 l : Bool
 a1 : Option Addr
 k1 : Nat
 d1 : Nat
 a2 : Option Addr
 k2 : Nat
 d2 : Nat
 a3 : Option Addr
 k3 : Nat
 d3 : Nat
 kid : Nat
def MStep.cells (m : MStep) : List Value := [.int .i64 m.block, .bool m.l, .slice m.a1 m.k1 m.d1, .slice m.a2 m.k2 m.d2, .slice m.a3 m.k3 m.d3, .int .i64 m.kid]
def cellsM (ms : List MStep) : List Value := ms.flatMap MStep.cells
theorem cellsM_append (ms ns : List MStep) : cellsM (ms ++ ns) = cellsM ms ++ cellsM ns := by simp [cellsM]
theorem cellsM_at {ms : List MStep} {j : Nat} {m : MStep} (h : ms[j]? = some m) (t : Nat) (ht : t < 6) : (cellsM ms)[j * 6 + t]? = m.cells[t]? := by
 induction ms generalizing j with
 | nil => simp at h
 | cons n ms ih =>
  show (n.cells ++ cellsM ms)[j * 6 + t]? = _
  cases j with
  | zero =>
   simp at h
   subst h
   rw [List.getElem?_append_left (by show _ < 6; omega)]
   congr 1
   omega
  | succ j =>
   rw [List.getElem?_append_right (by show 6 ≤ _; omega)]
   have e : (j + 1) * 6 + t - n.cells.length = j * 6 + t := by show (j + 1) * 6 + t - 6 = _; omega
   rw [e]
   exact ih (by simpa using h)
def Reps (w : World) (h q : Nat) (ms : List MStep) (ss : List StepS) : Prop :=
 ms.length = ss.length ∧ ∀ (j : Nat) (m : MStep) (s : StepS), ms[j]? = some m → ss[j]? = some s → m.block = s.1 ∧ m.l = s.2.1.1 ∧ m.kid = s.2.2 ∧ NodeR w h q m.a1 m.k1 m.d1 m.a2 m.k2 m.d2 m.a3 m.k3 m.d3 s.2.1.2.1 s.2.1.2.2.1 s.2.1.2.2.2
theorem reps_nil (w : World) (h q : Nat) : Reps w h q [] [] := ⟨rfl, fun j m s hm => by simp at hm⟩
theorem Reps.mine {w w' : World} {h q : Nat} {ms : List MStep} {ss : List StepS} (r : Reps w h q ms ss) (t : Turns (Mine h q) w w') : Reps w' h q ms ss := by
 refine ⟨r.1, fun j m s hm hs => ?_⟩
 obtain ⟨h1, h2, h3, h4⟩ := r.2 j m s hm hs
 exact ⟨h1, h2, h3, h4.mine t⟩
theorem Reps.below {w w' : World} {h q : Nat} {ms : List MStep} {ss : List StepS} (r : Reps w h q ms ss) (hb : Below w.heap.size w w') : Reps w' h q ms ss := r.mine (Turns.of_below hb)
theorem Reps.push {w : World} {h q : Nat} {ms : List MStep} {ss : List StepS} (r : Reps w h q ms ss) {m : MStep} {s : StepS} (h1 : m.block = s.1) (h2 : m.l = s.2.1.1) (h3 : m.kid = s.2.2) (h4 : NodeR w h q m.a1 m.k1 m.d1 m.a2 m.k2 m.d2 m.a3 m.k3 m.d3 s.2.1.2.1 s.2.1.2.2.1 s.2.1.2.2.2) : Reps w h q (ms ++ [m]) (ss ++ [s]) := by
 refine ⟨by simp [r.1], fun j m' s' hm hs => ?_⟩
 by_cases hj : j < ms.length
 ·
  rw [List.getElem?_append_left hj] at hm
  rw [List.getElem?_append_left (by rw [← r.1]; exact hj)] at hs
  exact r.2 j m' s' hm hs
 ·
  have hj' : j = ms.length := by
   have := (List.getElem?_eq_some_iff.1 hm).1
   simp at this
   omega
  subst hj'
  simp at hm
  rw [r.1] at hs
  simp at hs
  subst hm hs
  exact ⟨h1, h2, h3, h4⟩
theorem IsS.turnsL {P : Nat → Prop} {w w' : World} {a : Option Addr} {c : Nat} {ms : List ByteArray} (h : IsS w a c ms) (t : Turns P w w') (hp : ms ≠ [] → ∀ x, a = some x → ¬ P x.block) : IsS w' a c ms := by
 by_cases e : ms = []
 ·
  subst e; exact ⟨h.1, h.2.1, fun j x hx => by simp at hx⟩
 ·
  exact h.turns t (hp e)
theorem IsI.turnsL {P : Nat → Prop} {w w' : World} {a : Option Addr} {c : Nat} {ms : List Int} (h : IsI w a c ms) (t : Turns P w w') (hp : ms ≠ [] → ∀ x, a = some x → ¬ P x.block) : IsI w' a c ms := by
 by_cases e : ms = []
 ·
  subst e; exact ⟨h.1, h.2.1, fun j x hx => by simp at hx⟩
 ·
  exact h.turns t (hp e)
theorem IsS.heldL {w : World} {a : Option Addr} {c : Nat} {ms : List ByteArray} (h : IsS w a c ms) : ms ≠ [] → ∀ x, a = some x → x.block < w.heap.size := by
 intro e x hx
 obtain ⟨y, hy⟩ := List.exists_mem_of_ne_nil _ e
 obtain ⟨j, hj⟩ := List.getElem?_of_mem hy
 obtain ⟨b, o, ha, hlt, _⟩ := h.2.2 j y hj
 rw [hx] at ha
 cases ha
 exact hlt
theorem IsI.heldL {w : World} {a : Option Addr} {c : Nat} {ms : List Int} (h : IsI w a c ms) : ms ≠ [] → ∀ x, a = some x → x.block < w.heap.size := by
 intro e x hx
 obtain ⟨y, hy⟩ := List.exists_mem_of_ne_nil _ e
 obtain ⟨j, hj⟩ := List.getElem?_of_mem hy
 obtain ⟨b, o, ha, hlt, _⟩ := h.2.2 j y hj
 rw [hx] at ha
 cases ha
 exact hlt
def OffN (z : Nat) (m : MStep) (s : StepS) : Prop :=
 (s.2.1.2.1 ≠ [] → ∀ x, m.a1 = some x → ¬ x.block = z) ∧ (s.2.1.2.2.1 ≠ [] → ∀ x, m.a2 = some x → ¬ x.block = z) ∧ (s.2.1.2.2.2 ≠ [] → ∀ x, m.a3 = some x → ¬ x.block = z)
def Offs (z : Option Nat) (ms : List MStep) (ss : List StepS) : Prop := ∀ (j : Nat) (m : MStep) (s : StepS) (g : Nat), ms[j]? = some m → ss[j]? = some s → z = some g → OffN g m s
theorem reps_push {V w3 : World} {h q g : Nat} {v : Value} {ms : List MStep} {ss : List StepS} {m : MStep} {s : StepS} (r : Reps V h q ms ss) (o : Offs v.ownBlock ms ss) (h1 : m.block = s.1) (h2 : m.l = s.2.1.1) (h3 : m.kid = s.2.2) (h4 : NodeR V h q m.a1 m.k1 m.d1 m.a2 m.k2 m.d2 m.a3 m.k3 m.d3 s.2.1.2.1 s.2.1.2.2.1 s.2.1.2.2.2)
  (on : ∀ z, v.ownBlock = some z → OffN z m s) (t : Turns (fun k => v.ownBlock = some k) V w3) (hg : v.ownBlock = some g ∨ V.heap.size ≤ g) : Reps w3 h q (ms ++ [m]) (ss ++ [s]) ∧ Offs (some g) (ms ++ [m]) (ss ++ [s]) := by
 have r1 := r.push h1 h2 h3 h4
 have o1 : Offs v.ownBlock (ms ++ [m]) (ss ++ [s]) := by
  intro j m' s' z hm hs hz
  by_cases hj : j < ms.length
  ·
   rw [List.getElem?_append_left hj] at hm
   rw [List.getElem?_append_left (by rw [← r.1]; exact hj)] at hs
   exact o j m' s' z hm hs hz
  ·
   have hj' : j = ms.length := by
    have := (List.getElem?_eq_some_iff.1 hm).1
    simp at this
    omega
   subst hj'
   simp at hm
   rw [r.1] at hs
   simp at hs
   subst hm hs
   exact on z hz
 refine ⟨⟨r1.1, fun j m' s' hm hs => ?_⟩, fun j m' s' z hm hs hz => ?_⟩
 ·
  obtain ⟨e1, e2, e3, n⟩ := r1.2 j m' s' hm hs
  have oo := fun z hz => o1 j m' s' z hm hs hz
  exact ⟨e1, e2, e3, n.e1, n.e2, n.e3, n.i1.turnsL t (fun hne x hx e => (oo _ e).1 hne x hx rfl), n.i2.turnsL t (fun hne x hx e => (oo _ e).2.1 hne x hx rfl), n.i3.turnsL t (fun hne x hx e => (oo _ e).2.2 hne x hx rfl), n.o1, n.o2, n.o3⟩
 ·
  cases hz
  rcases hg with hg | hg
  ·
   exact o1 j m' s' g hm hs hg
  ·
   obtain ⟨_, _, _, n⟩ := r1.2 j m' s' hm hs
   exact ⟨fun hne x hx => by have := n.i1.heldL hne x hx; omega, fun hne x hx => by have := n.i2.heldL hne x hx; omega, fun hne x hx => by have := n.i3.heldL hne x hx; omega⟩
theorem Tryz.info105 : (Tryz.prog.info? 105).map (fun i => (i.zero, i.size, i.bytes)) = some (some (.agg #[.int .i64 0, .bool false, .slice none 0 0, .slice none 0 0, .slice none 0 0, .int .i64 0]), 6, 96) := by kernel_rfl
theorem push_M (W : World) (base : Nat) (v : Value) (n : Nat) (l : List MStep) (x : MStep) (hown : W.ownsRow base 105 6 v n (cellsM l)) (hb : base ≤ W.heap.size) (hn : n ≤ 4096) :
  ∃ g cap w', (Builtin.append_ #[101, 101] 101 #[v, .slice (some ⟨W.heap.size, 0, none⟩) 1 1]).run Tryz.prog (W.alloc (.cells #[.int .i64 x.block, .bool x.l, .slice x.a1 x.k1 x.d1, .slice x.a2 x.k2 x.d2, .slice x.a3 x.k3 x.d3, .int .i64 x.kid] 105)) = .ok (.slice (some ⟨g, 0, none⟩) (n + 1) cap) w' ∧
   w'.ownsRow base 105 6 (.slice (some ⟨g, 0, none⟩) (n + 1) cap) (n + 1) (cellsM (l ++ [x])) ∧ (W.alloc (.cells #[.int .i64 x.block, .bool x.l, .slice x.a1 x.k1 x.d1, .slice x.a2 x.k2 x.d2, .slice x.a3 x.k3 x.d3, .int .i64 x.kid] 105)).grownBy w' v.ownBlock ∧ (v.ownBlock = some g ∨ g = W.heap.size + 1) ∧ base ≤ g ∧ g < w'.heap.size := by
 obtain ⟨i0, hi, hz0, hz1, hz2⟩ := info_parts Tryz.info105
 obtain ⟨g, cap, w', h1, h2, h3, h4, h5⟩ := run_append_lies (P := Tryz.prog) (W.alloc (.cells #[.int .i64 x.block, .bool x.l, .slice x.a1 x.k1 x.d1, .slice x.a2 x.k2 x.d2, .slice x.a3 x.k3 x.d3, .int .i64 x.kid] 105)) 101 101 base 105 i0 _ 6 96 Tryz.underlying101 hi hz0 hz1 hz2 rfl (by decide) v n (cellsM l) (hown.alloc _) ⟨W.heap.size, 0, none⟩ 1 1 x.cells rfl
  (by
   intro j u hj
   match j, hj with
   | 0, hj => cases hj; rw [at_add]; exact World.cell?_alloc_at _ _ _ _ rfl
   | 1, hj => cases hj; rw [at_add]; exact World.cell?_alloc_at _ _ _ _ rfl
   | 2, hj => cases hj; rw [at_add]; exact World.cell?_alloc_at _ _ _ _ rfl
   | 3, hj => cases hj; rw [at_add]; exact World.cell?_alloc_at _ _ _ _ rfl
   | 4, hj => cases hj; rw [at_add]; exact World.cell?_alloc_at _ _ _ _ rfl
   | 5, hj => cases hj; rw [at_add]; exact World.cell?_alloc_at _ _ _ _ rfl
   | j + 6, hj => cases hj)
  (by intro u hu; unfold MStep.cells at hu; simp at hu; rcases hu with rfl | rfl | rfl | rfl | rfl | rfl <;> rfl) (by omega) (by unfold maxLen; omega) (by omega) (by simp; omega) (W.heap.size + 1) (by simp)
 have e : cellsM [x] = x.cells := by simp [cellsM]
 refine ⟨g, cap, w', h1, by rw [cellsM_append, e]; exact h2, h3, h4, (h2.lt g rfl).1, h5⟩
def DownC (w : World) (x : Ending) (w' : World) (h q : Nat) : Option (List StepS) → Prop
 | none => x = .returned (.tuple #[.slice none 0 0, .int .i64 81]) ∧ Below w.heap.size w w'
 | some ss => ∃ g cap n ms, x = .returned (.tuple #[.slice (some ⟨g, 0, none⟩) n cap, .int .i64 0]) ∧ n = ss.length ∧ w'.ownsRow w.heap.size 105 6 (.slice (some ⟨g, 0, none⟩) n cap) n (cellsM ms) ∧ Reps w' h q ms ss ∧ Below w.heap.size w w'
set_option maxRecDepth 20000 in
set_option maxHeartbeats 4000000 in
theorem down_any (h q cp : Nat) (a : Option Addr) (c : Nat) (a' : Option Addr) (c' : Nat) (G : WoodS) (key : ByteArray) (w : World) (GA : GrowAt w h q cp a c a' c' G) (hr : G.right = true) (mk : key.size ≤ maxLen) :
  Calls Tryz.prog 55 #[.pointer (some ⟨h, 0, none⟩), .string key] w fun x w' => DownC w x w' h q (downG G.holds key 8 G.root true) := by
 have cL : ∀ V blk rt, Below w.heap.size w V → Calls Tryz.prog 69 #[.agg #[.slice a G.base.length c, .slice a' G.now.length c', .slice (some ⟨q, 0, none⟩) G.pages.length cp, .int .i64 G.root, .int .i64 G.gen], .int .i64 blk, .bool rt] V fun x w' => LoadC V x w' true (G.holds blk rt) := fun V blk rt hV => by
  have := lookLoad_any a a' (some ⟨q, 0, none⟩) G.base.length c G.now.length c' G.pages.length cp G.base G.now G.pages G.root G.gen blk rt V rfl rfl rfl (GA.bs.below hV) (GA.ns.below hV) (GA.pg.isS.below hV)
  have e : rightW G.base G.now G.pages G.root G.gen = true := hr
  rw [e] at this
  exact this
 have BX : WoodBox w h (.slice a G.base.length c) (.slice a' G.now.length c') (.slice (some ⟨q, 0, none⟩) G.pages.length cp) (.int .i64 G.root) (.int .i64 G.gen) := GA.box
 have hh : h < w.heap.size := GA.lt
 have hqq : q < w.heap.size := GA.pg.lt
 have HS : Hid (∀ blk rt n, G.holds blk rt = some n → standsN n.1 n.2.1 n.2.2.1 n.2.2.2 = true) := fun blk rt n hn => (rightN_iff.1 (holds_nodeRight hn)).1
 obtain ⟨D, hD⟩ : ∃ D, D = downG G.holds key 8 G.root true := ⟨_, rfl⟩
 rw [← hD]
 have VD : Hid (D = downG G.holds key 8 G.root true) := hD
 generalize G.holds = H at *
 clear GA hr hD
 obtain ⟨x0, x1, x2, x3, x4⟩ := id BX
 go_enter Tryz.func55, Tryz.ntmps55
 go_wp2
 go_loopw [6, 7, 16] (fun v b i wr => ∃ (j : Nat) (pre : List StepS) (ms : List MStep) (blk : Int) (va : Option Addr) (vc : Nat), i = .int .i64 j ∧ b = .int .i64 blk ∧ j ≤ 8 ∧ pre.length = j ∧ D = (downG H key (8 - j) blk (decide (j = 0))).map (pre ++ ·) ∧ v = .slice va j vc ∧ wr.ownsRow w.heap.size 105 6 v j (cellsM ms) ∧ Reps wr h q ms pre ∧ Offs v.ownBlock ms pre ∧ Below w.heap.size w wr) (fun _ _ i _ => 8 - (intOf i).toNat)
 case atStart => exact ⟨0, [], [], _, none, 0, rfl, rfl, by omega, rfl, by rw [VD.out]; simp, rfl, World.ownsRow_nil _ _ _ _, reps_nil _ _ _, (fun j m s g hm => by simp at hm), Below.refl _ _⟩
 case round =>
  obtain ⟨j, pre, ms, blk, va, vc, rfl, rfl, hj, hpl, hDj, rfl, hown, hR, hOf, hbel⟩ := hrel
  have HF : Hid (Offs (Value.slice va j vc).ownBlock ms pre) := hOf
  have HP : Hid (pre.length = j) := hpl
  have HDj : Hid (D = (downG H key (8 - j) blk (decide (j = 0))).map (pre ++ ·)) := hDj
  have HO : Hid (wr.ownsRow w.heap.size 105 6 (.slice va j vc) j (cellsM ms)) := hown
  have HR : Hid (Reps wr h q ms pre) := hR
  clear hpl hDj hown hR hOf VD
  by_cases hlt : j < 8
  ·
   have hlt' : (j : Int) < 8 := by omega
   obtain ⟨y0, y1, y2, y3, y4⟩ := BX.below hbel
   obtain ⟨rt, hrt⟩ : ∃ rt, rt = decide (j = 0) := ⟨_, rfl⟩
   have hj0 : ((j : Int) == 0) = rt := by
    rw [hrt]
    by_cases e : j = 0
    ·
     subst e; rfl
    ·
     rw [decide_eq_false e, beq_eq_false_iff_ne]; omega
   have cl := cL wr blk rt hbel
   obtain ⟨k, hk⟩ : ∃ k, 8 - j = k + 1 := ⟨7 - j, by omega⟩
   have HK : Hid (8 - j = k + 1) := hk
   have HRT : Hid (rt = decide (j = 0)) := hrt
   clear hk hrt
   cases hO : H blk rt with
   | none =>
    rw [hO] at cl
    have hDn : D = none := by rw [HDj.out, HK.out, ← HRT.out, downG, hO]; rfl
    subst hDn
    clear hO
    go_wp2_with (go_at_call 69; refine cl.mono ?_; rintro z w1 ⟨k1, a1, d1, k2, a2, d2, k3, a3, d3, rfl, e1, e2, e3, i1, i2, i3, j1, j2, j3, hb⟩; clear e1 e2 e3 i1 i2 i3 j1 j2 j3; replace hbel := Below.tr hbel hb; have hA : Below w1.heap.size w1 (w1.alloc (.cells #[.bool false, .slice a1 k1 d1, .slice a2 k2 d2, .slice a3 k3 d3] 76)) := (Below.refl _ _).alloc (Nat.le_refl _) _; replace hbel := Below.tr hbel hA; clear hA hb)
    go_ret2
    exact ⟨rfl, hbel⟩
   | some nd =>
    rw [hO] at cl
    have hst := HS.out blk rt nd hO
    have hDn : D = if nd.1 = true then some (pre ++ [(blk, nd, 0)]) else (downG H key k (nd.2.2.2.getD (kidN nd.2.1 key) 0) false).map ((pre ++ [(blk, nd, kidN nd.2.1 key)]) ++ ·) := by
     rw [HDj.out, HK.out, ← HRT.out, downG_at hO]
     split
     ·
      rfl
     ·
      rw [Option.map_map]
      congr 1
      funext x
      simp
    obtain ⟨l, ks, vs, cs⟩ := nd
    simp only at hst hDn
    have cK : ∀ V {a1 : Option Addr} {k1 d1 : Nat} {a2 : Option Addr} {k2 d2 : Nat} {a3 : Option Addr} {k3 d3 : Nat}, NodeR V h q a1 k1 d1 a2 k2 d2 a3 k3 d3 ks vs cs → Calls Tryz.prog 50 #[.agg #[.bool l, .slice a1 k1 d1, .slice a2 k2 d2, .slice a3 k3 d3], .string key] V fun e w' => e = .returned (.int .i64 (kidR l ks vs cs key)) ∧ Below V.heap.size V w' := fun V a1 k1 d1 a2 k2 d2 a3 k3 d3 n => nodeKid_any l a1 a2 a3 d1 d2 d3 k1 k2 k3 ks vs cs key V n.e1 n.e2 n.e3 n.i1 n.i2 n.i3
    have HPm : Hid (∀ V {a1 : Option Addr} {k1 d1 : Nat} {a2 : Option Addr} {k2 d2 : Nat} {a3 : Option Addr} {k3 d3 : Nat} (kk : Nat), wr.heap.size ≤ V.heap.size → V.ownsRow w.heap.size 105 6 (.slice va j vc) j (cellsM ms) → ∃ g cap w', (Builtin.append_ #[101, 101] 101 #[.slice va j vc, .slice (some ⟨V.heap.size, 0, none⟩) 1 1]).run Tryz.prog (V.alloc (.cells #[.int .i64 blk, .bool l, .slice a1 k1 d1, .slice a2 k2 d2, .slice a3 k3 d3, .int .i64 kk] 105)) = .ok (.slice (some ⟨g, 0, none⟩) (j + 1) cap) w' ∧ w'.ownsRow w.heap.size 105 6 (.slice (some ⟨g, 0, none⟩) (j + 1) cap) (j + 1) (cellsM (ms ++ [⟨blk, l, a1, k1, d1, a2, k2, d2, a3, k3, d3, kk⟩])) ∧ Below w.heap.size V w' ∧ Turns (fun k => (Value.slice va j vc).ownBlock = some k) V w' ∧ ((Value.slice va j vc).ownBlock = some g ∨ V.heap.size ≤ g)) := by
     intro V a1 k1 d1 a2 k2 d2 a3 k3 d3 kk hs ho
     have hw : w.heap.size ≤ V.heap.size := Nat.le_trans hbel.size hs
     obtain ⟨g, cap, w', p1, p2, p3, p4, p5, p6⟩ := push_M V w.heap.size (.slice va j vc) j ms ⟨blk, l, a1, k1, d1, a2, k2, d2, a3, k3, d3, kk⟩ ho hw (by omega)
     refine ⟨g, cap, w', p1, p2, ?_⟩
     have hA := (Below.refl w.heap.size V).alloc hw (.cells #[.int .i64 blk, .bool l, .slice a1 k1 d1, .slice a2 k2 d2, .slice a3 k3 d3, .int .i64 kk] 105)
     exact ⟨hA.grown p3 (by simp; omega) fun k hk => (ho.lt k hk).1, ((Turns.refl _ _).alloc _).grown p3 (fun k hk => hk), p4.imp id (fun e => by omega)⟩
    cases l with
    | true =>
     have ekid : kidR true ks vs cs key = ((0 : Nat) : Int) := by unfold kidR; rw [if_neg (fun hh => by cases hh.2)]; rfl
     rw [ekid] at cK
     replace hDn : D = some (pre ++ [(blk, (true, ks, vs, cs), 0)]) := hDn
     subst hDn
     clear hO ekid hst HDj
     go_wp2_with (first
      | (go_at_call 69; refine cl.mono ?_; rintro z w1 ⟨k1, a1, d1, k2, a2, d2, k3, a3, d3, rfl, e1, e2, e3, i1, i2, i3, j1, j2, j3, hb⟩; have hA : Below w1.heap.size w1 (w1.alloc (.cells #[.bool true, .slice a1 k1 d1, .slice a2 k2 d2, .slice a3 k3 d3] 76)) := (Below.refl _ _).alloc (Nat.le_refl _) _; have hwr := hbel.size; have hvb : ∀ z, (Value.slice va j vc).ownBlock = some z → z < wr.heap.size := (fun z hz => (HO.out.lt z hz).2); have hoff : Hid (∀ z, (Value.slice va j vc).ownBlock = some z → OffN z ⟨blk, true, a1, k1, d1, a2, k2, d2, a3, k3, d3, 0⟩ (blk, (true, ks, vs, cs), 0)) := (fun z hz => ⟨fun _ x hx e => (by have := j1 x hx; have := hvb z hz; omega), fun _ x hx e => (by have := j2 x hx; have := hvb z hz; omega), fun _ x hx e => (by have := j3 x hx; have := hvb z hz; omega)⟩); have NN : Hid (NodeR (w1.alloc (.cells #[.bool true, .slice a1 k1 d1, .slice a2 k2 d2, .slice a3 k3 d3] 76)) h q a1 k1 d1 a2 k2 d2 a3 k3 d3 ks vs cs) := ⟨e1, e2, e3, i1.below hA, i2.below hA, i3.below hA, j1.off2 (by omega) (by omega), j2.off2 (by omega) (by omega), j3.off2 (by omega) (by omega)⟩; have BN := box4_new w1 (.bool true) (.slice a1 k1 d1) (.slice a2 k2 d2) (.slice a3 k3 d3) 76 rfl; have hs1 : wr.heap.size ≤ w1.heap.size := hb.size; replace hbel := Below.tr (Below.tr hbel hb) hA; replace HR : Hid (Reps (w1.alloc (.cells #[.bool true, .slice a1 k1 d1, .slice a2 k2 d2, .slice a3 k3 d3] 76)) h q ms pre) := (HR.out.below hb).below hA; replace HO : Hid ((w1.alloc (.cells #[.bool true, .slice a1 k1 d1, .slice a2 k2 d2, .slice a3 k3 d3] 76)).ownsRow w.heap.size 105 6 (.slice va j vc) j (cellsM ms)) := (Turns.of_below (P := fun _ => False) (Below.tr hb hA)).owns HO.out (fun _ _ x => x); obtain ⟨⟨b0, b1, b2, b3⟩, -⟩ := id BN; clear hA hb e1 e2 e3 i1 i2 i3 j1 j2 j3)
      | (go_at_call 50; refine (cK _ NN.out).mono ?_; rintro z w2 ⟨rfl, hb⟩; replace hbel := Below.tr hbel hb; replace NN : Hid (NodeR w2 h q a1 k1 d1 a2 k2 d2 a3 k3 d3 ks vs cs) := NN.out.below hb; replace HR : Hid (Reps w2 h q ms pre) := HR.out.below hb; replace BN := BN.below hb; replace HO : Hid (w2.ownsRow w.heap.size 105 6 (.slice va j vc) j (cellsM ms)) := (Turns.of_below (P := fun _ => False) hb).owns HO.out (fun _ _ x => x); have hs2 := hb.size; simp at hs2; obtain ⟨g, cap, w3, hrun, own3, bel3, T3, hg3⟩ := HPm.out w2 (a1 := a1) (k1 := k1) (d1 := d1) (a2 := a2) (k2 := k2) (d2 := d2) (a3 := a3) (k3 := k3) (d3 := d3) 0 (by omega) HO.out; obtain ⟨R3, F3⟩ := reps_push (m := ⟨blk, true, a1, k1, d1, a2, k2, d2, a3, k3, d3, 0⟩) (s := (blk, (true, ks, vs, cs), 0)) HR.out HF.out rfl rfl rfl NN.out hoff.out T3 hg3; have BN3 := BN.turns T3 (fun e => (by have := hvb _ e; omega)); have HO2 : Hid (w3.ownsRow w.heap.size 105 6 (.slice (some ⟨g, 0, none⟩) (j + 1) cap) (j + 1) (cellsM (ms ++ [⟨blk, true, a1, k1, d1, a2, k2, d2, a3, k3, d3, 0⟩]))) := own3; have HR2 : Hid (Reps w3 h q (ms ++ [⟨blk, true, a1, k1, d1, a2, k2, d2, a3, k3, d3, 0⟩]) (pre ++ [(blk, (true, ks, vs, cs), 0)])) := R3; have HF2 : Hid (Offs (some g) (ms ++ [⟨blk, true, a1, k1, d1, a2, k2, d2, a3, k3, d3, 0⟩]) (pre ++ [(blk, (true, ks, vs, cs), 0)])) := F3; replace hbel := hbel.trans bel3; have I3 : Hid (IsI w3 a3 d3 cs) := NN.out.i3.turnsL T3 (fun hne x hx e => (hoff.out _ e).2.2 hne x hx rfl); have E3 : Hid (k3 = cs.length) := NN.out.e3; clear b0 b1 b2 b3 own3 bel3 R3 F3 T3 hg3; obtain ⟨⟨c0, c1, c2, c3⟩, -⟩ := id BN3; obtain ⟨⟨b0, b1, b2, b3⟩, -⟩ := id BN; clear hb)
      | (at_builtin; refine Lib.wpList_append_run _ rfl _ _ _ _ rfl _ _ rfl rfl _ _ hrun ?_; skip))
     go_ret2
     have hl1 : j + 1 = (pre ++ [(blk, ((true, ks, vs, cs) : NodeS), 0)]).length := by rw [List.length_append, HP.out]; rfl
     exact ⟨_, _, _, _, rfl, hl1, HO2.out, HR2.out, hbel⟩
    | false =>
     obtain ⟨_, _, hrk, _, _, hsh⟩ := standsN_iff.1 hst
     obtain ⟨_, _, hlc⟩ := shape_inner.1 hsh
     have ekid : kidR false ks vs cs key = ((kidN ks key : Nat) : Int) := by unfold kidR; rw [if_pos ⟨hst, rfl⟩]
     rw [ekid] at cK
     have hkle := kidN_le ks key
     obtain ⟨kk, hkk⟩ : ∃ kk, kk = kidN ks key := ⟨_, rfl⟩
     rw [← hkk] at cK hDn hkle
     obtain ⟨b', hb'⟩ : ∃ b, cs[kk]? = some b := ⟨_, List.getElem?_eq_getElem (by omega)⟩
     have hgd : cs.getD kk 0 = b' := by rw [List.getD_eq_getElem?_getD, hb']; rfl
     have HDn : Hid (D = (downG H key (8 - (j + 1)) b' (decide (j + 1 = 0))).map ((pre ++ [(blk, (false, ks, vs, cs), kk)]) ++ ·)) := by
      show _ = _
      rw [hDn, if_neg (by decide), hgd]
      have : 8 - (j + 1) = k := by have := HK.out; omega
      rw [this]
      rfl
     have HB' : Hid (cs[kk]? = some b' ∧ kk < cs.length) := ⟨hb', by omega⟩
     clear hDn hO ekid hst HDj hrk hsh hlc hkle hkk hb' hgd
     go_wp2_with (first
      | (go_at_call 69; refine cl.mono ?_; rintro z w1 ⟨k1, a1, d1, k2, a2, d2, k3, a3, d3, rfl, e1, e2, e3, i1, i2, i3, j1, j2, j3, hb⟩; have hA : Below w1.heap.size w1 (w1.alloc (.cells #[.bool false, .slice a1 k1 d1, .slice a2 k2 d2, .slice a3 k3 d3] 76)) := (Below.refl _ _).alloc (Nat.le_refl _) _; have hwr := hbel.size; have hvb : ∀ z, (Value.slice va j vc).ownBlock = some z → z < wr.heap.size := (fun z hz => (HO.out.lt z hz).2); have hoff : Hid (∀ z, (Value.slice va j vc).ownBlock = some z → OffN z ⟨blk, false, a1, k1, d1, a2, k2, d2, a3, k3, d3, kk⟩ (blk, (false, ks, vs, cs), kk)) := (fun z hz => ⟨fun _ x hx e => (by have := j1 x hx; have := hvb z hz; omega), fun _ x hx e => (by have := j2 x hx; have := hvb z hz; omega), fun _ x hx e => (by have := j3 x hx; have := hvb z hz; omega)⟩); have NN : Hid (NodeR (w1.alloc (.cells #[.bool false, .slice a1 k1 d1, .slice a2 k2 d2, .slice a3 k3 d3] 76)) h q a1 k1 d1 a2 k2 d2 a3 k3 d3 ks vs cs) := ⟨e1, e2, e3, i1.below hA, i2.below hA, i3.below hA, j1.off2 (by omega) (by omega), j2.off2 (by omega) (by omega), j3.off2 (by omega) (by omega)⟩; have BN := box4_new w1 (.bool false) (.slice a1 k1 d1) (.slice a2 k2 d2) (.slice a3 k3 d3) 76 rfl; have hs1 : wr.heap.size ≤ w1.heap.size := hb.size; replace hbel := Below.tr (Below.tr hbel hb) hA; replace HR : Hid (Reps (w1.alloc (.cells #[.bool false, .slice a1 k1 d1, .slice a2 k2 d2, .slice a3 k3 d3] 76)) h q ms pre) := (HR.out.below hb).below hA; replace HO : Hid ((w1.alloc (.cells #[.bool false, .slice a1 k1 d1, .slice a2 k2 d2, .slice a3 k3 d3] 76)).ownsRow w.heap.size 105 6 (.slice va j vc) j (cellsM ms)) := (Turns.of_below (P := fun _ => False) (Below.tr hb hA)).owns HO.out (fun _ _ x => x); obtain ⟨⟨b0, b1, b2, b3⟩, -⟩ := id BN; clear hA hb e1 e2 e3 i1 i2 i3 j1 j2 j3)
      | (go_at_call 50; refine (cK _ NN.out).mono ?_; rintro z w2 ⟨rfl, hb⟩; replace hbel := Below.tr hbel hb; replace NN : Hid (NodeR w2 h q a1 k1 d1 a2 k2 d2 a3 k3 d3 ks vs cs) := NN.out.below hb; replace HR : Hid (Reps w2 h q ms pre) := HR.out.below hb; replace BN := BN.below hb; replace HO : Hid (w2.ownsRow w.heap.size 105 6 (.slice va j vc) j (cellsM ms)) := (Turns.of_below (P := fun _ => False) hb).owns HO.out (fun _ _ x => x); have hs2 := hb.size; simp at hs2; obtain ⟨g, cap, w3, hrun, own3, bel3, T3, hg3⟩ := HPm.out w2 (a1 := a1) (k1 := k1) (d1 := d1) (a2 := a2) (k2 := k2) (d2 := d2) (a3 := a3) (k3 := k3) (d3 := d3) kk (by omega) HO.out; obtain ⟨R3, F3⟩ := reps_push (m := ⟨blk, false, a1, k1, d1, a2, k2, d2, a3, k3, d3, kk⟩) (s := (blk, (false, ks, vs, cs), kk)) HR.out HF.out rfl rfl rfl NN.out hoff.out T3 hg3; have BN3 := BN.turns T3 (fun e => (by have := hvb _ e; omega)); have HO2 : Hid (w3.ownsRow w.heap.size 105 6 (.slice (some ⟨g, 0, none⟩) (j + 1) cap) (j + 1) (cellsM (ms ++ [⟨blk, false, a1, k1, d1, a2, k2, d2, a3, k3, d3, kk⟩]))) := own3; have HR2 : Hid (Reps w3 h q (ms ++ [⟨blk, false, a1, k1, d1, a2, k2, d2, a3, k3, d3, kk⟩]) (pre ++ [(blk, (false, ks, vs, cs), kk)])) := R3; have HF2 : Hid (Offs (some g) (ms ++ [⟨blk, false, a1, k1, d1, a2, k2, d2, a3, k3, d3, kk⟩]) (pre ++ [(blk, (false, ks, vs, cs), kk)])) := F3; replace hbel := hbel.trans bel3; have I3 : Hid (IsI w3 a3 d3 cs) := NN.out.i3.turnsL T3 (fun hne x hx e => (hoff.out _ e).2.2 hne x hx rfl); have E3 : Hid (k3 = cs.length) := NN.out.e3; clear b0 b1 b2 b3 own3 bel3 R3 F3 T3 hg3; obtain ⟨⟨c0, c1, c2, c3⟩, -⟩ := id BN3; obtain ⟨⟨b0, b1, b2, b3⟩, -⟩ := id BN; clear hb)
      | (at_builtin; refine Lib.wpList_append_run _ rfl _ _ _ _ rfl _ _ rfl rfl _ _ hrun ?_; obtain ⟨bz, oz, ez, hz1, hz2⟩ := I3.out.2.2 kk b' HB'.out.1; subst ez; have hkc : (kk : Int) < k3 := (by rw [E3.out]; have := HB'.out.2; omega); have mk3 : k3 ≤ 9223372036854775807 := (by rw [E3.out]; exact Nat.le_trans I3.out.1 I3.out.2.1); clear hz1))
     go_roundw
     case rel => exact ⟨j + 1, _, _, b', _, _, by go_num, rfl, by omega, by rw [List.length_append, HP.out]; rfl, HDn.out, rfl, HO2.out, HR2.out, HF2.out, hbel⟩
     case measure => simp [intOf]; omega
  ·
   obtain rfl : j = 8 := by omega
   have hDn : D = none := by rw [HDj.out]; rfl
   subst hDn
   go_wp2
   go_ret2
   exact ⟨rfl, hbel⟩
theorem drewN_below (w : World) (n : Nat) {k : Nat} : Below k w (w.drewN n) := by
 induction n generalizing w with
 | zero => exact Below.refl _ _
 | succ n ih => exact (ih w).drew
set_option maxRecDepth 20000 in
set_option maxHeartbeats 2000000 in
theorem equal_one (a : Option Addr) (c n : Nat) (xs : List Int) (g : Nat) (b : Int) (w : World) (hn : n = xs.length) (h : IsI w a c xs) (hb : IsI w (some ⟨g, 0, none⟩) 1 [b]) :
  Calls Tryz.prog 71 #[.slice a n c, .slice (some ⟨g, 0, none⟩) 1 1] w fun e w' => e = .returned (.bool (decide (xs = [b]))) ∧ Below w.heap.size w w' := by
 have mn : n ≤ 9223372036854775807 := by rw [hn]; exact Nat.le_trans h.1 h.2.1
 have HB : Below w.heap.size w w := Below.refl _ _
 by_cases h1 : n = 1
 ·
  subst h1
  obtain ⟨x, rfl⟩ : ∃ x, xs = [x] := by
   cases xs with
   | nil => simp at hn
   | cons x xs => cases xs with | nil => exact ⟨x, rfl⟩ | cons _ _ => simp at hn
  obtain ⟨b1, o1, rfl, -, c1⟩ := h.2.2 0 x rfl
  obtain ⟨b2, o2, e2, -, c2⟩ := hb.2.2 0 b rfl
  cases e2
  simp only [Nat.add_zero] at c1 c2
  have hd : decide ([x] = [b]) = decide (x = b) := decide_eq_decide.2 (by simp)
  rw [hd]
  by_cases hx : x = b
  ·
   subst hx
   rw [decide_eq_true rfl]
   clear h hb hn hd mn
   go_enter Tryz.func71, Tryz.ntmps71
   go_wp2
   go_loopw [13] (fun v wr => ∃ j : Nat, j ≤ 1 ∧ v = .int .i64 j ∧ Below w.heap.size w wr) (fun v _ => 1 - (intOf v).toNat)
   case atStart => exact ⟨0, by omega, rfl, HB⟩
   case round =>
    obtain ⟨j, hj, rfl, hbel⟩ := hrel
    by_cases hlt : j < 1
    ·
     obtain rfl : j = 0 := by omega
     have c1' := cell_below hbel c1
     have c2' := cell_below hbel c2
     go_wp2
     go_quiet (fail)
     have HBq : Below w.heap.size w (wr.drewN nq) := hbel.trans (drewN_below wr nq)
     generalize wr.drewN nq = w2 at HBq ⊢
     go_wp2
     go_roundw
     case rel => exact ⟨1, by omega, by go_num, HBq⟩
     case measure => simp [intOf]
    ·
     obtain rfl : j = 1 := by omega
     go_wp2
     go_ret
     exact ⟨rfl, hbel⟩
  ·
   rw [decide_eq_false hx]
   have hx' : (x == b) = false := by simpa using hx
   clear h hb hn hd mn hx
   go_enter Tryz.func71, Tryz.ntmps71
   go_wp2
   go_loopw [13] (fun v wr => v = .int .i64 0 ∧ Below w.heap.size w wr) (fun v _ => 1 - (intOf v).toNat)
   case atStart => exact ⟨rfl, HB⟩
   case round =>
    obtain ⟨rfl, hbel⟩ := hrel
    have c1' := cell_below hbel c1
    have c2' := cell_below hbel c2
    go_wp2
    go_quiet (fail)
    have HBq : Below w.heap.size w (wr.drewN nq) := hbel.trans (drewN_below wr nq)
    generalize wr.drewN nq = w2 at HBq ⊢
    go_wp2
    go_ret
    exact ⟨rfl, HBq⟩
 ·
  have hf : decide (xs = [b]) = false := decide_eq_false (fun e => h1 (by rw [hn, e]; rfl))
  rw [hf]
  have h1' : ((n : Int) == 1) = false := by rw [beq_eq_false_iff_ne]; omega
  clear h hb hn hf h1
  go_enter Tryz.func71, Tryz.ntmps71
  go_wp2
  go_ret
  exact ⟨rfl, HB⟩
theorem isS_tail {w : World} {a : Option Addr} {c : Nat} {l : List ByteArray} (h : IsS w a c l) (k : Nat) : IsS w (a.map fun x => x.add k) (c - k) (l.drop k) := by
 refine ⟨by rw [List.length_drop]; have := h.1; omega, by have := h.2.1; omega, fun j x hx => ?_⟩
 rw [List.getElem?_drop] at hx
 obtain ⟨b, o, ha, hlt, hc, hs⟩ := h.2.2 (k + j) x hx
 subst ha
 exact ⟨b, o + k, by simp [at_add], hlt, by rw [Nat.add_assoc]; exact hc, hs⟩
theorem isS_end {w : World} {a : Option Addr} {c k : Nat} {l : List ByteArray} (h : IsS w a c l) (hk : k = c) : IsS w a 0 (l.drop k) := by
 have : l.drop k = [] := List.drop_eq_nil_of_le (by have := h.1; omega)
 rw [this]
 exact ⟨Nat.le_refl _, Nat.zero_le _, fun j x hx => by simp at hx⟩
theorem rows3 {W : World} {a a' a'' : Option Addr} {c c' c'' n n' n'' : Nat} {xs ys zs : List ByteArray} (hn : n = xs.length) (hn' : n' = ys.length) (hn'' : n'' = zs.length) (h : IsS W a c xs) (h' : IsS W a' c' ys) (h'' : IsS W a'' c'' zs) :
  RowsS (W.alloc (.cells #[.slice a n c, .slice a' n' c', .slice a'' n'' c''] 25)) W.heap.size [(a, c, xs), (a', c', ys), (a'', c'', zs)] := by
 have hA := (Below.refl W.heap.size W).alloc (Nat.le_refl _) (.cells #[.slice a n c, .slice a' n' c', .slice a'' n'' c''] 25)
 intro i r hr
 match i, hr with
 | 0, hr => cases hr; exact ⟨by rw [hn]; exact World.cell?_alloc_at _ _ _ _ rfl, h.below hA⟩
 | 1, hr => cases hr; exact ⟨by rw [hn']; exact World.cell?_alloc_at _ _ _ _ rfl, h'.below hA⟩
 | 2, hr => cases hr; exact ⟨by rw [hn'']; exact World.cell?_alloc_at _ _ _ _ rfl, h''.below hA⟩
theorem concat3S (W : World) (a a' a'' : Option Addr) (c c' c'' n n' n'' m : Nat) (xs ys zs : List ByteArray) (hn : n = xs.length) (hn' : n' = ys.length) (hn'' : n'' = zs.length) (hm : m = n + (n' + n'')) (h : IsS W a c xs) (h' : IsS W a' c' ys) (h'' : IsS W a'' c'' zs) (h9 : m ≤ 4096) :
  Calls Tryz.prog 85 #[.slice (some ⟨W.heap.size, 0, none⟩) 3 3] (W.alloc (.cells #[.slice a n c, .slice a' n' c', .slice a'' n'' c''] 25)) fun e w' => ∃ b d, e = .returned (.slice b m d) ∧ IsS w' b d (xs ++ (ys ++ zs)) ∧ From W.heap.size b ∧ Below W.heap.size W w' := by
 have hA := (Below.refl W.heap.size W).alloc (Nat.le_refl _) (.cells #[.slice a n c, .slice a' n' c', .slice a'' n'' c''] 25)
 have hf : flatS [(a, c, xs), (a', c', ys), (a'', c'', zs)] = xs ++ (ys ++ zs) := by simp [flatS]
 have hlen : (xs ++ (ys ++ zs)).length = m := by rw [List.length_append, List.length_append]; omega
 have := concatS_any W.heap.size 3 m [(a, c, xs), (a', c', ys), (a'', c'', zs)] _ (rows3 hn hn' hn'' h h' h'') rfl (by rw [hf, hlen]; exact h9) (by omega) (by rw [hf, hlen])
 rw [hf] at this
 exact this.mono fun e w' ⟨b, d, he, hi, hfr, hb⟩ => ⟨b, d, he, hi, hfr.mono (by simp), hA.trans (hb.mono (by simp))⟩
set_option maxRecDepth 20000 in
set_option maxHeartbeats 2000000 in
theorem splicedS_any (a a' : Option Addr) (c c' n n' i j m : Nat) (xs ys : List ByteArray) (w : World) (hn : n = xs.length) (hn' : n' = ys.length) (h : IsS w a c xs) (h' : IsS w a' c' ys) (hij : i ≤ j) (hj : j ≤ n) (hm : m = i + (n' + (n - j))) (h9 : n ≤ 2000) (h9' : n' ≤ 2000) :
  Calls Tryz.prog 68 #[.slice a n c, .int .i64 i, .int .i64 j, .slice a' n' c'] w fun e w' => ∃ b d, e = .returned (.slice b m d) ∧ IsS w' b d (xs.take i ++ (ys ++ xs.drop j)) ∧ From w.heap.size b ∧ Below w.heap.size w w' := by
 have hc1 := h.1
 have hc2 : c ≤ 9223372036854775807 := h.2.1
 have hic : (i : Int) ≤ c := by omega
 have hjn : (j : Int) ≤ n := by omega
 have HB : Below w.heap.size w w := Below.refl _ _
 have hi0 : IsS w a c (xs.take i) := h.take i
 by_cases hjc : c = j
 ·
  subst hjc
  have cC : ∀ V, Below w.heap.size w V → Calls Tryz.prog 85 #[.slice (some ⟨V.heap.size, 0, none⟩) 3 3] (V.alloc (.cells #[.slice a i c, .slice a' n' c', .slice a (n - c) 0] 25)) fun e w' => ∃ b d, e = .returned (.slice b m d) ∧ IsS w' b d (xs.take i ++ (ys ++ xs.drop c)) ∧ From V.heap.size b ∧ Below V.heap.size V w' :=
   fun V hV => concat3S V a a' a c c' 0 i n' (n - c) m (xs.take i) ys (xs.drop c) (by rw [List.length_take]; omega) hn' (by rw [List.length_drop]; omega) hm (hi0.below hV) (h'.below hV) ((isS_end h rfl).below hV) (by omega)
  clear hn hn' h h' hi0 hm
  go_enter Tryz.func68, Tryz.ntmps68
  go_wp2
  go_region_held3 (fun _ => True) (trivial) (first
   | (go_at_call 85; refine (cC w.drew HB.drew).mono ?_; rintro y w1 ⟨b, d, rfl, hi, hf, hb⟩; replace HB := Below.tr HB.drew hb; clear hb))
  go_wp2
  go_ret
  exact ⟨b, d, rfl, hi, hf, HB⟩
 ·
  have cC : ∀ V, Below w.heap.size w V → Calls Tryz.prog 85 #[.slice (some ⟨V.heap.size, 0, none⟩) 3 3] (V.alloc (.cells #[.slice a i c, .slice a' n' c', .slice (a.map fun x => x.add j) (n - j) (c - j)] 25)) fun e w' => ∃ b d, e = .returned (.slice b m d) ∧ IsS w' b d (xs.take i ++ (ys ++ xs.drop j)) ∧ From V.heap.size b ∧ Below V.heap.size V w' :=
   fun V hV => concat3S V a a' _ c c' _ i n' (n - j) m (xs.take i) ys (xs.drop j) (by rw [List.length_take]; omega) hn' (by rw [List.length_drop]; omega) hm (hi0.below hV) (h'.below hV) ((isS_tail h j).below hV) (by omega)
  clear hn hn' h h' hi0 hm
  go_enter Tryz.func68, Tryz.ntmps68
  go_wp2
  go_region_held3 (fun _ => True) (trivial) (first
   | (go_at_call 85; refine (cC w.drew HB.drew).mono ?_; rintro y w1 ⟨b, d, rfl, hi, hf, hb⟩; replace HB := Below.tr HB.drew hb; clear hb))
  go_wp2
  go_ret
  exact ⟨b, d, rfl, hi, hf, HB⟩
set_option maxHeartbeats 2000000 in
set_option maxRecDepth 100000 in
theorem growI_any (n : Nat) (w : World) (h2 : n ≤ 4096) :
  Calls Tryz.prog 131 #[.slice none 0 0, .int .i64 n] w fun e w' => ∃ v, e = .returned v ∧ w'.ownsRow w.heap.size 3 1 v 0 [] ∧ Below w.heap.size w w' := by
 by_cases h0 : n = 0
 ·
  subst h0
  go_enter Tryz.func131, Tryz.ntmps131
  go_wp2
  all_goals (go_ret; exact ⟨_, rfl, World.ownsRow_nil _ _ _ _, Below.refl _ _⟩)
 ·
  have h1 : 1 ≤ n := by omega
  obtain ⟨i0, hi, hz0, hz1, hz2⟩ := info_parts Tryz.info3
  obtain ⟨G, hG⟩ : ∃ G, G = grownCap w n 0 3 := ⟨_, rfl⟩
  obtain ⟨Z, hZ⟩ : ∃ Z, Z = Builtin.zeroCells (Value.int .i64 0).cells n ++ Builtin.zeroCells (Value.int .i64 0).cells (G - n) := ⟨_, rfl⟩
  have hGn : n ≤ G := by rw [hG]; exact grownCap_ge w _ _ _
  have hGm : G ≤ maxLen := by rw [hG]; exact grownCap_le_maxLen w n 0 _ (by unfold maxLen; omega)
  have hZs : Hid (Z.size = G * 1) := by
   show _ = _
   rw [hZ, Array.size_append]
   have hc : (Value.int .i64 0).cells.size = 1 := by rfl
   simp only [Builtin.zeroCells, Array.size_map, Array.size_range, hc]
   omega
  have hrz : ∀ ty, (Builtin.append_ #[38, 3] ty #[.slice none 0 0, .int .i64 n]).run Tryz.prog w = .ok (.slice (some ⟨w.heap.size, 0, none⟩) n G) (w.drew.alloc (.cells Z 3)) := fun ty => by
   have := Lib.run_append_nil_zeros (P := Tryz.prog) w 38 3 ty 3 i0 _ .i64 .i64 Tryz.underlying38 Tryz.underlying3 hi hz0 n (by omega) (by omega) (by omega) (by rw [hz2]; omega)
   rw [← hG, ← hZ] at this
   exact this
  have hG63 : G ≤ 9223372036854775807 := hGm
  have h1' : (1 : Int) ≤ n := by omega
  have h2' : (n : Int) ≤ 4096 := by omega
  clear hZ hG h0
  go_enter Tryz.func131, Tryz.ntmps131
  go_wp2_with (at_builtin; refine Lib.wpList_append_run _ rfl _ _ _ _ rfl _ _ rfl rfl _ _ (hrz _) ?_)
  all_goals (go_ret; exact ⟨_, rfl, ⟨rfl, .inr ⟨w.heap.size, G, Z, rfl, Nat.le_refl _, heap_new w.drew _, Nat.zero_le _, hGm, hZs.out, rfl⟩⟩, (Below.refl _ _).drew.alloc (Nat.le_refl _) _⟩)
set_option maxRecDepth 20000 in
set_option maxHeartbeats 2000000 in
theorem concatI_any (H k n : Nat) (rs : List (Option Addr × Nat × List Int)) (w : World) (hR : RowsI w H rs) (hk : k = rs.length) (hl : (flatI rs).length ≤ 4096) (hk9 : k ≤ 9) (hn : n = (flatI rs).length) :
  Calls Tryz.prog 107 #[.slice (some ⟨H, 0, none⟩) k k] w fun e w' => ∃ a c, e = .returned (.slice a n c) ∧ IsI w' a c (flatI rs) ∧ From w.heap.size a ∧ Below w.heap.size w w' := by
 have HR : Hid (RowsI w H rs) := hR
 have HK : Hid (k = rs.length) := hk
 have HL : Hid ((flatI rs).length ≤ 4096) := hl
 have HN : Hid (n = (flatI rs).length) := hn
 have hn4 : n ≤ 4096 := by omega
 have cG := growI_any n w hn4
 clear hR hk hl hn
 go_enter Tryz.func107, Tryz.ntmps107
 go_wp2
 go_loop [3, 11] (fun s i => ∃ (j m : Nat), j ≤ k ∧ i = .int .i64 j ∧ s = .int .i64 m ∧ m = (flatI (rs.take j)).length) (fun _ i => k - (intOf i).toNat)
 case atStart => exact ⟨0, 0, by omega, rfl, rfl, rfl⟩
 case round =>
  obtain ⟨j, m, hj, rfl, rfl, hm⟩ := hrel
  have HM : Hid (m = (flatI (rs.take j)).length) := hm
  clear hm
  by_cases hlt : j < k
  ·
   have hlt' : (j : Int) < k := by omega
   obtain ⟨r, hr⟩ : ∃ r, rs[j]? = some r := ⟨_, List.getElem?_eq_getElem (by rw [← HK.out]; exact hlt)⟩
   obtain ⟨hc, hI⟩ := HR.out j r hr
   obtain ⟨a, c, ys⟩ := r
   have hf := flatI_take hr
   have hle := flatI_le rs (j + 1)
   simp only at hc hI hf
   obtain ⟨y, hy⟩ : ∃ y, y = ys.length := ⟨_, rfl⟩
   rw [← hy] at hc
   have hle2 := HL.out
   have hsum : m + y ≤ 4096 := by rw [hf, List.length_append, ← HM.out, ← hy] at hle; omega
   have hm' : Hid (m + y = (flatI (rs.take (j + 1))).length) := by show _ = _; rw [hf, List.length_append, ← HM.out, ← hy]
   have hs0 : ¬ ((m : Int) + y) < 0 := by omega
   have hs1 : (m : Int) + y ≤ 4096 := by omega
   clear hr hI hf hle hle2 hy
   go_wp2
   go_round
   case rel => exact ⟨j + 1, m + y, by omega, by go_num, by go_num, hm'.out⟩
   case measure => simp [intOf]; omega
  ·
   obtain rfl : j = k := by omega
   have ht : rs.take j = rs := List.take_of_length_le (by rw [← HK.out]; exact Nat.le_refl _)
   have hmn : m = n := by rw [HM.out, ht, HN.out]
   subst hmn
   clear ht HM
   go_wp2_with (go_at_call 131; refine cG.mono ?_; rintro e w1 ⟨v1, rfl, hown1, hb⟩; clear cG)
   go_loopw [6, 27] (fun v i wr => ∃ i0 : Nat, i0 ≤ j ∧ i = .int .i64 i0 ∧ wr.ownsRow w.heap.size 3 1 v (flatI (rs.take i0)).length ((flatI (rs.take i0)).map (Value.int .i64)) ∧ Below w.heap.size w wr) (fun _ i _ => j - (intOf i).toNat)
   case atStart => exact ⟨0, by omega, rfl, hown1, hb⟩
   case round =>
    obtain ⟨i0, hi0, rfl, hown, hbel⟩ := hrel
    clear hown1 hb
    by_cases hlt2 : i0 < j
    ·
     have hlt2' : (i0 : Int) < j := by omega
     obtain ⟨r, hr⟩ : ∃ r, rs[i0]? = some r := ⟨_, List.getElem?_eq_getElem (by rw [← HK.out]; exact hlt2)⟩
     obtain ⟨hc0, hI⟩ := HR.out i0 r hr
     have hc := cell_below hbel hc0
     obtain ⟨a, c, ys⟩ := r
     have hf := flatI_take hr
     have hle := flatI_le rs (i0 + 1)
     simp only at hc hI hf
     have hle2 := HL.out
     obtain ⟨v', w', hrun, hown', hgr, _⟩ := append_I wr w.heap.size _ _ _ hown hbel.size a c ys.length ys rfl (hI.below hbel) (by rw [hf, List.length_append] at hle; omega)
     have HO : Hid (w'.ownsRow w.heap.size 3 1 v' (flatI (rs.take (i0 + 1))).length ((flatI (rs.take (i0 + 1))).map (Value.int .i64))) := by
      show World.ownsRow _ _ _ _ _ _ _
      rw [hf, List.length_append]; exact hown'
     have HB : Hid (Below w.heap.size w w') := hbel.grown hgr hbel.size fun g hg => (hown.lt g hg).1
     clear hown hown' hgr hr hc0 hI hf hle hle2 hbel
     go_wp2_with (at_builtin; refine Lib.wpList_append_run _ rfl _ _ _ _ rfl _ _ rfl rfl _ _ hrun ?_)
     go_roundw
     case rel => exact ⟨i0 + 1, by omega, by go_num, HO.out, HB.out⟩
     case measure => simp [intOf]; omega
    ·
     obtain rfl : i0 = j := by omega
     have ht : rs.take i0 = rs := List.take_of_length_le (by rw [← HK.out]; exact Nat.le_refl _)
     rw [ht] at hown
     obtain ⟨a, c, rfl, hn, hI, hF⟩ := owns_I hown
     have HI : Hid (IsI wr a c (flatI rs) ∧ From w.heap.size a) := ⟨hI, hF⟩
     clear hown hI hF hn ht
     rw [← HN.out]
     go_wp2
     go_ret
     exact ⟨a, c, rfl, HI.out.1, HI.out.2, hbel⟩
theorem isI_tail {w : World} {a : Option Addr} {c : Nat} {l : List Int} (h : IsI w a c l) (k : Nat) : IsI w (a.map fun x => x.add k) (c - k) (l.drop k) := by
 refine ⟨by rw [List.length_drop]; have := h.1; omega, by have := h.2.1; omega, fun j x hx => ?_⟩
 rw [List.getElem?_drop] at hx
 obtain ⟨b, o, ha, hlt, hc⟩ := h.2.2 (k + j) x hx
 subst ha
 exact ⟨b, o + k, by simp [at_add], hlt, by rw [Nat.add_assoc]; exact hc⟩
theorem isI_end {w : World} {a : Option Addr} {c k : Nat} {l : List Int} (h : IsI w a c l) (hk : k = c) : IsI w a 0 (l.drop k) := by
 have : l.drop k = [] := List.drop_eq_nil_of_le (by have := h.1; omega)
 rw [this]
 exact ⟨Nat.le_refl _, Nat.zero_le _, fun j x hx => by simp at hx⟩
theorem rows3I {W : World} {a a' a'' : Option Addr} {c c' c'' n n' n'' : Nat} {xs ys zs : List Int} (hn : n = xs.length) (hn' : n' = ys.length) (hn'' : n'' = zs.length) (h : IsI W a c xs) (h' : IsI W a' c' ys) (h'' : IsI W a'' c'' zs) :
  RowsI (W.alloc (.cells #[.slice a n c, .slice a' n' c', .slice a'' n'' c''] 38)) W.heap.size [(a, c, xs), (a', c', ys), (a'', c'', zs)] := by
 have hA := (Below.refl W.heap.size W).alloc (Nat.le_refl _) (.cells #[.slice a n c, .slice a' n' c', .slice a'' n'' c''] 38)
 intro i r hr
 match i, hr with
 | 0, hr => cases hr; exact ⟨by rw [hn]; exact World.cell?_alloc_at _ _ _ _ rfl, h.below hA⟩
 | 1, hr => cases hr; exact ⟨by rw [hn']; exact World.cell?_alloc_at _ _ _ _ rfl, h'.below hA⟩
 | 2, hr => cases hr; exact ⟨by rw [hn'']; exact World.cell?_alloc_at _ _ _ _ rfl, h''.below hA⟩
theorem concat3I (W : World) (a a' a'' : Option Addr) (c c' c'' n n' n'' m : Nat) (xs ys zs : List Int) (hn : n = xs.length) (hn' : n' = ys.length) (hn'' : n'' = zs.length) (hm : m = n + (n' + n'')) (h : IsI W a c xs) (h' : IsI W a' c' ys) (h'' : IsI W a'' c'' zs) (h9 : m ≤ 4096) :
  Calls Tryz.prog 107 #[.slice (some ⟨W.heap.size, 0, none⟩) 3 3] (W.alloc (.cells #[.slice a n c, .slice a' n' c', .slice a'' n'' c''] 38)) fun e w' => ∃ b d, e = .returned (.slice b m d) ∧ IsI w' b d (xs ++ (ys ++ zs)) ∧ From W.heap.size b ∧ Below W.heap.size W w' := by
 have hA := (Below.refl W.heap.size W).alloc (Nat.le_refl _) (.cells #[.slice a n c, .slice a' n' c', .slice a'' n'' c''] 38)
 have hf : flatI [(a, c, xs), (a', c', ys), (a'', c'', zs)] = xs ++ (ys ++ zs) := by simp [flatI]
 have hlen : (xs ++ (ys ++ zs)).length = m := by rw [List.length_append, List.length_append]; omega
 have := concatI_any W.heap.size 3 m [(a, c, xs), (a', c', ys), (a'', c'', zs)] _ (rows3I hn hn' hn'' h h' h'') rfl (by rw [hf, hlen]; exact h9) (by omega) (by rw [hf, hlen])
 rw [hf] at this
 exact this.mono fun e w' ⟨b, d, he, hi, hfr, hb⟩ => ⟨b, d, he, hi, hfr.mono (by simp), hA.trans (hb.mono (by simp))⟩
set_option maxRecDepth 20000 in
set_option maxHeartbeats 2000000 in
theorem splicedI_any (a a' : Option Addr) (c c' n n' i j m : Nat) (xs ys : List Int) (w : World) (hn : n = xs.length) (hn' : n' = ys.length) (h : IsI w a c xs) (h' : IsI w a' c' ys) (hij : i ≤ j) (hj : j ≤ n) (hm : m = i + (n' + (n - j))) (h9 : n ≤ 2000) (h9' : n' ≤ 2000) :
  Calls Tryz.prog 88 #[.slice a n c, .int .i64 i, .int .i64 j, .slice a' n' c'] w fun e w' => ∃ b d, e = .returned (.slice b m d) ∧ IsI w' b d (xs.take i ++ (ys ++ xs.drop j)) ∧ From w.heap.size b ∧ Below w.heap.size w w' := by
 have hc1 := h.1
 have hc2 : c ≤ 9223372036854775807 := h.2.1
 have hic : (i : Int) ≤ c := by omega
 have hjn : (j : Int) ≤ n := by omega
 have HB : Below w.heap.size w w := Below.refl _ _
 have hi0 : IsI w a c (xs.take i) := h.take i
 by_cases hjc : c = j
 ·
  subst hjc
  have cC : ∀ V, Below w.heap.size w V → Calls Tryz.prog 107 #[.slice (some ⟨V.heap.size, 0, none⟩) 3 3] (V.alloc (.cells #[.slice a i c, .slice a' n' c', .slice a (n - c) 0] 38)) fun e w' => ∃ b d, e = .returned (.slice b m d) ∧ IsI w' b d (xs.take i ++ (ys ++ xs.drop c)) ∧ From V.heap.size b ∧ Below V.heap.size V w' :=
   fun V hV => concat3I V a a' a c c' 0 i n' (n - c) m (xs.take i) ys (xs.drop c) (by rw [List.length_take]; omega) hn' (by rw [List.length_drop]; omega) hm (hi0.below hV) (h'.below hV) ((isI_end h rfl).below hV) (by omega)
  clear hn hn' h h' hi0 hm
  go_enter Tryz.func88, Tryz.ntmps88
  go_wp2
  go_region_held3 (fun _ => True) (trivial) (first
   | (go_at_call 107; refine (cC w.drew HB.drew).mono ?_; rintro y w1 ⟨b, d, rfl, hi, hf, hb⟩; replace HB := Below.tr HB.drew hb; clear hb))
  go_wp2
  go_ret
  exact ⟨b, d, rfl, hi, hf, HB⟩
 ·
  have cC : ∀ V, Below w.heap.size w V → Calls Tryz.prog 107 #[.slice (some ⟨V.heap.size, 0, none⟩) 3 3] (V.alloc (.cells #[.slice a i c, .slice a' n' c', .slice (a.map fun x => x.add j) (n - j) (c - j)] 38)) fun e w' => ∃ b d, e = .returned (.slice b m d) ∧ IsI w' b d (xs.take i ++ (ys ++ xs.drop j)) ∧ From V.heap.size b ∧ Below V.heap.size V w' :=
   fun V hV => concat3I V a a' _ c c' _ i n' (n - j) m (xs.take i) ys (xs.drop j) (by rw [List.length_take]; omega) hn' (by rw [List.length_drop]; omega) hm (hi0.below hV) (h'.below hV) ((isI_tail h j).below hV) (by omega)
  clear hn hn' h h' hi0 hm
  go_enter Tryz.func88, Tryz.ntmps88
  go_wp2
  go_region_held3 (fun _ => True) (trivial) (first
   | (go_at_call 107; refine (cC w.drew HB.drew).mono ?_; rintro y w1 ⟨b, d, rfl, hi, hf, hb⟩; replace HB := Below.tr HB.drew hb; clear hb))
  go_wp2
  go_ret
  exact ⟨b, d, rfl, hi, hf, HB⟩
end Go.Proofs.YtaecfbfcjaailaaGreat
namespace Go.Proofs.YtaecfbfcjaailaaGreat
open Go.RowKit Plain Anylast
set_option linter.unusedVariables false
def GotS (B n : Nat) (xs : List ByteArray) (v : Value) (w : World) : Prop := ∃ p q, v = .slice p n q ∧ IsS w p q xs ∧ From B p
def GotI (B n : Nat) (xs : List Int) (v : Value) (w : World) : Prop := ∃ p q, v = .slice p n q ∧ IsI w p q xs ∧ From B p
theorem GotS.turns {B n h : Nat} {xs : List ByteArray} {v : Value} {w w' : World} (hs : GotS B n xs v w) (hh : h < B) (t : Turns (fun k => k = h) w w') : GotS B n xs v w' := by
 obtain ⟨p, q, h1, h2, h3⟩ := hs
 exact ⟨p, q, h1, h2.turns t (fun x hx e => by have := h3 x hx; omega), h3⟩
theorem GotI.turns {B n h : Nat} {xs : List Int} {v : Value} {w w' : World} (hs : GotI B n xs v w) (hh : h < B) (t : Turns (fun k => k = h) w w') : GotI B n xs v w' := by
 obtain ⟨p, q, h1, h2, h3⟩ := hs
 exact ⟨p, q, h1, h2.turns t (fun x hx e => by have := h3 x hx; omega), h3⟩
def LeafT (h8 B n n' : Nat) (xs ys : List ByteArray) (W w : World) : Prop :=
 ∃ u u', Box4 w h8 (.bool true) u u' (.slice none 0 0) ∧ GotS B n xs u w ∧ GotS B n' ys u' w ∧ Turns (fun k => k = h8) W w
theorem op_skip {P : Program} {ops : Array Oper} {Q : Exit → Act → World → Prop} {i : Nat} {o : Oper} {a : Act} {w w' : World} {V : Nat → Value → World → Prop} {S : World → Prop} {R : World → World → Prop} (hi : ops[i]? = some o) (hw : Region.wanted o (yielded ops a.tmps) = true) (hd : o.dst = none)
  (hr : (execOp a.eval o).run P w = .ok .skip w') (hV : V i undef w') (hS : S w') (hR : R w w') :
  wpOp P ops Q i (fun a' w' => ∃ v, a' = a.put o.dst v ∧ V i v w' ∧ S w' ∧ R w w') a w := by
 unfold wpOp
 simp only [hi, hw, if_true]
 refine .inl ?_
 unfold Oper.wp
 rw [hr]
 refine ⟨undef, ?_, hV, hS, hR⟩
 rw [hd]
def Cells6 (w : World) (h : Nat) (v0 v1 v2 v3 v4 v5 : Value) : Prop :=
 w.cell? ⟨h, 0, none⟩ = some v0 ∧ w.cell? ⟨h, 1, none⟩ = some v1 ∧ w.cell? ⟨h, 2, none⟩ = some v2 ∧ w.cell? ⟨h, 3, none⟩ = some v3 ∧ w.cell? ⟨h, 4, none⟩ = some v4 ∧ w.cell? ⟨h, 5, none⟩ = some v5
theorem cells6_new (w : World) (v0 v1 v2 v3 v4 v5 : Value) (t : TypeId) {h : Nat} (hh : h = w.heap.size) : Cells6 (w.alloc (.cells #[v0, v1, v2, v3, v4, v5] t)) h v0 v1 v2 v3 v4 v5 := by
 subst hh
 exact ⟨World.cell?_alloc_at _ _ _ _ rfl, World.cell?_alloc_at _ _ _ _ rfl, World.cell?_alloc_at _ _ _ _ rfl, World.cell?_alloc_at _ _ _ _ rfl, World.cell?_alloc_at _ _ _ _ rfl, World.cell?_alloc_at _ _ _ _ rfl⟩
theorem Cells6.below {w w' : World} {h : Nat} {v0 v1 v2 v3 v4 v5 : Value} (x : Cells6 w h v0 v1 v2 v3 v4 v5) (hb : Below w.heap.size w w') : Cells6 w' h v0 v1 v2 v3 v4 v5 := by
 obtain ⟨h0, h1, h2, h3, h4, h5⟩ := x
 exact ⟨cell_below hb h0, cell_below hb h1, cell_below hb h2, cell_below hb h3, cell_below hb h4, cell_below hb h5⟩
def rowV9 (z2 z3 B m1 m2 : Nat) (i : Int) (r1 r2 s1 s2 : Value) (xs : List ByteArray) (ys : List Int) (o : Nat) (v : Value) (w : World) : Prop :=
 match o with
 | 0 => v = .pointer (some ⟨z2, 1, none⟩)
 | 1 => v = .pointer (some ⟨z2, 2, none⟩)
 | 2 => v = r1
 | 3 => v = .pointer (some ⟨z2, 5, none⟩)
 | 4 => v = .int .i64 i
 | 5 => v = .pointer (some ⟨z2, 5, none⟩)
 | 6 => v = .int .i64 i
 | 7 => v = .pointer (some ⟨z3, 1, none⟩)
 | 8 => v = s1
 | 9 => GotS B m1 xs v w
 | 10 => v = .pointer (some ⟨z2, 1, none⟩)
 | 11 => v = .pointer (some ⟨z2, 4, none⟩)
 | 12 => v = r2
 | 13 => v = .pointer (some ⟨z2, 5, none⟩)
 | 14 => v = .int .i64 i
 | 15 => v = .pointer (some ⟨z2, 5, none⟩)
 | 16 => v = .int .i64 i
 | 17 => v = .int .i64 (i + 1)
 | 18 => v = .pointer (some ⟨z3, 3, none⟩)
 | 19 => v = s2
 | 20 => GotI B m2 ys v w
 | 21 => ∃ u u', v = .agg #[.bool false, u, .slice none 0 0, u'] ∧ GotS B m1 xs u w ∧ GotI B m2 ys u' w
 | _ => True
def InnT (h8 B n n' : Nat) (xs : List ByteArray) (ys : List Int) (W w : World) : Prop :=
 ∃ u u', Box4 w h8 (.bool false) u (.slice none 0 0) u' ∧ GotS B n xs u w ∧ GotI B n' ys u' w ∧ Turns (fun k => k = h8) W w
theorem rowV9_mono {z2 z3 B m1 m2 h : Nat} {i : Int} {r1 r2 s1 s2 : Value} {xs : List ByteArray} {ys : List Int} (hh : h < B) (o : Nat) (v : Value) (w w' : World) (t : Turns (fun k => k = h) w w') (hv : rowV9 z2 z3 B m1 m2 i r1 r2 s1 s2 xs ys o v w) : rowV9 z2 z3 B m1 m2 i r1 r2 s1 s2 xs ys o v w' := by
 unfold rowV9 at hv ⊢
 split at hv <;> first
  | exact hv
  | exact hv.turns hh t
  | (obtain ⟨u, u', h1, h2, h3⟩ := hv; exact ⟨u, u', h1, h2.turns hh t, h3.turns hh t⟩)
set_option maxRecDepth 20000 in
set_option maxHeartbeats 4000000 in
theorem withRow_any (block : Int) (l : Bool) (a a' a'' e e' e'' : Option Addr) (c c' c'' n n' n'' d d' d'' k k' k'' i m1 m2 : Nat) (ks rk : List ByteArray) (cs rc : List Int) (w : World) (hn : n = ks.length) (hn'' : n'' = cs.length) (hK : IsS w a c ks) (hC : IsI w a'' c'' cs)
  (hk : k = rk.length) (hk'' : k'' = rc.length) (hR : IsS w e d rk) (hS' : IsI w e'' d'' rc) (hi : i ≤ n) (hic : i + 1 ≤ n'') (h9 : n ≤ 100) (h9' : n'' ≤ 100) (h9k : k ≤ 100) (h9k' : k'' ≤ 100) (hm1 : m1 = (ks.take i ++ (rk ++ ks.drop i)).length) (hm2 : m2 = (cs.take i ++ (rc ++ cs.drop (i + 1))).length) :
  Calls Tryz.prog 72 #[.agg #[.int .i64 block, .bool l, .slice a n c, .slice a' n' c', .slice a'' n'' c'', .int .i64 i], .agg #[.bool false, .slice e k d, .slice e' k' d', .slice e'' k'' d'']] w fun x w' => ∃ x1 y1 x2 y2, x = .returned (.agg #[.bool false, .slice x1 m1 y1, .slice none 0 0, .slice x2 m2 y2]) ∧ IsS w' x1 y1 (ks.take i ++ (rk ++ ks.drop i)) ∧ IsI w' x2 y2 (cs.take i ++ (rc ++ cs.drop (i + 1))) ∧ From w.heap.size x1 ∧ From w.heap.size x2 ∧ Below w.heap.size w w' := by
 obtain ⟨W, hW⟩ : ∃ W, W = ((w.alloc (.cells #[.int .i64 block, .bool l, .slice a n c, .slice a' n' c', .slice a'' n'' c'', .int .i64 i] 105)).alloc (.cells #[.bool false, .slice e k d, .slice e' k' d', .slice e'' k'' d''] 76)).alloc (.cells #[.bool false, .slice none 0 0, .slice none 0 0, .slice none 0 0] 76) := ⟨_, rfl⟩
 have A2 : Cells6 W w.heap.size (.int .i64 block) (.bool l) (.slice a n c) (.slice a' n' c') (.slice a'' n'' c'') (.int .i64 i) := by rw [hW]; exact ((cells6_new _ _ _ _ _ _ _ _ rfl).below ((Below.refl _ _).alloc (Nat.le_refl _) _)).below ((Below.refl _ _).alloc (Nat.le_refl _) _)
 have A3 : Box4 W (w.heap.size + 1) (.bool false) (.slice e k d) (.slice e' k' d') (.slice e'' k'' d'') := by rw [hW]; exact (box4_new _ _ _ _ _ _ (by simp)).alloc _
 have A4 : Box4 W (w.heap.size + 2) (.bool false) (.slice none 0 0) (.slice none 0 0) (.slice none 0 0) := by rw [hW]; exact box4_new _ _ _ _ _ _ (by simp)
 have HB : Below w.heap.size w W := by rw [hW]; exact (((Below.refl _ _).alloc (Nat.le_refl _) _).alloc (by simp) _).alloc (by simp; omega) _
 have cK : ∀ V, Below w.heap.size w V → Calls Tryz.prog 68 #[.slice a n c, .int .i64 i, .int .i64 i, .slice e k d] V fun x w' => ∃ b d, x = .returned (.slice b m1 d) ∧ IsS w' b d (ks.take i ++ (rk ++ ks.drop i)) ∧ From V.heap.size b ∧ Below V.heap.size V w' := fun V h =>
  splicedS_any a e c d n k i i m1 ks rk V hn hk (hK.below h) (hR.below h) (Nat.le_refl _) hi (by rw [hm1]; simp only [List.length_append, List.length_take, List.length_drop]; omega) (by omega) (by omega)
 have cC : ∀ V, Below w.heap.size w V → Calls Tryz.prog 88 #[.slice a'' n'' c'', .int .i64 i, .int .i64 ((i : Int) + 1), .slice e'' k'' d''] V fun x w' => ∃ b d, x = .returned (.slice b m2 d) ∧ IsI w' b d (cs.take i ++ (rc ++ cs.drop (i + 1))) ∧ From V.heap.size b ∧ Below V.heap.size V w' := fun V h =>
  splicedI_any a'' e'' c'' d'' n'' k'' i (i + 1) m2 cs rc V hn'' hk'' (hC.below h) (hS'.below h) (by omega) hic (by rw [hm2]; simp only [List.length_append, List.length_take, List.length_drop]; omega) (by omega) (by omega)
 generalize ks.take i ++ (rk ++ ks.drop i) = XS at *
 generalize cs.take i ++ (rc ++ cs.drop (i + 1)) = YS at *
 have hwr : IntKind.i64.wrap ((i : Int) + 1) = (i : Int) + 1 := i64_in _ (by omega) (by omega)
 obtain ⟨V0, hV0⟩ : ∃ V, V = W.drew := ⟨_, rfl⟩
 replace HB : Below w.heap.size w V0 := by rw [hV0]; exact HB.drew
 have hWd : Below W.heap.size W V0 := by rw [hV0]; exact (Below.refl _ _).drew
 replace A2 := A2.below hWd
 replace A3 := A3.below hWd
 replace A4 := A4.below hWd
 clear hn hn'' hK hC hk hk'' hR hS' hi hic h9 h9' h9k h9k' hm1 hm2 hWd
 go_enter Tryz.func72, Tryz.ntmps72
 go_wp2
 rw [← hW]
 generalize e4 : w.heap.size + 1 + 1 = z4
 generalize e3 : w.heap.size + 1 = z3
 generalize e2 : w.heap.size = z2
 replace A2 : Cells6 V0 z2 (.int .i64 block) (.bool l) (.slice a n c) (.slice a' n' c') (.slice a'' n'' c'') (.int .i64 i) := by rw [← e2]; exact A2
 replace A3 : Box4 V0 z3 (.bool false) (.slice e k d) (.slice e' k' d') (.slice e'' k'' d'') := by rw [← e3]; exact A3
 replace A4 : Box4 V0 z4 (.bool false) (.slice none 0 0) (.slice none 0 0) (.slice none 0 0) := by rw [← e4]; exact A4
 have hle4w : w.heap.size ≤ z4 := by omega
 have E2 : Hid (w.heap.size = z2) := e2
 have HV0 : Hid (V0 = W.drew) := hV0
 clear e2 e3 e4 hV0 hW
 have z4B : z4 < V0.heap.size := A4.lt
 refine region_last (by kernel_rfl) 22 (rowV9 z2 z3 V0.heap.size m1 m2 (i : Int) (.slice a n c) (.slice a'' n'' c'') (.slice e k d) (.slice e'' k'' d'') XS YS) (fun u => Below V0.heap.size V0 u) (InnT z4 V0.heap.size m1 m2 XS YS V0) (fun u u' => Turns (fun k => k = z4) u u') (by kernel_rfl) (by kernel_rfl) (fun i v u u' t hv => rowV9_mono z4B i v u u' t hv) (by rw [← HV0.out]; exact Below.refl _ _) ?step ?done
 case step =>
  intro o op ho ac u hS hdf hsz hdep hsame
  have B2 := A2.below hS
  have B3 := A3.below hS
  have B4 := A4.below hS
  have hsz0 : V0.heap.size ≤ u.heap.size := hS.size
  have HU : Hid (Below w.heap.size w u) := Below.tr HB hS
  obtain ⟨q0, q1, q2, q3, q4, q5⟩ := id B2
  obtain ⟨⟨p0, p1, p2, p3⟩, -⟩ := id B3
  obtain ⟨⟨r0, r1, r2, r3⟩, g0, g1, g2, g3⟩ := id B4
  match o, ho with
  | 0, ho =>
   cases ho
   have h2 := hsame 2 rfl
   exact op_value rfl (wanted_free rfl) (by clear hdep hsame hsz hdf; go_simp) rfl (by rw [if_neg (by decide)]; exact hS) (Turns.refl _ _)
  | 1, ho =>
   cases ho
   obtain ⟨_, h5, rfl⟩ := hdep 0 _ 5 rfl rfl rfl
   exact op_value rfl (wanted_free rfl) (by clear hdep hsame hsz hdf; go_simp) rfl (by rw [if_neg (by decide)]; exact hS) (Turns.refl _ _)
  | 2, ho =>
   cases ho
   obtain ⟨_, h6, rfl⟩ := hdep 1 _ 6 rfl rfl rfl
   exact op_value rfl (wanted_free rfl) (by clear hdep hsame hsz hdf; go_simp) rfl (by rw [if_neg (by decide)]; exact hS) (Turns.refl _ _)
  | 3, ho =>
   cases ho
   have h2 := hsame 2 rfl
   exact op_value rfl (wanted_free rfl) (by clear hdep hsame hsz hdf; go_simp) rfl (by rw [if_neg (by decide)]; exact hS) (Turns.refl _ _)
  | 4, ho =>
   cases ho
   obtain ⟨_, h8, rfl⟩ := hdep 3 _ 8 rfl rfl rfl
   exact op_value rfl (wanted_free rfl) (by clear hdep hsame hsz hdf; go_simp) rfl (by rw [if_neg (by decide)]; exact hS) (Turns.refl _ _)
  | 5, ho =>
   cases ho
   have h2 := hsame 2 rfl
   exact op_value rfl (wanted_free rfl) (by clear hdep hsame hsz hdf; go_simp) rfl (by rw [if_neg (by decide)]; exact hS) (Turns.refl _ _)
  | 6, ho =>
   cases ho
   obtain ⟨_, h10, rfl⟩ := hdep 5 _ 10 rfl rfl rfl
   exact op_value rfl (wanted_free rfl) (by clear hdep hsame hsz hdf; go_simp) rfl (by rw [if_neg (by decide)]; exact hS) (Turns.refl _ _)
  | 7, ho =>
   cases ho
   have h3 := hsame 3 rfl
   exact op_value rfl (wanted_free rfl) (by clear hdep hsame hsz hdf; go_simp) rfl (by rw [if_neg (by decide)]; exact hS) (Turns.refl _ _)
  | 8, ho =>
   cases ho
   obtain ⟨_, h12, rfl⟩ := hdep 7 _ 12 rfl rfl rfl
   exact op_value rfl (wanted_free rfl) (by clear hdep hsame hsz hdf; go_simp) rfl (by rw [if_neg (by decide)]; exact hS) (Turns.refl _ _)
  | 9, ho =>
   cases ho
   obtain ⟨_, h7, rfl⟩ := hdep 2 _ 7 rfl rfl rfl
   obtain ⟨_, h9, rfl⟩ := hdep 4 _ 9 rfl rfl rfl
   obtain ⟨_, h11, rfl⟩ := hdep 6 _ 11 rfl rfl rfl
   obtain ⟨_, h13, rfl⟩ := hdep 8 _ 13 rfl rfl rfl
   refine op_call (w' := u) rfl (wanted_free rfl) (by clear hdep hsame hsz hdf; go_simp) ((cK u HU.out).mono ?_)
   rintro y u' ⟨p, q, rfl, i1, j1, hb⟩
   exact ⟨_, rfl, ⟨p, q, rfl, i1, j1.mono hsz0⟩, by rw [if_neg (by decide)]; exact hS.trans (hb.mono hsz0), Turns.of_below hb⟩
  | 10, ho =>
   cases ho
   have h2 := hsame 2 rfl
   exact op_value rfl (wanted_free rfl) (by clear hdep hsame hsz hdf; go_simp) rfl (by rw [if_neg (by decide)]; exact hS) (Turns.refl _ _)
  | 11, ho =>
   cases ho
   obtain ⟨_, h15, rfl⟩ := hdep 10 _ 15 rfl rfl rfl
   exact op_value rfl (wanted_free rfl) (by clear hdep hsame hsz hdf; go_simp) rfl (by rw [if_neg (by decide)]; exact hS) (Turns.refl _ _)
  | 12, ho =>
   cases ho
   obtain ⟨_, h16, rfl⟩ := hdep 11 _ 16 rfl rfl rfl
   exact op_value rfl (wanted_free rfl) (by clear hdep hsame hsz hdf; go_simp) rfl (by rw [if_neg (by decide)]; exact hS) (Turns.refl _ _)
  | 13, ho =>
   cases ho
   have h2 := hsame 2 rfl
   exact op_value rfl (wanted_free rfl) (by clear hdep hsame hsz hdf; go_simp) rfl (by rw [if_neg (by decide)]; exact hS) (Turns.refl _ _)
  | 14, ho =>
   cases ho
   obtain ⟨_, h18, rfl⟩ := hdep 13 _ 18 rfl rfl rfl
   exact op_value rfl (wanted_free rfl) (by clear hdep hsame hsz hdf; go_simp) rfl (by rw [if_neg (by decide)]; exact hS) (Turns.refl _ _)
  | 15, ho =>
   cases ho
   have h2 := hsame 2 rfl
   exact op_value rfl (wanted_free rfl) (by clear hdep hsame hsz hdf; go_simp) rfl (by rw [if_neg (by decide)]; exact hS) (Turns.refl _ _)
  | 16, ho =>
   cases ho
   obtain ⟨_, h20, rfl⟩ := hdep 15 _ 20 rfl rfl rfl
   exact op_value rfl (wanted_free rfl) (by clear hdep hsame hsz hdf; go_simp) rfl (by rw [if_neg (by decide)]; exact hS) (Turns.refl _ _)
  | 17, ho =>
   cases ho
   obtain ⟨_, h21, rfl⟩ := hdep 16 _ 21 rfl rfl rfl
   exact op_value rfl (wanted_free rfl) (by clear hdep hsame hsz hdf; go_simp) rfl (by rw [if_neg (by decide)]; exact hS) (Turns.refl _ _)
  | 18, ho =>
   cases ho
   have h3 := hsame 3 rfl
   exact op_value rfl (wanted_free rfl) (by clear hdep hsame hsz hdf; go_simp) rfl (by rw [if_neg (by decide)]; exact hS) (Turns.refl _ _)
  | 19, ho =>
   cases ho
   obtain ⟨_, h23, rfl⟩ := hdep 18 _ 23 rfl rfl rfl
   exact op_value rfl (wanted_free rfl) (by clear hdep hsame hsz hdf; go_simp) rfl (by rw [if_neg (by decide)]; exact hS) (Turns.refl _ _)
  | 20, ho =>
   cases ho
   obtain ⟨_, h17, rfl⟩ := hdep 12 _ 17 rfl rfl rfl
   obtain ⟨_, h19, rfl⟩ := hdep 14 _ 19 rfl rfl rfl
   obtain ⟨_, h22, rfl⟩ := hdep 17 _ 22 rfl rfl rfl
   obtain ⟨_, h24, rfl⟩ := hdep 19 _ 24 rfl rfl rfl
   refine op_call (w' := u) rfl (wanted_free rfl) (by clear hdep hsame hsz hdf; go_simp) ((cC u HU.out).mono ?_)
   rintro y u' ⟨p, q, rfl, i1, j1, hb⟩
   exact ⟨_, rfl, ⟨p, q, rfl, i1, j1.mono hsz0⟩, by rw [if_neg (by decide)]; exact hS.trans (hb.mono hsz0), Turns.of_below hb⟩
  | 21, ho =>
   cases ho
   obtain ⟨_, h14, G1⟩ := hdep 9 _ 14 rfl rfl rfl
   obtain ⟨_, h25, G2⟩ := hdep 20 _ 25 rfl rfl rfl
   obtain ⟨x1, y1, rfl, i1, j1⟩ := id G1
   obtain ⟨x2, y2, rfl, i2, j2⟩ := id G2
   exact op_value (v := .agg #[.bool false, .slice x1 m1 y1, .slice none 0 0, .slice x2 m2 y2]) rfl (wanted_free rfl) (by clear hdep hsame hsz hdf G1 G2 i1 i2 j1 j2; go_simp) ⟨_, _, rfl, G1, G2⟩ (by rw [if_neg (by decide)]; exact hS) (Turns.refl _ _)
  | 22, ho =>
   cases ho
   have h4 := hsame 4 rfl
   obtain ⟨_, h26, u1, u2, rfl, G1, G2⟩ := hdep 21 _ 26 rfl rfl rfl
   obtain ⟨x1, y1, rfl, i1, j1⟩ := id G1
   obtain ⟨x2, y2, rfl, i2, j2⟩ := id G2
   have T4 := turns_put4 u z4 (.bool false) (.slice x1 m1 y1) (.slice none 0 0) (.slice x2 m2 y2)
   have HT : InnT z4 V0.heap.size m1 m2 XS YS V0 ((((u.setCell ⟨z4, 0, none⟩ (.bool false)).setCell ⟨z4, 1, none⟩ (.slice x1 m1 y1)).setCell ⟨z4, 2, none⟩ (.slice none 0 0)).setCell ⟨z4, 3, none⟩ (.slice x2 m2 y2)) := ⟨_, _, B4.put _ _ _ _, G1.turns z4B T4, G2.turns z4B T4, (Turns.of_below hS).trans T4⟩
   exact op_skip rfl (wanted_free rfl) rfl (by clear hdep hsame hsz hdf G1 G2 i1 i2 j1 j2 T4 HT; go_simp) trivial (by rw [if_pos rfl]; exact HT) T4
  | k + 23, ho => simp at ho
 case done =>
  intro ac W3 hT hdf hsz hsame hval
  obtain ⟨v5, h5, hv5⟩ := hval 0 _ 5 rfl rfl
  obtain ⟨v6, h6, hv6⟩ := hval 1 _ 6 rfl rfl
  obtain ⟨v7, h7, hv7⟩ := hval 2 _ 7 rfl rfl
  obtain ⟨v8, h8, hv8⟩ := hval 3 _ 8 rfl rfl
  obtain ⟨v9, h9, hv9⟩ := hval 4 _ 9 rfl rfl
  obtain ⟨v10, h10, hv10⟩ := hval 5 _ 10 rfl rfl
  obtain ⟨v11, h11, hv11⟩ := hval 6 _ 11 rfl rfl
  obtain ⟨v12, h12, hv12⟩ := hval 7 _ 12 rfl rfl
  obtain ⟨v13, h13, hv13⟩ := hval 8 _ 13 rfl rfl
  obtain ⟨v14, h14, hv14⟩ := hval 9 _ 14 rfl rfl
  obtain ⟨v15, h15, hv15⟩ := hval 10 _ 15 rfl rfl
  obtain ⟨v16, h16, hv16⟩ := hval 11 _ 16 rfl rfl
  obtain ⟨v17, h17, hv17⟩ := hval 12 _ 17 rfl rfl
  obtain ⟨v18, h18, hv18⟩ := hval 13 _ 18 rfl rfl
  obtain ⟨v19, h19, hv19⟩ := hval 14 _ 19 rfl rfl
  obtain ⟨v20, h20, hv20⟩ := hval 15 _ 20 rfl rfl
  obtain ⟨v21, h21, hv21⟩ := hval 16 _ 21 rfl rfl
  obtain ⟨v22, h22, hv22⟩ := hval 17 _ 22 rfl rfl
  obtain ⟨v23, h23, hv23⟩ := hval 18 _ 23 rfl rfl
  obtain ⟨v24, h24, hv24⟩ := hval 19 _ 24 rfl rfl
  obtain ⟨v25, h25, hv25⟩ := hval 20 _ 25 rfl rfl
  obtain ⟨v26, h26, hv26⟩ := hval 21 _ 26 rfl rfl
  obtain rfl := Anyorder.frame_is (l := [_, _, _, _, _, _, _, _, _, _, _, _, _, _, _, _, _, _, _, _, _, _, _, _, _, _, _]) ⟨(hsame 0 (Anyorder.unwritten (by kernel_rfl))).trans rfl, (hsame 1 (Anyorder.unwritten (by kernel_rfl))).trans rfl, (hsame 2 (Anyorder.unwritten (by kernel_rfl))).trans rfl, (hsame 3 (Anyorder.unwritten (by kernel_rfl))).trans rfl, (hsame 4 (Anyorder.unwritten (by kernel_rfl))).trans rfl, h5, h6, h7, h8, h9, h10, h11, h12, h13, h14, h15, h16, h17, h18, h19, h20, h21, h22, h23, h24, h25, h26, trivial⟩ hdf hsz
  obtain ⟨u1, u2, X4, ⟨x1, y1, rfl, i1, j1⟩, ⟨x2, y2, rfl, i2, j2⟩, T3⟩ := hT
  have hle4 : w.heap.size ≤ V0.heap.size := HB.size
  have B5 : Below w.heap.size w W3 := Below.turns HB T3 (fun k hk => by omega)
  obtain ⟨⟨r0, r1, r2, r3⟩, -⟩ := X4
  clear hval hsame hsz hdf A2 A3 A4 HB T3
  go_wp2
  exact bodyPost_ret (v := .agg #[.bool false, .slice x1 m1 y1, .slice none 0 0, .slice x2 m2 y2]) (by simp [results, Tryz.results72, go_sem, r0, r1, r2, r3]) rfl ⟨x1, y1, x2, y2, rfl, i1, i2, by first | exact j1.mono hle4 | (rw [← E2.out]; exact j1.mono hle4), by first | exact j2.mono hle4 | (rw [← E2.out]; exact j2.mono hle4), by first | exact B5 | (rw [← E2.out]; exact B5)⟩
end Go.Proofs.YtaecfbfcjaailaaGreat
