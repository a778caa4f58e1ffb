/-
  A region whose operations come up in whatever order, but for some that turn the world, each of which waits for the one ahead of it: one invariant for each number of these that have come up. Nothing of any program.
-/
import Derived.Test.YtnipikdlfmcheaaAnylast
namespace Go.Proofs.Ytnipikdlfmcheaa.Anylast
open Go

/-- Each of these operations is there, no one twice, and waits for the one ahead of it. -/
def chained (ops : Array Oper) (cs : List Nat) : Bool :=
  (List.range cs.length).all fun j => match cs[j]? with
    | none => true
    | some c => match ops[c]? with
      | none => false
      | some o => (j == 0 || (match cs[j - 1]? with | some c' => waits o c' | none => true)) && ((List.range cs.length).all fun i => i == j || cs[i]? != some c)

theorem chained_spec {ops : Array Oper} {cs : List Nat} (h : chained ops cs = true) {j c : Nat} (hj : cs[j]? = some c) :
    ∃ o, ops[c]? = some o ∧ (∀ c', 0 < j → cs[j - 1]? = some c' → waits o c' = true) ∧ ∀ i, cs[i]? = some c → i = j := by
  have hlt : j < cs.length := (List.getElem?_eq_some_iff.1 hj).1
  unfold chained at h
  rw [List.all_eq_true] at h
  have h1 := h j (List.mem_range.2 hlt)
  rw [hj] at h1
  simp only at h1
  cases ho : ops[c]? with
  | none => rw [ho] at h1; cases h1
  | some o =>
    rw [ho] at h1
    simp only [Bool.and_eq_true, Bool.or_eq_true, List.all_eq_true] at h1
    refine ⟨o, rfl, fun c' h0 hc' => ?_, fun i hi => ?_⟩
    · rw [hc'] at h1
      rcases h1.1 with h2 | h2
      · rw [beq_iff_eq] at h2; omega
      · exact h2
    · have h2 := h1.2 i (List.mem_range.2 (List.getElem?_eq_some_iff.1 hi).1)
      rw [hi] at h2
      simpa using h2

/-- Number i may come up where so many of these have. -/
def mayAt (ops : Array Oper) (cs : List Nat) (i k : Nat) : Bool :=
  if cs.contains i then cs[k]? == some i
  else (List.range k).all fun j => match cs[j]? with
    | none => true
    | some c => match ops[c]? with
      | none => true
      | some o => !waits o i

/-- THE RULE. -/
theorem region_chain {P : Program} {ops : Array Oper} {Q : Exit → Act → World → Prop} {id : Nat} {a0 : Act} {w0 : World} (hm : P.follows .mixedOrders = true) (cs : List Nat) (V : Nat → Value → World → Prop) (S : Nat → World → Prop) (R : World → World → Prop)
    (hfit : fit ops a0.tmps.size = true) (hch : chained ops cs = true)
    (hmono : ∀ i v w w', R w w' → V i v w → V i v w')
    (hS : S 0 w0.drew)
    (hstep : ∀ i o, ops[i]? = some o → ∀ k a w, k ≤ cs.length → mayAt ops cs i k = true → S k w → a.defers = a0.defers → a.tmps.size = a0.tmps.size →
      (∀ j oj d, ops[j]? = some oj → oj.dst = some d → waits o j = true → ∃ v, a.tmps[d]? = some v ∧ V j v w) →
      (∀ d, free ops i d = true → a.tmps[d]? = a0.tmps[d]?) →
      wpOp P ops Q i (fun a' w' => ∃ v, a' = a.put o.dst v ∧ V i v w' ∧ S (if cs.contains i = true then k + 1 else k) w' ∧ R w w') a w)
    (n : Nat) (hn : ops.size = n)
    (hdone : ∀ (val : Nat → Value) (w : World), S cs.length w → (∀ j oj, ops[j]? = some oj → oj.dst.isSome = true → V j (val j) w) → Q .normal ⟨filledN ops val a0.tmps n, a0.defers⟩ w) :
    (Code.region id ops true).wp P Q a0 w0 := by
  refine region_inv hm V (fun listed w => ∃ k, k ≤ cs.length ∧ S k w ∧ ∀ j c, cs[j]? = some c → (listed.getD c false = true ↔ j < k)) R hfit hmono ?_ ?_ ?_
  · refine ⟨0, Nat.zero_le _, hS, fun j c _ => ?_⟩
    have hf : (Array.replicate ops.size false).getD c false = false := by
      simp only [Array.getD_eq_getD_getElem?, Array.getElem?_replicate]
      split <;> rfl
    rw [hf]
    simp
  · rintro i o ho listed a w hil h0 hcl hall ⟨k, hk, hs, hlist⟩ hdf hsz hdep hsame
    by_cases hc : i ∈ cs
    · obtain ⟨j, hj⟩ := List.mem_iff_getElem?.1 hc
      obtain ⟨oc, hoc, hw, hun⟩ := chained_spec hch hj
      rw [ho] at hoc
      cases hoc
      have h1 : ¬ j < k := fun h => by rw [(hlist j i hj).2 h] at h0; cases h0
      have h2 : j ≤ k := by
        rcases Nat.eq_zero_or_pos j with hz | hz
        · omega
        · have hjl := (List.getElem?_eq_some_iff.1 hj).1
          have hp : cs[j - 1]? = some cs[j - 1] := List.getElem?_eq_getElem (by omega)
          obtain ⟨e, he, hb, hei⟩ := waits_spec.1 (hw _ hz hp)
          have := hall e he hb
          rw [hei] at this
          have := (hlist _ _ hp).1 this
          omega
      obtain rfl : j = k := by omega
      have hjl := (List.getElem?_eq_some_iff.1 hj).1
      have hcc : cs.contains i = true := by simpa using hc
      refine wpOp_mono ?_ (hstep i o ho j a w hk (by unfold mayAt; rw [if_pos hcc, hj]; simp) hs hdf hsz hdep hsame)
      rintro a' w' ⟨v, e1, e2, e3, e4⟩
      rw [if_pos hcc] at e3
      refine ⟨v, e1, e2, ⟨j + 1, by omega, e3, fun j' c hc' => ?_⟩, e4⟩
      rw [getD_set _ _ _ hil]
      by_cases hci : c = i
      · subst hci
        rw [if_pos rfl]
        have := hun j' hc'
        constructor
        · intro _; omega
        · intro _; rfl
      · rw [if_neg hci, hlist j' c hc']
        have hne : j' ≠ j := fun e => by rw [e, hj] at hc'; cases hc'; exact hci rfl
        omega
    · have hcc : cs.contains i = false := by simpa using hc
      refine wpOp_mono ?_ (hstep i o ho k a w hk ?_ hs hdf hsz hdep hsame)
      · rintro a' w' ⟨v, e1, e2, e3, e4⟩
        rw [if_neg (by rw [hcc]; decide)] at e3
        refine ⟨v, e1, e2, ⟨k, hk, e3, fun j' c hc' => ?_⟩, e4⟩
        rw [getD_set _ _ _ hil, if_neg (fun e => hc (by rw [← e]; exact List.mem_of_getElem? hc'))]
        exact hlist j' c hc'
      · unfold mayAt
        rw [if_neg (by rw [hcc]; decide), List.all_eq_true]
        intro j hj
        have hjk := List.mem_range.1 hj
        have hjc : cs[j]? = some cs[j] := List.getElem?_eq_getElem (by omega)
        obtain ⟨oc, hoc, -, -⟩ := chained_spec hch hjc
        rw [hjc]
        simp only [hoc]
        cases hw : waits oc i with
        | false => rfl
        | true =>
          exfalso
          obtain ⟨e, he, hb, hei⟩ := waits_spec.1 hw
          have := hcl _ oc hoc ((hlist j _ hjc).2 hjk) e he hb
          rw [hei, h0] at this
          cases this
  · rintro listed a w hall ⟨k, hk, hs, hlist⟩ hdf hsz hsame hval
    have hke : k = cs.length := by
      rcases Nat.lt_or_ge k cs.length with h | h
      · exfalso
        have hp : cs[k]? = some cs[k] := List.getElem?_eq_getElem h
        obtain ⟨oc, hoc, -, -⟩ := chained_spec hch hp
        have := (hlist k _ hp).1 (hall _ (Array.getElem?_eq_some_iff.1 hoc).1)
        omega
      · omega
    subst hke
    obtain ⟨val, hv⟩ : ∃ val : Nat → Value, ∀ j oj d, ops[j]? = some oj → oj.dst = some d → a.tmps[d]? = some (val j) ∧ V j (val j) w := by
      refine ⟨fun j => ((ops[j]?).bind (·.dst)).bind (fun d => a.tmps[d]?) |>.getD undef, fun j oj d hj hd => ?_⟩
      obtain ⟨v, h1, h2⟩ := hval j oj d hj hd
      have e : (((ops[j]?).bind (·.dst)).bind (fun d => a.tmps[d]?)).getD undef = v := by rw [hj]; simp [hd, h1]
      show a.tmps[d]? = some ((((ops[j]?).bind (·.dst)).bind (fun d => a.tmps[d]?)).getD undef) ∧ V j ((((ops[j]?).bind (·.dst)).bind (fun d => a.tmps[d]?)).getD undef) w
      rw [e]
      exact ⟨h1, h2⟩
    have e : a = ⟨filledN ops val a0.tmps ops.size, a0.defers⟩ := by
      obtain ⟨tm, df⟩ := a
      simp only at hdf hsz hsame hv
      subst hdf
      congr 1
      apply Array.ext_getElem?
      intro d
      by_cases hx : ∃ (j : Nat) (oj : Oper), ops[j]? = some oj ∧ oj.dst = some d
      · obtain ⟨j, oj, hj, hd⟩ := hx
        rw [(hv j oj d hj hd).1]
        obtain ⟨hdl, hun⟩ := (fit_spec hfit hj).2 d hd
        exact (filledN_some hj hd hdl (fun i oi hi hdi => hun i oi hi hdi) _ (Array.getElem?_eq_some_iff.1 hj).1).symm
      · rw [hsame d fun j oj hj hd => hx ⟨j, oj, hj, hd⟩]
        exact (filledN_none _ fun j oj _ hj hd => hx ⟨j, oj, hj, hd⟩).symm
    rw [e, hn]
    refine hdone val w hs fun j oj hj hd => ?_
    obtain ⟨d, hd'⟩ := Option.isSome_iff_exists.1 hd
    exact (hv j oj d hj hd').2

theorem filledN_congr {ops : Array Oper} {f g : Nat → Value} {tmps : Array Value} (n : Nat) (h : ∀ j oj, ops[j]? = some oj → oj.dst.isSome = true → f j = g j) : filledN ops f tmps n = filledN ops g tmps n := by
  induction n with
  | zero => rfl
  | succ n ih =>
    unfold filledN
    cases hd : (ops[n]?).bind (·.dst) with
    | none => exact ih
    | some d =>
      obtain ⟨o, ho, hod⟩ := Option.bind_eq_some_iff.1 hd
      simp only
      rw [ih, h n o ho (by rw [hod]; rfl)]

/-- THE RULE, where each operation yields a value that is known ahead, and so is the world behind each of these operations. -/
theorem region_worlds {P : Program} {ops : Array Oper} {Q : Exit → Act → World → Prop} {id : Nat} {a0 : Act} {w0 : World} (hm : P.follows .mixedOrders = true) (cs : List Nat) (val : Nat → Value) (Wd : Nat → World)
    (hfit : fit ops a0.tmps.size = true) (hch : chained ops cs = true)
    (hS : w0.drew = Wd 0)
    (hstep : ∀ i o, ops[i]? = some o → ∀ k a, k ≤ cs.length → mayAt ops cs i k = true → a.defers = a0.defers → a.tmps.size = a0.tmps.size →
      (∀ j oj d, ops[j]? = some oj → oj.dst = some d → waits o j = true → a.tmps[d]? = some (val j)) →
      (∀ d, free ops i d = true → a.tmps[d]? = a0.tmps[d]?) →
      wpOp P ops Q i (fun a' w' => ∃ v, a' = a.put o.dst v ∧ (o.dst.isSome = true → v = val i) ∧ w' = Wd (if cs.contains i = true then k + 1 else k) ∧ True) a (Wd k))
    (n : Nat) (hn : ops.size = n)
    (hdone : Q .normal ⟨filledN ops val a0.tmps n, a0.defers⟩ (Wd cs.length)) :
    (Code.region id ops true).wp P Q a0 w0 := by
  refine region_chain hm cs (fun i v _ => ∀ o, ops[i]? = some o → o.dst.isSome = true → v = val i) (fun k w => w = Wd k) (fun _ _ => True) hfit hch (fun i v w w' _ h => h) hS ?_ n hn ?_
  · rintro i o ho k a w hk hmay rfl hdf hsz hdep hsame
    refine wpOp_mono ?_ (hstep i o ho k a hk hmay hdf hsz ?_ hsame)
    · rintro a' w' ⟨v, h1, h2, h3, _⟩
      refine ⟨v, h1, fun o' ho' hd' => ?_, h3, trivial⟩
      rw [ho] at ho'
      cases ho'
      exact h2 hd'
    · intro j oj d hj hd hw
      obtain ⟨v, hv, hV⟩ := hdep j oj d hj hd hw
      rw [hv, hV oj hj (by rw [hd]; rfl)]
  · rintro val' w rfl hV
    rw [filledN_congr n fun j oj hj hd => hV j oj hj hd oj hj hd]
    exact hdone

/-- An append whose run is known. -/
theorem val_append {P : Program} {ops : Array Oper} {Q : Exit → Act → World → Prop} {i : Nat} {o : Oper} {a : Act} {w w' : World} {v u vs vx : Value} {S : World → Prop} {s x : Operand} {t t' : TypeId} (hi : ops[i]? = some o) (hw : Region.wanted o (yielded ops a.tmps) = true)
    (ho : o.op = .call { callee := .builtin .append, args := #[s, x], argTypes := #[t, t'] }) (hs : a.eval s = vs) (hx : a.eval x = vx)
    (hr : (Builtin.append_ #[t, t'] o.type #[vs, vx]).run P w = .ok v w') (hv : v = u) (hS : S w') :
    wpOp P ops Q i (fun a' w' => ∃ v, a' = a.put o.dst v ∧ (o.dst.isSome = true → v = u) ∧ S w' ∧ True) a w := by
  unfold wpOp
  simp only [hi, hw, if_true]
  refine .inl ?_
  unfold Oper.wp execOp
  simp only [ho, resolve, invoke, builtin, Sem.run_bind, Sem.run_pure, Result.andThen_ok, List.map_toArray, List.map_cons, List.map_nil, hs, hx, hr]
  exact ⟨v, rfl, fun _ => hv, hS, trivial⟩

end Go.Proofs.Ytnipikdlfmcheaa.Anylast
