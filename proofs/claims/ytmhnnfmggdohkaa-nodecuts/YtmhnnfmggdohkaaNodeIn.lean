/-
  A node in a box, with all that is known of it.
-/
import Derived.Test.YtmhnnfmggdohkaaNodeLike
namespace Go.Proofs.Ytmhnnfmggdohkaa
open Go.RowKit Plain
set_option linter.unusedVariables false

def NodeIn (V : World) (h : Nat) (l : Bool) (a : Option Addr) (m c : Nat) (a' : Option Addr) (m' c' : Nat) (a'' : Option Addr) (m'' c'' : Nat) (ks vs : List ByteArray) (cs : List Int) : Prop :=
  Box4 V h (.bool l) (.slice a m c) (.slice a' m' c') (.slice a'' m'' c'') ∧ m = ks.length ∧ m' = vs.length ∧ m'' = cs.length ∧ IsS V a c ks ∧ IsS V a' c' vs ∧ IsI V a'' c'' cs

theorem NodeIn.below {V : World} {h : Nat} {l : Bool} {a : Option Addr} {m c : Nat} {a' : Option Addr} {m' c' : Nat} {a'' : Option Addr} {m'' c'' : Nat} {ks vs : List ByteArray} {cs : List Int} (n : NodeIn V h l a m c a' m' c' a'' m'' c'' ks vs cs) {V' : World} (hb : Below V.heap.size V V') : NodeIn V' h l a m c a' m' c' a'' m'' c'' ks vs cs :=
  ⟨n.1.below hb, n.2.1, n.2.2.1, n.2.2.2.1, n.2.2.2.2.1.below hb, n.2.2.2.2.2.1.below hb, n.2.2.2.2.2.2.below hb⟩

theorem NodeIn.box {V : World} {h : Nat} {l : Bool} {a : Option Addr} {m c : Nat} {a' : Option Addr} {m' c' : Nat} {a'' : Option Addr} {m'' c'' : Nat} {ks vs : List ByteArray} {cs : List Int} (n : NodeIn V h l a m c a' m' c' a'' m'' c'' ks vs cs) : Box4 V h (.bool l) (.slice a m c) (.slice a' m' c') (.slice a'' m'' c'') := n.1

theorem nodeIn_new (V : World) (h : Nat) (l : Bool) {a : Option Addr} {m c : Nat} {a' : Option Addr} {m' c' : Nat} {a'' : Option Addr} {m'' c'' : Nat} {ks vs : List ByteArray} {cs : List Int} (hh : h = V.heap.size) (e1 : m = ks.length) (e2 : m' = vs.length) (e3 : m'' = cs.length) (i1 : IsS V a c ks) (i2 : IsS V a' c' vs) (i3 : IsI V a'' c'' cs) : NodeIn (V.alloc (.cells #[.bool l, .slice a m c, .slice a' m' c', .slice a'' m'' c''] 25)) h l a m c a' m' c' a'' m'' c'' ks vs cs := by
  subst hh
  have hA := (Below.refl V.heap.size V).alloc (Nat.le_refl _) (.cells #[.bool l, .slice a m c, .slice a' m' c', .slice a'' m'' c''] 25)
  exact ⟨box4_new _ _ _ _ _ _ rfl, e1, e2, e3, i1.below hA, i2.below hA, i3.below hA⟩

theorem like_in {V : World} {h : Nat} {l : Bool} {a : Option Addr} {m c : Nat} {a' : Option Addr} {m' c' : Nat} {a'' : Option Addr} {m'' c'' : Nat} {ks vs : List ByteArray} {cs : List Int} {h' : Nat} {b : Option Addr} {p f : Nat} {b' : Option Addr} {p' f' : Nat} {b'' : Option Addr} {p'' f'' : Nat} (n : NodeIn V h l a m c a' m' c' a'' m'' c'' ks vs cs) (k : NodeIn V h' l b p f b' p' f' b'' p'' f'' ks vs cs) :
    Calls Try.prog 17 #[.agg #[.bool l, .slice a m c, .slice a' m' c', .slice a'' m'' c''], .agg #[.bool l, .slice b p f, .slice b' p' f', .slice b'' p'' f'']] V fun e w' => e = .returned (.bool true) ∧ Below V.heap.size V w' := by
  have := refLike_any l a a' a'' c c' c'' m m' m'' ks vs cs l b b' b'' f f' f'' p p' p'' ks vs cs V n.2.1 n.2.2.1 n.2.2.2.1 n.2.2.2.2.1 n.2.2.2.2.2.1 n.2.2.2.2.2.2 k.2.1 k.2.2.1 k.2.2.2.1 k.2.2.2.2.1 k.2.2.2.2.2.1 k.2.2.2.2.2.2
  rw [likeN_iff.2 ⟨rfl, rfl, rfl, rfl⟩] at this
  exact this

theorem like_none {V : World} {h : Nat} {a : Option Addr} {m c : Nat} {a' : Option Addr} {m' c' : Nat} {a'' : Option Addr} {m'' c'' : Nat} (n : NodeIn V h false a m c a' m' c' a'' m'' c'' [] [] []) :
    Calls Try.prog 17 #[.agg #[.bool false, .slice a m c, .slice a' m' c', .slice a'' m'' c''], .agg #[.bool false, .slice none 0 0, .slice none 0 0, .slice none 0 0]] V fun e w' => e = .returned (.bool true) ∧ Below V.heap.size V w' := by
  have := refLike_any false a a' a'' c c' c'' m m' m'' [] [] [] false none none none 0 0 0 0 0 0 [] [] [] V n.2.1 n.2.2.1 n.2.2.2.1 n.2.2.2.2.1 n.2.2.2.2.2.1 n.2.2.2.2.2.2 rfl rfl rfl (isS_nil _) (isS_nil _) (isI_nil _)
  rw [likeN_iff.2 ⟨rfl, rfl, rfl, rfl⟩] at this
  exact this

end Go.Proofs.Ytmhnnfmggdohkaa
