/-
  Compare, as a plain function, is an order of any three values.
-/
import Derived.Test.YtgpgjaenbhbbgaaDoorCompare
namespace Go.Proofs.YtgpgjaenbhbbgaaDoor

/-- What an order tells of three things, seen from the first one. -/
structure Ord3 {α : Type} (f : α → α → Int) (a b c : α) : Prop where
  rng : f a b = -1 ∨ f a b = 0 ∨ f a b = 1
  sym : f b a = - f a b
  eqv : f a b = 0 → f b c = f a c
  lt : f a b < 0 → f b c ≤ 0 → f a c < 0
  gt : 0 < f a b → 0 ≤ f b c → 0 < f a c

theorem ord_int (a b c : Int) : Ord3 Lib.compareInt a b c := by
  unfold Lib.compareInt
  constructor
  · (repeat' split) <;> first | exact Or.inl rfl | exact Or.inr (Or.inl rfl) | exact Or.inr (Or.inr rfl)
  · (repeat' split) <;> omega
  · intro h
    have : a = b := by (repeat' split at h) <;> omega
    subst this; rfl
  · intro h1 h2; (repeat' split at h1) <;> (repeat' split at h2) <;> (repeat' split) <;> omega
  · intro h1 h2; (repeat' split at h1) <;> (repeat' split at h2) <;> (repeat' split) <;> omega

/-- Lists by a comparison of their elements, a beginning of another one first. -/
def lex {α : Type} (f : α → α → Int) : List α → List α → Int
  | [], [] => 0
  | [], _ :: _ => -1
  | _ :: _, [] => 1
  | x :: l, y :: m => if f x y ≠ 0 then f x y else lex f l m

theorem ord_lex {α : Type} (f : α → α → Int) : ∀ (l : List α), (∀ x, x ∈ l → ∀ y z, Ord3 f x y z) → ∀ m k, Ord3 (lex f) l m k
  | [], _, [], [] => ⟨by simp [lex], by simp [lex], by simp [lex], by simp [lex], by simp [lex]⟩
  | [], _, [], _ :: _ => ⟨by simp [lex], by simp [lex], by simp [lex], by simp [lex], by simp [lex]⟩
  | [], _, _ :: _, [] => ⟨by simp [lex], by simp [lex], by simp [lex], by simp [lex], by simp [lex]⟩
  | [], _, _ :: _, _ :: _ => ⟨by simp [lex], by simp [lex], by simp [lex], by simp [lex], by simp [lex]⟩
  | _ :: _, _, [], [] => ⟨by simp [lex], by simp [lex], by simp [lex], by simp [lex], by simp [lex]⟩
  | _ :: _, _, [], _ :: _ => ⟨by simp [lex], by simp [lex], by simp [lex], by simp [lex], by simp [lex]⟩
  | x :: l, h, y :: m, [] => by
    have h1 := h x (by simp) y x
    have h2 := ord_lex f l (fun z hz => h z (by simp [hz])) m []
    have r1 := h1.rng; have s1 := h1.sym; have r2 := h2.rng; have s2 := h2.sym
    constructor <;> simp only [lex]
    · split <;> omega
    · rw [s1, s2]; split <;> split <;> omega
    · intro _; trivial
    · intro _ h; omega
    · intro _ _; omega
  | x :: l, h, y :: m, z :: k => by
    have h1 := h x (by simp) y z
    have h2 := ord_lex f l (fun z hz => h z (by simp [hz])) m k
    have hz := h x (by simp) z y
    obtain ⟨r1, s1, e1, l1, g1⟩ := h1
    obtain ⟨r2, s2, e2, l2, g2⟩ := h2
    have rz := hz.rng
    have ez := hz.eqv
    have lz := hz.lt
    have gz := hz.gt
    constructor <;> simp only [lex]
    · split <;> omega
    · rw [s1, s2]; split <;> split <;> omega
    · intro h
      by_cases e : f x y = 0
      · rw [if_neg (by omega)] at h
        rw [e1 e, e2 h]
      · rw [if_pos e] at h; omega
    · intro h h'
      by_cases e : f x y = 0
      · rw [if_neg (by omega)] at h
        rw [e1 e] at h'
        by_cases e' : f x z = 0
        · rw [if_neg (by omega)] at h' ⊢; exact l2 h h'
        · rw [if_pos e'] at h' ⊢; omega
      · rw [if_pos e] at h
        by_cases e' : f y z = 0
        · have := l1 h (by omega)
          rw [if_pos (by omega)]; exact this
        · rw [if_pos e'] at h'
          have := l1 h h'
          rw [if_pos (by omega)]; exact this
    · intro h h'
      by_cases e : f x y = 0
      · rw [if_neg (by omega)] at h
        rw [e1 e] at h'
        by_cases e' : f x z = 0
        · rw [if_neg (by omega)] at h' ⊢; exact g2 h h'
        · rw [if_pos e'] at h' ⊢; omega
      · rw [if_pos e] at h
        by_cases e' : f y z = 0
        · have := g1 h (by omega)
          rw [if_pos (by omega)]; exact this
        · rw [if_pos e'] at h'
          have := g1 h h'
          rw [if_pos (by omega)]; exact this

def cmpByte (a b : UInt8) : Int := Lib.compareInt a.toNat b.toNat
theorem cmpS_lex_aux : ∀ (x y : List UInt8), (if Op.bytesLess x y = true then -1 else if (x == y) = true then 0 else 1) = lex cmpByte x y
  | [], [] => by simp [Op.bytesLess, lex]
  | [], _ :: _ => by simp [Op.bytesLess, lex]
  | _ :: _, [] => by simp [Op.bytesLess, lex]
  | a :: x, b :: y => by
    have ih := cmpS_lex_aux x y
    simp only [lex, Op.bytesLess]
    by_cases h1 : a < b
    · have h1' : a.toNat < b.toNat := by simpa [UInt8.lt_iff_toNat_lt] using h1
      have hc : cmpByte a b = -1 := by unfold cmpByte Lib.compareInt; rw [if_pos (by omega)]
      simp [h1, hc]
    · have h1' : ¬ a.toNat < b.toNat := by simpa [UInt8.lt_iff_toNat_lt] using h1
      by_cases h2 : a = b
      · subst h2
        have hc : cmpByte a a = 0 := by unfold cmpByte Lib.compareInt; rw [if_neg (by omega), if_neg (by omega)]
        simp only [h1, decide_false, Bool.false_or, beq_self_eq_true, Bool.true_and, hc, ne_eq, not_true, if_false, List.cons_beq_cons]
        exact ih
      · have h3 : a.toNat ≠ b.toNat := fun e => h2 (UInt8.toNat_inj.1 e)
        have hc : cmpByte a b = 1 := by unfold cmpByte Lib.compareInt; rw [if_neg (by omega), if_pos (by omega)]
        simp [h1, h2, hc]
theorem cmpS_lex (a b : ByteArray) : cmpS a b = lex cmpByte a.toList b.toList := cmpS_lex_aux _ _
theorem ord_bytes (a b c : ByteArray) : Ord3 cmpS a b c := by
  have h := ord_lex cmpByte a.toList (fun x _ y z => by
    have := ord_int x.toNat y.toNat z.toNat
    exact ⟨this.rng, this.sym, this.eqv, this.lt, this.gt⟩) b.toList c.toList
  constructor <;> simp only [cmpS_lex]
  · exact h.rng
  · exact h.sym
  · exact h.eqv
  · exact h.lt
  · exact h.gt

theorem cmpL_lex : ∀ (l m : List V), cmpL l m = lex cmpV l m
  | [], [] => by simp [cmpL, lex]
  | [], _ :: _ => by simp [cmpL, lex]
  | _ :: _, [] => by simp [cmpL, lex]
  | x :: l, y :: m => by simp only [cmpL, lex]; rw [cmpL_lex l m]

theorem cmpV_mk (k n : Int) (s : ByteArray) (l : List V) (k' n' : Int) (s' : ByteArray) (l' : List V) : cmpV (.mk k n s l) (.mk k' n' s' l') =
    if Lib.compareInt k k' ≠ 0 then Lib.compareInt k k' else if k = 1 then Lib.compareInt n n' else if k = 2 ∨ k = 3 then cmpS s s' else if k = 4 then lex cmpV l l' else 0 := by
  rw [cmpV, cmpL_lex]
  by_cases e : k = k'
  · subst e; simp [Lib.compareInt]
  · have : Lib.compareInt k k' ≠ 0 := by unfold Lib.compareInt; (repeat' split) <;> omega
    rw [if_pos e, if_pos this]

theorem ord_value (a b c : V) : Ord3 cmpV a b c := by
  match a, b, c with
  | .mk k n s l, .mk k2 n2 s2 l2, .mk k3 n3 s3 l3 =>
  have hl := ord_lex cmpV l (fun x hx y z => ord_value x y z) l2 l3
  have hi := ord_int n n2 n3
  have hs := ord_bytes s s2 s3
  have hk := ord_int k k2 k3
  by_cases e : k = k2
  · subst e
    have h0 : Lib.compareInt k k = 0 := by simp [Lib.compareInt]
    by_cases e3 : k = k3
    · subst e3
      by_cases f1 : k = 1
      · have E : ∀ n s l n' s' l', cmpV (.mk k n s l) (.mk k n' s' l') = Lib.compareInt n n' := fun n s l n' s' l' => by rw [cmpV_mk, if_neg (by omega), if_pos f1]
        constructor <;> simp only [E]
        · exact hi.rng
        · exact hi.sym
        · exact hi.eqv
        · exact hi.lt
        · exact hi.gt
      by_cases f2 : k = 2 ∨ k = 3
      · have E : ∀ n s l n' s' l', cmpV (.mk k n s l) (.mk k n' s' l') = cmpS s s' := fun n s l n' s' l' => by rw [cmpV_mk, if_neg (by omega), if_neg f1, if_pos f2]
        constructor <;> simp only [E]
        · exact hs.rng
        · exact hs.sym
        · exact hs.eqv
        · exact hs.lt
        · exact hs.gt
      by_cases f4 : k = 4
      · have E : ∀ n s l n' s' l', cmpV (.mk k n s l) (.mk k n' s' l') = lex cmpV l l' := fun n s l n' s' l' => by rw [cmpV_mk, if_neg (by omega), if_neg f1, if_neg f2, if_pos f4]
        constructor <;> simp only [E]
        · exact hl.rng
        · exact hl.sym
        · exact hl.eqv
        · exact hl.lt
        · exact hl.gt
      · have E : ∀ n s l n' s' l', cmpV (.mk k n s l) (.mk k n' s' l') = 0 := fun n s l n' s' l' => by rw [cmpV_mk, if_neg (by omega), if_neg f1, if_neg f2, if_neg f4]
        constructor <;> simp only [E] <;> simp
    · have h3 : Lib.compareInt k k3 ≠ 0 := by unfold Lib.compareInt; (repeat' split) <;> omega
      have r0 : cmpV (.mk k n s l) (.mk k n2 s2 l2) = -1 ∨ cmpV (.mk k n s l) (.mk k n2 s2 l2) = 0 ∨ cmpV (.mk k n s l) (.mk k n2 s2 l2) = 1 := by
        simp only [cmpV_mk, h0, ne_eq, not_true, if_false]
        (repeat' split) <;> first | exact hi.rng | exact hs.rng | exact hl.rng | simp
      refine ⟨r0, ?_, ?_, ?_, ?_⟩
      · simp only [cmpV_mk, h0, ne_eq, not_true, if_false]
        (repeat' split) <;> first | exact hi.sym | exact hs.sym | exact hl.sym | simp
      · intro _; simp only [cmpV_mk, h3, ne_eq, not_false_iff, if_true]
      · intro _ h; rw [cmpV_mk, if_pos h3] at h ⊢; omega
      · intro _ h; rw [cmpV_mk, if_pos h3] at h ⊢; omega
  · have h2 : Lib.compareInt k k2 ≠ 0 := by unfold Lib.compareInt; (repeat' split) <;> omega
    have h2' : Lib.compareInt k2 k ≠ 0 := by rw [hk.sym]; omega
    refine ⟨by rw [cmpV_mk, if_pos h2]; exact hk.rng, by rw [cmpV_mk, if_pos h2', cmpV_mk, if_pos h2]; exact hk.sym, ?_, ?_, ?_⟩
    · intro h; rw [cmpV_mk, if_pos h2] at h; exact absurd h h2
    · intro h h'
      rw [cmpV_mk, if_pos h2] at h
      by_cases e3 : k2 = k3
      · subst e3; rw [cmpV_mk, if_pos h2]; exact h
      · have h3 : Lib.compareInt k2 k3 ≠ 0 := by unfold Lib.compareInt; (repeat' split) <;> omega
        rw [cmpV_mk, if_pos h3] at h'
        have := hk.lt h h'
        rw [cmpV_mk, if_pos (by omega)]; exact this
    · intro h h'
      rw [cmpV_mk, if_pos h2] at h
      by_cases e3 : k2 = k3
      · subst e3; rw [cmpV_mk, if_pos h2]; exact h
      · have h3 : Lib.compareInt k2 k3 ≠ 0 := by unfold Lib.compareInt; (repeat' split) <;> omega
        rw [cmpV_mk, if_pos h3] at h'
        have := hk.gt h h'
        rw [cmpV_mk, if_pos (by omega)]; exact this
  termination_by SizeOf.sizeOf a
  decreasing_by
    have := List.sizeOf_lt_of_mem hx
    simp only [V.mk.sizeOf_spec]
    omega

end Go.Proofs.YtgpgjaenbhbbgaaDoor
