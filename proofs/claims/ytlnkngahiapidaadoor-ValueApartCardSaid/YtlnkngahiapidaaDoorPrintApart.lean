/-
  Right values that are printed alike are the same.
-/
import Derived.Test.YtlnkngahiapidaaDoorApart
namespace Go.Proofs.YtlnkngahiapidaaDoor
open Go.RowKit

/-- A value's text and behind it nothing, a comma or a bracket. -/
def Ends (r : List UInt8) : Prop := ∀ c t, r = c :: t → c = 44 ∨ c = 93
/-- No comma and no bracket. -/
def Plain (a : List UInt8) : Prop := ∀ c, c ∈ a → c ≠ 44 ∧ c ≠ 93

theorem plain_eq : ∀ (a b r r' : List UInt8), Plain a → Plain b → Ends r → Ends r' → a ++ r = b ++ r' → a = b ∧ r = r'
  | [], [], r, r', _, _, _, _, h => ⟨rfl, h⟩
  | [], c :: b, r, r', _, hb, hr, _, h => by
    have := hr c (b ++ r') h
    have h2 := hb c (by simp)
    rcases this with e | e
    · exact absurd e h2.1
    · exact absurd e h2.2
  | c :: a, [], r, r', ha, _, _, hr', h => by
    have := hr' c (a ++ r) h.symm
    have h2 := ha c (by simp)
    rcases this with e | e
    · exact absurd e h2.1
    · exact absurd e h2.2
  | c :: a, c' :: b, r, r', ha, hb, hr, hr', h => by
    simp only [List.cons_append, List.cons.injEq] at h
    obtain ⟨rfl, h⟩ := h
    obtain ⟨h1, h2⟩ := plain_eq a b r r' (fun c hc => ha c (by simp [hc])) (fun c hc => hb c (by simp [hc])) hr hr' h
    exact ⟨by rw [h1], h2⟩
theorem quoted_eq : ∀ (a b r r' : List UInt8), (∀ c, c ∈ a → c ≠ 34) → (∀ c, c ∈ b → c ≠ 34) → a ++ 34 :: r = b ++ 34 :: r' → a = b ∧ r = r'
  | [], [], r, r', _, _, h => by simpa using h
  | [], c :: b, r, r', _, hb, h => by
    simp only [List.nil_append, List.cons_append, List.cons.injEq] at h
    exact absurd h.1.symm (hb c (by simp))
  | c :: a, [], r, r', ha, _, h => by
    simp only [List.nil_append, List.cons_append, List.cons.injEq] at h
    exact absurd h.1 (ha c (by simp))
  | c :: a, c' :: b, r, r', ha, hb, h => by
    simp only [List.cons_append, List.cons.injEq] at h
    obtain ⟨rfl, h⟩ := h
    obtain ⟨h1, h2⟩ := quoted_eq a b r r' (fun c hc => ha c (by simp [hc])) (fun c hc => hb c (by simp [hc])) h
    exact ⟨by rw [h1], h2⟩

theorem digit_nat {k : Nat} (h : k < 10) : (UInt8.ofNat (48 + k)).toNat = 48 + k := by
  rw [UInt8.toNat_ofNat']; omega
theorem decDigits_digit : ∀ (u : Nat) (c : UInt8), c ∈ Lib.decDigits u → 48 ≤ c.toNat ∧ c.toNat ≤ 57 := by
  intro u
  induction u using Nat.strongRecOn with
  | ind u ih =>
    intro c hc
    rw [Lib.decDigits] at hc
    split at hc
    · rename_i h
      rw [List.mem_singleton.1 hc, digit_nat h]; omega
    · rcases List.mem_append.1 hc with hc | hc
      · exact ih (u / 10) (by omega) c hc
      · rw [List.mem_singleton.1 hc, digit_nat (Nat.mod_lt u (by omega))]; omega
theorem decDigits_low {u : Nat} (h : u < 10) : Lib.decDigits u = [UInt8.ofNat (48 + u)] := by rw [Lib.decDigits, dif_pos h]
theorem decDigits_high {u : Nat} (h : ¬ u < 10) : Lib.decDigits u = Lib.decDigits (u / 10) ++ [UInt8.ofNat (48 + u % 10)] := by rw [Lib.decDigits, dif_neg h]
theorem decDigits_inj : ∀ (u v : Nat), Lib.decDigits u = Lib.decDigits v → u = v := by
  intro u
  induction u using Nat.strongRecOn with
  | ind u ih =>
    intro v h
    by_cases hu : u < 10
    · by_cases hv : v < 10
      · rw [decDigits_low hu, decDigits_low hv] at h
        have h1 := congrArg UInt8.toNat (List.cons.inj h).1
        rw [digit_nat hu, digit_nat hv] at h1
        omega
      · rw [decDigits_low hu, decDigits_high hv] at h
        have h1 := congrArg List.length h
        have h2 := List.length_pos_iff.2 (decDigits_ne (v / 10))
        simp only [List.length_append, List.length_cons, List.length_nil] at h1
        omega
    · by_cases hv : v < 10
      · rw [decDigits_high hu, decDigits_low hv] at h
        have h1 := congrArg List.length h
        have h2 := List.length_pos_iff.2 (decDigits_ne (u / 10))
        simp only [List.length_append, List.length_cons, List.length_nil] at h1
        omega
      · rw [decDigits_high hu, decDigits_high hv] at h
        obtain ⟨h1, h2⟩ := List.append_inj' h rfl
        have h3 := ih (u / 10) (by omega) (v / 10) h1
        have h4 := congrArg UInt8.toNat (List.cons.inj h2).1
        rw [digit_nat (Nat.mod_lt u (by omega)), digit_nat (Nat.mod_lt v (by omega))] at h4
        omega
theorem itoa_bytes (n : Int) (c : UInt8) (h : c ∈ Lib.itoa n) : c.toNat = 45 ∨ (48 ≤ c.toNat ∧ c.toNat ≤ 57) := by
  unfold Lib.itoa at h
  split at h
  · rcases List.mem_cons.1 h with rfl | h
    · left; rfl
    · exact .inr (decDigits_digit _ _ h)
  · exact .inr (decDigits_digit _ _ h)
theorem itoa_inj (n m : Int) (h : Lib.itoa n = Lib.itoa m) : n = m := by
  have key : ∀ u v : Nat, (45 : UInt8) :: Lib.decDigits u = Lib.decDigits v → False := fun u v h => by
    have := decDigits_digit v 45 (by rw [← h]; simp)
    have h45 : (45 : UInt8).toNat = 45 := rfl
    omega
  unfold Lib.itoa at h
  split at h
  · split at h
    · have := decDigits_inj _ _ (List.cons.inj h).2; omega
    · exact (key _ _ h).elim
  · split at h
    · exact (key _ _ h.symm).elim
    · have := decDigits_inj _ _ h; omega

theorem u8_ne {c : UInt8} {k : Nat} (hk : k < 256) (h : c.toNat ≠ k) : c ≠ UInt8.ofNat k := fun e => h (by rw [e, UInt8.toNat_ofNat']; omega)
theorem itoa_plain (n : Int) : Plain (Lib.itoa n) := fun c hc => by
  have h := itoa_bytes n c hc
  exact ⟨u8_ne (k := 44) (by omega) (by omega), u8_ne (k := 93) (by omega) (by omega)⟩
theorem mem_at {s : ByteArray} {c : UInt8} (h : c ∈ s.data.toList) : ∃ (i : Nat) (hi : i < s.size), s[i] = c := by
  obtain ⟨i, hi, e⟩ := List.getElem_of_mem h
  refine ⟨i, by rw [data_length] at hi; exact hi, ?_⟩
  rw [← e]; rfl
theorem text_bytes {s : ByteArray} (h : textB s = true) : ∀ c, c ∈ s.data.toList → c ≠ 34 := fun c hc => by
  obtain ⟨i, hi, rfl⟩ := mem_at hc
  have h1 := (of_decide_eq_true h).2 i hi
  have h2 := of_decide_eq_true h1
  exact u8_ne (k := 34) (by omega) (by omega)
theorem name_bytes {s : ByteArray} (h : nameB s = true) : ∀ c, c ∈ s.data.toList → 97 ≤ c.toNat ∧ c.toNat ≤ 122 ∨ 48 ≤ c.toNat ∧ c.toNat ≤ 57 ∨ c.toNat = 95 := fun c hc => by
  obtain ⟨i, hi, rfl⟩ := mem_at hc
  have h1 := (of_decide_eq_true h).2.2 i hi
  simp only [okAt, smallB, digitB, Bool.or_eq_true, Bool.and_eq_true, decide_eq_true_eq, beq_iff_eq] at h1
  omega
theorem name_first {s : ByteArray} (h : nameB s = true) : ∃ c t, s.data.toList = c :: t ∧ 97 ≤ c.toNat ∧ c.toNat ≤ 122 := by
  have h0 := (of_decide_eq_true h).1
  have h1 := (of_decide_eq_true h).2.2 0 (by omega)
  match hs : s.data.toList with
  | [] => have := data_length s; rw [hs] at this; simp at this; omega
  | c :: t =>
    refine ⟨c, t, rfl, ?_⟩
    have e : s[0] = c := by
      have : s.data.toList[0]'(by rw [hs]; simp) = c := by simp [hs]
      rw [← this]; rfl
    rw [e] at h1
    simp only [okAt, smallB, digitB, Bool.or_eq_true, Bool.and_eq_true, decide_eq_true_eq, beq_iff_eq] at h1
    simp at h1
    omega
theorem name_plain {s : ByteArray} (h : nameB s = true) : Plain s.data.toList := fun c hc => by
  have := name_bytes h c hc
  exact ⟨u8_ne (k := 44) (by omega) (by omega), u8_ne (k := 93) (by omega) (by omega)⟩

/-- The first byte tells the kind. -/
def kindOf (c : UInt8) : Int := if c.toNat = 34 then 2 else if c.toNat = 91 then 4 else if 97 ≤ c.toNat then 3 else 1
theorem pr_first {d : Nat} {k n : Int} {s : ByteArray} {l : List V} (h : rightV d (.mk k n s l) = true) : ∃ c t, prV (.mk k n s l) = c :: t ∧ kindOf c = k ∧ c ≠ 44 ∧ c ≠ 93 := by
  rw [rightV_mk] at h
  rcases baseB_cases h with ⟨rfl, _, _, _, _⟩ | ⟨rfl, _, _, h1⟩ | ⟨rfl, _, _, h1⟩ | ⟨rfl, _, _, h1⟩
  · have e : prV (.mk 1 n s l) = Lib.itoa n := by simp [prV]
    match hc : Lib.itoa n with
    | [] => exact absurd hc (itoa_ne n)
    | c :: t =>
      have hb := itoa_bytes n c (by rw [hc]; simp)
      refine ⟨c, t, by rw [e, hc], ?_, u8_ne (k := 44) (by omega) (by omega), u8_ne (k := 93) (by omega) (by omega)⟩
      unfold kindOf
      rw [if_neg (by omega), if_neg (by omega), if_neg (by omega)]
  · exact ⟨34, _, by simp [prV]; rfl, rfl, by decide, by decide⟩
  · obtain ⟨c, t, e, h2, h3⟩ := name_first h1
    refine ⟨c, t, by simp [prV, e], ?_, u8_ne (k := 44) (by omega) (by omega), u8_ne (k := 93) (by omega) (by omega)⟩
    unfold kindOf
    rw [if_neg (by omega), if_neg (by omega), if_pos (by omega)]
  · exact ⟨91, _, by simp [prV]; rfl, rfl, by decide, by decide⟩

theorem prL_ends (l : List V) (r : List UInt8) : Ends (prL false l ++ 93 :: r) := fun c t h => by
  cases l with
  | nil => simp [prL] at h; exact .inr h.1.symm
  | cons x l => simp [prL] at h; exact .inl h.1.symm
theorem data_ext {s t : ByteArray} (h : s.data.toList = t.data.toList) : s = t := by
  cases s; cases t; simp at h; rw [h]

/-- Lists, given their elements. -/
theorem prL_apart {P : V → Prop} (hf : ∀ x, P x → ∃ c t, prV x = c :: t ∧ c ≠ 44 ∧ c ≠ 93)
    (hP : ∀ x y r r', P x → P y → Ends r → Ends r' → prV x ++ r = prV y ++ r' → x = y ∧ r = r') :
    ∀ (l m : List V) (first : Bool) (r r' : List UInt8), (∀ x ∈ l, P x) → (∀ x ∈ m, P x) → prL first l ++ 93 :: r = prL first m ++ 93 :: r' → l = m ∧ r = r'
  | [], [], first, r, r', _, _, h => by simpa [prL] using h
  | [], y :: m, first, r, r', _, hm, h => by
    obtain ⟨c, t, e, h1, h2⟩ := hf y (hm y (by simp))
    cases first
    · simp [prL] at h
    · simp [prL, e] at h
      exact absurd h.1.symm h2
  | x :: l, [], first, r, r', hl, _, h => by
    obtain ⟨c, t, e, h1, h2⟩ := hf x (hl x (by simp))
    cases first
    · simp [prL] at h
    · simp [prL, e] at h
      exact absurd h.1 h2
  | x :: l, y :: m, first, r, r', hl, hm, h => by
    have h' : prV x ++ (prL false l ++ 93 :: r) = prV y ++ (prL false m ++ 93 :: r') := by
      cases first <;> simpa [prL] using h
    obtain ⟨h1, h2⟩ := hP x y _ _ (hl x (by simp)) (hm y (by simp)) (prL_ends l r) (prL_ends m r') h'
    obtain ⟨h3, h4⟩ := prL_apart hf hP l m false r r' (fun z hz => hl z (by simp [hz])) (fun z hz => hm z (by simp [hz])) h2
    exact ⟨by rw [h1, h3], h4⟩

theorem pr_apart : ∀ (d : Nat) (x y : V) (r r' : List UInt8), rightV d x = true → rightV d y = true → Ends r → Ends r' → prV x ++ r = prV y ++ r' → x = y ∧ r = r'
  | d, .mk k n s l, .mk k' n' s' l', r, r', hx, hy, hr, hr', h => by
    have hk : k = k' := by
      obtain ⟨c, t, e, h1, _⟩ := pr_first hx
      obtain ⟨c', t', e', h1', _⟩ := pr_first hy
      rw [e, e', List.cons_append, List.cons_append] at h
      rw [← h1, ← h1', (List.cons.inj h).1]
    subst hk
    have hx' := hx
    have hy' := hy
    rw [rightV_mk] at hx' hy'
    rcases baseB_cases hx' with ⟨rfl, h1, rfl, _, _⟩ | ⟨rfl, rfl, rfl, h1⟩ | ⟨rfl, rfl, rfl, h1⟩ | ⟨rfl, rfl, h1, h2⟩
    · rcases baseB_cases hy' with ⟨_, h1', rfl, _, _⟩ | ⟨e, _⟩ | ⟨e, _⟩ | ⟨e, _⟩
      · have e1 : prV (.mk 1 n s []) = Lib.itoa n := by simp [prV]
        have e2 : prV (.mk 1 n' s' []) = Lib.itoa n' := by simp [prV]
        rw [e1, e2] at h
        obtain ⟨h3, h4⟩ := plain_eq _ _ _ _ (itoa_plain n) (itoa_plain n') hr hr' h
        rw [itoa_inj _ _ h3, none_of h1, none_of h1']
        exact ⟨rfl, h4⟩
      all_goals exact absurd e (by decide)
    · rcases baseB_cases hy' with ⟨e, _⟩ | ⟨_, rfl, rfl, h1'⟩ | ⟨e, _⟩ | ⟨e, _⟩
      case inr.inl =>
        have e1 : prV (.mk 2 0 s []) = 34 :: (s.data.toList ++ [34]) := by simp [prV]
        have e2 : prV (.mk 2 0 s' []) = 34 :: (s'.data.toList ++ [34]) := by simp [prV]
        rw [e1, e2] at h
        simp only [List.cons_append, List.cons.injEq, true_and, List.append_assoc, List.nil_append] at h
        obtain ⟨h3, h4⟩ := quoted_eq _ _ _ _ (text_bytes h1) (text_bytes h1') h
        rw [data_ext h3]
        exact ⟨rfl, h4⟩
      all_goals exact absurd e (by decide)
    · rcases baseB_cases hy' with ⟨e, _⟩ | ⟨e, _⟩ | ⟨_, rfl, rfl, h1'⟩ | ⟨e, _⟩
      case inr.inr.inl =>
        have e1 : prV (.mk 3 0 s []) = s.data.toList := by simp [prV]
        have e2 : prV (.mk 3 0 s' []) = s'.data.toList := by simp [prV]
        rw [e1, e2] at h
        obtain ⟨h3, h4⟩ := plain_eq _ _ _ _ (name_plain h1) (name_plain h1') hr hr' h
        rw [data_ext h3]
        exact ⟨rfl, h4⟩
      all_goals exact absurd e (by decide)
    · rcases baseB_cases hy' with ⟨e, _⟩ | ⟨e, _⟩ | ⟨e, _⟩ | ⟨_, rfl, h1', h2'⟩
      case inr.inr.inr =>
        have e1 : prV (.mk 4 0 s l) = 91 :: (prL true l ++ [93]) := by simp [prV]
        have e2 : prV (.mk 4 0 s' l') = 91 :: (prL true l' ++ [93]) := by simp [prV]
        rw [e1, e2] at h
        simp only [List.cons_append, List.cons.injEq, true_and, List.append_assoc, List.nil_append] at h
        match d, h2, h2' with
        | d + 1, h2, h2' =>
          simp only [rightL, Bool.and_eq_true, decide_eq_true_eq, List.all_eq_true] at h2 h2'
          obtain ⟨h3, h4⟩ := prL_apart (P := fun x => rightV d x = true) (fun x hx => by cases x; obtain ⟨c, t, e, _, h⟩ := pr_first hx; exact ⟨c, t, e, h⟩)
            (fun x y r r' => pr_apart d x y r r') l l' true r r' h2.2 h2'.2 h
          rw [h3, none_of h1, none_of h1']
          exact ⟨rfl, h4⟩
      all_goals exact absurd e (by decide)

theorem print_apart {x y : V} (hx : rightV 4 x = true) (hy : rightV 4 y = true) (h : printB x = printB y) : x = y := by
  rw [printB, printB, if_pos hx, if_pos hy] at h
  refine (pr_apart 4 x y [] [] hx hy (fun c t e => by cases e) (fun c t e => by cases e) (by rw [h])).1

end Go.Proofs.YtlnkngahiapidaaDoor
