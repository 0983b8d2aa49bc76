/-
  PrintApart, ShowApart, ShowPrApart
-/
import Derived.Test.YtgjemmdhamkngaaGreatDoorK30
import Derived.Test.YtgjemmdhamkngaaGreatDoorK05
import Derived.Test.YtgjemmdhamkngaaGreatDoorK06
namespace Go.Proofs.YtgjemmdhamkngaaGreatDoor
open Go.RowKit
def Ends (r : List UInt8) : Prop := ∀ c t, r = c :: t → c = 44 ∨ c = 93
def Plain (a : List UInt8) : Prop := ∀ c, c ∈ a → c ≠ 44 ∧ c ≠ 93
theorem plain_eq : ∀ (a b r r' : List UInt8), Plain a → Plain b → Ends r → Ends r' → a ++ r = b ++ r' → a = b ∧ r = r'
 | [], [], r, r', _, _, _, _, h => ⟨rfl, h⟩
 | [], c :: b, r, r', _, hb, hr, _, h => by
  have := hr c (b ++ r') h
  have h2 := hb c (by simp)
  rcases this with e | e
  ·exact absurd e h2.1
  ·exact absurd e h2.2
 | c :: a, [], r, r', ha, _, _, hr', h => by
  have := hr' c (a ++ r) h.symm
  have h2 := ha c (by simp)
  rcases this with e | e
  ·exact absurd e h2.1
  ·exact absurd e h2.2
 | c :: a, c' :: b, r, r', ha, hb, hr, hr', h => by
  simp only [List.cons_append, List.cons.injEq] at h
  obtain ⟨rfl, h⟩ := h
  obtain ⟨h1, h2⟩ := plain_eq a b r r' (fun c hc => ha c (by simp [hc])) (fun c hc => hb c (by simp [hc])) hr hr' h
  exact ⟨by rw [h1], h2⟩
theorem quoted_eq : ∀ (a b r r' : List UInt8), (∀ c, c ∈ a → c ≠ 34) → (∀ c, c ∈ b → c ≠ 34) → a ++ 34 :: r = b ++ 34 :: r' → a = b ∧ r = r'
 | [], [], r, r', _, _, h => by simpa using h
 | [], c :: b, r, r', _, hb, h => by
  simp only [List.nil_append, List.cons_append, List.cons.injEq] at h
  exact absurd h.1.symm (hb c (by simp))
 | c :: a, [], r, r', ha, _, h => by
  simp only [List.nil_append, List.cons_append, List.cons.injEq] at h
  exact absurd h.1 (ha c (by simp))
 | c :: a, c' :: b, r, r', ha, hb, h => by
  simp only [List.cons_append, List.cons.injEq] at h
  obtain ⟨rfl, h⟩ := h
  obtain ⟨h1, h2⟩ := quoted_eq a b r r' (fun c hc => ha c (by simp [hc])) (fun c hc => hb c (by simp [hc])) h
  exact ⟨by rw [h1], h2⟩
theorem decDigits_low {u : Nat} (h : u < 10) : Lib.decDigits u = [UInt8.ofNat (48 + u)] := by rw [Lib.decDigits, dif_pos h]
theorem decDigits_high {u : Nat} (h : ¬ u < 10) : Lib.decDigits u = Lib.decDigits (u / 10) ++ [UInt8.ofNat (48 + u % 10)] := by rw [Lib.decDigits, dif_neg h]
theorem decDigits_inj : ∀ (u v : Nat), Lib.decDigits u = Lib.decDigits v → u = v := by
 intro u
 induction u using Nat.strongRecOn with
 | ind u ih =>
  intro v h
  by_cases hu : u < 10
  ·by_cases hv : v < 10
   ·rw [decDigits_low hu, decDigits_low hv] at h
    have h1 := congrArg UInt8.toNat (List.cons.inj h).1
    rw [digit_nat hu, digit_nat hv] at h1
    omega
   ·rw [decDigits_low hu, decDigits_high hv] at h
    have h1 := congrArg List.length h
    have h2 := List.length_pos_iff.2 (decDigits_ne (v / 10))
    simp only [List.length_append, List.length_cons, List.length_nil] at h1
    omega
  ·by_cases hv : v < 10
   ·rw [decDigits_high hu, decDigits_low hv] at h
    have h1 := congrArg List.length h
    have h2 := List.length_pos_iff.2 (decDigits_ne (u / 10))
    simp only [List.length_append, List.length_cons, List.length_nil] at h1
    omega
   ·rw [decDigits_high hu, decDigits_high hv] at h
    obtain ⟨h1, h2⟩ := List.append_inj' h rfl
    have h3 := ih (u / 10) (by omega) (v / 10) h1
    have h4 := congrArg UInt8.toNat (List.cons.inj h2).1
    rw [digit_nat (Nat.mod_lt u (by omega)), digit_nat (Nat.mod_lt v (by omega))] at h4
    omega
theorem itoa_bytes (n : Int) (c : UInt8) (h : c ∈ Lib.itoa n) : c.toNat = 45 ∨ (48 ≤ c.toNat ∧ c.toNat ≤ 57) := by
 unfold Lib.itoa at h
 split at h
 ·rcases List.mem_cons.1 h with rfl | h
  ·left; rfl
  ·exact .inr (decDigits_digit _ _ h)
 ·exact .inr (decDigits_digit _ _ h)
theorem itoa_inj (n m : Int) (h : Lib.itoa n = Lib.itoa m) : n = m := by
 have key : ∀ u v : Nat, (45 : UInt8) :: Lib.decDigits u = Lib.decDigits v → False := fun u v h => by
  have := decDigits_digit v 45 (by rw [← h]; simp)
  have h45 : (45 : UInt8).toNat = 45 := rfl
  omega
 unfold Lib.itoa at h
 split at h
 ·split at h
  ·have := decDigits_inj _ _ (List.cons.inj h).2; omega
  ·exact (key _ _ h).elim
 ·split at h
  ·exact (key _ _ h.symm).elim
  ·have := decDigits_inj _ _ h; omega
theorem itoa_plain (n : Int) : Plain (Lib.itoa n) := fun c hc => by
 have h := itoa_bytes n c hc
 exact ⟨u8_ne (k := 44) (by omega) (by omega), u8_ne (k := 93) (by omega) (by omega)⟩
theorem text_bytes {s : ByteArray} (h : textB s = true) : ∀ c, c ∈ s.data.toList → c ≠ 34 := fun c hc => by
 obtain ⟨i, hi, rfl⟩ := mem_at hc
 have h1 := (of_decide_eq_true h).2 i hi
 have h2 := of_decide_eq_true h1
 exact u8_ne (k := 34) (by omega) (by omega)
theorem name_first {s : ByteArray} (h : nameB s = true) : ∃ c t, s.data.toList = c :: t ∧ 97 ≤ c.toNat ∧ c.toNat ≤ 122 := by
 have h0 := (of_decide_eq_true h).1
 have h1 := (of_decide_eq_true h).2.2 0 (by omega)
 match hs : s.data.toList with
 | [] => have := data_length s; rw [hs] at this; simp at this; omega
 | c :: t =>
  refine ⟨c, t, rfl, ?_⟩
  have e : s[0] = c := by
   have : s.data.toList[0]'(by rw [hs]; simp) = c := by simp [hs]
   rw [← this]; rfl
  rw [e] at h1
  simp only [okAt, smallB, digitB, Bool.or_eq_true, Bool.and_eq_true, decide_eq_true_eq, beq_iff_eq] at h1
  simp at h1
  omega
theorem name_plain {s : ByteArray} (h : nameB s = true) : Plain s.data.toList := fun c hc => by
 have := name_bytes h c hc
 exact ⟨u8_ne (k := 44) (by omega) (by omega), u8_ne (k := 93) (by omega) (by omega)⟩
def kindOf (c : UInt8) : Int := if c.toNat = 34 then 2 else if c.toNat = 91 then 4 else if 97 ≤ c.toNat then 3 else 1
theorem pr_first {d : Nat} {k n : Int} {s : ByteArray} {l : List V} (h : rightV d (.mk k n s l) = true) : ∃ c t, prV (.mk k n s l) = c :: t ∧ kindOf c = k ∧ c ≠ 44 ∧ c ≠ 93 := by
 rw [rightV_mk] at h
 rcases baseB_cases h with ⟨rfl, _, _, _, _⟩ | ⟨rfl, _, _, h1⟩ | ⟨rfl, _, _, h1⟩ | ⟨rfl, _, _, h1⟩
 ·have e : prV (.mk 1 n s l) = Lib.itoa n := by simp [prV]
  match hc : Lib.itoa n with
  | [] => exact absurd hc (itoa_ne n)
  | c :: t =>
   have hb := itoa_bytes n c (by rw [hc]; simp)
   refine ⟨c, t, by rw [e, hc], ?_, u8_ne (k := 44) (by omega) (by omega), u8_ne (k := 93) (by omega) (by omega)⟩
   unfold kindOf
   rw [if_neg (by omega), if_neg (by omega), if_neg (by omega)]
 ·exact ⟨34, _, by simp [prV]; rfl, rfl, by decide, by decide⟩
 ·obtain ⟨c, t, e, h2, h3⟩ := name_first h1
  refine ⟨c, t, by simp [prV, e], ?_, u8_ne (k := 44) (by omega) (by omega), u8_ne (k := 93) (by omega) (by omega)⟩
  unfold kindOf
  rw [if_neg (by omega), if_neg (by omega), if_pos (by omega)]
 ·exact ⟨91, _, by simp [prV]; rfl, rfl, by decide, by decide⟩
theorem prL_ends (l : List V) (r : List UInt8) : Ends (prL false l ++ 93 :: r) := fun c t h => by
 cases l with
 | nil => simp [prL] at h; exact .inr h.1.symm
 | cons x l => simp [prL] at h; exact .inl h.1.symm
theorem data_ext {s t : ByteArray} (h : s.data.toList = t.data.toList) : s = t := by
 cases s; cases t; simp at h; rw [h]
theorem prL_apart {P : V → Prop} (hf : ∀ x, P x → ∃ c t, prV x = c :: t ∧ c ≠ 44 ∧ c ≠ 93)
  (hP : ∀ x y r r', P x → P y → Ends r → Ends r' → prV x ++ r = prV y ++ r' → x = y ∧ r = r') :
  ∀ (l m : List V) (first : Bool) (r r' : List UInt8), (∀ x ∈ l, P x) → (∀ x ∈ m, P x) → prL first l ++ 93 :: r = prL first m ++ 93 :: r' → l = m ∧ r = r'
 | [], [], first, r, r', _, _, h => by simpa [prL] using h
 | [], y :: m, first, r, r', _, hm, h => by
  obtain ⟨c, t, e, h1, h2⟩ := hf y (hm y (by simp))
  cases first
  ·simp [prL] at h
  ·simp [prL, e] at h
   exact absurd h.1.symm h2
 | x :: l, [], first, r, r', hl, _, h => by
  obtain ⟨c, t, e, h1, h2⟩ := hf x (hl x (by simp))
  cases first
  ·simp [prL] at h
  ·simp [prL, e] at h
   exact absurd h.1 h2
 | x :: l, y :: m, first, r, r', hl, hm, h => by
  have h' : prV x ++ (prL false l ++ 93 :: r) = prV y ++ (prL false m ++ 93 :: r') := by
   cases first <;> simpa [prL] using h
  obtain ⟨h1, h2⟩ := hP x y _ _ (hl x (by simp)) (hm y (by simp)) (prL_ends l r) (prL_ends m r') h'
  obtain ⟨h3, h4⟩ := prL_apart hf hP l m false r r' (fun z hz => hl z (by simp [hz])) (fun z hz => hm z (by simp [hz])) h2
  exact ⟨by rw [h1, h3], h4⟩
theorem pr_apart : ∀ (d : Nat) (x y : V) (r r' : List UInt8), rightV d x = true → rightV d y = true → Ends r → Ends r' → prV x ++ r = prV y ++ r' → x = y ∧ r = r'
 | d, .mk k n s l, .mk k' n' s' l', r, r', hx, hy, hr, hr', h => by
  have hk : k = k' := by
   obtain ⟨c, t, e, h1, _⟩ := pr_first hx
   obtain ⟨c', t', e', h1', _⟩ := pr_first hy
   rw [e, e', List.cons_append, List.cons_append] at h
   rw [← h1, ← h1', (List.cons.inj h).1]
  subst hk
  have hx' := hx
  have hy' := hy
  rw [rightV_mk] at hx' hy'
  rcases baseB_cases hx' with ⟨rfl, h1, rfl, _, _⟩ | ⟨rfl, rfl, rfl, h1⟩ | ⟨rfl, rfl, rfl, h1⟩ | ⟨rfl, rfl, h1, h2⟩
  ·rcases baseB_cases hy' with ⟨_, h1', rfl, _, _⟩ | ⟨e, _⟩ | ⟨e, _⟩ | ⟨e, _⟩
   ·have e1 : prV (.mk 1 n s []) = Lib.itoa n := by simp [prV]
    have e2 : prV (.mk 1 n' s' []) = Lib.itoa n' := by simp [prV]
    rw [e1, e2] at h
    obtain ⟨h3, h4⟩ := plain_eq _ _ _ _ (itoa_plain n) (itoa_plain n') hr hr' h
    rw [itoa_inj _ _ h3, none_of h1, none_of h1']
    exact ⟨rfl, h4⟩
   all_goals exact absurd e (by decide)
  ·rcases baseB_cases hy' with ⟨e, _⟩ | ⟨_, rfl, rfl, h1'⟩ | ⟨e, _⟩ | ⟨e, _⟩
   case inr.inl =>
    have e1 : prV (.mk 2 0 s []) = 34 :: (s.data.toList ++ [34]) := by simp [prV]
    have e2 : prV (.mk 2 0 s' []) = 34 :: (s'.data.toList ++ [34]) := by simp [prV]
    rw [e1, e2] at h
    simp only [List.cons_append, List.cons.injEq, true_and, List.append_assoc, List.nil_append] at h
    obtain ⟨h3, h4⟩ := quoted_eq _ _ _ _ (text_bytes h1) (text_bytes h1') h
    rw [data_ext h3]
    exact ⟨rfl, h4⟩
   all_goals exact absurd e (by decide)
  ·rcases baseB_cases hy' with ⟨e, _⟩ | ⟨e, _⟩ | ⟨_, rfl, rfl, h1'⟩ | ⟨e, _⟩
   case inr.inr.inl =>
    have e1 : prV (.mk 3 0 s []) = s.data.toList := by simp [prV]
    have e2 : prV (.mk 3 0 s' []) = s'.data.toList := by simp [prV]
    rw [e1, e2] at h
    obtain ⟨h3, h4⟩ := plain_eq _ _ _ _ (name_plain h1) (name_plain h1') hr hr' h
    rw [data_ext h3]
    exact ⟨rfl, h4⟩
   all_goals exact absurd e (by decide)
  ·rcases baseB_cases hy' with ⟨e, _⟩ | ⟨e, _⟩ | ⟨e, _⟩ | ⟨_, rfl, h1', h2'⟩
   case inr.inr.inr =>
    have e1 : prV (.mk 4 0 s l) = 91 :: (prL true l ++ [93]) := by simp [prV]
    have e2 : prV (.mk 4 0 s' l') = 91 :: (prL true l' ++ [93]) := by simp [prV]
    rw [e1, e2] at h
    simp only [List.cons_append, List.cons.injEq, true_and, List.append_assoc, List.nil_append] at h
    match d, h2, h2' with
    | d + 1, h2, h2' =>
     simp only [rightL, Bool.and_eq_true, decide_eq_true_eq, List.all_eq_true] at h2 h2'
     obtain ⟨h3, h4⟩ := prL_apart (P := fun x => rightV d x = true) (fun x hx => by cases x; obtain ⟨c, t, e, _, h⟩ := pr_first hx; exact ⟨c, t, e, h⟩)
      (fun x y r r' => pr_apart d x y r r') l l' true r r' h2.2 h2'.2 h
     rw [h3, none_of h1, none_of h1']
     exact ⟨rfl, h4⟩
   all_goals exact absurd e (by decide)
end Go.Proofs.YtgjemmdhamkngaaGreatDoor
namespace Go.Proofs.YtgjemmdhamkngaaGreatDoor
open Go.RowKit
def Stop (p : UInt8 → Bool) (r : List UInt8) : Prop := ∀ c t, r = c :: t → p c = false
theorem Stop.cons {p : UInt8 → Bool} {c : UInt8} {t : List UInt8} (h : p c = false) : Stop p (c :: t) := fun c' t' e => by rw [← (List.cons.inj e).1]; exact h
theorem Stop.mono {p q : UInt8 → Bool} {r : List UInt8} (h : Stop q r) (hpq : ∀ c, p c = true → q c = true) : Stop p r := fun c t e => by
 cases hp : p c with
 | false => rfl
 | true => have := h c t e; rw [hpq c hp] at this; cases this
theorem span_eq (p : UInt8 → Bool) : ∀ (a b r r' : List UInt8), (∀ c ∈ a, p c = true) → (∀ c ∈ b, p c = true) → Stop p r → Stop p r' → a ++ r = b ++ r' → a = b ∧ r = r'
 | [], [], r, r', _, _, _, _, h => ⟨rfl, h⟩
 | [], c :: b, r, r', _, hb, hr, _, h => by
  have h1 := hr c (b ++ r') h
  rw [hb c (by simp)] at h1; cases h1
 | c :: a, [], r, r', ha, _, _, hr', h => by
  have h1 := hr' c (a ++ r) h.symm
  rw [ha c (by simp)] at h1; cases h1
 | c :: a, c' :: b, r, r', ha, hb, hr, hr', h => by
  simp only [List.cons_append, List.cons.injEq] at h
  obtain ⟨rfl, h⟩ := h
  obtain ⟨h1, h2⟩ := span_eq p a b r r' (fun c hc => ha c (by simp [hc])) (fun c hc => hb c (by simp [hc])) hr hr' h
  exact ⟨by rw [h1], h2⟩
def endC (c : UInt8) : Bool := wordC c || (c == 40 || c == 60)
def EndsT (r : List UInt8) : Prop := Stop endC r
theorem word_end (c : UInt8) (h : wordC c = true) : endC c = true := by rw [endC, h]; rfl
theorem EndsT.word {r : List UInt8} (h : EndsT r) : Stop wordC r := h.mono word_end
theorem EndsT.dig {r : List UInt8} (h : EndsT r) : Stop digC r := h.word.mono dig_word
theorem EndsT.cons {c : UInt8} {t : List UInt8} (h : endC c = false) : EndsT (c :: t) := Stop.cons h
theorem EndsT.not40 {t : List UInt8} (h : EndsT (40 :: t)) : False := by have := h 40 t rfl; revert this; decide
theorem EndsT.not60 {t : List UInt8} (h : EndsT (60 :: t)) : False := by have := h 60 t rfl; revert this; decide
theorem itoa_apart {n m : Int} {r r' : List UInt8} (hr : Stop digC r) (hr' : Stop digC r') (h : Lib.itoa n ++ r = Lib.itoa m ++ r') : n = m ∧ r = r' := by
 have key : ∀ (u v : Nat) (s s' : List UInt8), (45 : UInt8) :: (Lib.decDigits u ++ s) = Lib.decDigits v ++ s' → False := fun u v s s' e => by
  match hv : Lib.decDigits v with
  | [] => exact decDigits_ne v hv
  | c :: t =>
   rw [hv] at e
   have h1 := decDigits_digit v c (by rw [hv]; simp)
   have h2 := (List.cons.inj e).1
   rw [← h2] at h1
   revert h1; decide
 unfold Lib.itoa at h
 split at h <;> split at h
 ·obtain ⟨e1, e2⟩ := span_eq digC _ _ _ _ (fun c hc => decDigits_dig hc) (fun c hc => decDigits_dig hc) hr hr' (List.cons.inj h).2
  have := decDigits_inj _ _ e1
  exact ⟨by omega, e2⟩
 ·exact (key _ _ _ _ h).elim
 ·exact (key _ _ _ _ h.symm).elim
 ·obtain ⟨e1, e2⟩ := span_eq digC _ _ _ _ (fun c hc => decDigits_dig hc) (fun c hc => decDigits_dig hc) hr hr' h
  have := decDigits_inj _ _ e1
  exact ⟨by omega, e2⟩
theorem var_first {s : ByteArray} (h : varB s = true) : ∃ c t, s.data.toList = c :: t ∧ 65 ≤ c.toNat ∧ c.toNat ≤ 90 := by
 have h0 := (of_decide_eq_true h).1
 have h1 := (of_decide_eq_true h).2.2 0 (by omega)
 match hs : s.data.toList with
 | [] => have := data_length s; rw [hs] at this; simp at this; omega
 | c :: t =>
  refine ⟨c, t, rfl, ?_⟩
  have e : s[0] = c := by
   have : s.data.toList[0]'(by rw [hs]; simp) = c := by simp [hs]
   rw [← this]; rfl
  rw [e] at h1
  simp only [okVar, greatB, smallB, digitB, Bool.or_eq_true, Bool.and_eq_true, decide_eq_true_eq, beq_iff_eq] at h1
  simp at h1
  omega
theorem fname_head : ∀ k, k < 9 → (fname k).head? = some 102 := by decide
theorem val_apart {x y : V} {r r' : List UInt8} (hx : rightV 4 x = true) (hy : rightV 4 y = true) (hr : EndsT r) (hr' : EndsT r') (h : printB x ++ r = printB y ++ r') : x = y ∧ r = r' := by
 rw [printB, printB, if_pos hx, if_pos hy] at h
 cases x with
 | mk k n s l =>
 cases y with
 | mk k' n' s' l' =>
  have hk : k = k' := by
   obtain ⟨c, t, e, h1, _⟩ := pr_first hx
   obtain ⟨c', t', e', h1', _⟩ := pr_first hy
   rw [e, e', List.cons_append, List.cons_append] at h
   rw [← h1, ← h1', (List.cons.inj h).1]
  subst hk
  rw [rightV_mk] at hx hy
  rcases baseB_cases hx with ⟨rfl, h1, rfl, _, _⟩ | ⟨rfl, rfl, rfl, h1⟩ | ⟨rfl, rfl, rfl, h1⟩ | ⟨rfl, rfl, h1, h2⟩
  ·rcases baseB_cases hy with ⟨_, h1', rfl, _, _⟩ | ⟨e, _⟩ | ⟨e, _⟩ | ⟨e, _⟩
   ·have e1 : prV (.mk 1 n s []) = Lib.itoa n := by simp [prV]
    have e2 : prV (.mk 1 n' s' []) = Lib.itoa n' := by simp [prV]
    rw [e1, e2] at h
    obtain ⟨h3, h4⟩ := itoa_apart hr.dig hr'.dig h
    rw [h3, none_of h1, none_of h1']
    exact ⟨rfl, h4⟩
   all_goals exact absurd e (by decide)
  ·rcases baseB_cases hy with ⟨e, _⟩ | ⟨_, rfl, rfl, h1'⟩ | ⟨e, _⟩ | ⟨e, _⟩
   case inr.inl =>
    have e1 : prV (.mk 2 0 s []) = 34 :: (s.data.toList ++ [34]) := by simp [prV]
    have e2 : prV (.mk 2 0 s' []) = 34 :: (s'.data.toList ++ [34]) := by simp [prV]
    rw [e1, e2] at h
    simp only [List.cons_append, List.cons.injEq, true_and, List.append_assoc, List.nil_append] at h
    obtain ⟨h3, h4⟩ := quoted_eq _ _ _ _ (text_bytes h1) (text_bytes h1') h
    rw [data_ext h3]
    exact ⟨rfl, h4⟩
   all_goals exact absurd e (by decide)
  ·rcases baseB_cases hy with ⟨e, _⟩ | ⟨e, _⟩ | ⟨_, rfl, rfl, h1'⟩ | ⟨e, _⟩
   case inr.inr.inl =>
    have e1 : prV (.mk 3 0 s []) = s.data.toList := by simp [prV]
    have e2 : prV (.mk 3 0 s' []) = s'.data.toList := by simp [prV]
    rw [e1, e2] at h
    obtain ⟨h3, h4⟩ := span_eq wordC _ _ _ _ (name_word h1) (name_word h1') hr.word hr'.word h
    rw [data_ext h3]
    exact ⟨rfl, h4⟩
   all_goals exact absurd e (by decide)
  ·rcases baseB_cases hy with ⟨e, _⟩ | ⟨e, _⟩ | ⟨e, _⟩ | ⟨_, rfl, h1', h2'⟩
   case inr.inr.inr =>
    have e1 : prV (.mk 4 0 s l) = 91 :: (prL true l ++ [93]) := by simp [prV]
    have e2 : prV (.mk 4 0 s' l') = 91 :: (prL true l' ++ [93]) := by simp [prV]
    rw [e1, e2] at h
    simp only [List.cons_append, List.cons.injEq, true_and, List.append_assoc, List.nil_append] at h
    simp only [rightL, Bool.and_eq_true, decide_eq_true_eq, List.all_eq_true] at h2 h2'
    obtain ⟨h3, h4⟩ := prL_apart (P := fun x => rightV 3 x = true) (fun x hx => by cases x; obtain ⟨c, t, e, _, h⟩ := pr_first hx; exact ⟨c, t, e, h⟩)
     (fun x y r r' => pr_apart 3 x y r r') l l' true r r' h2.2 h2'.2 h
    rw [h3, none_of h1, none_of h1']
    exact ⟨rfl, h4⟩
   all_goals exact absurd e (by decide)
theorem seps_apart {α : Type} (f : α → List UInt8) (P : α → Prop) (E : List UInt8 → Prop) (s0 : UInt8) (s1 : List UInt8)
  (hf : ∀ x y r r', P x → P y → E r → E r' → f x ++ r = f y ++ r' → x = y ∧ r = r') (hE : ∀ t, E (s0 :: t)) (l m : List α) (c c' : UInt8) (t t' : List UInt8)
  (hl : l ≠ []) (hm : m ≠ []) (hPl : ∀ x ∈ l, P x) (hPm : ∀ x ∈ m, P x) (hc : E (c :: t)) (hc' : E (c' :: t')) (n0 : c ≠ s0) (n0' : c' ≠ s0)
  (h : sepL (s0 :: s1) (l.map f) ++ c :: t = sepL (s0 :: s1) (m.map f) ++ c' :: t') : l = m ∧ c :: t = c' :: t' := by
 have tail : ∀ l : List α, E ((((l.map f).map fun y => (s0 :: s1) ++ y).flatten) ++ c :: t) := fun l => by
  cases l with
  | nil => simpa using hc
  | cons x l => simp only [List.map_cons, List.flatten_cons, List.cons_append]; exact hE _
 have tail' : ∀ l : List α, E ((((l.map f).map fun y => (s0 :: s1) ++ y).flatten) ++ c' :: t') := fun l => by
  cases l with
  | nil => simpa using hc'
  | cons x l => simp only [List.map_cons, List.flatten_cons, List.cons_append]; exact hE _
 have key : ∀ (l m : List α), (∀ x ∈ l, P x) → (∀ x ∈ m, P x) → (((l.map f).map fun y => (s0 :: s1) ++ y).flatten) ++ c :: t = (((m.map f).map fun y => (s0 :: s1) ++ y).flatten) ++ c' :: t' → l = m ∧ c :: t = c' :: t' := by
  intro l
  induction l with
  | nil =>
   intro m _ hm h
   cases m with
   | nil => exact ⟨rfl, by simpa using h⟩
   | cons y m =>
    simp only [List.map_nil, List.flatten_nil, List.nil_append, List.map_cons, List.flatten_cons, List.cons_append] at h
    exact absurd (List.cons.inj h).1 n0
  | cons x l ih =>
   intro m hl hm h
   cases m with
   | nil =>
    simp only [List.map_nil, List.flatten_nil, List.nil_append, List.map_cons, List.flatten_cons, List.cons_append] at h
    exact absurd (List.cons.inj h).1.symm n0'
   | cons y m =>
    simp only [List.map_cons, List.flatten_cons, List.append_assoc] at h
    obtain ⟨e1, e2⟩ := hf x y _ _ (hl x (by simp)) (hm y (by simp)) (tail l) (tail' m) (List.append_cancel_left h)
    obtain ⟨e3, e4⟩ := ih m (fun z hz => hl z (by simp [hz])) (fun z hz => hm z (by simp [hz])) e2
    exact ⟨by rw [e1, e3], e4⟩
 cases l with
 | nil => exact absurd rfl hl
 | cons x l =>
  cases m with
  | nil => exact absurd rfl hm
  | cons y m =>
   simp only [List.map_cons, sepL, List.append_assoc] at h
   obtain ⟨e1, e2⟩ := hf x y _ _ (hPl x (by simp)) (hPm y (by simp)) (tail l) (tail' m) h
   obtain ⟨e3, e4⟩ := key l m (fun z hz => hPl z (by simp [hz])) (fun z hz => hPm z (by simp [hz])) e2
   exact ⟨by rw [e1, e3], e4⟩
def clsC (c : UInt8) : Nat := if c.toNat = 40 then 4 else if 97 ≤ c.toNat then 3 else if 65 ≤ c.toNat ∧ c.toNat ≤ 90 then 1 else 2
def clsT (t : Tm) : Nat := if t.kind = 1 then 1 else if t.kind = 4 then 4 else if t.kind = 3 then 3 else if t.val.kind = 3 then 3 else 2
theorem cls1 (s : ByteArray) (v : V) (l : List Tm) : clsT (.mk 1 s v l) = 1 := by simp [clsT, Tm.kind]
theorem cls2 (s : ByteArray) (v : V) (l : List Tm) : clsT (.mk 2 s v l) = if v.kind = 3 then 3 else 2 := by
 show (if (2 : Int) = 1 then 1 else if (2 : Int) = 4 then 4 else if (2 : Int) = 3 then 3 else if v.kind = 3 then 3 else 2) = _
 rw [if_neg (by decide), if_neg (by decide), if_neg (by decide)]
theorem cls3 (s : ByteArray) (v : V) (l : List Tm) : clsT (.mk 3 s v l) = 3 := by simp [clsT, Tm.kind]
theorem cls4 (s : ByteArray) (v : V) (l : List Tm) : clsT (.mk 4 s v l) = 4 := by simp [clsT, Tm.kind]
theorem cls_small {c : UInt8} (h : 97 ≤ c.toNat) : clsC c = 3 := by unfold clsC; rw [if_neg (by omega), if_pos h]
theorem cls_great {c : UInt8} (h : 65 ≤ c.toNat) (h' : c.toNat ≤ 90) : clsC c = 1 := by unfold clsC; rw [if_neg (by omega), if_neg (by omega), if_pos ⟨h, h'⟩]
theorem fn_first {s : ByteArray} (h : 0 ≤ fnArity (fnOf s)) : ∃ t, s.data.toList = 102 :: t := by
 obtain ⟨k, hk, -, e⟩ := fnm_of h
 have := fname_head k hk
 rw [e]
 match hf : fname k with
 | [] => rw [hf] at this; cases this
 | c :: t => rw [hf] at this; simp at this; exact ⟨t, by rw [this]⟩
theorem tm_first {d : Nat} {x : Tm} (h : rightM d x = true) : ∃ c t, showM x = c :: t ∧ clsC c = clsT x ∧ c ≠ 33 ∧ c ≠ 64 := by
 match d, x, h with
 | 0, x, h => rw [rightM_zero] at h; cases h
 | d + 1, .mk k s x l, h =>
  rcases right_cases h with ⟨rfl, h1, -, -, e⟩ | ⟨rfl, -, h1, -, e⟩ | ⟨rfl, -, h1, -, -, e⟩ | ⟨rfl, -, -, -, -, e⟩
  ·obtain ⟨c, t, e1, h2, h3⟩ := var_first h1
   exact ⟨c, t, by rw [e, e1], cls_great h2 h3, u8_ne (k := 33) (by omega) (by omega), u8_ne (k := 64) (by omega) (by omega)⟩
  ·have hr := valB_right h1
   rw [e, printB, if_pos hr]
   cases x with
   | mk k n s' l =>
    rw [rightV_mk] at hr
    rcases baseB_cases hr with ⟨rfl, _, _, _, _⟩ | ⟨rfl, _, _, h1⟩ | ⟨rfl, _, _, h1⟩ | ⟨rfl, _, _, h1⟩
    ·have e : prV (.mk 1 n s' l) = Lib.itoa n := by simp [prV]
     match hc : Lib.itoa n with
     | [] => exact absurd hc (itoa_ne n)
     | c :: t =>
      have hb := itoa_bytes n c (by rw [hc]; simp)
      refine ⟨c, t, by rw [e, hc], ?_, u8_ne (k := 33) (by omega) (by omega), u8_ne (k := 64) (by omega) (by omega)⟩
      unfold clsC
      rw [if_neg (by omega), if_neg (by omega), if_neg (by omega)]; rfl
    ·exact ⟨34, _, by simp [prV]; rfl, rfl, by decide, by decide⟩
    ·obtain ⟨c, t, e, h2, h3⟩ := name_first h1
     exact ⟨c, t, by simp [prV, e], cls_small h2, u8_ne (k := 33) (by omega) (by omega), u8_ne (k := 64) (by omega) (by omega)⟩
    ·exact ⟨91, _, by simp [prV]; rfl, rfl, by decide, by decide⟩
  ·obtain ⟨t, et⟩ := fn_first h1
   exact ⟨102, t ++ _, by rw [e, et]; rfl, rfl, by decide, by decide⟩
  ·exact ⟨40, _, e, rfl, by decide, by decide⟩
theorem addr_of {x : V} (h : rightV 4 x = true) (hk : x.kind = 3) : nameB x.text = true ∧ printB x = x.text.data.toList := by
 rw [printB, if_pos h]
 cases x with
 | mk k n s l =>
  rw [rightV_mk] at h
  simp only [V.kind] at hk
  subst hk
  rcases baseB_cases h with ⟨e, _⟩ | ⟨e, _⟩ | ⟨_, _, _, h1⟩ | ⟨e, _⟩
  case inr.inr.inl => exact ⟨h1, by simp [prV, V.text]⟩
  all_goals exact absurd e (by decide)
theorem term_word {d : Nat} {x : Tm} (h : rightM d x = true) (hc : clsT x = 1 ∨ clsT x = 3) : ∃ u v, showM x = u ++ v ∧ (∀ c ∈ u, wordC c = true) ∧ (v = [] ∨ ∃ z, v = 40 :: z) := by
 match d, x, h with
 | 0, x, h => rw [rightM_zero] at h; cases h
 | d + 1, .mk k s x l, h =>
  rcases right_cases h with ⟨rfl, h1, -, -, e⟩ | ⟨rfl, -, h1, -, e⟩ | ⟨rfl, -, h1, -, -, e⟩ | ⟨rfl, -, -, -, -, e⟩
  ·exact ⟨_, [], by rw [e, List.append_nil], var_word h1, .inl rfl⟩
  ·have hk : x.kind = 3 := by
    by_cases hk : x.kind = 3
    ·exact hk
    ·simp [clsT, Tm.kind, Tm.val, hk] at hc
   obtain ⟨h2, h3⟩ := addr_of (valB_right h1) hk
   exact ⟨_, [], by rw [e, h3, List.append_nil], name_word h2, .inl rfl⟩
  ·exact ⟨_, _, e, fn_word h1, .inr ⟨_, rfl⟩⟩
  ·simp [clsT, Tm.kind] at hc
theorem tm_apart : ∀ (d : Nat) (x y : Tm) (r r' : List UInt8), rightM d x = true → rightM d y = true → EndsT r → EndsT r' → showM x ++ r = showM y ++ r' → x = y ∧ r = r'
 | 0, x, y, r, r', h, _, _, _, _ => by rw [rightM_zero] at h; cases h
 | d + 1, .mk k s v l, .mk k' s' v' l', r, r', hx, hy, hr, hr', h => by
  have hcls : clsT (.mk k s v l) = clsT (.mk k' s' v' l') := by
   obtain ⟨c, t, e, h1, -⟩ := tm_first hx
   obtain ⟨c', t', e', h1', -⟩ := tm_first hy
   rw [e, e', List.cons_append, List.cons_append] at h
   rw [← h1, ← h1', (List.cons.inj h).1]
  have arg : ∀ (x y : Tm) (r r' : List UInt8), rightM d x = true → rightM d y = true → EndsT r → EndsT r' → showM x ++ r = showM y ++ r' → x = y ∧ r = r' := tm_apart d
  rcases right_cases hx with ⟨rfl, h1, rfl, rfl, e⟩ | ⟨rfl, rfl, h1, rfl, e⟩ | ⟨rfl, rfl, h1, h2, h3, e⟩ | ⟨rfl, rfl, h1, h2, h3, e⟩
  ·rcases right_cases hy with ⟨rfl, h1', rfl, rfl, e'⟩ | ⟨rfl, rfl, h1', rfl, e'⟩ | ⟨rfl, rfl, h1', h2', h3', e'⟩ | ⟨rfl, rfl, h1', h2', h3', e'⟩
   ·rw [e, e'] at h
    obtain ⟨e1, e2⟩ := span_eq wordC _ _ _ _ (var_word h1) (var_word h1') hr.word hr'.word h
    rw [data_ext e1]; exact ⟨rfl, e2⟩
   ·exfalso; rw [cls1, cls2] at hcls; split at hcls <;> omega
   ·exfalso; rw [cls1, cls3] at hcls; omega
   ·exfalso; rw [cls1, cls4] at hcls; omega
  ·rcases right_cases hy with ⟨rfl, h1', rfl, rfl, e'⟩ | ⟨rfl, rfl, h1', rfl, e'⟩ | ⟨rfl, rfl, h1', h2', h3', e'⟩ | ⟨rfl, rfl, h1', h2', h3', e'⟩
   ·exfalso; rw [cls2, cls1] at hcls; split at hcls <;> omega
   ·rw [e, e'] at h
    obtain ⟨e1, e2⟩ := val_apart (valB_right h1) (valB_right h1') hr hr' h
    rw [e1]; exact ⟨rfl, e2⟩
   ·exfalso
    have hk : v.kind = 3 := by
     by_cases hk : v.kind = 3
     ·exact hk
     ·rw [cls2, cls3, if_neg hk] at hcls; omega
    obtain ⟨g1, g2⟩ := addr_of (valB_right h1) hk
    rw [e, e', g2, List.append_assoc] at h
    obtain ⟨-, e2⟩ := span_eq wordC _ _ _ _ (name_word g1) (fn_word h1') hr.word (Stop.cons (by decide)) h
    rw [e2] at hr
    exact hr.not40
   ·exfalso; rw [cls2, cls4] at hcls; split at hcls <;> omega
  ·rcases right_cases hy with ⟨rfl, h1', rfl, rfl, e'⟩ | ⟨rfl, rfl, h1', rfl, e'⟩ | ⟨rfl, rfl, h1', h2', h3', e'⟩ | ⟨rfl, rfl, h1', h2', h3', e'⟩
   ·exfalso; rw [cls3, cls1] at hcls; omega
   ·exfalso
    have hk : v'.kind = 3 := by
     by_cases hk : v'.kind = 3
     ·exact hk
     ·rw [cls3, cls2, if_neg hk] at hcls; omega
    obtain ⟨g1, g2⟩ := addr_of (valB_right h1') hk
    rw [e, e', g2, List.append_assoc] at h
    obtain ⟨-, e2⟩ := span_eq wordC _ _ _ _ (name_word g1) (fn_word h1) hr'.word (Stop.cons (by decide)) h.symm
    rw [e2] at hr'
    exact hr'.not40
   ·rw [e, e'] at h
    simp only [List.append_assoc, List.cons_append, List.nil_append] at h
    obtain ⟨e1, e2⟩ := span_eq wordC _ _ _ _ (fn_word h1) (fn_word h1') (Stop.cons (by decide)) (Stop.cons (by decide)) h
    obtain rfl := data_ext e1
    simp only [List.cons.injEq, true_and] at e2
    have e3 := e2
    have ha := fnArity_range (fnOf s)
    obtain ⟨e4, e5⟩ := seps_apart showM (fun x => rightM d x = true) EndsT 44 [] arg (fun t => EndsT.cons (by decide)) l l' 41 41 r r'
     (fun e => by rw [e] at h2; simp at h2; omega) (fun e => by rw [e] at h2'; simp at h2'; omega) h3 h3' (EndsT.cons (by decide)) (EndsT.cons (by decide)) (by decide) (by decide) e3
    rw [e4]; exact ⟨rfl, (List.cons.inj e5).2⟩
   ·exfalso; rw [cls3, cls4] at hcls; omega
  ·rcases right_cases hy with ⟨rfl, h1', rfl, rfl, e'⟩ | ⟨rfl, rfl, h1', rfl, e'⟩ | ⟨rfl, rfl, h1', h2', h3', e'⟩ | ⟨rfl, rfl, h1', h2', h3', e'⟩
   ·exfalso; rw [cls4, cls1] at hcls; omega
   ·exfalso; rw [cls4, cls2] at hcls; split at hcls <;> omega
   ·exfalso; rw [cls4, cls3] at hcls; omega
   ·rw [e, e'] at h
    simp only [List.cons_append, List.append_assoc, List.cons.injEq, true_and, List.nil_append] at h
    have h4 := h
    match l, l', h2, h2' with
    | [a, b], [a', b'], _, _ =>
     simp only [List.map_cons, List.map_nil, sepL, List.flatten_cons, List.flatten_nil, List.append_nil, List.append_assoc] at h4
     have one : ∀ {s : ByteArray} (h : opB s = true) (t : List UInt8), EndsT (s.data.toList ++ t) := fun h t => by
      rcases opB_text h with e | e | e <;> rw [e] <;> exact EndsT.cons (by decide)
     obtain ⟨e1, e2⟩ := arg a a' _ _ (h3 a (by simp)) (h3' a' (by simp)) (one h1 _) (one h1' _) h4
     have hs : s.data.toList = s'.data.toList ∧ showM b ++ (41 :: r) = showM b' ++ (41 :: r') := by
      refine List.append_inj e2 ?_
      rcases opB_text h1 with e | e | e <;> rcases opB_text h1' with e' | e' | e' <;> rw [e, e'] <;> rfl
     obtain ⟨e3, e4⟩ := arg b b' _ _ (h3 b (by simp)) (h3' b' (by simp)) (EndsT.cons (by decide)) (EndsT.cons (by decide)) hs.2
     rw [e1, e3, data_ext hs.1]
     exact ⟨rfl, (List.cons.inj e4).2⟩
end Go.Proofs.YtgjemmdhamkngaaGreatDoor
namespace Go.Proofs.YtgjemmdhamkngaaGreatDoor
open Go.RowKit
def EndsL (r : List UInt8) : Prop := ∀ c t, r = c :: t → c = 44 ∨ c = 46
theorem EndsL.term {r : List UInt8} (h : EndsL r) : EndsT r := fun c t e => by
 rcases h c t e with rfl | rfl <;> decide
theorem rel_fn {s : ByteArray} (h : relB s = true) (h' : 0 ≤ fnArity (fnOf s)) : False := by
 rw [relB, fnB, decide_eq_true h'] at h
 simp at h
theorem tms_apart (l m : List Tm) (c c' : UInt8) (t t' : List UInt8) (hl : l ≠ []) (hm : m ≠ []) (hPl : ∀ x ∈ l, rightM 8 x = true) (hPm : ∀ x ∈ m, rightM 8 x = true) (hc : endC c = false) (hc' : endC c' = false) (n0 : c ≠ 44) (n0' : c' ≠ 44)
  (h : sepL [44] (l.map showM) ++ c :: t = sepL [44] (m.map showM) ++ c' :: t') : l = m ∧ c :: t = c' :: t' :=
 seps_apart showM (fun x => rightM 8 x = true) EndsT 44 [] (tm_apart 8) (fun t => EndsT.cons (by decide)) l m c c' t t' hl hm hPl hPm (EndsT.cons hc) (EndsT.cons hc') n0 n0' h
theorem li_cases {x : Li} (h : liB x = true) :
  (x.kind = 1 ∧ relB x.name = true ∧ x.args ≠ [] ∧ (∀ y ∈ x.args, rightM 8 y = true) ∧ showLi x = x.name.data.toList ++ (40 :: 64 :: (sepL [44] (x.args.map showM) ++ [41]))) ∨
  (x.kind = 2 ∧ relB x.name = true ∧ x.args ≠ [] ∧ (∀ y ∈ x.args, rightM 8 y = true) ∧ showLi x = 33 :: (x.name.data.toList ++ (40 :: 64 :: (sepL [44] (x.args.map showM) ++ [41])))) ∨
  (x.kind = 3 ∧ cmpB x.name = true ∧ ∃ a b, x.args = [a, b] ∧ rightM 8 a = true ∧ rightM 8 b = true ∧ showLi x = showM a ++ (32 :: (x.name.data.toList ++ (32 :: showM b)))) ∨
  (x.kind = 4 ∧ varB x.name = true ∧ ∃ a, x.args = [a] ∧ rightM 8 a = true ∧ showLi x = x.name.data.toList ++ (32 :: 58 :: 61 :: 32 :: showM a)) := by
 rw [liB] at h
 rw [showLi]
 by_cases e1 : x.kind = 1
 ·rw [if_pos e1] at h ⊢
  rw [atomB] at h
  simp only [Bool.and_eq_true] at h
  obtain ⟨g1, g2, g3⟩ := listB_bounds h.2.1
  exact .inl ⟨e1, h.1, fun e => by rw [e] at g1; simp at g1, g3, rfl⟩
 rw [if_neg e1] at h ⊢
 by_cases e2 : x.kind = 2
 ·rw [if_pos e2] at h ⊢
  rw [atomB] at h
  simp only [Bool.and_eq_true] at h
  obtain ⟨g1, g2, g3⟩ := listB_bounds h.2.1
  exact .inr (.inl ⟨e2, h.1, fun e => by rw [e] at g1; simp at g1, g3, rfl⟩)
 rw [if_neg e2] at h ⊢
 by_cases e3 : x.kind = 3
 ·rw [if_pos e3] at h ⊢
  simp only [Bool.and_eq_true] at h
  obtain ⟨g1, g2, g3⟩ := listB_bounds h.2
  have h2 : x.args.length = 2 := by omega
  match ha : x.args, h2 with
  | [a, b], _ =>
   rw [ha] at g3
   refine .inr (.inr (.inl ⟨e3, h.1, a, b, rfl, g3 a (by simp), g3 b (by simp), ?_⟩))
   simp [sepL]
 rw [if_neg e3] at h ⊢
 by_cases e4 : x.kind = 4
 ·rw [if_pos e4] at h ⊢
  simp only [Bool.and_eq_true] at h
  obtain ⟨g1, g2, g3⟩ := listB_bounds h.2
  obtain ⟨a, ha⟩ : ∃ t, x.args = [t] := List.length_eq_one_iff.1 (by omega)
  rw [ha] at g3
  refine .inr (.inr (.inr ⟨e4, h.1, a, ha, g3 a (by simp), ?_⟩))
  rw [ha]; simp
 ·rw [if_neg e4] at h; cases h
theorem rel_first {s : ByteArray} (h : relB s = true) : ∃ c t, s.data.toList = c :: t ∧ clsC c = 3 ∧ c ≠ 33 := by
 obtain ⟨c, t, e, h1, h2⟩ := name_first (relB_name h)
 exact ⟨c, t, e, cls_small h1, u8_ne (k := 33) (by omega) (by omega)⟩
theorem term_no_atom {a : Tm} {s : ByteArray} {u v : List UInt8} (ha : rightM 8 a = true) (hs : relB s = true) (h : s.data.toList ++ (40 :: 64 :: u) = showM a ++ (32 :: v)) : False := by
 obtain ⟨c, t, e, h1, -⟩ := rel_first hs
 obtain ⟨c', t', e', h1', -, -⟩ := tm_first ha
 have hc : c = c' := by rw [e, e'] at h; exact (List.cons.inj h).1
 match a, ha with
 | .mk k n x l, ha =>
  rcases right_cases (d := 7) ha with ⟨rfl, g1, rfl, rfl, ea⟩ | ⟨rfl, rfl, g1, rfl, ea⟩ | ⟨rfl, rfl, g1, g2, g3, ea⟩ | ⟨rfl, rfl, g1, g2, g3, ea⟩
  ·rw [← hc, h1, cls1] at h1'; omega
  ·rw [← hc, h1, cls2] at h1'
   have hk : x.kind = 3 := by
    by_cases hk : x.kind = 3
    ·exact hk
    ·rw [if_neg hk] at h1'; omega
   obtain ⟨g3, g4⟩ := addr_of (valB_right g1) hk
   rw [ea, g4] at h
   obtain ⟨-, e2⟩ := span_eq wordC _ _ _ _ (rel_word hs) (name_word g3) (Stop.cons (by decide)) (Stop.cons (by decide)) h
   exact absurd (List.cons.inj e2).1 (by decide)
  ·rw [ea] at h
   simp only [List.append_assoc, List.cons_append, List.nil_append] at h
   obtain ⟨e1, -⟩ := span_eq wordC _ _ _ _ (rel_word hs) (fn_word g1) (Stop.cons (by decide)) (Stop.cons (by decide)) h
   rw [← data_ext e1] at g1
   exact rel_fn hs g1
  ·rw [← hc, h1, cls4] at h1'; omega
theorem term_no_set {a : Tm} {s b : ByteArray} {u v : List UInt8} (ha : rightM 8 a = true) (hs : varB s = true) (hb : cmpB b = true) (h : showM a ++ (32 :: (b.data.toList ++ v)) = s.data.toList ++ (32 :: 58 :: u)) : False := by
 obtain ⟨c, t, e, h1, h2⟩ := var_first hs
 obtain ⟨c', t', e', h1', -, -⟩ := tm_first ha
 have hc : c' = c := by rw [e, e'] at h; exact (List.cons.inj h).1
 rw [hc, cls_great h1 h2] at h1'
 match a, ha with
 | .mk k n x l, ha =>
  rcases right_cases (d := 7) ha with ⟨rfl, g1, rfl, rfl, ea⟩ | ⟨rfl, rfl, g1, rfl, ea⟩ | ⟨rfl, rfl, g1, g2, g3, ea⟩ | ⟨rfl, rfl, g1, g2, g3, ea⟩
  ·rw [ea] at h
   obtain ⟨-, e2⟩ := span_eq wordC _ _ _ _ (var_word g1) (var_word hs) (Stop.cons (by decide)) (Stop.cons (by decide)) h
   have e3 := (List.cons.inj e2).2
   rcases cmpB_text hb with e | e | e | e | e | e <;> rw [e] at e3 <;> exact absurd (List.cons.inj e3).1 (by decide)
  ·rw [cls2] at h1'; split at h1' <;> omega
  ·rw [cls3] at h1'; omega
  ·rw [cls4] at h1'; omega
theorem li_kinds {x y : Li} {r r' : List UInt8} (hx : liB x = true) (hy : liB y = true) (h : showLi x ++ r = showLi y ++ r') : ¬ x.kind < y.kind := by
 intro hlt
 rcases li_cases hx with ⟨k1, n1, -, -, e⟩ | ⟨k1, n1, -, -, e⟩ | ⟨k1, n1, a, b, -, ra, rb, e⟩ | ⟨k1, n1, a, -, ra, e⟩
 ·rcases li_cases hy with ⟨k2, n2, -, -, e'⟩ | ⟨k2, n2, -, -, e'⟩ | ⟨k2, n2, a', b', -, ra', rb', e'⟩ | ⟨k2, n2, a', -, ra', e'⟩
  ·omega
  ·obtain ⟨c, t, ec, -, hc⟩ := rel_first n1
   rw [e, e', ec] at h
   exact hc (List.cons.inj h).1
  ·rw [e, e'] at h
   simp only [List.append_assoc, List.cons_append, List.nil_append] at h
   exact term_no_atom ra' n1 h
  ·obtain ⟨c, t, ec, h1, -⟩ := rel_first n1
   obtain ⟨c', t', ec', h2, h3⟩ := var_first n2
   rw [e, e', ec, ec'] at h
   have hc := (List.cons.inj h).1
   rw [hc, cls_great h2 h3] at h1
   omega
 ·have no : ∀ c t, showLi y = c :: t → c ≠ 33 → False := fun c t ec hc => by
   rw [e, ec] at h
   exact hc (List.cons.inj h).1.symm
  rcases li_cases hy with ⟨k2, n2, -, -, e'⟩ | ⟨k2, n2, -, -, e'⟩ | ⟨k2, n2, a', b', -, ra', rb', e'⟩ | ⟨k2, n2, a', -, ra', e'⟩
  ·omega
  ·omega
  ·obtain ⟨c, t, ec, -, hc, -⟩ := tm_first ra'
   rw [ec] at e'
   exact no _ _ e' hc
  ·obtain ⟨c, t, ec, h2, h3⟩ := var_first n2
   rw [ec] at e'
   exact no _ _ e' (u8_ne (k := 33) (by omega) (by omega))
 ·rcases li_cases hy with ⟨k2, n2, -, -, e'⟩ | ⟨k2, n2, -, -, e'⟩ | ⟨k2, n2, a', b', -, ra', rb', e'⟩ | ⟨k2, n2, a', -, ra', e'⟩
  ·omega
  ·omega
  ·omega
  ·rw [e, e'] at h
   simp only [List.append_assoc, List.cons_append] at h
   exact term_no_set ra n2 n1 h
 ·rcases li_cases hy with ⟨k2, n2, -, -, e'⟩ | ⟨k2, n2, -, -, e'⟩ | ⟨k2, n2, a', b', -, ra', rb', e'⟩ | ⟨k2, n2, a', -, ra', e'⟩ <;> omega
theorem li_apart (x y : Li) (r r' : List UInt8) (hx : liB x = true) (hy : liB y = true) (hr : EndsL r) (hr' : EndsL r') (h : showLi x ++ r = showLi y ++ r') : x = y ∧ r = r' := by
 have hk : x.kind = y.kind := by
  have h1 := li_kinds hx hy h
  have h2 := li_kinds hy hx h.symm
  omega
 have fin : x.name.data.toList = y.name.data.toList → x.args = y.args → x = y := fun e1 e2 => by
  cases x; cases y
  simp only at hk e1 e2
  rw [hk, e2, data_ext e1]
 rcases li_cases hx with ⟨k1, n1, a1, g1, e⟩ | ⟨k1, n1, a1, g1, e⟩ | ⟨k1, n1, a, b, ea, ra, rb, e⟩ | ⟨k1, n1, a, ea, ra, e⟩
 ·rcases li_cases hy with ⟨k2, n2, a2, g2, e'⟩ | ⟨k2, n2, -, -, e'⟩ | ⟨k2, n2, a', b', -, ra', rb', e'⟩ | ⟨k2, n2, a', -, ra', e'⟩
  ·rw [e, e'] at h
   simp only [List.append_assoc, List.cons_append, List.nil_append] at h
   obtain ⟨e1, e2⟩ := span_eq wordC _ _ _ _ (rel_word n1) (rel_word n2) (Stop.cons (by decide)) (Stop.cons (by decide)) h
   simp only [List.cons.injEq, true_and] at e2
   obtain ⟨e3, e4⟩ := tms_apart _ _ _ _ _ _ a1 a2 g1 g2 (by decide) (by decide) (by decide) (by decide) e2
   exact ⟨fin e1 e3, (List.cons.inj e4).2⟩
  all_goals omega
 ·rcases li_cases hy with ⟨k2, n2, a2, g2, e'⟩ | ⟨k2, n2, a2, g2, e'⟩ | ⟨k2, n2, a', b', -, ra', rb', e'⟩ | ⟨k2, n2, a', -, ra', e'⟩
  ·omega
  ·rw [e, e'] at h
   simp only [List.append_assoc, List.cons_append, List.nil_append, List.cons.injEq, true_and] at h
   obtain ⟨e1, e2⟩ := span_eq wordC _ _ _ _ (rel_word n1) (rel_word n2) (Stop.cons (by decide)) (Stop.cons (by decide)) h
   simp only [List.cons.injEq, true_and] at e2
   obtain ⟨e3, e4⟩ := tms_apart _ _ _ _ _ _ a1 a2 g1 g2 (by decide) (by decide) (by decide) (by decide) e2
   exact ⟨fin e1 e3, (List.cons.inj e4).2⟩
  all_goals omega
 ·rcases li_cases hy with ⟨k2, n2, a2, g2, e'⟩ | ⟨k2, n2, a2, g2, e'⟩ | ⟨k2, n2, a', b', ea', ra', rb', e'⟩ | ⟨k2, n2, a', -, ra', e'⟩
  ·omega
  ·omega
  ·rw [e, e'] at h
   simp only [List.append_assoc, List.cons_append] at h
   obtain ⟨e1, e2⟩ := tm_apart 8 _ _ _ _ ra ra' (EndsT.cons (by decide)) (EndsT.cons (by decide)) h
   simp only [List.cons.injEq, true_and] at e2
   have cmp : ∀ {s : ByteArray}, cmpB s = true → ∀ c ∈ s.data.toList, (!(c == 32)) = true := fun h => by
    rcases cmpB_text h with e | e | e | e | e | e <;> rw [e] <;> decide
   obtain ⟨e3, e4⟩ := span_eq (fun c => !(c == 32)) _ _ _ _ (cmp n1) (cmp n2) (Stop.cons (by decide)) (Stop.cons (by decide)) e2
   simp only [List.cons.injEq, true_and] at e4
   obtain ⟨e5, e6⟩ := tm_apart 8 _ _ _ _ rb rb' hr.term hr'.term e4
   exact ⟨fin e3 (by rw [ea, ea', e1, e5]), e6⟩
  ·omega
 ·rcases li_cases hy with ⟨k2, n2, a2, g2, e'⟩ | ⟨k2, n2, a2, g2, e'⟩ | ⟨k2, n2, a', b', ea', ra', rb', e'⟩ | ⟨k2, n2, a', ea', ra', e'⟩
  ·omega
  ·omega
  ·omega
  ·rw [e, e'] at h
   simp only [List.append_assoc, List.cons_append] at h
   obtain ⟨e1, e2⟩ := span_eq wordC _ _ _ _ (var_word n1) (var_word n2) (Stop.cons (by decide)) (Stop.cons (by decide)) h
   simp only [List.cons.injEq, true_and] at e2
   obtain ⟨e5, e6⟩ := tm_apart 8 _ _ _ _ ra ra' hr.term hr'.term e2
   exact ⟨fin e1 (by rw [ea, ea', e5]), e6⟩
theorem agg_some {s : ByteArray} (h : aggNameB s = true) : s.toList.isEmpty = false := by
 rw [Lib.toList_data]
 rcases aggName_text h with e | e | e <;> rw [e] <;> rfl
theorem agg_first {s : ByteArray} (h : aggNameB s = true) : ∃ c t, s.data.toList = c :: t ∧ clsC c = 3 := by
 rcases aggName_text h with e | e | e <;> rw [e] <;> exact ⟨_, _, rfl, by decide⟩
theorem term_no_agg {a : Tm} {s : ByteArray} {r u : List UInt8} (ha : rightM 8 a = true) (hs : aggNameB s = true) (hr : EndsT r) (h : showM a ++ r = s.data.toList ++ (60 :: u)) : False := by
 obtain ⟨c, t, e, h1⟩ := agg_first hs
 obtain ⟨c', t', e', h1', -, -⟩ := tm_first ha
 have hc : c' = c := by rw [e, e'] at h; exact (List.cons.inj h).1
 rw [hc, h1] at h1'
 obtain ⟨p, q, e1, hp, hq⟩ := term_word ha (.inr h1'.symm)
 rw [e1, List.append_assoc] at h
 rcases hq with rfl | ⟨z, rfl⟩
 ·obtain ⟨-, e2⟩ := span_eq wordC _ _ _ _ hp (agg_word hs) (by simpa using hr.word) (Stop.cons (by decide)) h
  simp only [List.nil_append] at e2
  rw [e2] at hr
  exact hr.not60
 ·simp only [List.cons_append] at h
  obtain ⟨-, e2⟩ := span_eq wordC _ _ _ _ hp (agg_word hs) (Stop.cons (by decide)) (Stop.cons (by decide)) h
  exact absurd (List.cons.inj e2).1 (by decide)
theorem elem_apart (x y : ByteArray × Tm) (r r' : List UInt8) (hx : elemB x) (hy : elemB y) (hr : EndsT r) (hr' : EndsT r') (h : showE x ++ r = showE y ++ r') : x = y ∧ r = r' := by
 obtain ⟨s, a⟩ := x
 obtain ⟨s', a'⟩ := y
 obtain ⟨ha, hs⟩ := hx
 obtain ⟨ha', hs'⟩ := hy
 simp only [showE] at h ha ha' hs hs'
 rcases hs with rfl | hs <;> rcases hs' with rfl | hs'
 ·rw [if_pos no_text, if_pos no_text] at h
  obtain ⟨e1, e2⟩ := tm_apart 8 _ _ _ _ ha ha' hr hr' h
  rw [e1]; exact ⟨rfl, e2⟩
 ·rw [if_pos no_text, if_neg (by rw [agg_some hs']; decide)] at h
  simp only [List.append_assoc, List.cons_append] at h
  exact (term_no_agg ha hs' hr h).elim
 ·rw [if_pos no_text, if_neg (by rw [agg_some hs]; decide)] at h
  simp only [List.append_assoc, List.cons_append] at h
  exact (term_no_agg ha' hs hr' h.symm).elim
 ·rw [if_neg (by rw [agg_some hs]; decide), if_neg (by rw [agg_some hs']; decide)] at h
  simp only [List.append_assoc, List.cons_append, List.nil_append] at h
  obtain ⟨e1, e2⟩ := span_eq wordC _ _ _ _ (agg_word hs) (agg_word hs') (Stop.cons (by decide)) (Stop.cons (by decide)) h
  simp only [List.cons.injEq, true_and] at e2
  obtain ⟨e3, e4⟩ := tm_apart 8 _ _ _ _ ha ha' (EndsT.cons (by decide)) (EndsT.cons (by decide)) e2
  rw [data_ext e1, e3]; exact ⟨rfl, (List.cons.inj e4).2⟩
theorem elems_inj {x y : Ru} (hx : aggB x = true) (hy : aggB y = true) (h : elems x = elems y) : x.args = y.args ∧ x.agg = y.agg ∧ x.at' = y.at' := by
 have ha : x.args = y.args := by
  have e : ∀ z : Ru, (elems z).map (·.2) = z.args := fun z => by
   apply List.ext_getElem
   ·simp [elems]
   ·intro i h1 h2; simp [elems]
  have h1 := congrArg (List.map (·.2)) h
  rw [e, e] at h1
  exact h1
 have hat : ∀ i, i < x.args.length → elemAt x i = elemAt y i := fun i hi => by
  have h1 : (elems x)[i]'(by simpa [elems] using hi) = (elems y)[i]'(by rw [← h]; simpa [elems] using hi) := by simp only [h]
  simp only [elems, List.getElem_mapIdx] at h1
  exact (Prod.mk.inj h1).1
 refine ⟨ha, ?_⟩
 have some_ : ∀ {z : Ru}, aggB z = true → z.agg.toList.isEmpty = false → aggNameB z.agg = true ∧ 1 ≤ z.at' ∧ z.at' < z.args.length := fun {z} h e => by
  rw [aggB, if_neg (by rw [e]; decide)] at h
  simp only [Bool.and_eq_true, decide_eq_true_eq] at h
  exact ⟨h.1, h.2.1, h.2.2.1⟩
 have none_ : ∀ {z : Ru}, aggB z = true → z.agg.toList.isEmpty = true → z.agg = ⟨#[]⟩ ∧ z.at' = 0 := fun {z} h e => by
  rw [aggB, if_pos e] at h
  exact ⟨none_of e, by simpa using h⟩
 have clash : ∀ {z u : Ru}, aggB z = true → aggB u = true → z.agg.toList.isEmpty = false → (∀ i, i < z.args.length → elemAt z i = elemAt u i) → u.agg.toList.isEmpty = false ∧ z.agg = u.agg ∧ z.at' = u.at' := fun {z u} hz hu e hat => by
  obtain ⟨s1, s2, s3⟩ := some_ hz e
  obtain ⟨k, hk⟩ := Int.eq_ofNat_of_zero_le (show 0 ≤ z.at' by omega)
  have h1 := hat k (by omega)
  rw [elemAt, if_neg (by rw [e, hk]; simp), elemAt] at h1
  split at h1
  ·rw [h1] at e; rw [no_text] at e; cases e
  ·rename_i c
   refine ⟨?_, h1, ?_⟩
   ·cases hu' : u.agg.toList.isEmpty with
    | false => rfl
    | true => exact absurd (.inl hu') c
   ·rw [hk]
    by_cases c2 : (k : Int) = u.at'
    ·exact c2
    ·exact absurd (.inr c2) c
 cases e : x.agg.toList.isEmpty with
 | false =>
  obtain ⟨-, h1, h2⟩ := clash hx hy e hat
  exact ⟨h1, h2⟩
 | true =>
  cases e' : y.agg.toList.isEmpty with
  | false =>
   obtain ⟨h0, -, -⟩ := clash hy hx e' (fun i hi => (hat i (by rw [ha]; exact hi)).symm)
   rw [e] at h0; cases h0
  | true =>
   obtain ⟨h1, h2⟩ := none_ hx e
   obtain ⟨h3, h4⟩ := none_ hy e'
   exact ⟨by rw [h1, h3], by rw [h2, h4]⟩
theorem rel_mat {s : ByteArray} (h : relB s = true) (e : s.data.toList = matL) : False := by
 rw [relB, declB, Lib.toList_data, e] at h
 simp [matL] at h
theorem ln_apart (x y : Ln) (r r' : List UInt8) (hx : lnB x = true) (hy : lnB y = true) (h : showLn x ++ 10 :: r = showLn y ++ 10 :: r') : x = y ∧ r = r' := by
 have df : ∀ {x : De} {y : Fa} {u v : List UInt8}, deB x = true → faB y = true → showDe x ++ u = showFa y ++ v → False := fun hx hy h => by
  obtain ⟨-, e⟩ := de_form hx
  obtain ⟨g, -, -, e'⟩ := fa_form hy
  rw [e, e'] at h
  simp only [List.append_assoc, List.cons_append] at h
  obtain ⟨e1, -⟩ := span_eq wordC _ _ _ _ mat_word (rel_word g) (Stop.cons (by decide)) (Stop.cons (by decide)) h
  exact rel_mat g e1.symm
 have dr : ∀ {x : De} {y : Ru} {u v : List UInt8}, deB x = true → ruB y = true → showDe x ++ u = showRu y ++ v → False := fun hx hy h => by
  obtain ⟨-, e⟩ := de_form hx
  obtain ⟨g, -, -, -, -, -, -, e'⟩ := ru_form hy
  rw [e, e'] at h
  simp only [List.append_assoc, List.cons_append] at h
  obtain ⟨-, e2⟩ := span_eq wordC _ _ _ _ mat_word (rel_word g) (Stop.cons (by decide)) (Stop.cons (by decide)) h
  exact absurd (List.cons.inj e2).1 (by decide)
 have fr : ∀ {x : Fa} {y : Ru} {u v : List UInt8}, faB x = true → ruB y = true → showFa x ++ u = showRu y ++ v → False := fun hx hy h => by
  obtain ⟨g', -, -, e⟩ := fa_form hx
  obtain ⟨g, -, -, -, -, -, -, e'⟩ := ru_form hy
  rw [e, e'] at h
  simp only [List.append_assoc, List.cons_append] at h
  obtain ⟨-, e2⟩ := span_eq wordC _ _ _ _ (rel_word g') (rel_word g) (Stop.cons (by decide)) (Stop.cons (by decide)) h
  exact absurd (List.cons.inj e2).1 (by decide)
 cases x with
 | d x =>
  cases y with
  | d y =>
   obtain ⟨g, e⟩ := de_form hx
   obtain ⟨g', e'⟩ := de_form hy
   simp only [showLn] at h
   rw [e, e'] at h
   simp only [List.append_assoc, List.cons_append, List.nil_append] at h
   have h1 := List.append_cancel_left h
   simp only [List.cons.injEq, true_and] at h1
   obtain ⟨e1, e2⟩ := span_eq wordC _ _ _ _ (rel_word g) (rel_word g') (Stop.cons (by decide)) (Stop.cons (by decide)) h1
   simp only [List.cons.injEq, true_and] at e2
   obtain ⟨e3, e4⟩ := itoa_apart (Stop.cons (by decide)) (Stop.cons (by decide)) e2
   simp only [List.cons.injEq, true_and] at e4
   refine ⟨?_, e4⟩
   cases x; cases y
   simp only at e1 e3
   rw [data_ext e1, e3]
  | f y => exact (df hx hy h).elim
  | r y => exact (dr hx hy h).elim
 | f x =>
  cases y with
  | d y => exact (df hy hx h.symm).elim
  | f y =>
   obtain ⟨g, a1, g1, e⟩ := fa_form hx
   obtain ⟨g', a2, g2, e'⟩ := fa_form hy
   simp only [showLn] at h
   rw [e, e'] at h
   simp only [List.append_assoc, List.cons_append, List.nil_append] at h
   obtain ⟨e1, e2⟩ := span_eq wordC _ _ _ _ (rel_word g) (rel_word g') (Stop.cons (by decide)) (Stop.cons (by decide)) h
   simp only [List.cons.injEq, true_and] at e2
   obtain ⟨e3, e4⟩ := seps_apart printB (fun x => rightV 4 x = true) EndsT 44 [] (fun x y r r' hx hy hr hr' h => val_apart hx hy hr hr' h) (fun t => EndsT.cons (by decide)) _ _ _ _ _ _ a1 a2 g1 g2 (EndsT.cons (by decide)) (EndsT.cons (by decide)) (by decide) (by decide) e2
   simp only [List.cons.injEq, true_and] at e4
   refine ⟨?_, e4⟩
   cases x; cases y
   simp only at e1 e3
   rw [data_ext e1, e3]
  | r y => exact (fr hx hy h).elim
 | r x =>
  cases y with
  | d y => exact (dr hy hx h.symm).elim
  | f y => exact (fr hy hx h.symm).elim
  | r y =>
   obtain ⟨g, p, q, a1, g1, b1, k1, e⟩ := ru_form hx
   obtain ⟨g', p', q', a2, g2, b2, k2, e'⟩ := ru_form hy
   simp only [showLn] at h
   rw [e, e'] at h
   simp only [List.append_assoc, List.cons_append, List.nil_append] at h
   obtain ⟨e1, e2⟩ := span_eq wordC _ _ _ _ (rel_word g) (rel_word g') (Stop.cons (by decide)) (Stop.cons (by decide)) h
   simp only [List.cons.injEq, true_and] at e2
   obtain ⟨e3, e4⟩ := span_eq wordC _ _ _ _ (rel_word p) (rel_word p') (Stop.cons (by decide)) (Stop.cons (by decide)) e2
   simp only [List.cons.injEq, true_and] at e4
   obtain ⟨e5, e6⟩ := seps_apart showE elemB EndsT 44 [] elem_apart (fun t => EndsT.cons (by decide)) _ _ _ _ _ _ a1 a2 g1 g2 (EndsT.cons (by decide)) (EndsT.cons (by decide)) (by decide) (by decide) e4
   simp only [List.cons.injEq, true_and] at e6
   have el : ∀ {c : UInt8} {t : List UInt8}, c = 44 ∨ c = 46 → EndsL (c :: t) := fun h c' t' e => by rw [← (List.cons.inj e).1]; exact h
   obtain ⟨e7, e8⟩ := seps_apart showLi (fun x => liB x = true) EndsL 44 [32] li_apart (fun t => el (.inl rfl)) _ _ _ _ _ _ b1 b2 k1 k2 (el (.inr rfl)) (el (.inr rfl)) (by decide) (by decide) e6
   simp only [List.cons.injEq, true_and] at e8
   obtain ⟨e9, e10, e11⟩ := elems_inj q q' e5
   refine ⟨?_, e8⟩
   cases x; cases y
   simp only at e1 e3 e7 e9 e10 e11
   rw [data_ext e1, data_ext e3, e7, e9, e10, e11]
theorem lns_apart : ∀ (l m : List Ln), (∀ x ∈ l, lnB x = true) → (∀ x ∈ m, lnB x = true) → linesOf (l.map showLn) = linesOf (m.map showLn) → l = m
 | [], [], _, _, _ => rfl
 | [], y :: m, _, _, h => by
  have := congrArg List.length h
  simp [linesOf] at this
 | x :: l, [], _, _, h => by
  have := congrArg List.length h
  simp [linesOf] at this
 | x :: l, y :: m, hl, hm, h => by
  simp only [linesOf, List.map_cons, List.flatten_cons, List.append_assoc, List.cons_append, List.nil_append] at h
  obtain ⟨e1, e2⟩ := ln_apart x y _ _ (hl x (by simp)) (hm y (by simp)) h
  rw [e1, lns_apart l m (fun z hz => hl z (by simp [hz])) (fun z hz => hm z (by simp [hz])) e2]
def asD : Ln → Option De
 | .d x => some x
 | _ => none
def asF : Ln → Option Fa
 | .f x => some x
 | _ => none
def asR : Ln → Option Ru
 | .r x => some x
 | _ => none
theorem none_all {α β : Type} (l : List α) : l.filterMap (fun _ => (none : Option β)) = [] := by
 induction l with
 | nil => rfl
 | cons x l ih => simp
theorem linesIn_inj {x y : Pr} (h : linesIn x = linesIn y) : x = y := by
 have ds : ∀ z : Pr, (linesIn z).filterMap asD = z.decls := fun z => by
  simp [linesIn, List.filterMap_append, List.filterMap_map, Function.comp_def, asD, none_all]
 have fs : ∀ z : Pr, (linesIn z).filterMap asF = z.facts := fun z => by
  simp [linesIn, List.filterMap_append, List.filterMap_map, Function.comp_def, asF, none_all]
 have rs : ∀ z : Pr, (linesIn z).filterMap asR = z.rules := fun z => by
  simp [linesIn, List.filterMap_append, List.filterMap_map, Function.comp_def, asR, none_all]
 have h1 := ds x
 have h2 := fs x
 have h3 := rs x
 rw [h, ds] at h1
 rw [h, fs] at h2
 rw [h, rs] at h3
 cases x; cases y
 simp only at h1 h2 h3
 rw [h1, h2, h3]
theorem pr_text_apart {x y : Pr} (hx : prB x = true) (hy : prB y = true) (h : showPr x = showPr y) : x = y := by
 rw [showPr_lines, showPr_lines] at h
 exact linesIn_inj (lns_apart _ _ (lines_right hx) (lines_right hy) h)
end Go.Proofs.YtgjemmdhamkngaaGreatDoor
