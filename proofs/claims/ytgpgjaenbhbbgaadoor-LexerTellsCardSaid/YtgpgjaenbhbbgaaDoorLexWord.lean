/-
  Words of tokens as plain data: each, with the end or a blank behind, is scanned to its token.
-/
import Derived.Test.YtgpgjaenbhbbgaaDoorLexData
import Derived.Test.YtgpgjaenbhbbgaaDoorNameOf
namespace Go.Proofs.YtgpgjaenbhbbgaaDoor
open Go.RowKit
open Go.Proofs.YtgpgjaenbhbbgaaDoor.valueNames (nameB_list ba_get)

def Stop (r : List UInt8) : Prop := r = [] ∨ ∃ t, r = 32 :: t
/-- A byte with which a token may begin. -/
def plainB (c : UInt8) : Bool := !(blankZ (c.toNat : Int)) && !(c.toNat == 37)
/-- A word: with nothing, or a blank, behind it is read as t. -/
def IsWord (w : List UInt8) (t : Read) : Prop := ∃ c w', w = c :: w' ∧ plainB c = true ∧ t.len = w.length ∧ ∀ r, Stop r → readL (c.toNat : Int) (w ++ r) = some t

theorem plain_parts {c : UInt8} (h : plainB c = true) : c.toNat ≠ 10 ∧ blankZ (c.toNat : Int) = false ∧ c.toNat ≠ 37 := by
  simp only [plainB, blankZ, Bool.and_eq_true, Bool.not_eq_true', Bool.or_eq_false_iff, beq_eq_false_iff_ne] at h ⊢
  obtain ⟨⟨h1, h2, h3⟩, h4⟩ := h
  exact ⟨by omega, ⟨h1, h2, h3⟩, h4⟩
theorem scan_plain {c : UInt8} (h : plainB c = true) (r : List UInt8) (line col : Nat) : scanS 0 (c :: r) line col = match readL (c.toNat : Int) (c :: r) with
      | none => .bad line col
      | some t => (scanS (t.len - 1) r line (col + 1)).app [Tok.of t line col] := by
  obtain ⟨h1, h2, h3⟩ := plain_parts h
  rw [scanS, if_neg h1, if_neg (by rw [h2]; simp), if_neg h3]
  cases readL (c.toNat : Int) (c :: r) <;> rfl
theorem scan_word {w : List UInt8} {t : Read} (h : IsWord w t) (r : List UInt8) (hr : Stop r) (line col : Nat) :
    scanS 0 (w ++ r) line col = (scanS 0 r line (col + w.length)).app [Tok.of t line col] := by
  obtain ⟨c, w', rfl, hp, hl, hre⟩ := h
  have h0 := hre r hr
  rw [List.cons_append] at h0 ⊢
  rw [scan_plain hp, h0]
  simp only [List.length_cons] at hl ⊢
  rw [scanS_skip w'.length (t.len - 1) _ _ _ (by omega) (by simp; omega), List.drop_left, show t.len - 1 - w'.length = 0 by omega, show col + 1 + w'.length = col + (w'.length + 1) by omega]
theorem scan_blank (r : List UInt8) (line col : Nat) : scanS 0 (32 :: r) line col = scanS 0 r line (col + 1) := by
  rw [scanS, if_neg (by decide), if_pos (by decide)]
theorem scan_feed (r : List UInt8) (line col : Nat) : scanS 0 (10 :: r) line col = scanS 0 r (line + 1) 1 := by
  rw [scanS, if_pos (by decide)]
theorem scan_tab (r : List UInt8) (line col : Nat) : scanS 0 (9 :: r) line col = scanS 0 r line (col + 1) := by
  rw [scanS, if_neg (by decide), if_pos (by decide)]

theorem take_stop (g : Int → Bool) (hg : g 32 = false) (w r : List UInt8) (hw : ∀ c ∈ w, onB g c = true) (hr : Stop r) : (w ++ r).takeWhile (onB g) = w := by
  rw [List.takeWhile_append_of_pos hw]
  rcases hr with rfl | ⟨t, rfl⟩
  · simp
  · have : onB g 32 = false := hg
    rw [List.takeWhile_cons, this]; simp

theorem okAt_word {i : Nat} {r : Int} (h : okAt i r = true) : wordZ r = true := by
  simp only [okAt, wordZ, smallB, smallZ, digitB, digitZ, Bool.or_eq_true, Bool.and_eq_true] at h ⊢
  rcases h with h | ⟨_, h | h⟩
  · exact .inl h
  · exact .inr (.inr (.inl h))
  · exact .inr (.inr (.inr h))
theorem okAt_zero {r : Int} (h : okAt 0 r = true) : smallZ r = true := by simpa [okAt, smallB, smallZ] using h
theorem plain_of {c : UInt8} (h : 37 < c.toNat) : plainB c = true := by
  simp only [plainB, blankZ, Bool.and_eq_true, Bool.not_eq_true', Bool.or_eq_false_iff, beq_eq_false_iff_ne]
  omega
theorem small_range {r : Int} : smallZ r = true ↔ 97 ≤ r ∧ r ≤ 122 := by simp [smallZ]
theorem great_range {r : Int} : greatZ r = true ↔ 65 ≤ r ∧ r ≤ 90 := by simp [greatZ]
theorem digit_range {r : Int} : digitZ r = true ↔ 48 ≤ r ∧ r ≤ 57 := by simp [digitZ]
theorem not_small {r : Int} (h : r < 97 ∨ 122 < r) : smallZ r = false := by rw [← Bool.not_eq_true, small_range]; omega
theorem not_great {r : Int} (h : r < 65 ∨ 90 < r) : greatZ r = false := by rw [← Bool.not_eq_true, great_range]; omega
theorem not_digit {r : Int} (h : r < 48 ∨ 57 < r) : digitZ r = false := by rw [← Bool.not_eq_true, digit_range]; omega

theorem read_small {c : Int} (h : smallZ c = true) (l : List UInt8) : readL c l = nameR l := by rw [readL, if_pos h]
theorem read_great {c : Int} (h : greatZ c = true) (l : List UInt8) : readL c l = varR l := by
  rw [readL, if_neg (by rw [not_small (by have := great_range.1 h; omega)]; simp), if_pos h]
theorem read_digit {c : Int} (h : digitZ c = true) (l : List UInt8) : readL c l = numR l := by
  have := digit_range.1 h
  rw [readL, if_neg (by rw [not_small (by omega)]; simp), if_neg (by rw [not_great (by omega)]; simp), if_pos h]
theorem read_quote (l : List UInt8) : readL 34 l = textR l := rfl
theorem read_other {c : Int} (h1 : smallZ c = false) (h2 : greatZ c = false) (h3 : digitZ c = false) (h4 : c ≠ 34) (l : List UInt8) : readL c l = signR l := by
  rw [readL, if_neg (by rw [h1]; simp), if_neg (by rw [h2]; simp), if_neg (by rw [h3]; simp), if_neg (by simpa using h4)]

theorem name_word {w : List UInt8} (h : nameB ⟨w.toArray⟩ = true) : IsWord w ⟨1, w, 0, w.length⟩ := by
  have h' := (nameB_list w).1 h
  obtain ⟨h1, h2, h3⟩ := h'
  match w, h1, h, h2, h3 with
  | c :: w', _, h, h2, h3 =>
    have hs : smallZ (c.toNat : Int) = true := okAt_zero (h3 0 (by simp))
    refine ⟨c, w', rfl, plain_of (by have := small_range.1 hs; omega), rfl, fun r hr => ?_⟩
    have ht := take_stop wordZ (by decide) (c :: w') r (fun x hx => by
      obtain ⟨i, hi, rfl⟩ := List.getElem_of_mem hx
      exact okAt_word (h3 i hi)) hr
    rw [read_small hs, nameR, spanL, ht, if_pos h]
theorem var_word {c : UInt8} {w' : List UInt8} (hc : greatZ (c.toNat : Int) = true) (hw : ∀ x ∈ w', wordZ (x.toNat : Int) = true) (hl : w'.length ≤ 15) : IsWord (c :: w') ⟨2, c :: w', 0, (c :: w').length⟩ := by
  refine ⟨c, w', rfl, plain_of (by have := great_range.1 hc; omega), rfl, fun r hr => ?_⟩
  have ht := take_stop wordZ (by decide) (c :: w') r (fun x hx => by
    rcases List.mem_cons.1 hx with rfl | hx
    · show wordZ _ = true; simp [wordZ, hc]
    · exact hw x hx) hr
  rw [read_great hc, varR, spanL, ht, if_neg (by simp; omega)]
theorem num_word {c : UInt8} {w' : List UInt8} (hw : ∀ x ∈ c :: w', digitZ (x.toNat : Int) = true) (hl : w'.length ≤ 9) (hn : numL (c :: w') ≤ 2147483647) : IsWord (c :: w') ⟨3, c :: w', numL (c :: w'), (c :: w').length⟩ := by
  have hc := hw c (by simp)
  refine ⟨c, w', rfl, plain_of (by have := digit_range.1 hc; omega), rfl, fun r hr => ?_⟩
  have ht := take_stop digitZ (by decide) (c :: w') r hw hr
  rw [read_digit hc, numR, spanL, ht, if_neg (by simp; omega), if_neg (by omega)]
theorem textB_mem {x : List UInt8} (h : textB ⟨x.toArray⟩ = true) : ∀ c ∈ x, okText (c.toNat : Int) = true := by
  intro c hc
  obtain ⟨i, hi, rfl⟩ := List.getElem_of_mem hc
  have hz : i < (⟨x.toArray⟩ : ByteArray).size := by rw [size_mk]; exact hi
  have h2 := (of_decide_eq_true h).2 i hz
  rwa [ba_get x i hz hi] at h2
theorem text_word {x : List UInt8} (h : textB ⟨x.toArray⟩ = true) : IsWord (34 :: (x ++ [34])) ⟨4, x, 0, x.length + 2⟩ := by
  refine ⟨34, _, rfl, by decide, by simp, fun r hr => ?_⟩
  have hq : ∀ c ∈ x, onB notQuoteZ c = true := fun c hc => by
    have := textB_mem h c hc
    simp only [okText, decide_eq_true_eq] at this
    simp only [onB, notQuoteZ, bne_iff_ne]
    exact this.2.2.1
  have ht : ((x ++ [34]) ++ r).takeWhile (onB notQuoteZ) = x := by
    rw [List.append_assoc, List.takeWhile_append_of_pos hq]
    have : onB notQuoteZ 34 = false := by decide
    simp [this]
  show readL 34 _ = _
  rw [read_quote, textR, List.cons_append, List.tail_cons, spanL, ht, if_neg (by simp), if_pos h]
theorem sign_word {x : List UInt8} (h : x ∈ signsL) : IsWord x ⟨5, x, 0, x.length⟩ := by
  simp only [signsL, List.mem_cons, List.not_mem_nil, or_false] at h
  rcases h with rfl | rfl | rfl | rfl | rfl | rfl | rfl | rfl | rfl | rfl | rfl | rfl | rfl | rfl | rfl | rfl | rfl | rfl | rfl <;>
  · refine ⟨_, _, rfl, by decide, rfl, fun r hr => ?_⟩
    rw [read_other (by decide) (by decide) (by decide) (by decide), signR]
    rcases hr with rfl | ⟨t, rfl⟩ <;> simp [signsL, signIn, Lib.hasPrefix]

/-- What stands in a text for a token. -/
def wordOf (t : Read) : List UInt8 := if t.kind = 4 then 34 :: (t.text ++ [34]) else t.text


theorem signIn_mem : ∀ (S : List (List UInt8)) (l x : List UInt8), signIn S l = some x → x ∈ S
  | y :: S, l, x, h => by
    rw [signIn] at h
    split at h
    · cases h; simp
    · exact List.mem_cons_of_mem _ (signIn_mem S l x h)
/-- What is read is a word. -/
theorem read_word {c : UInt8} {r : List UInt8} {t : Read} (h : readL (c.toNat : Int) (c :: r) = some t) : IsWord (wordOf t) t := by
  unfold readL at h
  split at h
  · rename_i hc
    unfold nameR at h
    split at h
    · rename_i hn
      cases h
      exact name_word hn
    · cases h
  split at h
  · rename_i hc hg
    unfold varR at h
    split at h
    · cases h
    · rename_i hn
      cases h
      have hw : onB wordZ c = true := by show wordZ _ = true; simp [wordZ, hg]
      have e : (c :: r).takeWhile (onB wordZ) = c :: r.takeWhile (onB wordZ) := by rw [List.takeWhile_cons, hw]; rfl
      rw [spanL, e, List.length_cons] at hn
      show IsWord ((c :: r).takeWhile (onB wordZ)) ⟨2, (c :: r).takeWhile (onB wordZ), 0, ((c :: r).takeWhile (onB wordZ)).length⟩
      rw [e]
      exact var_word hg (fun x hx => (List.all_eq_true.1 List.all_takeWhile) x hx) (by omega)
  split at h
  · rename_i hc hg hd
    unfold numR at h
    split at h
    · cases h
    · rename_i hn
      split at h
      · cases h
      · rename_i hm
        cases h
        have hw : onB digitZ c = true := hd
        have e : (c :: r).takeWhile (onB digitZ) = c :: r.takeWhile (onB digitZ) := by rw [List.takeWhile_cons, hw]; rfl
        rw [spanL, e, List.length_cons] at hn
        have ha := List.all_eq_true.1 (List.all_takeWhile (p := onB digitZ) (l := c :: r))
        show IsWord ((c :: r).takeWhile (onB digitZ)) ⟨3, (c :: r).takeWhile (onB digitZ), numL ((c :: r).takeWhile (onB digitZ)), ((c :: r).takeWhile (onB digitZ)).length⟩
        rw [e] at hm ha ⊢
        exact num_word (fun x hx => ha x hx) (by omega) (by omega)
  split at h
  · unfold textR at h
    split at h
    · cases h
    · split at h
      · rename_i hn
        cases h
        exact text_word hn
      · cases h
  · unfold signR at h
    rw [Option.map_eq_some_iff] at h
    obtain ⟨x, hx, rfl⟩ := h
    exact sign_word (signIn_mem _ _ _ hx)

end Go.Proofs.YtgpgjaenbhbbgaaDoor
