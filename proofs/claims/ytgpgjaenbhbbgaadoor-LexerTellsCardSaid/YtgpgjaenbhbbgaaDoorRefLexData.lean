/-
  A text as the document's own answer scans it, place by place, as plain data.
-/
import Derived.Test.YtgpgjaenbhbbgaaDoorLexWalk
namespace Go.Proofs.YtgpgjaenbhbbgaaDoor
open Go.RowKit

/-- A place, behind one more byte. -/
def goOn (p : Nat × Nat) (c : UInt8) : Nat × Nat := if c.toNat = 10 then (p.1 + 1, 1) else (p.1, p.2 + 1)
/-- The place behind some bytes. -/
def placeL (l : List UInt8) : Nat × Nat := l.foldl goOn (1, 1)
theorem placeL_snoc (l : List UInt8) (c : UInt8) : placeL (l ++ [c]) = goOn (placeL l) c := by simp [placeL]
theorem goOn_bd : ∀ (l : List UInt8) (p : Nat × Nat), 1 ≤ p.2 → 1 ≤ (l.foldl goOn p).2 ∧ (l.foldl goOn p).1 + (l.foldl goOn p).2 ≤ p.1 + p.2 + l.length
  | [], p, h => ⟨h, Nat.le_refl _⟩
  | c :: l, p, h => by
    rw [List.foldl_cons]
    have h1 : 1 ≤ (goOn p c).2 := by unfold goOn; split <;> simp
    have h2 : (goOn p c).1 + (goOn p c).2 ≤ p.1 + p.2 + 1 := by unfold goOn; split <;> simp <;> omega
    obtain ⟨h3, h4⟩ := goOn_bd l (goOn p c) h1
    refine ⟨h3, ?_⟩
    rw [List.length_cons]
    omega
theorem placeL_bd (l : List UInt8) : 1 ≤ (placeL l).2 ∧ (placeL l).1 + (placeL l).2 ≤ l.length + 2 := by
  have := goOn_bd l (1, 1) (Nat.le_refl _)
  exact ⟨this.1, by have := this.2; simp at this; unfold placeL; omega⟩

def placeS (s : ByteArray) (i : Nat) : Nat × Nat := placeL (s.data.toList.take i)
theorem placeS_zero (s : ByteArray) : placeS s 0 = (1, 1) := by simp [placeS, placeL]
theorem placeS_next (s : ByteArray) (i : Nat) (h : i < s.size) : placeS s (i + 1) = goOn (placeS s i) s[i] := by
  have hl : i < s.data.toList.length := by rw [list_len]; exact h
  rw [placeS, List.take_succ_eq_append_getElem hl, placeL_snoc, list_at s i hl h]
  rfl
theorem placeS_run (s : ByteArray) (i : Nat) : ∀ (n : Nat), i + n ≤ s.size → (∀ k (h : k < s.size), i ≤ k → k < i + n → s[k].toNat ≠ 10) → placeS s (i + n) = ((placeS s i).1, (placeS s i).2 + n)
  | 0, _, _ => rfl
  | n + 1, h, hf => by
    rw [show i + (n + 1) = i + n + 1 by omega, placeS_next s (i + n) (by omega), placeS_run s i n (by omega) (fun k hk h1 h2 => hf k hk h1 (by omega)), goOn, if_neg (hf (i + n) (by omega) (by omega) (by omega))]
    rfl
theorem placeS_bd (s : ByteArray) (i : Nat) : 1 ≤ (placeS s i).2 ∧ (placeS s i).1 + (placeS s i).2 ≤ i + 2 := by
  have h := placeL_bd (s.data.toList.take i)
  refine ⟨h.1, Nat.le_trans h.2 ?_⟩
  rw [List.length_take]; omega

/-- How far a set of runes goes from a place on. -/
theorem span_from (g : Int → Bool) (s : ByteArray) (i n : Nat) (h : i + n ≤ s.size) (ha : ∀ k (h : k < s.size), i ≤ k → k < i + n → g (s[k].toNat : Int) = true) (he : ∀ h : i + n < s.size, g (s[i + n].toNat : Int) = false) :
    spanL g (s.data.toList.drop i) = n := by
  have hll : (s.data.toList.drop i).length = s.size - i := by rw [List.length_drop, list_len]
  have hd : (s.data.toList.drop i).drop n = s.data.toList.drop (i + n) := by rw [List.drop_drop]
  rw [spanL_all g n _ (by omega) (fun k hk hkn => by
    rw [List.getElem_drop, onB, list_at s _ (by rw [list_len]; omega) (by omega)]
    exact ha (i + k) (by omega) (by omega) (by omega)), hd]
  by_cases hz : i + n < s.size
  · have h0 : onB g s[i + n] = false := he hz
    rw [drop_at s _ hz, spanL_cons, if_neg (by rw [h0]; simp)]; omega
  · rw [List.drop_of_length_le (by rw [list_len]; omega)]; rfl
theorem take_from (g : Int → Bool) (s : ByteArray) (i : Nat) : s.extract i (i + spanL g (s.data.toList.drop i)) = ⟨((s.data.toList.drop i).takeWhile (onB g)).toArray⟩ := by
  apply ByteArray.ext
  rw [ByteArray.data_extract]
  apply Array.toList_inj.1
  rw [Array.toList_extract]
  simp only [List.extract_eq_take_drop, Nat.add_sub_cancel_left]
  exact (List.prefix_iff_eq_take.1 (List.takeWhile_prefix (onB g))).symm

/-- What holds of all bytes of what is read. -/
theorem read_bytes {P : UInt8 → Prop} (hw : ∀ c, onB wordZ c = true → P c) (hd : ∀ c, onB digitZ c = true → P c) (ht : ∀ c : UInt8, okText (c.toNat : Int) = true → P c) (hq : ∀ c : UInt8, c.toNat = 34 → P c) (hsg : ∀ x ∈ signsL, ∀ c ∈ x, P c)
    {c : UInt8} {r : List UInt8} {t : Read} (h : readL (c.toNat : Int) (c :: r) = some t) : ∀ k (hk : k < (c :: r).length), k < t.len → P (c :: r)[k] := by
  unfold readL at h
  split at h
  · unfold nameR at h
    split at h
    · cases h; exact fun k hk hl => hw _ (span_get _ _ k hk hl)
    · cases h
  split at h
  · unfold varR at h
    split at h
    · cases h
    · cases h; exact fun k hk hl => hw _ (span_get _ _ k hk hl)
  split at h
  · unfold numR at h
    split at h
    · cases h
    · split at h
      · cases h
      · cases h; exact fun k hk hl => hd _ (span_get _ _ k hk hl)
  split at h
  · rename_i hc
    unfold textR at h
    split at h
    · cases h
    · rename_i hn
      split at h
      · rename_i htx
        cases h
        simp only [List.tail_cons] at hn htx ⊢
        intro k hk hl
        match k, hk, hl with
        | 0, _, _ =>
          have : (c.toNat : Int) = 34 := by simpa using hc
          simp only [List.getElem_cons_zero]
          exact hq _ (by omega)
        | k + 1, hk, hl =>
          simp only [List.getElem_cons_succ]
          have hk' : k < r.length := by simpa using hk
          by_cases e : k < spanL notQuoteZ r
          · have hm := textB_mem htx r[k] (by
              have h1 : k < (r.takeWhile (onB notQuoteZ)).length := e
              have h2 : (r.takeWhile (onB notQuoteZ))[k] = r[k] := List.IsPrefix.getElem (List.takeWhile_prefix _) h1
              rw [← h2]; exact List.getElem_mem h1)
            exact ht _ hm
          · have e2 : k = spanL notQuoteZ r := by omega
            subst e2
            have := span_stop notQuoteZ r hk'
            simp only [onB, notQuoteZ, bne_eq_false_iff_eq] at this
            exact hq _ (by omega)
      · cases h
  · unfold signR at h
    rw [Option.map_eq_some_iff] at h
    obtain ⟨x, hx, rfl⟩ := h
    intro k hk hl
    have hp := signIn_pre _ _ _ hx
    have h2 : x[k] = (c :: r)[k] := List.IsPrefix.getElem hp hl
    rw [← h2]
    exact hsg x (signIn_mem _ _ _ hx) _ (List.getElem_mem hl)
theorem word_feed {c : UInt8} (h : onB wordZ c = true) : c.toNat ≠ 10 := by
  intro e
  rw [onB, e] at h
  exact absurd h (by decide)
theorem digit_feed {c : UInt8} (h : onB digitZ c = true) : c.toNat ≠ 10 := by
  intro e
  rw [onB, e] at h
  exact absurd h (by decide)
/-- No line feed is read. -/
theorem read_feed {c : UInt8} {r : List UInt8} {t : Read} (h : readL (c.toNat : Int) (c :: r) = some t) : ∀ k (hk : k < (c :: r).length), k < t.len → ((c :: r)[k]).toNat ≠ 10 :=
  read_bytes (P := fun c => c.toNat ≠ 10) (fun _ h => word_feed h) (fun _ h => digit_feed h) (fun c h => by simp only [okText, decide_eq_true_eq] at h; omega) (fun _ h => by omega) (by decide) h

/-- What is scanned from a place on, behind these tokens. -/
structure Reads (s : ByteArray) (i : Nat) (toks : List Tok) : Prop where
  le : i ≤ s.size
  few : toks.length ≤ i
  rest : scanS 0 s.data.toList 1 1 = (scanS 0 (s.data.toList.drop i) (placeS s i).1 (placeS s i).2).app toks
theorem Reads.start (s : ByteArray) : Reads s 0 [] := ⟨Nat.zero_le _, Nat.le_refl _, by rw [placeS_zero]; simp [Res.app_nil]⟩
theorem Reads.blank {s : ByteArray} {i : Nat} {toks : List Tok} (h : Reads s i toks) (hs : i < s.size) (hb : blankZ (s[i].toNat : Int) = true) : Reads s (i + 1) toks := by
  refine ⟨hs, by have := h.few; omega, ?_⟩
  rw [h.rest, drop_at s i hs, scanS, placeS_next s i hs, goOn]
  by_cases h10 : s[i].toNat = 10
  · rw [if_pos h10, if_pos h10]
  · rw [if_neg h10, if_pos hb, if_neg h10]
theorem Reads.comment {s : ByteArray} {i n : Nat} {toks : List Tok} (h : Reads s i toks) (hs : i < s.size) (hc : s[i].toNat = 37) (hn : i + n ≤ s.size) (h1 : 1 ≤ n)
    (hf : ∀ k (h : k < s.size), i ≤ k → k < i + n → s[k].toNat ≠ 10) (he : ∀ h : i + n < s.size, s[i + n].toNat = 10) : Reads s (i + n) toks := by
  have hsp : spanL notFeedZ (s.data.toList.drop i) = n := span_from notFeedZ s i n hn (fun k hk a b => by
    have := hf k hk a b
    simp only [notFeedZ, bne_iff_ne]; omega) (fun hk => by
    have := he hk
    simp only [notFeedZ, bne_eq_false_iff_eq]; omega)
  refine ⟨hn, by have := h.few; omega, ?_⟩
  have hb : ¬ blankZ (s[i].toNat : Int) = true := by rw [hc]; decide
  rw [h.rest, placeS_run s i n hn hf]
  rw [drop_at s i hs] at hsp ⊢
  rw [scanS, if_neg (by omega), if_neg hb, if_pos hc, hsp, scanS_skip (n - 1) (n - 1) _ _ _ (Nat.le_refl _) (by rw [List.length_drop, list_len]; omega), List.drop_drop, show n - 1 - (n - 1) = 0 by omega, show i + 1 + (n - 1) = i + n by omega]
  show (scanS 0 _ _ ((placeS s i).2 + 1 + (n - 1))).app toks = _
  rw [show (placeS s i).2 + 1 + (n - 1) = (placeS s i).2 + n by omega]
theorem Reads.wrong {s : ByteArray} {i : Nat} {toks : List Tok} (h : Reads s i toks) (hs : i < s.size) (hb : blankZ (s[i].toNat : Int) = false) (h37 : s[i].toNat ≠ 37) (hr : readL (s[i].toNat : Int) (s.data.toList.drop i) = none) :
    scanS 0 s.data.toList 1 1 = .bad (placeS s i).1 (placeS s i).2 := by
  have h10 : s[i].toNat ≠ 10 := fun e => by rw [e] at hb; exact absurd hb (by decide)
  rw [h.rest]
  rw [drop_at s i hs] at hr ⊢
  rw [scanS, if_neg h10, if_neg (by rw [hb]; simp), if_neg h37, hr]
  rfl
theorem Reads.token {s : ByteArray} {i : Nat} {toks : List Tok} (h : Reads s i toks) (hs : i < s.size) (hb : blankZ (s[i].toNat : Int) = false) (h37 : s[i].toNat ≠ 37) {t : Read} (hr : readL (s[i].toNat : Int) (s.data.toList.drop i) = some t) :
    i + t.len ≤ s.size ∧ 1 ≤ t.len ∧ Reads s (i + t.len) (toks ++ [Tok.of t (placeS s i).1 (placeS s i).2]) := by
  have h10 : s[i].toNat ≠ 10 := fun e => by rw [e] at hb; exact absurd hb (by decide)
  obtain ⟨⟨hl1, hl2⟩, -⟩ := token_bounds s i hs hr
  have hle : i + t.len ≤ s.size := by omega
  have hf : ∀ k (h : k < s.size), i ≤ k → k < i + t.len → s[k].toNat ≠ 10 := by
    intro k hk h1 h2
    have hr' := hr
    rw [drop_at s i hs] at hr'
    have h3 := read_feed hr' (k - i) (by rw [List.length_cons, List.length_drop, list_len]; omega) (by omega)
    have e : (s[i] :: s.data.toList.drop (i + 1))[k - i]'(by rw [List.length_cons, List.length_drop, list_len]; omega) = s[k] := by
      have : ∀ (l : List UInt8) (hl : l = s.data.toList.drop i) (h : k - i < l.length), l[k - i] = s[k] := by
        intro l hl h
        subst hl
        rw [List.getElem_drop, list_at s _ (by rw [list_len]; omega) (by omega)]
        congr 1; omega
      exact this _ (drop_at s i hs).symm _
    rwa [e] at h3
  refine ⟨hle, hl2, hle, by have := h.few; simp; omega, ?_⟩
  rw [h.rest, placeS_run s i t.len hle hf]
  rw [drop_at s i hs] at hr ⊢
  rw [scanS, if_neg h10, if_neg (by rw [hb]; simp), if_neg h37, hr]
  simp only []
  rw [Res.app_app, scanS_skip (t.len - 1) (t.len - 1) _ _ _ (Nat.le_refl _) (by rw [List.length_drop, list_len]; omega), List.drop_drop, show t.len - 1 - (t.len - 1) = 0 by omega, show i + 1 + (t.len - 1) = i + t.len by omega, show (placeS s i).2 + 1 + (t.len - 1) = (placeS s i).2 + t.len by omega]
theorem Reads.done {s : ByteArray} {i : Nat} {toks : List Tok} (h : Reads s i toks) (hs : i = s.size) : scanS 0 s.data.toList 1 1 = .ok (toks ++ [⟨6, [], 0, (placeS s i).1, (placeS s i).2⟩]) := by
  rw [h.rest, List.drop_of_length_le (by rw [list_len]; omega), scanS_nil]; rfl

end Go.Proofs.YtgpgjaenbhbbgaaDoor
