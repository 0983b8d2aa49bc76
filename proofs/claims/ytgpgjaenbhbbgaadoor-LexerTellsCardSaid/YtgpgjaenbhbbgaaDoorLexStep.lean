/-
  lexer.Scan's rounds as plain data: what a round does to what is left to scan.
-/
import Derived.Test.YtgpgjaenbhbbgaaDoorLexWord
import Derived.Test.YtgpgjaenbhbbgaaDoorLexSpan
namespace Go.Proofs.YtgpgjaenbhbbgaaDoor
open Go.RowKit

theorem span_get (g : Int → Bool) : ∀ (l : List UInt8) (k : Nat) (h : k < l.length), k < spanL g l → onB g l[k] = true
  | c :: r, 0, _, hk => by
    rw [spanL_cons] at hk
    split at hk
    · assumption
    · omega
  | c :: r, k + 1, h, hk => by
    rw [spanL_cons] at hk
    split at hk
    · exact span_get g r k (by simpa using h) (by omega)
    · omega
theorem span_stop (g : Int → Bool) : ∀ (l : List UInt8) (h : spanL g l < l.length), onB g l[spanL g l] = false
  | [], h => by simp at h
  | c :: r, h => by
    have hc := spanL_cons g c r
    by_cases e : onB g c = true
    · rw [if_pos e] at hc
      have h2 : spanL g r < r.length := by rw [hc] at h; simpa using h
      have := span_stop g r h2
      simp only [hc, List.getElem_cons_succ]
      exact this
    · rw [if_neg e] at hc
      simp only [hc, List.getElem_cons_zero]
      simpa using e

theorem signs_low : ∀ x ∈ signsL, ∀ c ∈ x, c.toNat < 128 := by decide
theorem signIn_pre : ∀ (S : List (List UInt8)) (l x : List UInt8), signIn S l = some x → x <+: l
  | y :: S, l, x, h => by
    rw [signIn] at h
    split at h
    · rename_i hp
      cases h
      exact List.isPrefixOf_iff_prefix.1 hp
    · exact signIn_pre S l x h
theorem word_low {c : UInt8} (h : onB wordZ c = true) : c.toNat < 128 := by
  by_cases e : 128 ≤ c.toNat
  · rw [onB, wordZ_high _ (by omega)] at h; cases h
  · omega
theorem digit_low {c : UInt8} (h : onB digitZ c = true) : c.toNat < 128 := by
  have := digit_range.1 h; omega
/-- All bytes of what is read stand alone as runes. -/
theorem read_low {c : UInt8} {r : List UInt8} {t : Read} (h : readL (c.toNat : Int) (c :: r) = some t) : ∀ k (hk : k < (c :: r).length), k < t.len → ((c :: r)[k]).toNat < 128 := by
  unfold readL at h
  split at h
  · unfold nameR at h
    split at h
    · cases h; exact fun k hk hl => word_low (span_get _ _ k hk hl)
    · cases h
  split at h
  · unfold varR at h
    split at h
    · cases h
    · cases h; exact fun k hk hl => word_low (span_get _ _ k hk hl)
  split at h
  · unfold numR at h
    split at h
    · cases h
    · split at h
      · cases h
      · cases h; exact fun k hk hl => digit_low (span_get _ _ k hk hl)
  split at h
  · rename_i hc
    unfold textR at h
    split at h
    · cases h
    · rename_i hn
      split at h
      · rename_i ht
        cases h
        simp only [List.tail_cons] at hn ht ⊢
        intro k hk hl
        match k, hk, hl with
        | 0, _, _ =>
          have : (c.toNat : Int) = 34 := by simpa using hc
          simp only [List.getElem_cons_zero]; omega
        | k + 1, hk, hl =>
          simp only [List.getElem_cons_succ]
          have hk' : k < r.length := by simpa using hk
          by_cases e : k < spanL notQuoteZ r
          · have hm := textB_mem ht r[k] (by
              have h1 : k < (r.takeWhile (onB notQuoteZ)).length := e
              have h2 : (r.takeWhile (onB notQuoteZ))[k] = r[k] := List.IsPrefix.getElem (List.takeWhile_prefix _) h1
              rw [← h2]; exact List.getElem_mem h1)
            simp only [okText, decide_eq_true_eq] at hm
            omega
          · have e2 : k = spanL notQuoteZ r := by omega
            subst e2
            have := span_stop notQuoteZ r hk'
            simp only [onB, notQuoteZ, bne_eq_false_iff_eq] at this
            omega
      · cases h
  · unfold signR at h
    rw [Option.map_eq_some_iff] at h
    obtain ⟨x, hx, rfl⟩ := h
    intro k hk hl
    have hp := signIn_pre _ _ _ hx
    have h2 : x[k] = (c :: r)[k] := List.IsPrefix.getElem hp hl
    rw [← h2]
    exact signs_low x (signIn_mem _ _ _ hx) _ (List.getElem_mem hl)

/-- A byte from 128 on begins no sign. -/
theorem sign_high {c : UInt8} {r : List UInt8} (h : 128 ≤ c.toNat) : signR (c :: r) = none := by
  rw [signR]
  cases hx : signIn signsL (c :: r) with
  | none => rfl
  | some x =>
    exfalso
    have hm := signIn_mem _ _ _ hx
    have hp := signIn_pre _ _ _ hx
    have hl : 0 < x.length := by
      have : ∀ x ∈ signsL, 0 < x.length := by decide
      exact this x hm
    have h2 : x[0] = (c :: r)[0] := List.IsPrefix.getElem hp hl
    have := signs_low x hm _ (List.getElem_mem hl)
    rw [h2] at this
    simp at this
    omega
/-- What is read by a rune is what is read by its first byte. -/
theorem read_rune (s : ByteArray) (pos : Nat) (h : pos < s.size) (l : List UInt8) (hl : l = s.data.toList.drop pos) : readL ((Utf8.decode s pos).1 : Int) l = readL (s[pos].toNat : Int) l := by
  rcases rune_at s pos h with ⟨c, hc, he, hcc⟩ | ⟨g1, g2, g3⟩
  · rw [he, hcc]
  · have hlist : l = s[pos] :: s.data.toList.drop (pos + 1) := by
      have hlt : pos < s.data.toList.length := by rw [list_len]; exact h
      rw [hl, List.drop_eq_getElem_cons hlt, list_at s pos hlt h]
    have e1 := sign_high (c := s[pos]) (r := s.data.toList.drop (pos + 1)) g3
    rw [read_other (smallZ_high _ (by omega)) (greatZ_high _ (by omega)) (digitZ_high _ (by omega)) (by omega), read_other (smallZ_high _ (by omega)) (greatZ_high _ (by omega)) (digitZ_high _ (by omega)) (by omega)]

theorem drop_at (s : ByteArray) (pos : Nat) (h : pos < s.size) : s.data.toList.drop pos = s[pos] :: s.data.toList.drop (pos + 1) := by
  have hlt : pos < s.data.toList.length := by rw [list_len]; exact h
  rw [List.drop_eq_getElem_cons hlt, list_at s pos hlt h]

/-- How Scan stands at the rune that begins at 'pos': 'next' is behind what has been read, 'start' where the line begins. -/
structure Scans (s : ByteArray) (pos line start next : Nat) (toks : List Tok) : Prop where
  hpos : pos ≤ s.size
  hstart : start ≤ pos
  hline : line ≤ pos + 1
  hcount : toks.length ≤ max pos next
  hnext : next ≤ s.size
  hits : Hits s pos next
  left : scanS 0 s.data.toList 1 1 = (scanS (next - pos) (s.data.toList.drop pos) line (pos - start + 1)).app toks

theorem Scans.first (s : ByteArray) : Scans s 0 1 0 0 [] :=
  ⟨Nat.zero_le _, Nat.le_refl _, by omega, by simp, Nat.zero_le _, ⟨Nat.zero_le _, .inl (Nat.le_refl _)⟩, by rw [List.drop_zero, Res.app_nil]⟩
/-- A rune that has been read. -/
theorem Scans.skip {s : ByteArray} {pos line start next : Nat} {toks : List Tok} (h : Scans s pos line start next toks) (hp : pos < next) : Scans s (pos + (Utf8.decode s pos).2) line start next toks := by
  obtain ⟨h1, h2, h3, h4, h5, h6, h7⟩ := h
  obtain ⟨k1, k2⟩ := h6.step hp
  obtain ⟨d1, _⟩ := decode_wide s pos (by omega)
  generalize (Utf8.decode s pos).2 = wd at *
  refine ⟨by omega, by omega, by omega, by omega, h5, k2, ?_⟩
  rw [h7, scanS_skip wd (next - pos) _ _ _ (by omega) (by rw [List.length_drop, list_len]; omega), List.drop_drop, show next - pos - wd = next - (pos + wd) by omega, show pos - start + 1 + wd = pos + wd - start + 1 by omega]
/-- What is left at a rune that has not been read. -/
theorem Scans.here {s : ByteArray} {pos line start next : Nat} {toks : List Tok} (h : Scans s pos line start next toks) (hp : next ≤ pos) (hs : pos < s.size) :
    scanS 0 s.data.toList 1 1 = (scanS 0 (s[pos] :: s.data.toList.drop (pos + 1)) line (pos - start + 1)).app toks := by
  rw [h.left, Nat.sub_eq_zero_of_le hp, drop_at s pos hs]
theorem hits_past {s : ByteArray} {pos next : Nat} (h : next ≤ pos) (hn : next ≤ s.size) : Hits s pos next := ⟨hn, .inl h⟩
theorem Scans.feed {s : ByteArray} {pos line start next : Nat} {toks : List Tok} (h : Scans s pos line start next toks) (hp : next ≤ pos) (hs : pos < s.size) (hc : s[pos].toNat = 10) : Scans s (pos + 1) (line + 1) (pos + 1) next toks := by
  have hh := h.here hp hs
  obtain ⟨h1, h2, h3, h4, h5, h6, h7⟩ := h
  refine ⟨by omega, by omega, by omega, by omega, h5, hits_past (by omega) h5, ?_⟩
  rw [hh, scanS, if_pos hc, show next - (pos + 1) = 0 by omega, Nat.sub_self]
theorem Scans.blank {s : ByteArray} {pos line start next : Nat} {toks : List Tok} (h : Scans s pos line start next toks) (hp : next ≤ pos) (hs : pos < s.size) (hc : s[pos].toNat ≠ 10) (hb : blankZ (s[pos].toNat : Int) = true) : Scans s (pos + 1) line start next toks := by
  have hh := h.here hp hs
  obtain ⟨h1, h2, h3, h4, h5, h6, h7⟩ := h
  refine ⟨by omega, by omega, by omega, by omega, h5, hits_past (by omega) h5, ?_⟩
  rw [hh, scanS, if_neg hc, if_pos hb, show next - (pos + 1) = 0 by omega, show pos + 1 - start + 1 = pos - start + 1 + 1 by omega]
theorem not_blank_37 : blankZ 37 = false := by decide
theorem Scans.comment {s : ByteArray} {pos line start next : Nat} {toks : List Tok} (h : Scans s pos line start next toks) (hp : next ≤ pos) (hs : pos < s.size) (hc : s[pos].toNat = 37) :
    Scans s (pos + 1) line start (pos + spanL notFeedZ (s.data.toList.drop pos)) toks ∧ pos + spanL notFeedZ (s.data.toList.drop pos) ≤ s.size := by
  have hh := h.here hp hs
  obtain ⟨h1, h2, h3, h4, h5, h6, h7⟩ := h
  have hl := spanL_le notFeedZ (s.data.toList.drop pos)
  rw [List.length_drop, list_len] at hl
  have hge : 1 ≤ spanL notFeedZ (s.data.toList.drop pos) := by
    have e : onB notFeedZ s[pos] = true := by rw [onB, notFeedZ, hc]; rfl
    rw [drop_at s pos hs, spanL_cons, if_pos e]; omega
  have hst := span_stop notFeedZ (s.data.toList.drop pos)
  have hn : pos + spanL notFeedZ (s.data.toList.drop pos) ≤ s.size := by omega
  refine ⟨⟨by omega, by omega, by omega, by omega, hn, ⟨hn, ?_⟩, ?_⟩, hn⟩
  · by_cases e : pos + spanL notFeedZ (s.data.toList.drop pos) = s.size
    · exact .inr (.inl e)
    · refine .inr (.inr (.inl ⟨by omega, ?_⟩))
      have h8 := hst (by rw [List.length_drop, list_len]; omega)
      rw [List.getElem_drop, onB, list_at s _ (by rw [list_len]; omega) (by omega)] at h8
      simp only [notFeedZ, bne_eq_false_iff_eq] at h8
      omega
  · have h10 : s[pos].toNat ≠ 10 := by omega
    have hb : ¬ blankZ (s[pos].toNat : Int) = true := by rw [hc]; decide
    rw [hh, scanS, if_neg h10, if_neg hb, if_pos hc, ← drop_at s pos hs, show pos + spanL notFeedZ (s.data.toList.drop pos) - (pos + 1) = spanL notFeedZ (s.data.toList.drop pos) - 1 by omega, show pos + 1 - start + 1 = pos - start + 1 + 1 by omega]
theorem Scans.wrong {s : ByteArray} {pos line start next : Nat} {toks : List Tok} (h : Scans s pos line start next toks) (hp : next ≤ pos) (hs : pos < s.size) (h10 : s[pos].toNat ≠ 10) (hb : blankZ (s[pos].toNat : Int) = false) (h37 : s[pos].toNat ≠ 37)
    (hr : readL (s[pos].toNat : Int) (s.data.toList.drop pos) = none) : scanS 0 s.data.toList 1 1 = .bad line (pos - start + 1) := by
  rw [drop_at s pos hs] at hr
  rw [h.here hp hs, scanS, if_neg h10, if_neg (by rw [hb]; simp), if_neg h37, hr]
  rfl
theorem Scans.token {s : ByteArray} {pos line start next : Nat} {toks : List Tok} (h : Scans s pos line start next toks) (hp : next ≤ pos) (hs : pos < s.size) (h10 : s[pos].toNat ≠ 10) (hb : blankZ (s[pos].toNat : Int) = false) (h37 : s[pos].toNat ≠ 37)
    {t : Read} (hr : readL (s[pos].toNat : Int) (s.data.toList.drop pos) = some t) (hlen : t.len ≤ s.size - pos) (hone : 1 ≤ t.len) :
    Scans s (pos + 1) line start (pos + t.len) (toks ++ [Tok.of t line (pos - start + 1)]) := by
  rw [drop_at s pos hs] at hr
  have hh := h.here hp hs
  have hlow := read_low hr
  obtain ⟨h1, h2, h3, h4, h5, h6, h7⟩ := h
  refine ⟨by omega, by omega, by omega, by simp; omega, by omega, ⟨by omega, .inr (.inr (.inr fun k hk h8 h9 => ?_))⟩, ?_⟩
  · have h10 := hlow (k - pos) (by rw [List.length_cons, List.length_drop, list_len]; omega) (by omega)
    have e : (s[pos] :: s.data.toList.drop (pos + 1))[k - pos]'(by rw [List.length_cons, List.length_drop, list_len]; omega) = s[k] := by
      have : ∀ (l : List UInt8) (hl : l = s.data.toList.drop pos) (h : k - pos < l.length), l[k - pos] = s[k] := by
        intro l hl h
        subst hl
        rw [List.getElem_drop, list_at s _ (by rw [list_len]; omega) (by omega)]
        congr 1; omega
      exact this _ (drop_at s pos hs).symm _
    rwa [e] at h10
  · rw [hh, scanS, if_neg h10, if_neg (by rw [hb]; simp), if_neg h37, hr]
    simp only []
    rw [Res.app_app, show pos + t.len - (pos + 1) = t.len - 1 by omega, show pos + 1 - start + 1 = pos - start + 1 + 1 by omega]

end Go.Proofs.YtgpgjaenbhbbgaaDoor
