/-
  What is scanned, as plain data: its tokens are words, and their places rise.
-/
import Derived.Test.YtgpgjaenbhbbgaaDoorLexJoin
namespace Go.Proofs.YtgpgjaenbhbbgaaDoor
open Go.RowKit

def RiseFrom : Nat → Nat → List Tok → Prop
  | _, _, [] => True
  | a, b, x :: l => (a < x.line ∨ (a = x.line ∧ b ≤ x.col)) ∧ RiseFrom x.line (x.col + 1) l
theorem RiseFrom.le {a b a' b' : Nat} {l : List Tok} (h : RiseFrom a' b' l) (hh : a < a' ∨ (a = a' ∧ b ≤ b')) : RiseFrom a b l := by
  cases l with
  | nil => trivial
  | cons x l => exact ⟨by have := h.1; omega, h.2⟩
theorem RiseFrom.at : ∀ (l : List Tok) (a b i : Nat), RiseFrom a b l → ∀ (h : i + 1 < l.length), l[i].line < l[i + 1].line ∨ (l[i].line = l[i + 1].line ∧ l[i].col + 1 ≤ l[i + 1].col)
  | [], _, _, _, _, h => by simp at h
  | x :: [], _, _, i, _, h => by simp at h
  | x :: y :: l, _, _, 0, h, _ => h.2.1
  | x :: y :: l, _, _, i + 1, h, hi => RiseFrom.at (y :: l) _ _ i h.2 (by simpa using hi)

theorem signIn_len : ∀ (S : List (List UInt8)) (l x : List UInt8), signIn S l = some x → x.length ≤ l.length
  | y :: S, l, x, h => by
    rw [signIn] at h
    split at h
    · rename_i hp
      cases h
      exact (List.isPrefixOf_iff_prefix.1 hp).length_le
    · exact signIn_len S l x h
theorem read_len {c : UInt8} {r : List UInt8} {t : Read} (h : readL (c.toNat : Int) (c :: r) = some t) : t.len ≤ r.length + 1 := by
  have hs := fun g => spanL_le g (c :: r)
  have hq := spanL_le notQuoteZ r
  simp only [List.length_cons] at hs
  unfold readL at h
  split at h
  · unfold nameR at h
    split at h
    · cases h; exact hs _
    · cases h
  split at h
  · unfold varR at h
    split at h
    · cases h
    · cases h; exact hs _
  split at h
  · unfold numR at h
    split at h
    · cases h
    · split at h
      · cases h
      · cases h; exact hs _
  split at h
  · unfold textR at h
    split at h
    · cases h
    · rename_i hn
      split at h
      · cases h
        simp only [List.tail_cons] at hn ⊢
        omega
      · cases h
  · unfold signR at h
    rw [Option.map_eq_some_iff] at h
    obtain ⟨x, hx, rfl⟩ := h
    exact signIn_len _ _ _ hx
theorem read_pos {c : UInt8} {r : List UInt8} {t : Read} (h : readL (c.toNat : Int) (c :: r) = some t) : 1 ≤ t.len ∧ t.len = (wordOf t).length := by
  obtain ⟨d, w', hw, _, hl, _⟩ := read_word h
  rw [hl, hw]
  simp

/-- A text's tokens: words, with the end behind; their places rise. -/
def Fine (line col : Nat) (k n : Nat) (toks : List Tok) : Prop :=
  ∃ (body : List Tok) (ln cl : Nat) (rs : List Read), toks = body ++ [⟨6, [], 0, ln, cl⟩] ∧ (∀ t ∈ rs, Good t) ∧ body.map strip = rs.map stripR ∧ (joinR rs).length + 2 * k ≤ 2 * n ∧ RiseFrom line col toks
theorem scan_fine : ∀ (l : List UInt8) (k line col : Nat) (toks : List Tok), k ≤ l.length → scanS k l line col = .ok toks → Fine line col k l.length toks
  | [], k, line, col, toks, hk, h => by
    rw [scanS_nil] at h
    cases h
    exact ⟨[], line, col, [], rfl, fun _ h => by simp at h, rfl, by simp at hk; simp [joinR, hk], ⟨.inr ⟨rfl, Nat.le_refl _⟩, trivial⟩⟩
  | c :: r, k + 1, line, col, toks, hk, h => by
    rw [scanS] at h
    obtain ⟨body, ln, cl, rs, h1, h2, h3, h4, h5⟩ := scan_fine r k line (col + 1) toks (by simpa using hk) h
    exact ⟨body, ln, cl, rs, h1, h2, h3, by simp only [List.length_cons]; omega, h5.le (.inr ⟨rfl, by omega⟩)⟩
  | c :: r, 0, line, col, toks, hk, h => by
    rw [scanS] at h
    split at h
    · obtain ⟨body, ln, cl, rs, h1, h2, h3, h4, h5⟩ := scan_fine r 0 (line + 1) 1 toks (Nat.zero_le _) h
      exact ⟨body, ln, cl, rs, h1, h2, h3, by simp only [List.length_cons]; omega, h5.le (.inl (by omega))⟩
    split at h
    · obtain ⟨body, ln, cl, rs, h1, h2, h3, h4, h5⟩ := scan_fine r 0 line (col + 1) toks (Nat.zero_le _) h
      exact ⟨body, ln, cl, rs, h1, h2, h3, by simp only [List.length_cons]; omega, h5.le (.inr ⟨rfl, by omega⟩)⟩
    split at h
    · have hs := spanL_le notFeedZ (c :: r)
      simp only [List.length_cons] at hs
      obtain ⟨body, ln, cl, rs, h1, h2, h3, h4, h5⟩ := scan_fine r _ line (col + 1) toks (by omega) h
      exact ⟨body, ln, cl, rs, h1, h2, h3, by simp only [List.length_cons]; omega, h5.le (.inr ⟨rfl, by omega⟩)⟩
    · split at h
      · cases h
      · rename_i t ht
        have hl := read_len ht
        obtain ⟨hp, hw⟩ := read_pos ht
        cases hr : scanS (t.len - 1) r line (col + 1) with
        | bad a b => rw [hr] at h; cases h
        | ok m =>
          rw [hr] at h
          simp only [Res.app] at h
          cases h
          obtain ⟨body, ln, cl, rs, h1, h2, h3, h4, h5⟩ := scan_fine r _ line (col + 1) m (by omega) hr
          refine ⟨Tok.of t line col :: body, ln, cl, t :: rs, by rw [h1]; rfl, fun x hx => ?_, by rw [List.map_cons, List.map_cons, h3]; rfl, ?_, ⟨.inr ⟨rfl, Nat.le_refl _⟩, h5⟩⟩
          · rcases List.mem_cons.1 hx with rfl | hx
            · exact read_word ht
            · exact h2 x hx
          · simp only [joinR, List.length_append, List.length_cons]
            omega
  termination_by l => l.length

/-- How a token stands in a text. -/
def wordT (x : Tok) : List UInt8 := if x.kind = 4 then 34 :: (x.text ++ [34]) else x.text
def joinT (l : List Tok) : List UInt8 := l.flatMap fun x => wordT x ++ [32]
theorem joinT_snoc (l : List Tok) (x : Tok) : joinT (l ++ [x]) = joinT l ++ wordT x ++ [32] := by simp [joinT]
theorem joinT_R : ∀ (body : List Tok) (rs : List Read), body.map strip = rs.map stripR → joinT body = joinR rs
  | [], [], _ => rfl
  | [], _ :: _, h => by simp at h
  | _ :: _, [], h => by simp at h
  | x :: body, t :: rs, h => by
    rw [List.map_cons, List.map_cons, List.cons.injEq] at h
    obtain ⟨h1, h2⟩ := h
    simp only [strip, stripR, Prod.mk.injEq] at h1
    have := joinT_R body rs h2
    simp only [joinT, List.flatMap_cons, joinR] at this ⊢
    rw [this, wordT, wordOf, h1.1, h1.2.1]
    simp
/-- What is scanned, told again, is scanned to the same tokens. -/
theorem scan_again {l : List UInt8} {toks : List Tok} (h : scanS 0 l 1 1 = .ok toks) : (joinT toks).length ≤ 2 * l.length + 1 ∧ RiseFrom 1 1 toks ∧ ∃ m, scanS 0 (joinT toks) 1 1 = .ok m ∧ m.map strip = toks.map strip := by
  obtain ⟨body, ln, cl, rs, rfl, h2, h3, h4, h5⟩ := scan_fine l 0 1 1 toks (Nat.zero_le _) h
  have hj := joinT_R body rs h3
  have he : joinT (body ++ [(⟨6, [], 0, ln, cl⟩ : Tok)]) = joinR rs ++ [32] := by rw [joinT_snoc, hj]; simp [wordT]
  rw [he]
  refine ⟨by simp; omega, h5, _, scan_join rs [32] 1 1 h2 |>.trans (by rw [scan_blank, scanS_nil]; rfl), ?_⟩
  rw [List.map_append, List.map_append, strip_toksR, h3]
  rfl

end Go.Proofs.YtgpgjaenbhbbgaaDoor
