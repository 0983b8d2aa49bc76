/-
  Words one behind the other, blanks and comments between, as plain data.
-/
import Derived.Test.YtgpgjaenbhbbgaaDoorLexWord
namespace Go.Proofs.YtgpgjaenbhbbgaaDoor
open Go.RowKit

def Good (t : Read) : Prop := IsWord (wordOf t) t
def joinR : List Read → List UInt8
  | [] => []
  | t :: r => wordOf t ++ 32 :: joinR r
def toksR : List Read → Nat → Nat → List Tok
  | [], _, _ => []
  | t :: r, line, col => Tok.of t line col :: toksR r line (col + (wordOf t).length + 1)
theorem joinR_app : ∀ (l m : List Read), joinR (l ++ m) = joinR l ++ joinR m
  | [], _ => rfl
  | t :: l, m => by rw [List.cons_append, joinR, joinR, joinR_app l m]; simp
theorem joinR_snoc (l : List Read) (t : Read) : joinR (l ++ [t]) = joinR l ++ wordOf t ++ [32] := by rw [joinR_app]; simp [joinR]
theorem toksR_length : ∀ (l : List Read) (line col : Nat), (toksR l line col).length = l.length
  | [], _, _ => rfl
  | t :: l, line, col => by rw [toksR, List.length_cons, toksR_length l]; rfl
theorem scan_join : ∀ (l : List Read) (r : List UInt8) (line col : Nat), (∀ t ∈ l, Good t) → scanS 0 (joinR l ++ r) line col = (scanS 0 r line (col + (joinR l).length)).app (toksR l line col)
  | [], r, line, col, _ => by simp [joinR, toksR, Res.app_nil]
  | t :: l, r, line, col, h => by
    rw [joinR, toksR, List.append_assoc, List.cons_append, scan_word (h t (by simp)) _ (.inr ⟨_, rfl⟩), scan_blank, scan_join l r _ _ (fun x hx => h x (by simp [hx])), Res.app_app]
    simp only [List.length_append, List.length_cons, List.singleton_append]
    rw [show col + (wordOf t).length + 1 + (joinR l).length = col + ((wordOf t).length + ((joinR l).length + 1)) by omega]

def strip (x : Tok) : Int × List UInt8 × Int := (x.kind, x.text, x.num)
def stripR (t : Read) : Int × List UInt8 × Int := (t.kind, t.text, t.num)
theorem strip_toksR : ∀ (l : List Read) (line col : Nat), (toksR l line col).map strip = l.map stripR
  | [], _, _ => rfl
  | t :: l, line, col => by rw [toksR, List.map_cons, List.map_cons, strip_toksR l]; rfl

/-- A comment up to a line feed. -/
theorem scan_comment (b r : List UInt8) (hb : ∀ c ∈ b, c ≠ 10) (line col : Nat) : scanS 0 (37 :: (b ++ 10 :: r)) line col = scanS 0 r (line + 1) 1 := by
  have hf : ∀ c ∈ 37 :: b, onB notFeedZ c = true := fun c hc => by
    have hc' : c ≠ 10 := by
      rcases List.mem_cons.1 hc with rfl | hc
      · decide
      · exact hb c hc
    simp only [onB, notFeedZ, bne_iff_ne]
    intro e
    exact hc' (UInt8.toNat_inj.1 (by show c.toNat = 10; omega))
  have hs : spanL notFeedZ (37 :: (b ++ 10 :: r)) = b.length + 1 := by
    have h10 : onB notFeedZ 10 = false := by decide
    rw [spanL, show (37 :: (b ++ 10 :: r) : List UInt8) = (37 :: b) ++ 10 :: r from rfl, List.takeWhile_append_of_pos hf, List.takeWhile_cons, h10]
    simp
  rw [scanS, if_neg (by decide), if_neg (by decide), if_pos (by decide), hs, scanS_skip b.length _ _ _ _ (by omega) (by simp), List.drop_left, show b.length + 1 - 1 - b.length = 0 by omega, scan_feed]
/-- A comment at the end. -/
theorem scan_comment_end (b : List UInt8) (hb : ∀ c ∈ b, c ≠ 10) (line col : Nat) : scanS 0 (37 :: b) line col = .ok [⟨6, [], 0, line, col + 1 + b.length⟩] := by
  have hf : ∀ c ∈ 37 :: b, onB notFeedZ c = true := fun c hc => by
    have hc' : c ≠ 10 := by
      rcases List.mem_cons.1 hc with rfl | hc
      · decide
      · exact hb c hc
    simp only [onB, notFeedZ, bne_iff_ne]
    intro e
    exact hc' (UInt8.toNat_inj.1 (by show c.toNat = 10; omega))
  have hs : spanL notFeedZ (37 :: b) = b.length + 1 := by
    have := List.takeWhile_append_of_pos (l₂ := []) hf
    rw [List.append_nil, List.takeWhile_nil, List.append_nil] at this
    rw [spanL, this, List.length_cons]
  rw [scanS, if_neg (by decide), if_neg (by decide), if_pos (by decide), hs, scanS_skip b.length _ _ _ _ (by omega) (by simp), List.drop_length, scanS_nil]

/-- What stands between tokens: a blank, or blanks and a comment. -/
def gapB (b : List UInt8) : List UInt8 := 32 :: 9 :: 37 :: (b ++ [10, 32, 10])
theorem scan_gap (b r : List UInt8) (hb : ∀ c ∈ b, c ≠ 10) (line col : Nat) : scanS 0 (gapB b ++ r) line col = scanS 0 r (line + 1 + 1) 1 := by
  rw [gapB, List.cons_append, List.cons_append, List.cons_append, List.append_assoc, scan_blank, scan_tab, show ([10, 32, 10] ++ r : List UInt8) = 10 :: (32 :: 10 :: r) from rfl, scan_comment b _ hb, scan_blank, scan_feed]
inductive IsGap : List UInt8 → Prop
  | blank : IsGap [32]
  | more (b : List UInt8) : (∀ c ∈ b, c ≠ 10) → IsGap (gapB b)
theorem IsGap.scan {g : List UInt8} (h : IsGap g) (r : List UInt8) (line col : Nat) : ∃ ln cl, scanS 0 (g ++ r) line col = scanS 0 r ln cl := by
  cases h with
  | blank => exact ⟨line, col + 1, scan_blank r line col⟩
  | more b hb => exact ⟨_, _, scan_gap b r hb line col⟩
def joinG : List (List UInt8 × Read) → List UInt8
  | [] => []
  | (g, t) :: r => g ++ (wordOf t ++ 32 :: joinG r)
theorem joinG_app : ∀ (l m : List (List UInt8 × Read)), joinG (l ++ m) = joinG l ++ joinG m
  | [], _ => rfl
  | (g, t) :: l, m => by rw [List.cons_append, joinG, joinG, joinG_app l m]; simp
theorem joinG_snoc (l : List (List UInt8 × Read)) (g : List UInt8) (t : Read) : joinG (l ++ [(g, t)]) = joinG l ++ (g ++ wordOf t ++ [32]) := by rw [joinG_app]; simp [joinG]
theorem scan_joinG : ∀ (l : List (List UInt8 × Read)) (r : List UInt8) (line col : Nat), (∀ x ∈ l, IsGap x.1 ∧ Good x.2) → ∃ toks ln cl, scanS 0 (joinG l ++ r) line col = (scanS 0 r ln cl).app toks ∧ toks.map strip = l.map fun x => stripR x.2
  | [], r, line, col, _ => ⟨[], line, col, by simp [joinG, Res.app_nil], rfl⟩
  | (g, t) :: l, r, line, col, h => by
    obtain ⟨hg, ht⟩ := h (g, t) (by simp)
    obtain ⟨ln, cl, h1⟩ := hg.scan (wordOf t ++ 32 :: joinG l ++ r) line col
    obtain ⟨toks, ln2, cl2, h2, h3⟩ := scan_joinG l r ln (cl + (wordOf t).length + 1) (fun x hx => h x (by simp [hx]))
    refine ⟨Tok.of t ln cl :: toks, ln2, cl2, ?_, by rw [List.map_cons, List.map_cons, h3]; rfl⟩
    rw [joinG, List.append_assoc, h1, List.append_assoc, List.cons_append, scan_word ht _ (.inr ⟨_, rfl⟩), scan_blank, h2, Res.app_app]
    rfl

end Go.Proofs.YtgpgjaenbhbbgaaDoor
