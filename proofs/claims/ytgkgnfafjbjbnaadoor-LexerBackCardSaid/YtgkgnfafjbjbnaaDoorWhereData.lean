/-
  LexerWhere as plain data: words, and behind them what may not be.
-/
import Derived.Test.YtgkgnfafjbjbnaaDoorLexOpen
import Derived.Test.YtgkgnfafjbjbnaaDoorLawAgainKit
import Derived.Test.YtgkgnfafjbjbnaaDoorLexRaw
namespace Go.Proofs.YtgkgnfafjbjbnaaDoor.lexerWhere
open Go.RowKit
open Go.Proofs.YtgkgnfafjbjbnaaDoor.valueNames (nameB_list)

def readOf (x : Raw) : Read := rawR x.kind x.s x.n
def readsTo (l : List Raw) (k : Nat) : List Read := (l.take k).map readOf
theorem reads_good (l : List Raw) (k : Nat) : ∀ t ∈ readsTo l k, Good t := fun t ht => by
  obtain ⟨x, _, rfl⟩ := List.mem_map.1 ht
  exact (rawR_facts x.kind x.s x.n).1
theorem reads_succ {l : List Raw} {k : Nat} (h : k < l.length) : readsTo l (k + 1) = readsTo l k ++ [readOf l[k]] := by
  rw [readsTo, List.take_succ_eq_append_getElem h, List.map_append]; rfl
theorem joinR_len (l : List Raw) : ∀ k, (joinR (readsTo l k)).length ≤ 35 * k := by
  intro k
  induction k with
  | zero => simp [readsTo, joinR]
  | succ k ih =>
    by_cases h : k < l.length
    · have h2 := (rawR_facts l[k].kind l[k].s l[k].n).2.2
      rw [reads_succ h, joinR_snoc, List.length_append, List.length_append]
      simp only [List.length_cons, List.length_nil, readOf]
      omega
    · have e : readsTo l (k + 1) = readsTo l k := by rw [readsTo, readsTo, List.take_of_length_le (by omega), List.take_of_length_le (by omega)]
      rw [e]; omega

/-- What may not be, by its number. -/
def badL : Nat → List UInt8
  | 0 => [63]
  | 1 => [34, 97]
  | 2 => [34, 92, 34]
  | 3 => [97, 66, 32]
  | 4 => [49, 50, 51, 52, 53, 54, 55, 56, 57, 48, 49, 32]
  | 5 => [50, 49, 52, 55, 52, 56, 51, 54, 52, 56, 32]
  | 6 => [97, 98, 99, 100, 101, 102, 103, 104, 105, 106, 107, 108, 109, 110, 111, 112, 113, 32]
  | 7 => [65, 98, 99, 100, 101, 102, 103, 104, 105, 106, 107, 108, 109, 110, 111, 112, 113, 32]
  | 8 => [58]
  | 9 => [61]
  | 10 => [95]
  | 11 => [0]
  | 12 => [128]
  | _ => [195, 169]
/-- What stands behind it. -/
def moreL (j : Nat) (m : List UInt8) : List UInt8 := if j = 1 then [] else if j = 8 ∨ j = 9 then (32 :: m).take 100 else m.take 100
theorem bad_low (j : Nat) (c : UInt8) (w : List UInt8) (r : List UInt8) (h : badL j = c :: w) (hp : plainB c = true) (hr : readL (c.toNat : Int) (badL j ++ r) = none) (line col : Nat) : scanS 0 (badL j ++ r) line col = .bad line col := by
  rw [h] at hr ⊢
  rw [List.cons_append] at hr ⊢
  rw [scan_plain hp, hr]
theorem word_cut (w r : List UInt8) (g : Int → Bool) (hg : g 32 = false) (hw : ∀ c ∈ w, onB g c = true) : (w ++ 32 :: r).takeWhile (onB g) = w := take_stop g hg w _ hw (.inr ⟨r, rfl⟩)
theorem bad_none (j : Nat) (hj : j < 14) (m : List UInt8) (line col : Nat) : scanS 0 (badL j ++ moreL j m) line col = .bad line col := by
  have hs : ∀ (c : UInt8) (r : List UInt8), (∀ x ∈ signsL, x.head? ≠ some c) → signR (c :: r) = none := by
    intro c r hc
    rw [signR]
    cases hx : signIn signsL (c :: r) with
    | none => rfl
    | some x =>
      exfalso
      have hm := signIn_mem _ _ _ hx
      have hp := signIn_pre _ _ _ hx
      have hl : 0 < x.length := by
        have : ∀ x ∈ signsL, 0 < x.length := by decide
        exact this x hm
      have h2 : x[0] = (c :: r)[0] := List.IsPrefix.getElem hp hl
      refine hc x hm ?_
      rw [List.head?_eq_getElem?, List.getElem?_eq_getElem hl, h2]; rfl
  match j, hj with
  | 0, _ => exact bad_low 0 63 [] _ rfl (by decide) (by
      rw [read_other (by decide) (by decide) (by decide) (by decide)]; exact hs 63 _ (by decide)) _ _
  | 1, _ => exact bad_low 1 34 [97] _ rfl (by decide) (by rw [show moreL 1 m = [] from rfl]; decide) _ _
  | 2, _ => exact bad_low 2 34 [92, 34] _ rfl (by decide) (by
      show readL 34 _ = none
      have e : ((92 :: 34 :: moreL 2 m : List UInt8)).takeWhile (onB notQuoteZ) = [92] := by
        have h1 : onB notQuoteZ 92 = true := by decide
        have h2 : onB notQuoteZ 34 = false := by decide
        rw [List.takeWhile_cons, h1, List.takeWhile_cons, h2]; rfl
      have h3 : (badL 2 ++ moreL 2 m).tail = 92 :: 34 :: moreL 2 m := rfl
      rw [read_quote, textR, h3, spanL, e, if_neg (by simp), if_neg (by decide)]) _ _
  | 3, _ => exact bad_low 3 97 [66, 32] _ rfl (by decide) (by
      rw [read_small (by decide), nameR, show badL 3 ++ moreL 3 m = [97, 66] ++ 32 :: moreL 3 m from rfl, word_cut _ _ wordZ (by decide) (by decide), if_neg (by decide)]) _ _
  | 4, _ => exact bad_low 4 49 _ _ rfl (by decide) (by
      rw [read_digit (by decide), numR, show badL 4 ++ moreL 4 m = [49, 50, 51, 52, 53, 54, 55, 56, 57, 48, 49] ++ 32 :: moreL 4 m from rfl, spanL, word_cut _ _ digitZ (by decide) (by decide), if_pos (by decide)]) _ _
  | 5, _ => exact bad_low 5 50 _ _ rfl (by decide) (by
      rw [read_digit (by decide), numR, show badL 5 ++ moreL 5 m = [50, 49, 52, 55, 52, 56, 51, 54, 52, 56] ++ 32 :: moreL 5 m from rfl, spanL, word_cut _ _ digitZ (by decide) (by decide), if_neg (by decide), if_pos (by decide)]) _ _
  | 6, _ => exact bad_low 6 97 _ _ rfl (by decide) (by
      rw [read_small (by decide), nameR, show badL 6 ++ moreL 6 m = [97, 98, 99, 100, 101, 102, 103, 104, 105, 106, 107, 108, 109, 110, 111, 112, 113] ++ 32 :: moreL 6 m from rfl, word_cut _ _ wordZ (by decide) (by decide), if_neg (by decide)]) _ _
  | 7, _ => exact bad_low 7 65 _ _ rfl (by decide) (by
      rw [read_great (by decide), varR, show badL 7 ++ moreL 7 m = [65, 98, 99, 100, 101, 102, 103, 104, 105, 106, 107, 108, 109, 110, 111, 112, 113] ++ 32 :: moreL 7 m from rfl, spanL, word_cut _ _ wordZ (by decide) (by decide), if_pos (by decide)]) _ _
  | 8, _ => exact bad_low 8 58 [] _ rfl (by decide) (by
      rw [read_other (by decide) (by decide) (by decide) (by decide), show badL 8 ++ moreL 8 m = 58 :: 32 :: m.take 99 from rfl, signR]
      simp [signsL, signIn, Lib.hasPrefix]) _ _
  | 9, _ => exact bad_low 9 61 [] _ rfl (by decide) (by
      rw [read_other (by decide) (by decide) (by decide) (by decide), show badL 9 ++ moreL 9 m = 61 :: 32 :: m.take 99 from rfl, signR]
      simp [signsL, signIn, Lib.hasPrefix]) _ _
  | 10, _ => exact bad_low 10 95 [] _ rfl (by decide) (by
      rw [read_other (by decide) (by decide) (by decide) (by decide)]; exact hs 95 _ (by decide)) _ _
  | 11, _ => exact bad_low 11 0 [] _ rfl (by decide) (by
      rw [read_other (by decide) (by decide) (by decide) (by decide)]; exact hs 0 _ (by decide)) _ _
  | 12, _ => exact bad_low 12 128 [] _ rfl (by decide) (by
      rw [read_other (by decide) (by decide) (by decide) (by decide)]; exact hs 128 _ (by decide)) _ _
  | 13, _ => exact bad_low 13 195 [169] _ rfl (by decide) (by
      rw [read_other (by decide) (by decide) (by decide) (by decide)]; exact hs 195 _ (by decide)) _ _
theorem badL_len (j : Nat) : (badL j).length ≤ 18 := by
  unfold badL
  split <;> simp
/-- What the text is scanned to. -/
theorem scan_where (l : List Raw) (k j : Nat) (hj : j < 14) (m : List UInt8) : scanS 0 (joinR (readsTo l k) ++ (badL j ++ moreL j m)) 1 1 = .bad 1 (1 + (joinR (readsTo l k)).length) := by
  rw [scan_join _ _ _ _ (reads_good l k), bad_none j hj]; rfl

end Go.Proofs.YtgkgnfafjbjbnaaDoor.lexerWhere
