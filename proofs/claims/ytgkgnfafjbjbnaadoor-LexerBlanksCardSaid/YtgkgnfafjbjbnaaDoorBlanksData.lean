/-
  LexerBlanks as plain data: words with blanks and comments between.
-/
import Derived.Test.YtgkgnfafjbjbnaaDoorLexOpen
import Derived.Test.YtgkgnfafjbjbnaaDoorLawAgainKit
import Derived.Test.YtgkgnfafjbjbnaaDoorLexRaw
namespace Go.Proofs.YtgkgnfafjbjbnaaDoor.lexerBlanks
open Go.RowKit

def noFeed (c : UInt8) : UInt8 := if c.toNat = 10 then 11 else c
def rawC (s : ByteArray) : List UInt8 := s.data.toList.take 20
def cleanC (s : ByteArray) : List UInt8 := (rawC s).map noFeed
def toC (s : ByteArray) (i : Nat) : List UInt8 := (cleanC s).take i ++ (rawC s).drop i
theorem rawC_length (s : ByteArray) : (rawC s).length = min s.size 20 := by simp [rawC]; omega
theorem cleanC_length (s : ByteArray) : (cleanC s).length = min s.size 20 := by simp [cleanC, rawC_length]
theorem toC_length (s : ByteArray) (i : Nat) : (toC s i).length = min s.size 20 := by
  simp only [toC, List.length_append, List.length_take, List.length_drop, rawC_length, cleanC_length]; omega
theorem toC_zero (s : ByteArray) : toC s 0 = rawC s := by simp [toC]
theorem toC_end (s : ByteArray) : toC s (min s.size 20) = cleanC s := by
  rw [toC, List.take_of_length_le (by rw [cleanC_length]; omega), List.drop_of_length_le (by rw [rawC_length]; omega), List.append_nil]
theorem toC_get (s : ByteArray) (i : Nat) (h : i < (toC s i).length) (h' : i < (rawC s).length) : (toC s i)[i] = (rawC s)[i] := by
  have e : ((cleanC s).take i).length = i := by rw [List.length_take, cleanC_length]; rw [rawC_length] at h'; omega
  simp only [toC]
  rw [List.getElem_append_right (by omega)]
  simp [e]
theorem toC_succ (s : ByteArray) (i : Nat) (h' : i < (rawC s).length) : toC s (i + 1) = (toC s i).set i (noFeed (rawC s)[i]) := by
  have hn : i < (cleanC s).length := by rw [cleanC_length]; rw [rawC_length] at h'; exact h'
  have e : ((cleanC s).take i).length = i := by rw [List.length_take]; omega
  have hget : (cleanC s)[i] = noFeed (rawC s)[i] := by simp [cleanC]
  rw [toC, toC, List.set_append_right _ _ (by omega), e, Nat.sub_self, List.drop_eq_getElem_cons h', List.set_cons_zero, List.take_succ_eq_append_getElem hn, hget]
  simp
theorem clean_ne (s : ByteArray) : ∀ c ∈ cleanC s, c ≠ 10 := by
  intro c hc
  obtain ⟨x, _, rfl⟩ := List.mem_map.1 hc
  unfold noFeed
  split
  · decide
  · intro e; subst e; rename_i h; exact h rfl

def readOf (x : Raw) : Read := rawR x.kind x.s x.n
def gapAt (gs : List ByteArray) (k : Nat) : List UInt8 := match gs[k]? with
  | some g => gapB (cleanC g)
  | none => [32]
theorem gap_is (gs : List ByteArray) (k : Nat) : IsGap (gapAt gs k) := by
  unfold gapAt
  split
  · exact .more _ (clean_ne _)
  · exact .blank
theorem gap_len (gs : List ByteArray) (k : Nat) : (gapAt gs k).length ≤ 26 := by
  unfold gapAt
  split
  · rename_i g _
    have := cleanC_length g
    simp only [gapB, List.length_cons, List.length_append, List.length_nil]; omega
  · simp
/-- The first k raw tokens, each with what stands ahead of it. -/
def pairsTo (l : List Raw) (gs : List ByteArray) : Nat → List (List UInt8 × Read)
  | 0 => []
  | k + 1 => pairsTo l gs k ++ (match l[k]? with | some x => [(gapAt gs k, readOf x)] | none => [])
theorem pairs_succ {l : List Raw} (gs : List ByteArray) {k : Nat} (h : k < l.length) : pairsTo l gs (k + 1) = pairsTo l gs k ++ [(gapAt gs k, readOf l[k])] := by
  rw [pairsTo, List.getElem?_eq_getElem h]
theorem pairs_good (l : List Raw) (gs : List ByteArray) : ∀ k, ∀ x ∈ pairsTo l gs k, IsGap x.1 ∧ Good x.2
  | 0, x, h => by simp [pairsTo] at h
  | k + 1, x, h => by
    rw [pairsTo, List.mem_append] at h
    rcases h with h | h
    · exact pairs_good l gs k x h
    · split at h
      · rename_i y _
        obtain rfl := List.mem_singleton.1 h
        exact ⟨gap_is gs k, (rawR_facts y.kind y.s y.n).1⟩
      · simp at h
theorem joinR_len (l : List Raw) (gs : List ByteArray) : ∀ k, (joinR ((pairsTo l gs k).map (·.2))).length ≤ 35 * k
  | 0 => by simp [pairsTo, joinR]
  | k + 1 => by
    have := joinR_len l gs k
    rw [pairsTo, List.map_append, joinR_app, List.length_append]
    split
    · rename_i y _
      have h := (rawR_facts y.kind y.s y.n).2.2
      simp only [List.map_cons, List.map_nil, joinR, List.length_append, List.length_cons, List.length_nil, readOf]
      omega
    · simp [joinR]; omega
theorem joinG_len (l : List Raw) (gs : List ByteArray) : ∀ k, (joinG (pairsTo l gs k)).length ≤ 61 * k
  | 0 => by simp [pairsTo, joinG]
  | k + 1 => by
    have := joinG_len l gs k
    rw [pairsTo, joinG_app, List.length_append]
    split
    · rename_i y _
      have h := (rawR_facts y.kind y.s y.n).2.2
      have hg := gap_len gs k
      simp only [joinG, List.length_append, List.length_cons, List.length_nil, readOf]
      omega
    · simp [joinG]; omega
/-- What the three texts are scanned to. -/
theorem scan_three (l : List Raw) (gs : List ByteArray) (k : Nat) : ∃ a b c, scanS 0 (joinR ((pairsTo l gs k).map (·.2))) 1 1 = .ok a ∧ scanS 0 (joinG (pairsTo l gs k)) 1 1 = .ok b ∧ scanS 0 (joinG (pairsTo l gs k) ++ [37, 32, 101, 110, 100]) 1 1 = .ok c ∧
    b.map strip = a.map strip ∧ c.map strip = a.map strip ∧ a.length ≤ k + 1 := by
  have hg := pairs_good l gs k
  have h1 := scan_join ((pairsTo l gs k).map (·.2)) [] 1 1 (fun t ht => by
    obtain ⟨x, hx, rfl⟩ := List.mem_map.1 ht
    exact (hg x hx).2)
  obtain ⟨tb, lb, cb, h2, h3⟩ := scan_joinG (pairsTo l gs k) [] 1 1 hg
  obtain ⟨tc, lc, cc, h4, h5⟩ := scan_joinG (pairsTo l gs k) [37, 32, 101, 110, 100] 1 1 hg
  rw [List.append_nil, scanS_nil] at h1 h2
  rw [scan_comment_end [32, 101, 110, 100] (by decide)] at h4
  refine ⟨_, _, _, h1, h2, h4, ?_, ?_, ?_⟩
  · rw [List.map_append, List.map_append, h3, strip_toksR, List.map_map]; rfl
  · rw [List.map_append, List.map_append, h5, strip_toksR, List.map_map]; rfl
  · have hl : ∀ k, (pairsTo l gs k).length ≤ k := fun k => by
      induction k with
      | zero => simp [pairsTo]
      | succ k ih =>
        rw [pairsTo, List.length_append]
        split
        · simp; omega
        · simp; omega
    have := hl k
    rw [List.length_append, toksR_length, List.length_map]; simp; omega

end Go.Proofs.YtgkgnfafjbjbnaaDoor.lexerBlanks
