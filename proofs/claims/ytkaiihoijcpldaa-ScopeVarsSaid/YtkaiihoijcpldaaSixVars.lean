/-
  Of ScopeVars: a list without repeats, of two such and of what they were made of; rows of texts as a kind of element.
-/
import Derived.Test.YtkaiihoijcpldaaRowManyS
import Derived.Test.YtkaiihoijcpldaaW15
import Derived.Test.YtkaiihoijcpldaaW11
import Derived.Test.YtkaiihoijcpldaaW10
namespace Go.Proofs.Ytkaiihoijcpldaa
open Go.RowKit

def stepB (a : List ByteArray) (x : ByteArray) : List ByteArray := if inB a x = true then a else a ++ [x]
def ddF (a l : List ByteArray) : List ByteArray := l.foldl stepB a
theorem ddF_snoc (a l : List ByteArray) (x : ByteArray) : ddF a (l ++ [x]) = stepB (ddF a l) x := by rw [ddF, List.foldl_append]; rfl
theorem ddF_append (a l m : List ByteArray) : ddF a (l ++ m) = ddF (ddF a l) m := by rw [ddF, List.foldl_append]; rfl
theorem stepB_mem {a : List ByteArray} {x y : ByteArray} : y ∈ stepB a x ↔ y ∈ a ∨ y = x := by
  rw [stepB]
  split
  · rename_i h
    have := inB_iff.1 h
    constructor
    · exact .inl
    · rintro (h | rfl)
      · exact h
      · exact this
  · simp
theorem ddF_mem {l : List ByteArray} : ∀ {a : List ByteArray} {y : ByteArray}, y ∈ ddF a l ↔ y ∈ a ∨ y ∈ l := by
  induction l with
  | nil => intro a y; simp [ddF]
  | cons x l ih =>
    intro a y
    show y ∈ ddF (stepB a x) l ↔ _
    rw [ih, stepB_mem, List.mem_cons, or_assoc]
theorem ddF_twice (b : List ByteArray) : ∀ a : List ByteArray, ddF a (ddF [] b) = ddF a b := by
  suffices H : ∀ (n : Nat) (b : List ByteArray), b.length = n → ∀ a, ddF a (ddF [] b) = ddF a b from H _ b rfl
  intro n
  induction n with
  | zero => intro b hb a; rw [List.length_eq_zero_iff.1 hb]; rfl
  | succ n ih =>
    intro b hb a
    have hne : b ≠ [] := by rintro rfl; simp at hb
    obtain ⟨c, x, rfl⟩ : ∃ c x, b = c ++ [x] := ⟨_, _, (List.dropLast_concat_getLast hne).symm⟩
    have ihc := ih c (by simpa using hb)
    rw [ddF_snoc, ddF_snoc]
    by_cases hx : inB (ddF [] c) x = true
    · have hm : x ∈ c := by
        have := ddF_mem.1 (inB_iff.1 hx)
        simpa using this
      have hs : stepB (ddF [] c) x = ddF [] c := by rw [stepB, if_pos hx]
      have hs2 : stepB (ddF a c) x = ddF a c := by rw [stepB, if_pos (inB_iff.2 (ddF_mem.2 (.inr hm)))]
      rw [hs, hs2, ihc]
    · have hs : stepB (ddF [] c) x = ddF [] c ++ [x] := by rw [stepB, if_neg hx]
      rw [hs, ddF_snoc, ihc]
theorem dd_both (a b : List ByteArray) : ddF [] (ddF [] a ++ ddF [] b) = ddF [] (a ++ b) := by
  rw [ddF_append, ddF_twice, ddF_append, ddF_twice]
theorem ddF_le (l : List ByteArray) : ∀ a : List ByteArray, (ddF a l).length ≤ a.length + l.length := by
  induction l with
  | nil => intro a; simp [ddF]
  | cons x l ih =>
    intro a
    have h : (stepB a x).length ≤ a.length + 1 := by rw [stepB]; split <;> simp
    have := ih (stepB a x)
    show (ddF (stepB a x) l).length ≤ _
    rw [List.length_cons]
    omega
theorem ddN_map (l : List Nm) : (ddN l).map (·.1) = ddF [] (l.map (·.1)) := by
  suffices H : ∀ (l : List Nm) (a : List Nm), ((l.foldl (fun a x => if inB (a.map (·.1)) x.1 = true then a else a ++ [x]) a).map (·.1)) = ddF (a.map (·.1)) (l.map (·.1)) from H l []
  intro l
  induction l with
  | nil => intro a; rfl
  | cons x l ih =>
    intro a
    show (List.map _ (l.foldl _ (if inB (a.map (·.1)) x.1 = true then a else a ++ [x]))) = ddF (stepB (a.map (·.1)) x.1) (l.map (·.1))
    rw [ih]
    congr 1
    rw [stepB]
    split
    · rfl
    · rw [List.map_append]; rfl
theorem fnArity_le (k : Nat) : fnArity k ≤ 2 := by
  match k with
  | 0 => decide
  | 1 => decide
  | 2 => decide
  | 3 => decide
  | 4 => decide
  | 5 => decide
  | 6 => decide
  | 7 => decide
  | 8 => decide
  | k + 9 => show (-1 : Int) ≤ 2; decide
theorem varsL_le {l : List Tm} {n : Nat} (h : ∀ t ∈ l, (varsM t).length ≤ n) : (varsL l).length ≤ l.length * n := by
  induction l with
  | nil => simp [varsL]
  | cons t l ih =>
    rw [varsL, List.length_append, List.length_cons, Nat.succ_mul]
    have := h t (by simp)
    have := ih (fun x hx => h x (by simp [hx]))
    omega
/-- A right term has few variables, and their names are short. -/
theorem vars_few : ∀ (d : Nat) (t : Tm), rightM d t = true → (varsM t).length ≤ 2 ^ d ∧ ∀ s ∈ varsM t, s.size ≤ 16
  | 0, t, h => by rw [rightM] at h; cases h
  | d + 1, .mk k s x l, h => by
    rw [rightM] at h
    rw [varsM]
    have hp : 1 ≤ 2 ^ d := Nat.one_le_two_pow
    have hp2 : 2 ^ (d + 1) = 2 * 2 ^ d := by rw [Nat.pow_succ]; omega
    by_cases h1 : k = 1
    · rw [if_pos h1] at h ⊢
      simp only [Bool.and_eq_true, List.isEmpty_iff] at h
      rw [h.2.2]
      have hv := h.1
      rw [varB, decide_eq_true_eq] at hv
      refine ⟨by simp [varsL]; omega, fun y hy => ?_⟩
      rw [varsL, List.append_nil, List.mem_singleton] at hy
      rw [hy]; exact hv.2.1
    · rw [if_neg h1] at h ⊢
      rw [List.nil_append]
      have key : (∀ y ∈ l, rightM d y = true) → l.length ≤ 2 → (varsL l).length ≤ 2 ^ (d + 1) ∧ ∀ s ∈ varsL l, s.size ≤ 16 := by
        intro hr hl
        refine ⟨?_, ?_⟩
        · have := varsL_le (n := 2 ^ d) (fun y hy => (vars_few d y (hr y hy)).1)
          have := Nat.mul_le_mul_right (2 ^ d) hl
          omega
        · clear hl h
          induction l with
          | nil => intro s hs; rw [varsL] at hs; cases hs
          | cons y l ih =>
            intro s hs
            rw [varsL, List.mem_append] at hs
            rcases hs with hs | hs
            · exact (vars_few d y (hr y (by simp))).2 s hs
            · exact ih (fun x hx => hr x (by simp [hx])) s hs
      by_cases h2 : k = 2
      · rw [if_pos h2] at h
        simp only [Bool.and_eq_true, List.isEmpty_iff] at h
        rw [h.2.2]; simp [varsL]
      · rw [if_neg h2] at h
        by_cases h3 : k = 3
        · rw [if_pos h3] at h
          simp only [Bool.and_eq_true] at h
          obtain ⟨b1, b2, b3⟩ := listB_bounds h.2
          have := fnArity_le (fnOf s)
          exact key b3 (by omega)
        · rw [if_neg h3] at h
          by_cases h4 : k = 4
          · rw [if_pos h4] at h
            simp only [Bool.and_eq_true] at h
            obtain ⟨b1, b2, b3⟩ := listB_bounds h.2.2
            exact key b3 (by omega)
          · rw [if_neg h4] at h; cases h
theorem names_map {l : List Tm} (h : ∀ s ∈ varsL l, s.size ≤ 16) : (namesL l).map (·.1) = varsL l := by
  rw [namesL, List.map_map]
  conv => rhs; rw [← List.map_id (varsL l)]
  exact List.map_congr_left fun s hs => nm_of (Nat.le_trans (h s hs) (by decide))
/-- Texts as elements of a row. -/
def kdS : Kd ByteArray where
  T := 9
  ST := 50
  n := 1
  bytes := 16
  R := fun _ _ x c => c 0 = .string x
  pos := by omega
  few := by omega
  on := fun _ _ h => h
  one := fun h j hj => by
    obtain rfl : j = 0 := by omega
    rw [h]; rfl
  und := Try.underlying50
  info := info_of (by kernel_rfl)

end Go.Proofs.Ytkaiihoijcpldaa
