/-
  Right values that compare alike are the same.
-/
import Derived.Test.YtlnkngahiapidaaDoorFitRight
import Derived.Test.YtlnkngahiapidaaDoorOrder
import Derived.Test.YtlnkngahiapidaaDoorSame
namespace Go.Proofs.YtlnkngahiapidaaDoor
open Go.RowKit

theorem compareInt_zero {a b : Int} (h : Lib.compareInt a b = 0) : a = b := by
  unfold Lib.compareInt at h
  split at h
  · cases h
  · split at h
    · cases h
    · omega
theorem bytes_ext {s t : ByteArray} (h : s.toList = t.toList) : s = t := by
  rw [Lib.toList_data, Lib.toList_data] at h
  cases s with
  | mk a => cases t with
    | mk b => simp at h; rw [h]
theorem cmpS_zero {s t : ByteArray} (h : cmpS s t = 0) : s = t := by
  unfold cmpS at h
  split at h
  · cases h
  · split at h
    · rename_i e; exact bytes_ext (by simpa using e)
    · cases h
theorem none_of {s : ByteArray} (h : s.toList.isEmpty = true) : s = ⟨#[]⟩ := by
  refine bytes_ext ?_
  have h0 : s.toList = [] := by simpa using h
  rw [h0, Lib.toList_data]
theorem rightL_cons {d : Nat} {x : V} {l : List V} (h : rightL d (x :: l) = true) : ∃ e, d = e + 1 ∧ rightV e x = true ∧ rightL d l = true := by
  cases d with
  | zero => simp [rightL] at h
  | succ e =>
    simp only [rightL, List.length_cons, List.all_cons, Bool.and_eq_true, decide_eq_true_eq] at h ⊢
    exact ⟨e, rfl, h.2.1, by omega, h.2.2⟩
mutual
theorem cmp_zero : ∀ (x y : V) (d : Nat), rightV d x = true → rightV d y = true → cmpV x y = 0 → x = y
  | .mk k n s l, .mk k' n' s' l', d, hx, hy, h => by
    rw [cmpV] at h
    by_cases e : k = k'
    · subst e
      rw [if_neg (by simp)] at h
      rw [rightV_mk] at hx hy
      rcases baseB_cases hx with ⟨rfl, h1, rfl, _, _⟩ | ⟨rfl, rfl, rfl, _⟩ | ⟨rfl, rfl, rfl, _⟩ | ⟨rfl, rfl, h1, h2⟩
      · rcases baseB_cases hy with ⟨_, h1', rfl, _, _⟩ | ⟨e, _⟩ | ⟨e, _⟩ | ⟨e, _⟩
        · rw [if_pos rfl] at h
          rw [compareInt_zero h, none_of h1, none_of h1']
        all_goals exact absurd e (by decide)
      · rcases baseB_cases hy with ⟨e, _⟩ | ⟨_, rfl, rfl, _⟩ | ⟨e, _⟩ | ⟨e, _⟩
        case inr.inl =>
          rw [if_neg (by decide), if_pos (Or.inl rfl)] at h
          rw [cmpS_zero h]
        all_goals exact absurd e (by decide)
      · rcases baseB_cases hy with ⟨e, _⟩ | ⟨e, _⟩ | ⟨_, rfl, rfl, _⟩ | ⟨e, _⟩
        case inr.inr.inl =>
          rw [if_neg (by decide), if_pos (Or.inr rfl)] at h
          rw [cmpS_zero h]
        all_goals exact absurd e (by decide)
      · rcases baseB_cases hy with ⟨e, _⟩ | ⟨e, _⟩ | ⟨e, _⟩ | ⟨_, rfl, h1', h2'⟩
        case inr.inr.inr =>
          rw [if_neg (by decide), if_neg (by decide), if_pos rfl] at h
          rw [none_of h1, none_of h1', cmpL_zero l l' d h2 h2' h]
        all_goals exact absurd e (by decide)
    · rw [if_pos e] at h
      exact absurd (compareInt_zero h) e
theorem cmpL_zero : ∀ (l m : List V) (d : Nat), rightL d l = true → rightL d m = true → cmpL l m = 0 → l = m
  | [], [], _, _, _, _ => rfl
  | [], _ :: _, _, _, _, h => by simp [cmpL] at h
  | _ :: _, [], _, _, _, h => by simp [cmpL] at h
  | x :: l, y :: m, d, hl, hm, h => by
    obtain ⟨e, rfl, hx, hl'⟩ := rightL_cons hl
    obtain ⟨e', he, hy, hm'⟩ := rightL_cons hm
    obtain rfl : e = e' := by omega
    rw [cmpL] at h
    by_cases hc : cmpV x y = 0
    · rw [if_neg (by simpa using hc)] at h
      rw [cmp_zero x y e hx hy hc, cmpL_zero l m (e + 1) hl' hm' h]
    · rw [if_pos hc] at h
      exact absurd h hc
end

end Go.Proofs.YtlnkngahiapidaaDoor
