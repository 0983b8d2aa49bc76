/-
  ValueLists as plain data: lists with a common beginning.
-/
import Derived.Test.YtgpgjaenbhbbgaaDoorOrder
import Derived.Test.YtgpgjaenbhbbgaaDoorDo
import Derived.Test.YtgpgjaenbhbbgaaDoorFit
namespace Go.Proofs.YtgpgjaenbhbbgaaDoor.valueLists
open Go.RowKit

theorem cmp_self (x : V) : cmpV x x = 0 := by
  have h := (ord_value x x x).sym
  omega
theorem cmpL_common : ∀ (c l m : List V), cmpL (c ++ l) (c ++ m) = cmpL l m
  | [], _, _ => rfl
  | x :: c, l, m => by rw [List.cons_append, List.cons_append, cmpL, cmp_self, if_neg (by simp), cmpL_common c l m]
theorem cmp_list (l m : List V) : cmpV (listV l) (listV m) = cmpL l m := by
  rw [listV, listV, cmpV]; simp
/-- What the law says of w. -/
def told (a b : V) (n : Nat) : Int := if cmpV a b = 0 ∧ 0 < n then -1 else cmpV a b
theorem cmp_one (a b : V) (more : List V) : cmpL [a] (b :: more) = told a b more.length := by
  rw [cmpL, told]
  by_cases h : cmpV a b = 0
  · rw [if_neg (by simp [h])]
    cases more with
    | nil => rw [cmpL, if_neg (by simp)]; exact h.symm
    | cons y r => rw [cmpL, if_pos ⟨h, by simp⟩]
  · rw [if_pos h, if_neg (fun hh => h hh.1)]
theorem xy (c : List V) (a b : V) (more : List V) : cmpV (listV (c ++ [a])) (listV (c ++ (b :: more))) = told a b more.length := by
  rw [cmp_list, cmpL_common, cmp_one]
theorem zx (c : List V) (a : V) : cmpV (listV c) (listV (c ++ [a])) = -1 := by
  have := cmpL_common c [] [a]
  rw [List.append_nil] at this
  rw [cmp_list, this, cmpL]
theorem yz (c : List V) (b : V) (more : List V) : cmpV (listV (c ++ (b :: more))) (listV c) = 1 := by
  have := cmpL_common c (b :: more) []
  rw [List.append_nil] at this
  rw [cmp_list, this, cmpL]

end Go.Proofs.YtgpgjaenbhbbgaaDoor.valueLists
