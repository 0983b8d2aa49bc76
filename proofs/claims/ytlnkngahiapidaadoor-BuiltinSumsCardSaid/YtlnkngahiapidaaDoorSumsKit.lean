/-
  BuiltinSums: for every two numbers the law returns true: sums and differences undo one another, and may change places; beyond the numbers there are none.
-/
import Derived.Test.YtlnkngahiapidaaDoorAwakeWalk
import Derived.Test.YtlnkngahiapidaaDoorPickTwo
import Derived.Test.YtlnkngahiapidaaDoorLaw
import Derived.Test.YtlnkngahiapidaaDoorSame
namespace Go.Proofs.YtlnkngahiapidaaDoor.builtinSums
open Go.ChangeShapes Go.WideShapes Go.ChangeAt Go.RowKit

def In (n : Int) : Prop := -2147483647 ≤ n ∧ n ≤ 2147483647
theorem num_in {n : Int} (h : In n) : numB (numV n) = true := by
  rw [numB, right_numV]; simp [numV, V.kind]; exact h
theorem op_in {s : ByteArray} {a b r : Int} (ha : In a) (hb : In b) (hr : reckonZ s a b = some r) (h : In r) : opZ s (numV a) (numV b) = some r := by
  rw [opZ, if_pos ⟨num_in ha, num_in hb⟩]
  show (match reckonZ s a b with | none => none | some n => if rightV 4 (numV n) = true then some n else none) = some r
  rw [hr]
  show (if rightV 4 (numV r) = true then some r else none) = some r
  rw [right_numV, if_pos (by simp; exact h)]
theorem op_out {s : ByteArray} {a b r : Int} (ha : In a) (hb : In b) (hr : reckonZ s a b = some r) (h : ¬ In r) : opZ s (numV a) (numV b) = none := by
  rw [opZ, if_pos ⟨num_in ha, num_in hb⟩]
  show (match reckonZ s a b with | none => none | some n => if rightV 4 (numV n) = true then some n else none) = none
  rw [hr]
  show (if rightV 4 (numV r) = true then some r else none) = none
  rw [right_numV, if_neg (by simp; intro h1; unfold In at h; omega)]
theorem add_is (a b : Int) : reckonZ ⟨#[43]⟩ a b = some (a + b) := by simp [reckonZ, Lib.toList_data]
theorem sub_is (a b : Int) : reckonZ ⟨#[45]⟩ a b = some (a - b) := by simp [reckonZ, Lib.toList_data]
theorem mul_is (a b : Int) : reckonZ ⟨#[42]⟩ a b = some (a * b) := by simp [reckonZ, Lib.toList_data]
theorem same_self (x : V) (B : Nat) (w : World) (c0 c1 c2 c3 d0 d1 d2 d3 : Value) (hB : B ≤ w.heap.size) (h1 : RepV B w x c0 c1 c2 c3) (h2 : RepV B w x d0 d1 d2 d3) :
    Calls Tryd.prog 14 #[.agg #[c0, c1, c2, c3], .agg #[d0, d1, d2, d3]] w fun e w' => e = .returned (.bool true) ∧ Below w.heap.size w w' :=
  (same_any x x B w c0 c1 c2 c3 d0 d1 d2 d3 hB h1 h2).mono fun e w' ⟨he, hb⟩ => ⟨by rw [he, (sameV_iff x x).2 rfl], hb⟩

end Go.Proofs.YtlnkngahiapidaaDoor.builtinSums
