/-
  The first calls of layer 2 whose answers are fixed ('awake'): true.
-/
import Derived.Test.YtgkgnfafjbjbnaaDoorTest
import Derived.Test.YtgkgnfafjbjbnaaDoorAwake
import Derived.Deep.RegionHeld3
import Derived.Deep.RegionLaw
namespace Go.Proofs.YtgkgnfafjbjbnaaDoor
open Go.RowKit

/-- A slice of two values that the call lays. -/
theorem two_slice {S : Nat → Prop} {w : World} {x y : V} {c0 c1 c2 c3 d0 d1 d2 d3 : Value} (hx : RepG S w x c0 c1 c2 c3) (hy : RepG S w y d0 d1 d2 d3) (hS : ∀ k, S k → k < w.heap.size) :
    RepL (w.heap.size + 1) (w.alloc (.cells #[c0, c1, c2, c3, d0, d1, d2, d3] 24)) [x, y] (.slice (some ⟨w.heap.size, 0, none⟩) 2 2) := by
  have hr : RepRow (fun b => b < w.heap.size + 1) (w.alloc (.cells #[c0, c1, c2, c3, d0, d1, d2, d3] 24)) [x, y] #[c0, c1, c2, c3, d0, d1, d2, d3] := by
    intro i hi
    match i, hi with
    | 0, _ => exact ⟨c0, c1, c2, c3, rfl, rfl, rfl, rfl, hx.on (fun b hb => by have := hS b hb; omega) (fun b hb => Below.heap_alloc _ _ _ (hS b hb))⟩
    | 1, _ => exact ⟨d0, d1, d2, d3, rfl, rfl, rfl, rfl, hy.on (fun b hb => by have := hS b hb; omega) (fun b hb => Below.heap_alloc _ _ _ (hS b hb))⟩
  exact hr.slice (alloc_new' _ _) (Nat.lt_succ_self _) (Nat.le_refl _) (by simp)

theorem name_at (k : Nat) (hk : k < 9) : fnOf ⟨(fname k).toArray⟩ = k := by
  match k, hk with
  | 0, _ => simp [fnOf, fname, Lib.toList_data]
  | 1, _ => simp [fnOf, fname, Lib.toList_data]
  | 2, _ => simp [fnOf, fname, Lib.toList_data]
  | 3, _ => simp [fnOf, fname, Lib.toList_data]
  | 4, _ => simp [fnOf, fname, Lib.toList_data]
  | 5, _ => simp [fnOf, fname, Lib.toList_data]
  | 6, _ => simp [fnOf, fname, Lib.toList_data]
  | 7, _ => simp [fnOf, fname, Lib.toList_data]
  | 8, _ => simp [fnOf, fname, Lib.toList_data]
theorem call_at (k : Nat) (hk : k < 9) (args : List V) (B : Nat) (w : World) (a : Value) (hB : B ≤ w.heap.size) (ha : RepL B w args a) :
    Calls Tryd.prog 18 #[.string ⟨(fname k).toArray⟩, a] w (CallPost (callV k args) w) := by
  have := call_any ⟨(fname k).toArray⟩ args B w a hB ha
  rw [name_at k hk] at this
  exact this

theorem right_listV (d : Nat) (l : List V) : rightV (d + 1) (listV l) = (decide (l.length ≤ 16) && l.all (rightV d)) := by
  rw [listV, rightV_mk, baseB, if_neg (by decide), if_neg (by decide), if_neg (by decide), if_pos rfl, empty_none]; rfl
theorem right_numV (d : Nat) (n : Int) : rightV d (numV n) = (decide (-2147483647 ≤ n) && decide (n ≤ 2147483647)) := by
  rw [numV, rightV_mk, baseB, if_pos rfl, empty_none]; rfl
theorem aw_one : rightV 4 (listV [numV 2]) = true := by rw [right_listV]; simp [right_numV]
theorem aw_two : rightV 4 (listV [numV 1, numV 2]) = true := by rw [right_listV]; simp [right_numV]
theorem aw_cons : callV 0 [numV 1, listV [numV 2]] = some (listV [numV 1, numV 2]) := by
  have h1 : rightV 4 (numV 1) = true := by rw [right_numV]; decide
  have ht : takesB 0 [numV 1, listV [numV 2]] = true := by
    simp [takesB, argB, fnArity, fnList, h1, listV, V.kind]
    exact aw_one
  unfold callV
  rw [if_pos ⟨ht, aw_two⟩]
  rfl
theorem cmp_num (n m : Int) : cmpV (numV n) (numV m) = Lib.compareInt n m := by
  rw [numV, numV, cmpV, if_neg (by simp), if_pos rfl]
theorem aw_member : callV 3 [listV [numV 1, numV 2], numV 3] = some (numV 0) := by
  have h1 : rightV 4 (numV 3) = true := by rw [right_numV]; decide
  have h0 : rightV 4 (numV 0) = true := by rw [right_numV]; decide
  have ht : takesB 3 [listV [numV 1, numV 2], numV 3] = true := by
    simp [takesB, argB, fnArity, fnList, h1, listV, V.kind]
    exact aw_two
  have hm : doV 3 [listV [numV 1, numV 2], numV 3] = numV 0 := by
    have : memZ [numV 1, numV 2] (numV 3) = 0 := by
      simp [memZ, cmp_num, Lib.compareInt]
    show numV (memZ [numV 1, numV 2] (numV 3)) = numV 0
    rw [this]
  unfold callV
  rw [hm, if_pos ⟨ht, h0⟩]
theorem aw_op : opZ ⟨#[43]⟩ (numV 2147483647) (numV 1) = none := by
  have h1 : rightV 4 (numV 2147483647) = true := by rw [right_numV]; decide
  have h2 : rightV 4 (numV 1) = true := by rw [right_numV]; decide
  have h3 : rightV 4 (numV 2147483648) = false := by rw [right_numV]; decide
  have hr : reckonZ ⟨#[43]⟩ (numV 2147483647).num (numV 1).num = some 2147483648 := by
    simp [reckonZ, Lib.toList_data, numV, V.num]
  rw [opZ, if_pos ⟨by rw [numB, h1]; rfl, by rw [numB, h2]; rfl⟩, hr]
  show (if rightV 4 (numV 2147483648) = true then some 2147483648 else none) = none
  rw [h3]; rfl
theorem aw_test : testB ⟨#[60]⟩ (numV 1) (numV 2) = true := by
  have h1 : rightV 4 (numV 1) = true := by rw [right_numV]; decide
  have h2 : rightV 4 (numV 2) = true := by rw [right_numV]; decide
  rw [testB, h1, h2, cmp_num]
  simp [tstZ, Lib.toList_data, Lib.compareInt]
theorem aw_print : printB (listV [numV 1, numV 2]) = [91, 49, 44, 50, 93] := by
  rw [printB, if_pos aw_two]
  have h1 : Lib.itoa 1 = [49] := by simp [Lib.itoa, Lib.decDigits_one (i := 1) (by omega)]
  have h2 : Lib.itoa 2 = [50] := by simp [Lib.itoa, Lib.decDigits_one (i := 2) (by omega)]
  simp [listV, numV, prV, prL, h1, h2]
theorem aw_zero : printB (numV 0) = [48] := by
  have h0 : rightV 4 (numV 0) = true := by rw [right_numV]; decide
  rw [printB, if_pos h0]
  have h1 : Lib.itoa 0 = [48] := by simp [Lib.itoa, Lib.decDigits_one (i := 0) (by omega)]
  simp [numV, prV, h1]

end Go.Proofs.YtgkgnfafjbjbnaaDoor
