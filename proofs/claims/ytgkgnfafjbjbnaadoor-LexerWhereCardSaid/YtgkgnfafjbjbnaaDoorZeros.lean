/-
  A row of 20001 bytes that 'make' lays, as a string.
-/
import Derived.Test.YtgkgnfafjbjbnaaDoorList
import Derived.Laws.IdiomStrings
namespace Go.Proofs.YtgkgnfafjbjbnaaDoor
open Go.RowKit

theorem infoByte : (Tryd.prog.info? 5).map (fun i => (i.zero, i.size, i.bytes)) = some (some (.int .u8 0), 1, 1) := by kernel_rfl
theorem zeros_exist (n : Nat) (hn : n ≤ 1000000) : ∃ (row : Array Value) (z : ByteArray), z.size = n ∧
    (∀ w : World, (Instr.makeSlice 60 (.int .i64 (n : Int)) (.int .i64 (n : Int))).run Tryd.prog w = .ok (.slice (some ⟨w.heap.size, 0, none⟩) n n) (w.alloc (.cells row 5))) ∧
    (∀ w : World, (convert 60 9 (.slice (some ⟨w.heap.size, 0, none⟩) n n)).run Tryd.prog (w.alloc (.cells row 5)) = .ok (.string z) (w.alloc (.cells row 5))) := by
  obtain ⟨i0, hi, hz0, hz1, hz2⟩ := info_parts infoByte
  have hsz : ∀ m : Nat, (⟨(List.replicate m (0 : UInt8)).toArray⟩ : ByteArray).size = m := fun m => by
    show (List.replicate m (0 : UInt8)).toArray.size = m
    simp
  refine ⟨madeCells #[.int .u8 0] n, ⟨(List.replicate n 0).toArray⟩, hsz n, fun w => ?_, fun w => ?_⟩
  · have h := Go.run_make (P := Tryd.prog) w 60 5 i0 _ Tryd.underlying60 hi hz0 .i64 .i64 n n (by omega) (by omega) (by rw [hz2]; omega) (by omega)
    rw [h, hz1, Int.toNat_natCast, Nat.mul_one]
    rfl
  · have h := run_convert_bytes_back (P := Tryd.prog) (w.alloc (.cells (madeCells #[.int .u8 0] n) 5)) 60 9 5 ⟨w.heap.size, 0, none⟩ n (List.replicate n 0) Tryd.underlying60 Tryd.underlying5 Tryd.underlying9 (fun j hj => by
      have hj' : j < n := by simpa using hj
      have e : ((⟨w.heap.size, 0, none⟩ : Addr).add j) = ⟨w.heap.size, j, none⟩ := by unfold Addr.add; split <;> simp_all
      rw [e]
      refine cell_of_block' (alloc_new' w _) _ ?_
      have hl : j < (madeCells #[.int .u8 0] n).size := by rw [size_madeCells]; exact hj'
      rw [Array.getElem?_eq_getElem hl]
      simp [madeCells, Nat.mod_one])
    rw [List.length_replicate] at h
    exact h

end Go.Proofs.YtgkgnfafjbjbnaaDoor
