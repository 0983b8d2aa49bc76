/-
  BuiltinSums: for every two numbers the law returns true: sums and differences undo one another, and may change places; beyond the numbers there are none.
-/
import Derived.Test.YtlnkngahiapidaaDoorSumsA
import Derived.Test.YtlnkngahiapidaaDoorSumsB
import Derived.Test.YtlnkngahiapidaaDoorSumsC
import Derived.Test.YtlnkngahiapidaaDoorSumsD
import Derived.Test.YtlnkngahiapidaaDoorSumsE
import Derived.Test.YtlnkngahiapidaaDoorSumsF
import Derived.Test.YtlnkngahiapidaaDoorSumsG
import Derived.Test.YtlnkngahiapidaaDoorSumsH
namespace Go.Proofs.YtlnkngahiapidaaDoor.builtinSums
open Go.ChangeShapes Go.WideShapes Go.ChangeAt Go.RowKit

theorem walk (n m : Int) (W : World) (htab : TabOk W) (hn : I64 n) (hm : I64 m) :
    Calls Tryd.prog 9 #[.int .i64 n, .int .i64 m] W fun e W' => e = .returned (.bool true) ∧ Below W.heap.size W W' := by
  obtain ⟨pn1, pn2⟩ := pickZ_bd n 4294967295 (by omega)
  obtain ⟨pm1, pm2⟩ := pickZ_bd m 4294967295 (by omega)
  have ha : In (pickZ n 4294967295 - 2147483647) := ⟨by omega, by omega⟩
  have hb : In (pickZ m 4294967295 - 2147483647) := ⟨by omega, by omega⟩
  by_cases hp : In (pickZ n 4294967295 - 2147483647 + (pickZ m 4294967295 - 2147483647)) <;> by_cases hu : In ((pickZ n 4294967295 - 2147483647) * (pickZ m 4294967295 - 2147483647)) <;> by_cases hr : In (pickZ n 4294967295 - 2147483647 - (pickZ m 4294967295 - 2147483647))
  · exact tail_pur n m W htab hn hm _ _ (Lib.hid rfl) (Lib.hid rfl) ha hb hp hu hr
  · exact tail_pun n m W htab hn hm _ _ (Lib.hid rfl) (Lib.hid rfl) ha hb hp hu hr
  · exact tail_pnr n m W htab hn hm _ _ (Lib.hid rfl) (Lib.hid rfl) ha hb hp hu hr
  · exact tail_pnn n m W htab hn hm _ _ (Lib.hid rfl) (Lib.hid rfl) ha hb hp hu hr
  · exact tail_nur n m W htab hn hm _ _ (Lib.hid rfl) (Lib.hid rfl) ha hb hp hu hr
  · exact tail_nun n m W htab hn hm _ _ (Lib.hid rfl) (Lib.hid rfl) ha hb hp hu hr
  · exact tail_nnr n m W htab hn hm _ _ (Lib.hid rfl) (Lib.hid rfl) ha hb hp hu hr
  · exact tail_nnn n m W htab hn hm _ _ (Lib.hid rfl) (Lib.hid rfl) ha hb hp hu hr


end Go.Proofs.YtlnkngahiapidaaDoor.builtinSums
