/-
  BuiltinSums: one of the eight ways: whether sum, product and difference are numbers that may be.
-/
import Derived.Test.YtlnkngahiapidaaDoorSumsKit
namespace Go.Proofs.YtlnkngahiapidaaDoor.builtinSums
open Go.ChangeShapes Go.WideShapes Go.ChangeAt Go.RowKit

set_option maxRecDepth 100000 in
set_option maxHeartbeats 1200000 in
theorem tail_pur (n m : Int) (W : World) (htab : TabOk W) (hn : I64 n) (hm : I64 m) (a b : Int) (ea : Hid (pickZ n 4294967295 - 2147483647 = a)) (eb : Hid (pickZ m 4294967295 - 2147483647 = b)) (ha : In a) (hb0 : In b) (hp : In (a + b)) (hu : In (a * b)) (hr : In (a - b)) :
    Calls Tryd.prog 9 #[.int .i64 n, .int .i64 m] W fun e W' => e = .returned (.bool true) ∧ Below W.heap.size W W' := by
  have HT := Lib.hid htab
  have hg := tab_lt htab
  obtain ⟨pn1, pn2⟩ := pickZ_bd n 4294967295 (by omega)
  obtain ⟨pm1, pm2⟩ := pickZ_bd m 4294967295 (by omega)
  have HP := Lib.hid hp; have HU := Lib.hid hu; have HR := Lib.hid hr; have HA := Lib.hid ha; have HB := Lib.hid hb0
  have hab := mul_bound ha hb0
  obtain ⟨ab1, ab2⟩ := hab; obtain ⟨a1, a2⟩ := ha; obtain ⟨b1', b2'⟩ := hb0
  have OS : Hid (opZ ⟨#[43]⟩ (numV a) (numV b) = some (a + b)) := op_in HA.out HB.out (add_is a b) HP.out
  have OT : Hid (opZ ⟨#[43]⟩ (numV b) (numV a) = some (a + b)) := op_in HB.out HA.out (by rw [add_is, Int.add_comm]) HP.out
  have OD : Hid (opZ ⟨#[45]⟩ (numV a) (numV b) = some (a - b)) := op_in HA.out HB.out (sub_is a b) HR.out
  have OX : Hid (opZ ⟨#[42]⟩ (numV a) (numV b) = some (a * b)) := op_in HA.out HB.out (mul_is a b) HU.out
  have OY : Hid (opZ ⟨#[45]⟩ (numV (a + b)) (numV b) = some a) := op_in HP.out HB.out (by rw [sub_is, Int.add_sub_cancel]) HA.out
  have OZ : Hid (opZ ⟨#[43]⟩ (numV (a - b)) (numV b) = some a) := op_in HR.out HB.out (by rw [add_is, Int.sub_add_cancel]) HA.out
  have ia : I64 a := ⟨by omega, by omega⟩
  have ib : I64 b := ⟨by omega, by omega⟩
  have IA := Lib.hid ia; have IB := Lib.hid ib; clear ia ib
  clear hp hu hr htab
  go_enter Tryd.func9, Tryd.ntmps9
  go_wp2_with fail
  refine (awake2_any _ hg HT.out).mono ?_
  rintro e w1 ⟨rfl, b1⟩
  have B1 := Lib.hid b1; clear b1
  go_wp2_with fail
  refine (pick2_any n 4294967295 _ hn (by omega) (by omega)).mono ?_
  rintro e w' ⟨rfl, rfl⟩
  go_wp2_with fail
  rw [ea.out]
  refine (number_any _ _).mono ?_
  rintro e w2 ⟨rfl, hb⟩
  have B2 := Lib.hid (Below.step B1.out hb); clear hb B1
  go_wp2_with fail
  have XX := boxed_new w2 (.int .i64 1) (.int .i64 (a)) (.string ⟨#[]⟩) (.slice none 0 0)
  have hb := stands_alloc w2 (.cells #[.int .i64 1, .int .i64 (a), .string ⟨#[]⟩, .slice none 0 0] 24)
  generalize w2.alloc (.cells #[.int .i64 1, .int .i64 (a), .string ⟨#[]⟩, .slice none 0 0] 24) = w3 at *
  generalize w2.heap.size = bA at XX ⊢
  have XA3 := Lib.hid XX; clear XX
  have B3 := Lib.hid (Below.step B2.out hb)
  clear hb B2 
  refine (pick2_any m 4294967295 _ hm (by omega) (by omega)).mono ?_
  rintro e w' ⟨rfl, rfl⟩
  go_wp2_with fail
  rw [eb.out]
  refine (number_any _ _).mono ?_
  rintro e w4 ⟨rfl, hb⟩
  have B4 := Lib.hid (Below.step B3.out hb)
  have XA4 := Lib.hid (XA3.out.on hb)
  clear B3 XA3
  clear hb
  generalize pickZ n 4294967295 = zn at *; generalize pickZ m 4294967295 = zm at *
  obtain ⟨cA0, cA1, cA2, cA3⟩ := XA4.out.cells
  have CA := XA4.out.on (stands_alloc w4 (.cells #[.int .i64 1, .int .i64 b, .string ⟨#[]⟩, .slice none 0 0] 24))
  clear cA0 cA1 cA2 cA3
  obtain ⟨cA0, cA1, cA2, cA3⟩ := CA.cells; clear CA
  go_wp2_with fail
  clear cA0 cA1 cA2 cA3
  have XX := boxed_new w4 (.int .i64 1) (.int .i64 (b)) (.string ⟨#[]⟩) (.slice none 0 0)
  have hb := stands_alloc w4 (.cells #[.int .i64 1, .int .i64 (b), .string ⟨#[]⟩, .slice none 0 0] 24)
  generalize w4.alloc (.cells #[.int .i64 1, .int .i64 (b), .string ⟨#[]⟩, .slice none 0 0] 24) = w5 at *
  generalize w4.heap.size = bB at XX ⊢
  have XB5 := Lib.hid XX; clear XX
  have B5 := Lib.hid (Below.step B4.out hb)
  have XA5 := Lib.hid (XA4.out.on hb)
  clear hb B4 XA4
  obtain ⟨cA0, cA1, cA2, cA3⟩ := XA5.out.cells
  obtain ⟨cB0, cB1, cB2, cB3⟩ := XB5.out.cells
  go_wp2_with fail
  refine (op_any ⟨#[43]⟩ (numV a) (numV b) 0 _ _ _ _ _ _ _ _ _ (Nat.zero_le _) (rep_num IA.out) (rep_num IB.out)).mono ?_
  rintro e w6 ⟨rfl, hb⟩
  rw [OS.out]
  simp only [opCells, Option.isSome]
  have B6 := Lib.hid (Below.step B5.out hb)
  have XA6 := Lib.hid (XA5.out.on hb)
  have XB6 := Lib.hid (XB5.out.on hb)
  clear B5 XA5 XB5
  clear hb
  clear cA0 cA1 cA2 cA3
  clear cB0 cB1 cB2 cB3
  obtain ⟨cA0, cA1, cA2, cA3⟩ := (XA6.out.on (stands_alloc w6 (.cells #[.int .i64 1, .int .i64 (a + b), .string ⟨#[]⟩, .slice none 0 0] 24))).cells
  obtain ⟨cB0, cB1, cB2, cB3⟩ := (XB6.out.on (stands_alloc w6 (.cells #[.int .i64 1, .int .i64 (a + b), .string ⟨#[]⟩, .slice none 0 0] 24))).cells
  go_wp2_with fail
  clear cA0 cA1 cA2 cA3
  clear cB0 cB1 cB2 cB3
  have XX := boxed_new w6 (.int .i64 1) (.int .i64 (a + b)) (.string ⟨#[]⟩) (.slice none 0 0)
  have hb := stands_alloc w6 (.cells #[.int .i64 1, .int .i64 (a + b), .string ⟨#[]⟩, .slice none 0 0] 24)
  generalize w6.alloc (.cells #[.int .i64 1, .int .i64 (a + b), .string ⟨#[]⟩, .slice none 0 0] 24) = w7 at *
  generalize w6.heap.size = bS at XX ⊢
  have XS7 := Lib.hid XX; clear XX
  have B7 := Lib.hid (Below.step B6.out hb)
  have XA7 := Lib.hid (XA6.out.on hb)
  have XB7 := Lib.hid (XB6.out.on hb)
  clear hb B6 XA6 XB6
  refine (op_any ⟨#[43]⟩ (numV b) (numV a) 0 _ _ _ _ _ _ _ _ _ (Nat.zero_le _) (rep_num IB.out) (rep_num IA.out)).mono ?_
  rintro e w8 ⟨rfl, hb⟩
  rw [OT.out]
  simp only [opCells, Option.isSome]
  have B8 := Lib.hid (Below.step B7.out hb)
  have XA8 := Lib.hid (XA7.out.on hb)
  have XB8 := Lib.hid (XB7.out.on hb)
  have XS8 := Lib.hid (XS7.out.on hb)
  clear B7 XA7 XB7 XS7
  clear hb
  obtain ⟨cA0, cA1, cA2, cA3⟩ := (XA8.out.on (stands_alloc w8 (.cells #[.int .i64 1, .int .i64 (a + b), .string ⟨#[]⟩, .slice none 0 0] 24))).cells
  obtain ⟨cB0, cB1, cB2, cB3⟩ := (XB8.out.on (stands_alloc w8 (.cells #[.int .i64 1, .int .i64 (a + b), .string ⟨#[]⟩, .slice none 0 0] 24))).cells
  go_wp2_with fail
  clear cA0 cA1 cA2 cA3
  clear cB0 cB1 cB2 cB3
  have XX := boxed_new w8 (.int .i64 1) (.int .i64 (a + b)) (.string ⟨#[]⟩) (.slice none 0 0)
  have hb := stands_alloc w8 (.cells #[.int .i64 1, .int .i64 (a + b), .string ⟨#[]⟩, .slice none 0 0] 24)
  generalize w8.alloc (.cells #[.int .i64 1, .int .i64 (a + b), .string ⟨#[]⟩, .slice none 0 0] 24) = w9 at *
  generalize w8.heap.size = bT at XX ⊢
  have XT9 := Lib.hid XX; clear XX
  have B9 := Lib.hid (Below.step B8.out hb)
  have XA9 := Lib.hid (XA8.out.on hb)
  have XB9 := Lib.hid (XB8.out.on hb)
  have XS9 := Lib.hid (XS8.out.on hb)
  clear hb B8 XA8 XB8 XS8
  refine (op_any ⟨#[45]⟩ (numV a) (numV b) 0 _ _ _ _ _ _ _ _ _ (Nat.zero_le _) (rep_num IA.out) (rep_num IB.out)).mono ?_
  rintro e w10 ⟨rfl, hb⟩
  rw [OD.out]
  simp only [opCells, Option.isSome]
  have B10 := Lib.hid (Below.step B9.out hb)
  have XA10 := Lib.hid (XA9.out.on hb)
  have XB10 := Lib.hid (XB9.out.on hb)
  have XS10 := Lib.hid (XS9.out.on hb)
  have XT10 := Lib.hid (XT9.out.on hb)
  clear B9 XA9 XB9 XS9 XT9
  clear hb
  obtain ⟨cA0, cA1, cA2, cA3⟩ := (XA10.out.on (stands_alloc w10 (.cells #[.int .i64 1, .int .i64 (a - b), .string ⟨#[]⟩, .slice none 0 0] 24))).cells
  obtain ⟨cB0, cB1, cB2, cB3⟩ := (XB10.out.on (stands_alloc w10 (.cells #[.int .i64 1, .int .i64 (a - b), .string ⟨#[]⟩, .slice none 0 0] 24))).cells
  go_wp2_with fail
  clear cA0 cA1 cA2 cA3
  clear cB0 cB1 cB2 cB3
  have XX := boxed_new w10 (.int .i64 1) (.int .i64 (a - b)) (.string ⟨#[]⟩) (.slice none 0 0)
  have hb := stands_alloc w10 (.cells #[.int .i64 1, .int .i64 (a - b), .string ⟨#[]⟩, .slice none 0 0] 24)
  generalize w10.alloc (.cells #[.int .i64 1, .int .i64 (a - b), .string ⟨#[]⟩, .slice none 0 0] 24) = w11 at *
  generalize w10.heap.size = bD at XX ⊢
  have XD11 := Lib.hid XX; clear XX
  have B11 := Lib.hid (Below.step B10.out hb)
  have XA11 := Lib.hid (XA10.out.on hb)
  have XB11 := Lib.hid (XB10.out.on hb)
  have XS11 := Lib.hid (XS10.out.on hb)
  have XT11 := Lib.hid (XT10.out.on hb)
  clear hb B10 XA10 XB10 XS10 XT10
  refine (op_any ⟨#[42]⟩ (numV a) (numV b) 0 _ _ _ _ _ _ _ _ _ (Nat.zero_le _) (rep_num IA.out) (rep_num IB.out)).mono ?_
  rintro e w12 ⟨rfl, hb⟩
  rw [OX.out]
  simp only [opCells, Option.isSome]
  have B12 := Lib.hid (Below.step B11.out hb)
  have XA12 := Lib.hid (XA11.out.on hb)
  have XB12 := Lib.hid (XB11.out.on hb)
  have XS12 := Lib.hid (XS11.out.on hb)
  have XT12 := Lib.hid (XT11.out.on hb)
  have XD12 := Lib.hid (XD11.out.on hb)
  clear B11 XA11 XB11 XS11 XT11 XD11
  clear hb
  obtain ⟨cA0, cA1, cA2, cA3⟩ := (XA12.out.on (stands_alloc w12 (.cells #[.int .i64 1, .int .i64 (a * b), .string ⟨#[]⟩, .slice none 0 0] 24))).cells
  obtain ⟨cB0, cB1, cB2, cB3⟩ := (XB12.out.on (stands_alloc w12 (.cells #[.int .i64 1, .int .i64 (a * b), .string ⟨#[]⟩, .slice none 0 0] 24))).cells
  obtain ⟨cS0, cS1, cS2, cS3⟩ := (XS12.out.on (stands_alloc w12 (.cells #[.int .i64 1, .int .i64 (a * b), .string ⟨#[]⟩, .slice none 0 0] 24))).cells
  obtain ⟨cT0, cT1, cT2, cT3⟩ := (XT12.out.on (stands_alloc w12 (.cells #[.int .i64 1, .int .i64 (a * b), .string ⟨#[]⟩, .slice none 0 0] 24))).cells
  obtain ⟨cD0, cD1, cD2, cD3⟩ := (XD12.out.on (stands_alloc w12 (.cells #[.int .i64 1, .int .i64 (a * b), .string ⟨#[]⟩, .slice none 0 0] 24))).cells
  go_wp2_with fail
  clear cA0 cA1 cA2 cA3
  clear cB0 cB1 cB2 cB3
  clear cS0 cS1 cS2 cS3
  clear cT0 cT1 cT2 cT3
  clear cD0 cD1 cD2 cD3
  have XX := boxed_new w12 (.int .i64 1) (.int .i64 (a * b)) (.string ⟨#[]⟩) (.slice none 0 0)
  have hb := stands_alloc w12 (.cells #[.int .i64 1, .int .i64 (a * b), .string ⟨#[]⟩, .slice none 0 0] 24)
  generalize w12.alloc (.cells #[.int .i64 1, .int .i64 (a * b), .string ⟨#[]⟩, .slice none 0 0] 24) = w13 at *
  generalize w12.heap.size = bX at XX ⊢
  have XX13 := Lib.hid XX; clear XX
  have B13 := Lib.hid (Below.step B12.out hb)
  have XA13 := Lib.hid (XA12.out.on hb)
  have XB13 := Lib.hid (XB12.out.on hb)
  have XS13 := Lib.hid (XS12.out.on hb)
  have XT13 := Lib.hid (XT12.out.on hb)
  have XD13 := Lib.hid (XD12.out.on hb)
  clear hb B12 XA12 XB12 XS12 XT12 XD12
  have IS : Hid (I64 (a + b)) := ⟨by omega, by omega⟩
  have ID : Hid (I64 (a - b)) := ⟨by omega, by omega⟩
  refine (same_self (numV (a + b)) 0 _ _ _ _ _ _ _ _ _ (Nat.zero_le _) (rep_num IS.out) (rep_num IS.out)).mono ?_
  rintro e w14 ⟨rfl, hb⟩
  have B14 := Lib.hid (Below.step B13.out hb)
  have XA14 := Lib.hid (XA13.out.on hb)
  have XB14 := Lib.hid (XB13.out.on hb)
  have XS14 := Lib.hid (XS13.out.on hb)
  have XT14 := Lib.hid (XT13.out.on hb)
  have XD14 := Lib.hid (XD13.out.on hb)
  have XX14 := Lib.hid (XX13.out.on hb)
  clear B13 XA13 XB13 XS13 XT13 XD13 XX13
  clear hb
  have s1 : a + b ≤ 2147483647 := HP.out.2
  have s2 : -2147483647 ≤ a + b := HP.out.1
  have x1 : a * b ≤ 2147483647 := HU.out.2
  have x2 : -2147483647 ≤ a * b := HU.out.1
  obtain ⟨cA0, cA1, cA2, cA3⟩ := XA14.out.cells
  obtain ⟨cB0, cB1, cB2, cB3⟩ := XB14.out.cells
  obtain ⟨cS0, cS1, cS2, cS3⟩ := XS14.out.cells
  obtain ⟨cT0, cT1, cT2, cT3⟩ := XT14.out.cells
  obtain ⟨cD0, cD1, cD2, cD3⟩ := XD14.out.cells
  obtain ⟨cX0, cX1, cX2, cX3⟩ := XX14.out.cells
  go_wp2_with fail
  clear cA0 cA1 cA2 cA3
  clear cB0 cB1 cB2 cB3
  clear cS0 cS1 cS2 cS3
  clear cT0 cT1 cT2 cT3
  clear cD0 cD1 cD2 cD3
  clear cX0 cX1 cX2 cX3
  refine (op_any ⟨#[45]⟩ (numV (a + b)) (numV b) 0 _ _ _ _ _ _ _ _ _ (Nat.zero_le _) (rep_num IS.out) (rep_num IB.out)).mono ?_
  rintro e w15 ⟨rfl, hb⟩
  rw [OY.out]
  simp only [opCells, Option.isSome]
  have B15 := Lib.hid (Below.step B14.out hb)
  have XA15 := Lib.hid (XA14.out.on hb)
  have XB15 := Lib.hid (XB14.out.on hb)
  have XS15 := Lib.hid (XS14.out.on hb)
  have XT15 := Lib.hid (XT14.out.on hb)
  have XD15 := Lib.hid (XD14.out.on hb)
  have XX15 := Lib.hid (XX14.out.on hb)
  clear B14 XA14 XB14 XS14 XT14 XD14 XX14
  clear hb
  obtain ⟨cA0, cA1, cA2, cA3⟩ := (XA15.out.on (stands_alloc w15 (.cells #[.int .i64 1, .int .i64 (a), .string ⟨#[]⟩, .slice none 0 0] 24))).cells
  go_wp2_with fail
  clear cA0 cA1 cA2 cA3
  have XX := boxed_new w15 (.int .i64 1) (.int .i64 (a)) (.string ⟨#[]⟩) (.slice none 0 0)
  have hb := stands_alloc w15 (.cells #[.int .i64 1, .int .i64 (a), .string ⟨#[]⟩, .slice none 0 0] 24)
  generalize w15.alloc (.cells #[.int .i64 1, .int .i64 (a), .string ⟨#[]⟩, .slice none 0 0] 24) = w16 at *
  generalize w15.heap.size = bY at XX ⊢
  have XY16 := Lib.hid XX; clear XX
  have B16 := Lib.hid (Below.step B15.out hb)
  have XA16 := Lib.hid (XA15.out.on hb)
  have XB16 := Lib.hid (XB15.out.on hb)
  have XS16 := Lib.hid (XS15.out.on hb)
  have XT16 := Lib.hid (XT15.out.on hb)
  have XD16 := Lib.hid (XD15.out.on hb)
  have XX16 := Lib.hid (XX15.out.on hb)
  clear hb B15 XA15 XB15 XS15 XT15 XD15 XX15
  refine (same_self (numV a) 0 _ _ _ _ _ _ _ _ _ (Nat.zero_le _) (rep_num IA.out) (rep_num IA.out)).mono ?_
  rintro e w17 ⟨rfl, hb⟩
  have B17 := Lib.hid (Below.step B16.out hb)
  have XA17 := Lib.hid (XA16.out.on hb)
  have XB17 := Lib.hid (XB16.out.on hb)
  have XS17 := Lib.hid (XS16.out.on hb)
  have XT17 := Lib.hid (XT16.out.on hb)
  have XD17 := Lib.hid (XD16.out.on hb)
  have XX17 := Lib.hid (XX16.out.on hb)
  have XY17 := Lib.hid (XY16.out.on hb)
  clear B16 XA16 XB16 XS16 XT16 XD16 XX16 XY16
  clear hb
  obtain ⟨cD0, cD1, cD2, cD3⟩ := XD17.out.cells
  obtain ⟨cB0, cB1, cB2, cB3⟩ := XB17.out.cells
  go_wp2_with fail
  clear cD0 cD1 cD2 cD3
  clear cB0 cB1 cB2 cB3
  refine (op_any ⟨#[43]⟩ (numV (a - b)) (numV b) 0 _ _ _ _ _ _ _ _ _ (Nat.zero_le _) (rep_num ID.out) (rep_num IB.out)).mono ?_
  rintro e w18 ⟨rfl, hb⟩
  rw [OZ.out]
  simp only [opCells, Option.isSome]
  have B18 := Lib.hid (Below.step B17.out hb)
  have XA18 := Lib.hid (XA17.out.on hb)
  have XB18 := Lib.hid (XB17.out.on hb)
  have XS18 := Lib.hid (XS17.out.on hb)
  have XT18 := Lib.hid (XT17.out.on hb)
  have XD18 := Lib.hid (XD17.out.on hb)
  have XX18 := Lib.hid (XX17.out.on hb)
  have XY18 := Lib.hid (XY17.out.on hb)
  clear B17 XA17 XB17 XS17 XT17 XD17 XX17 XY17
  clear hb
  obtain ⟨cA0, cA1, cA2, cA3⟩ := (XA18.out.on (stands_alloc w18 (.cells #[.int .i64 1, .int .i64 (a), .string ⟨#[]⟩, .slice none 0 0] 24))).cells
  go_wp2_with fail
  clear cA0 cA1 cA2 cA3
  have XX := boxed_new w18 (.int .i64 1) (.int .i64 (a)) (.string ⟨#[]⟩) (.slice none 0 0)
  have hb := stands_alloc w18 (.cells #[.int .i64 1, .int .i64 (a), .string ⟨#[]⟩, .slice none 0 0] 24)
  generalize w18.alloc (.cells #[.int .i64 1, .int .i64 (a), .string ⟨#[]⟩, .slice none 0 0] 24) = w19 at *
  generalize w18.heap.size = bY2 at XX ⊢
  have XY219 := Lib.hid XX; clear XX
  have B19 := Lib.hid (Below.step B18.out hb)
  have XA19 := Lib.hid (XA18.out.on hb)
  have XB19 := Lib.hid (XB18.out.on hb)
  have XS19 := Lib.hid (XS18.out.on hb)
  have XT19 := Lib.hid (XT18.out.on hb)
  have XD19 := Lib.hid (XD18.out.on hb)
  have XX19 := Lib.hid (XX18.out.on hb)
  have XY19 := Lib.hid (XY18.out.on hb)
  clear hb B18 XA18 XB18 XS18 XT18 XD18 XX18 XY18
  refine (same_self (numV a) 0 _ _ _ _ _ _ _ _ _ (Nat.zero_le _) (rep_num IA.out) (rep_num IA.out)).mono ?_
  rintro e w20 ⟨rfl, hb⟩
  have B20 := Lib.hid (Below.step B19.out hb)
  have XA20 := Lib.hid (XA19.out.on hb)
  have XB20 := Lib.hid (XB19.out.on hb)
  have XS20 := Lib.hid (XS19.out.on hb)
  have XT20 := Lib.hid (XT19.out.on hb)
  have XD20 := Lib.hid (XD19.out.on hb)
  have XX20 := Lib.hid (XX19.out.on hb)
  have XY20 := Lib.hid (XY19.out.on hb)
  have XY220 := Lib.hid (XY219.out.on hb)
  clear B19 XA19 XB19 XS19 XT19 XD19 XX19 XY19 XY219
  clear hb
  go_wp2_with fail
  go_ret
  exact ⟨rfl, B20.out⟩

end Go.Proofs.YtlnkngahiapidaaDoor.builtinSums
