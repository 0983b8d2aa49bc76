/-
  BuiltinConcat: for every two lists and value the law returns true: sizes add up in f_concat, in which a member is one of either; a list that would be too long is none.
-/
import Derived.Test.YtlnkngahiapidaaDoorLawKit
namespace Go.Proofs.YtlnkngahiapidaaDoor.builtinConcat
open Go.ChangeShapes Go.WideShapes Go.ChangeAt Go.RowKit

set_option maxRecDepth 100000 in
set_option maxHeartbeats 3000000 in
theorem core_in (raw two : List V) (x : V) (W : World) (a a' c0 c1 c2 c3 : Value) (htab : TabOk W) (hraw : RepL W.heap.size W raw a) (htwo : RepL W.heap.size W two a') (hx : RepV W.heap.size W x c0 c1 c2 c3) (l m v : V) (hl : Hid (listV (listTo raw 16) = l)) (hm : Hid (listV (listTo two 16) = m)) (hv : Hid (listTo [x] 1 = [v])) (hl16 : l.list.length ≤ 16) (hm16 : m.list.length ≤ 16) (hsum : l.list.length + m.list.length ≤ 16) (A N P Q R : V)
    (C1 : Hid (callV 2 [l, m] = some A)) (C2 : Hid (callV 4 [A] = some N)) (C3 : Hid (callV 3 [A, v] = some P)) (C4 : Hid (callV 3 [l, v] = some Q)) (C5 : Hid (callV 3 [m, v] = some R)) (EN : Hid (N.num = (l.list.length : Int) + (m.list.length : Int))) (EP : Hid (P.num = max Q.num R.num)) :
    Calls Tryd.prog 8 #[a, a', .agg #[c0, c1, c2, c3]] W fun e W' => e = .returned (.bool true) ∧ Below W.heap.size W W' := by
  have HX := Lib.hid hx; have HRAW := Lib.hid hraw; have HTWO := Lib.hid htwo
  have HT := Lib.hid htab
  have hg := tab_lt htab
  obtain ⟨fa, fc, rfl, rfl, rfl, rfl⟩ := hx.form
  obtain ⟨aa, ab, ao, ac, rfl, -⟩ := hraw
  obtain ⟨ta', tb', to', tc', rfl, -⟩ := htwo
  clear hx htab
  go_enter Tryd.func8, Tryd.ntmps8
  go_wp2_with fail
  have x1 := boxed_new W (.int .i64 x.kind) (.int .i64 x.num) (.string x.text) (.slice fa x.list.length fc)
  have b1 := stands_alloc W (.cells #[.int .i64 x.kind, .int .i64 x.num, .string x.text, .slice fa x.list.length fc] 24)
  generalize W.alloc (.cells #[.int .i64 x.kind, .int .i64 x.num, .string x.text, .slice fa x.list.length fc] 24) = w1 at *
  refine (awake2_any _ (Nat.lt_of_lt_of_le hg b1.size) (HT.out.below hg b1)).mono ?_
  rintro e w2 ⟨rfl, b2⟩
  have XZ2 := Lib.hid (x1.on b2); have B2 := Lib.hid (Below.step b1 b2)
  clear x1 b1 b2
  go_wp2_with fail
  refine (list2_any raw W.heap.size _ _ 16 (by omega) B2.out.size (RepL.below (fun j hj => B2.out.block j hj) HRAW.out)).mono ?_
  rw [hl.out]
  rintro e w3 ⟨c0, c1, c2, c3, rfl, hr, hb⟩
  have NR := Lib.hid (hr.on (S' := fun b => b < w3.heap.size) (fun b hb => hb.2) (fun _ _ => rfl))
  obtain ⟨faL, fcL, rfl, rfl, rfl, rfl⟩ := hr.form
  have XZ3 := Lib.hid (XZ2.out.on hb); have B3 := Lib.hid (Below.step B2.out hb)
  have RZ3 := Lib.hid ((RepV.on B3.out (Nat.le_refl _) HX.out).up B3.out.size _)
  clear hr hb XZ2 B2
  obtain ⟨faZ, hfaZ⟩ : ∃ q, q = fa := ⟨_, rfl⟩; obtain ⟨fcZ, hfcZ⟩ : ∃ q, q = fc := ⟨_, rfl⟩; subst hfaZ; subst hfcZ
  go_wp2_with fail
  (try rw [← World.size_alloc w3 (.cells #[.int .i64 l.kind, .int .i64 l.num, .string l.text, .slice faL l.list.length fcL] 24)])
  have XX := boxed_new w3 (.int .i64 l.kind) (.int .i64 l.num) (.string l.text) (.slice faL l.list.length fcL)
  have hbx := stands_alloc w3 (.cells #[.int .i64 l.kind, .int .i64 l.num, .string l.text, .slice faL l.list.length fcL] 24)
  generalize w3.alloc (.cells #[.int .i64 l.kind, .int .i64 l.num, .string l.text, .slice faL l.list.length fcL] 24) = w4 at *
  generalize w3.heap.size = bL at XX ⊢
  have RR := Lib.hid ((RepV.on hbx (Nat.le_refl _) NR.out).up hbx.size _)
  have XN := Lib.hid XX
  have B4 := Lib.hid (Below.step B3.out hbx)
  have XZ4 := Lib.hid (XZ3.out.on hbx); have RZ4 := Lib.hid ((RepV.on hbx (Nat.le_refl _) RZ3.out).up hbx.size _)
  clear B3 XZ3 RZ3
  have XL4 := XN; have RL4 := RR
  clear XX hbx RR XN NR
  refine (list2_any two W.heap.size _ _ 16 (by omega) B4.out.size (RepL.below (fun j hj => B4.out.block j hj) HTWO.out)).mono ?_
  rw [hm.out]
  rintro e w5 ⟨c0, c1, c2, c3, rfl, hr, hb⟩
  have NR := Lib.hid (hr.on (S' := fun b => b < w5.heap.size) (fun b hb => hb.2) (fun _ _ => rfl))
  obtain ⟨faM, fcM, rfl, rfl, rfl, rfl⟩ := hr.form
  have B5 := Lib.hid (Below.step B4.out hb)
  have XZ5 := Lib.hid (XZ4.out.on hb); have RZ5 := Lib.hid ((RepV.on hb (Nat.le_refl _) RZ4.out).up hb.size _)
  have XL5 := Lib.hid (XL4.out.on hb); have RL5 := Lib.hid ((RepV.on hb (Nat.le_refl _) RL4.out).up hb.size _)
  clear B4 XZ4 RZ4 XL4 RL4
  clear hr hb
  obtain ⟨cZ0, cZ1, cZ2, cZ3⟩ := (XZ5.out.on (stands_alloc w5 (.cells #[.int .i64 m.kind, .int .i64 m.num, .string m.text, .slice faM m.list.length fcM] 24))).cells
  go_wp2_with fail
  clear cZ0 cZ1 cZ2 cZ3
  (try rw [← World.size_alloc w5 (.cells #[.int .i64 m.kind, .int .i64 m.num, .string m.text, .slice faM m.list.length fcM] 24)])
  have XX := boxed_new w5 (.int .i64 m.kind) (.int .i64 m.num) (.string m.text) (.slice faM m.list.length fcM)
  have hbx := stands_alloc w5 (.cells #[.int .i64 m.kind, .int .i64 m.num, .string m.text, .slice faM m.list.length fcM] 24)
  generalize w5.alloc (.cells #[.int .i64 m.kind, .int .i64 m.num, .string m.text, .slice faM m.list.length fcM] 24) = w6 at *
  generalize w5.heap.size = bM at XX ⊢
  have RR := Lib.hid ((RepV.on hbx (Nat.le_refl _) NR.out).up hbx.size _)
  have XN := Lib.hid XX
  have B6 := Lib.hid (Below.step B5.out hbx)
  have XZ6 := Lib.hid (XZ5.out.on hbx); have RZ6 := Lib.hid ((RepV.on hbx (Nat.le_refl _) RZ5.out).up hbx.size _)
  have XL6 := Lib.hid (XL5.out.on hbx); have RL6 := Lib.hid ((RepV.on hbx (Nat.le_refl _) RL5.out).up hbx.size _)
  clear B5 XZ5 RZ5 XL5 RL5
  have XM6 := XN; have RM6 := RR
  clear XX hbx RR XN NR
  refine (list2_any [x] _ _ _ 1 (by omega) (Nat.le_refl _) (one_at (alloc_new' _ _) (stands_alloc _ _) RZ6.out)).mono ?_
  rw [hv.out]
  rintro e w7 ⟨c0, c1, c2, c3, rfl, hr, hb⟩
  have hb' := Below.step (stands_alloc w6 _) hb
  have hrv : RepV w7.heap.size w7 (listV [v]) c0 c1 c2 c3 := hr.on (fun b hb => hb.2) (fun _ _ => rfl)
  obtain ⟨ta, tc, rfl, rfl, rfl, rfl⟩ := hrv.form
  obtain ⟨-, -, tb, toff, faV, fcV, rfl, -, t0, t1, t2, t3, tr⟩ := RepLG.at hrv.lst 0 (by show 0 < 1; omega)
  change w7.cell? _ = some (.int .i64 v.kind) at t0; change w7.cell? _ = some (.int .i64 v.num) at t1; change w7.cell? _ = some (.string v.text) at t2; change w7.cell? _ = some (.slice faV v.list.length fcV) at t3
  simp only [Nat.zero_mul, Nat.add_zero] at t0 t1 t2 t3
  have htl : (listV [v]).list.length = 1 := rfl
  rw [htl]; clear htl
  have NR : Hid (RepV w7.heap.size w7 v (.int .i64 v.kind) (.int .i64 v.num) (.string v.text) (.slice faV v.list.length fcV)) := tr
  have hf := field_list
  have B7 := Lib.hid (Below.step B6.out hb')
  have XZ7 := Lib.hid (XZ6.out.on hb'); have RZ7 := Lib.hid ((RepV.on hb' (Nat.le_refl _) RZ6.out).up hb'.size _)
  have XL7 := Lib.hid (XL6.out.on hb'); have RL7 := Lib.hid ((RepV.on hb' (Nat.le_refl _) RL6.out).up hb'.size _)
  have XM7 := Lib.hid (XM6.out.on hb'); have RM7 := Lib.hid ((RepV.on hb' (Nat.le_refl _) RM6.out).up hb'.size _)
  clear B6 XZ6 RZ6 XL6 RL6 XM6 RM6
  clear hb hb' hr hrv tr
  obtain ⟨cL0, cL1, cL2, cL3⟩ := (XL7.out.on (stands_alloc w7 (.cells #[.int .i64 v.kind, .int .i64 v.num, .string v.text, .slice faV v.list.length fcV] 24))).cells
  obtain ⟨cM0, cM1, cM2, cM3⟩ := (XM7.out.on (stands_alloc w7 (.cells #[.int .i64 v.kind, .int .i64 v.num, .string v.text, .slice faV v.list.length fcV] 24))).cells
  go_wp2_with fail
  clear cL0 cL1 cL2 cL3
  clear cM0 cM1 cM2 cM3
  (try rw [← World.size_alloc w7 (.cells #[.int .i64 v.kind, .int .i64 v.num, .string v.text, .slice faV v.list.length fcV] 24)])
  have XX := boxed_new w7 (.int .i64 v.kind) (.int .i64 v.num) (.string v.text) (.slice faV v.list.length fcV)
  have hbx := stands_alloc w7 (.cells #[.int .i64 v.kind, .int .i64 v.num, .string v.text, .slice faV v.list.length fcV] 24)
  generalize w7.alloc (.cells #[.int .i64 v.kind, .int .i64 v.num, .string v.text, .slice faV v.list.length fcV] 24) = w8 at *
  generalize w7.heap.size = bV at XX ⊢
  have RR := Lib.hid ((RepV.on hbx (Nat.le_refl _) NR.out).up hbx.size _)
  have XN := Lib.hid XX
  have B8 := Lib.hid (Below.step B7.out hbx)
  have XZ8 := Lib.hid (XZ7.out.on hbx); have RZ8 := Lib.hid ((RepV.on hbx (Nat.le_refl _) RZ7.out).up hbx.size _)
  have XL8 := Lib.hid (XL7.out.on hbx); have RL8 := Lib.hid ((RepV.on hbx (Nat.le_refl _) RL7.out).up hbx.size _)
  have XM8 := Lib.hid (XM7.out.on hbx); have RM8 := Lib.hid ((RepV.on hbx (Nat.le_refl _) RM7.out).up hbx.size _)
  clear B7 XZ7 RZ7 XL7 RL7 XM7 RM7
  have XV8 := XN; have RV8 := RR
  clear XX hbx RR XN NR
  clear hf t0 t1 t2 t3
  refine (call_at 2 (by decide) [l, m] _ _ _ (Nat.le_refl _) (two_at (alloc_new' _ _) (stands_alloc _ _) RL8.out RM8.out)).mono ?_
  rw [C1.out]
  rintro e w9 ⟨c0, c1, c2, c3, rfl, hr, hb⟩
  have hb' := Below.step (stands_alloc w8 _) hb
  have hr' : RepV w9.heap.size w9 A c0 c1 c2 c3 := hr.on (fun k hk => hk.2) (fun _ _ => rfl)
  obtain ⟨faA, fcA, rfl, rfl, rfl, rfl⟩ := hr'.form
  have NR := Lib.hid hr'; clear hr'
  have B9 := Lib.hid (Below.step B8.out hb')
  have XZ9 := Lib.hid (XZ8.out.on hb'); have RZ9 := Lib.hid ((RepV.on hb' (Nat.le_refl _) RZ8.out).up hb'.size _)
  have XL9 := Lib.hid (XL8.out.on hb'); have RL9 := Lib.hid ((RepV.on hb' (Nat.le_refl _) RL8.out).up hb'.size _)
  have XM9 := Lib.hid (XM8.out.on hb'); have RM9 := Lib.hid ((RepV.on hb' (Nat.le_refl _) RM8.out).up hb'.size _)
  have XV9 := Lib.hid (XV8.out.on hb'); have RV9 := Lib.hid ((RepV.on hb' (Nat.le_refl _) RV8.out).up hb'.size _)
  clear B8 XZ8 RZ8 XL8 RL8 XM8 RM8 XV8 RV8
  clear hb hb' hr
  have hle : (l.list.length : Int) + (m.list.length : Int) ≤ 16 := by omega
  have hleb : decide ((l.list.length : Int) + (m.list.length : Int) ≤ 16) = true := by simpa using hle
  obtain ⟨cL0, cL1, cL2, cL3⟩ := (XL9.out.on (stands_alloc w9 (.cells #[.int .i64 A.kind, .int .i64 A.num, .string A.text, .slice faA A.list.length fcA] 24))).cells
  obtain ⟨cM0, cM1, cM2, cM3⟩ := (XM9.out.on (stands_alloc w9 (.cells #[.int .i64 A.kind, .int .i64 A.num, .string A.text, .slice faA A.list.length fcA] 24))).cells
  go_wp2_with fail
  clear cL0 cL1 cL2 cL3
  clear cM0 cM1 cM2 cM3
  (try rw [← World.size_alloc w9 (.cells #[.int .i64 A.kind, .int .i64 A.num, .string A.text, .slice faA A.list.length fcA] 24)])
  have XX := boxed_new w9 (.int .i64 A.kind) (.int .i64 A.num) (.string A.text) (.slice faA A.list.length fcA)
  have hbx := stands_alloc w9 (.cells #[.int .i64 A.kind, .int .i64 A.num, .string A.text, .slice faA A.list.length fcA] 24)
  generalize w9.alloc (.cells #[.int .i64 A.kind, .int .i64 A.num, .string A.text, .slice faA A.list.length fcA] 24) = w10 at *
  generalize w9.heap.size = bA at XX ⊢
  have RR := Lib.hid ((RepV.on hbx (Nat.le_refl _) NR.out).up hbx.size _)
  have XN := Lib.hid XX
  have B10 := Lib.hid (Below.step B9.out hbx)
  have XZ10 := Lib.hid (XZ9.out.on hbx); have RZ10 := Lib.hid ((RepV.on hbx (Nat.le_refl _) RZ9.out).up hbx.size _)
  have XL10 := Lib.hid (XL9.out.on hbx); have RL10 := Lib.hid ((RepV.on hbx (Nat.le_refl _) RL9.out).up hbx.size _)
  have XM10 := Lib.hid (XM9.out.on hbx); have RM10 := Lib.hid ((RepV.on hbx (Nat.le_refl _) RM9.out).up hbx.size _)
  have XV10 := Lib.hid (XV9.out.on hbx); have RV10 := Lib.hid ((RepV.on hbx (Nat.le_refl _) RV9.out).up hbx.size _)
  clear B9 XZ9 RZ9 XL9 RL9 XM9 RM9 XV9 RV9
  have XA10 := XN; have RA10 := RR
  clear XX hbx RR XN NR
  refine (call_at 4 (by decide) [A] _ _ _ (Nat.le_refl _) (one_at (alloc_new' _ _) (stands_alloc _ _) RA10.out)).mono ?_
  rw [C2.out]
  rintro e w11 ⟨c0, c1, c2, c3, rfl, hr, hb⟩
  have hb' := Below.step (stands_alloc w10 _) hb
  have hr' : RepV w11.heap.size w11 N c0 c1 c2 c3 := hr.on (fun k hk => hk.2) (fun _ _ => rfl)
  obtain ⟨faN, fcN, rfl, rfl, rfl, rfl⟩ := hr'.form
  have NR := Lib.hid hr'; clear hr'
  have B11 := Lib.hid (Below.step B10.out hb')
  have XZ11 := Lib.hid (XZ10.out.on hb'); have RZ11 := Lib.hid ((RepV.on hb' (Nat.le_refl _) RZ10.out).up hb'.size _)
  have XL11 := Lib.hid (XL10.out.on hb'); have RL11 := Lib.hid ((RepV.on hb' (Nat.le_refl _) RL10.out).up hb'.size _)
  have XM11 := Lib.hid (XM10.out.on hb'); have RM11 := Lib.hid ((RepV.on hb' (Nat.le_refl _) RM10.out).up hb'.size _)
  have XV11 := Lib.hid (XV10.out.on hb'); have RV11 := Lib.hid ((RepV.on hb' (Nat.le_refl _) RV10.out).up hb'.size _)
  have XA11 := Lib.hid (XA10.out.on hb'); have RA11 := Lib.hid ((RepV.on hb' (Nat.le_refl _) RA10.out).up hb'.size _)
  clear B10 XZ10 RZ10 XL10 RL10 XM10 RM10 XV10 RV10 XA10 RA10
  clear hb hb' hr
  obtain ⟨cA0, cA1, cA2, cA3⟩ := (XA11.out.on (stands_alloc w11 (.cells #[.int .i64 N.kind, .int .i64 N.num, .string N.text, .slice faN N.list.length fcN] 24))).cells
  obtain ⟨cV0, cV1, cV2, cV3⟩ := (XV11.out.on (stands_alloc w11 (.cells #[.int .i64 N.kind, .int .i64 N.num, .string N.text, .slice faN N.list.length fcN] 24))).cells
  go_wp2_with fail
  clear cA0 cA1 cA2 cA3
  clear cV0 cV1 cV2 cV3
  (try rw [← World.size_alloc w11 (.cells #[.int .i64 N.kind, .int .i64 N.num, .string N.text, .slice faN N.list.length fcN] 24)])
  have XX := boxed_new w11 (.int .i64 N.kind) (.int .i64 N.num) (.string N.text) (.slice faN N.list.length fcN)
  have hbx := stands_alloc w11 (.cells #[.int .i64 N.kind, .int .i64 N.num, .string N.text, .slice faN N.list.length fcN] 24)
  generalize w11.alloc (.cells #[.int .i64 N.kind, .int .i64 N.num, .string N.text, .slice faN N.list.length fcN] 24) = w12 at *
  generalize w11.heap.size = bN at XX ⊢
  have RR := Lib.hid ((RepV.on hbx (Nat.le_refl _) NR.out).up hbx.size _)
  have XN := Lib.hid XX
  have B12 := Lib.hid (Below.step B11.out hbx)
  have XZ12 := Lib.hid (XZ11.out.on hbx); have RZ12 := Lib.hid ((RepV.on hbx (Nat.le_refl _) RZ11.out).up hbx.size _)
  have XL12 := Lib.hid (XL11.out.on hbx); have RL12 := Lib.hid ((RepV.on hbx (Nat.le_refl _) RL11.out).up hbx.size _)
  have XM12 := Lib.hid (XM11.out.on hbx); have RM12 := Lib.hid ((RepV.on hbx (Nat.le_refl _) RM11.out).up hbx.size _)
  have XV12 := Lib.hid (XV11.out.on hbx); have RV12 := Lib.hid ((RepV.on hbx (Nat.le_refl _) RV11.out).up hbx.size _)
  have XA12 := Lib.hid (XA11.out.on hbx); have RA12 := Lib.hid ((RepV.on hbx (Nat.le_refl _) RA11.out).up hbx.size _)
  clear B11 XZ11 RZ11 XL11 RL11 XM11 RM11 XV11 RV11 XA11 RA11
  have XN12 := XN; have RN12 := RR
  clear XX hbx RR XN NR
  refine (call_at 3 (by decide) [A, v] _ _ _ (Nat.le_refl _) (two_at (alloc_new' _ _) (stands_alloc _ _) RA12.out RV12.out)).mono ?_
  rw [C3.out]
  rintro e w13 ⟨c0, c1, c2, c3, rfl, hr, hb⟩
  have hb' := Below.step (stands_alloc w12 _) hb
  have hr' : RepV w13.heap.size w13 P c0 c1 c2 c3 := hr.on (fun k hk => hk.2) (fun _ _ => rfl)
  obtain ⟨faP, fcP, rfl, rfl, rfl, rfl⟩ := hr'.form
  have NR := Lib.hid hr'; clear hr'
  have B13 := Lib.hid (Below.step B12.out hb')
  have XZ13 := Lib.hid (XZ12.out.on hb'); have RZ13 := Lib.hid ((RepV.on hb' (Nat.le_refl _) RZ12.out).up hb'.size _)
  have XL13 := Lib.hid (XL12.out.on hb'); have RL13 := Lib.hid ((RepV.on hb' (Nat.le_refl _) RL12.out).up hb'.size _)
  have XM13 := Lib.hid (XM12.out.on hb'); have RM13 := Lib.hid ((RepV.on hb' (Nat.le_refl _) RM12.out).up hb'.size _)
  have XV13 := Lib.hid (XV12.out.on hb'); have RV13 := Lib.hid ((RepV.on hb' (Nat.le_refl _) RV12.out).up hb'.size _)
  have XA13 := Lib.hid (XA12.out.on hb'); have RA13 := Lib.hid ((RepV.on hb' (Nat.le_refl _) RA12.out).up hb'.size _)
  have XN13 := Lib.hid (XN12.out.on hb'); have RN13 := Lib.hid ((RepV.on hb' (Nat.le_refl _) RN12.out).up hb'.size _)
  clear B12 XZ12 RZ12 XL12 RL12 XM12 RM12 XV12 RV12 XA12 RA12 XN12 RN12
  clear hb hb' hr
  obtain ⟨cL0, cL1, cL2, cL3⟩ := (XL13.out.on (stands_alloc w13 (.cells #[.int .i64 P.kind, .int .i64 P.num, .string P.text, .slice faP P.list.length fcP] 24))).cells
  obtain ⟨cV0, cV1, cV2, cV3⟩ := (XV13.out.on (stands_alloc w13 (.cells #[.int .i64 P.kind, .int .i64 P.num, .string P.text, .slice faP P.list.length fcP] 24))).cells
  go_wp2_with fail
  clear cL0 cL1 cL2 cL3
  clear cV0 cV1 cV2 cV3
  (try rw [← World.size_alloc w13 (.cells #[.int .i64 P.kind, .int .i64 P.num, .string P.text, .slice faP P.list.length fcP] 24)])
  have XX := boxed_new w13 (.int .i64 P.kind) (.int .i64 P.num) (.string P.text) (.slice faP P.list.length fcP)
  have hbx := stands_alloc w13 (.cells #[.int .i64 P.kind, .int .i64 P.num, .string P.text, .slice faP P.list.length fcP] 24)
  generalize w13.alloc (.cells #[.int .i64 P.kind, .int .i64 P.num, .string P.text, .slice faP P.list.length fcP] 24) = w14 at *
  generalize w13.heap.size = bP at XX ⊢
  have RR := Lib.hid ((RepV.on hbx (Nat.le_refl _) NR.out).up hbx.size _)
  have XN := Lib.hid XX
  have B14 := Lib.hid (Below.step B13.out hbx)
  have XZ14 := Lib.hid (XZ13.out.on hbx); have RZ14 := Lib.hid ((RepV.on hbx (Nat.le_refl _) RZ13.out).up hbx.size _)
  have XL14 := Lib.hid (XL13.out.on hbx); have RL14 := Lib.hid ((RepV.on hbx (Nat.le_refl _) RL13.out).up hbx.size _)
  have XM14 := Lib.hid (XM13.out.on hbx); have RM14 := Lib.hid ((RepV.on hbx (Nat.le_refl _) RM13.out).up hbx.size _)
  have XV14 := Lib.hid (XV13.out.on hbx); have RV14 := Lib.hid ((RepV.on hbx (Nat.le_refl _) RV13.out).up hbx.size _)
  have XA14 := Lib.hid (XA13.out.on hbx); have RA14 := Lib.hid ((RepV.on hbx (Nat.le_refl _) RA13.out).up hbx.size _)
  have XN14 := Lib.hid (XN13.out.on hbx); have RN14 := Lib.hid ((RepV.on hbx (Nat.le_refl _) RN13.out).up hbx.size _)
  clear B13 XZ13 RZ13 XL13 RL13 XM13 RM13 XV13 RV13 XA13 RA13 XN13 RN13
  have XP14 := XN; have RP14 := RR
  clear XX hbx RR XN NR
  refine (call_at 3 (by decide) [l, v] _ _ _ (Nat.le_refl _) (two_at (alloc_new' _ _) (stands_alloc _ _) RL14.out RV14.out)).mono ?_
  rw [C4.out]
  rintro e w15 ⟨c0, c1, c2, c3, rfl, hr, hb⟩
  have hb' := Below.step (stands_alloc w14 _) hb
  have hr' : RepV w15.heap.size w15 Q c0 c1 c2 c3 := hr.on (fun k hk => hk.2) (fun _ _ => rfl)
  obtain ⟨faQ, fcQ, rfl, rfl, rfl, rfl⟩ := hr'.form
  have NR := Lib.hid hr'; clear hr'
  have B15 := Lib.hid (Below.step B14.out hb')
  have XZ15 := Lib.hid (XZ14.out.on hb'); have RZ15 := Lib.hid ((RepV.on hb' (Nat.le_refl _) RZ14.out).up hb'.size _)
  have XL15 := Lib.hid (XL14.out.on hb'); have RL15 := Lib.hid ((RepV.on hb' (Nat.le_refl _) RL14.out).up hb'.size _)
  have XM15 := Lib.hid (XM14.out.on hb'); have RM15 := Lib.hid ((RepV.on hb' (Nat.le_refl _) RM14.out).up hb'.size _)
  have XV15 := Lib.hid (XV14.out.on hb'); have RV15 := Lib.hid ((RepV.on hb' (Nat.le_refl _) RV14.out).up hb'.size _)
  have XA15 := Lib.hid (XA14.out.on hb'); have RA15 := Lib.hid ((RepV.on hb' (Nat.le_refl _) RA14.out).up hb'.size _)
  have XN15 := Lib.hid (XN14.out.on hb'); have RN15 := Lib.hid ((RepV.on hb' (Nat.le_refl _) RN14.out).up hb'.size _)
  have XP15 := Lib.hid (XP14.out.on hb'); have RP15 := Lib.hid ((RepV.on hb' (Nat.le_refl _) RP14.out).up hb'.size _)
  clear B14 XZ14 RZ14 XL14 RL14 XM14 RM14 XV14 RV14 XA14 RA14 XN14 RN14 XP14 RP14
  clear hb hb' hr
  obtain ⟨cM0, cM1, cM2, cM3⟩ := (XM15.out.on (stands_alloc w15 (.cells #[.int .i64 Q.kind, .int .i64 Q.num, .string Q.text, .slice faQ Q.list.length fcQ] 24))).cells
  obtain ⟨cV0, cV1, cV2, cV3⟩ := (XV15.out.on (stands_alloc w15 (.cells #[.int .i64 Q.kind, .int .i64 Q.num, .string Q.text, .slice faQ Q.list.length fcQ] 24))).cells
  go_wp2_with fail
  clear cM0 cM1 cM2 cM3
  clear cV0 cV1 cV2 cV3
  (try rw [← World.size_alloc w15 (.cells #[.int .i64 Q.kind, .int .i64 Q.num, .string Q.text, .slice faQ Q.list.length fcQ] 24)])
  have XX := boxed_new w15 (.int .i64 Q.kind) (.int .i64 Q.num) (.string Q.text) (.slice faQ Q.list.length fcQ)
  have hbx := stands_alloc w15 (.cells #[.int .i64 Q.kind, .int .i64 Q.num, .string Q.text, .slice faQ Q.list.length fcQ] 24)
  generalize w15.alloc (.cells #[.int .i64 Q.kind, .int .i64 Q.num, .string Q.text, .slice faQ Q.list.length fcQ] 24) = w16 at *
  generalize w15.heap.size = bQ at XX ⊢
  have RR := Lib.hid ((RepV.on hbx (Nat.le_refl _) NR.out).up hbx.size _)
  have XN := Lib.hid XX
  have B16 := Lib.hid (Below.step B15.out hbx)
  have XZ16 := Lib.hid (XZ15.out.on hbx); have RZ16 := Lib.hid ((RepV.on hbx (Nat.le_refl _) RZ15.out).up hbx.size _)
  have XL16 := Lib.hid (XL15.out.on hbx); have RL16 := Lib.hid ((RepV.on hbx (Nat.le_refl _) RL15.out).up hbx.size _)
  have XM16 := Lib.hid (XM15.out.on hbx); have RM16 := Lib.hid ((RepV.on hbx (Nat.le_refl _) RM15.out).up hbx.size _)
  have XV16 := Lib.hid (XV15.out.on hbx); have RV16 := Lib.hid ((RepV.on hbx (Nat.le_refl _) RV15.out).up hbx.size _)
  have XA16 := Lib.hid (XA15.out.on hbx); have RA16 := Lib.hid ((RepV.on hbx (Nat.le_refl _) RA15.out).up hbx.size _)
  have XN16 := Lib.hid (XN15.out.on hbx); have RN16 := Lib.hid ((RepV.on hbx (Nat.le_refl _) RN15.out).up hbx.size _)
  have XP16 := Lib.hid (XP15.out.on hbx); have RP16 := Lib.hid ((RepV.on hbx (Nat.le_refl _) RP15.out).up hbx.size _)
  clear B15 XZ15 RZ15 XL15 RL15 XM15 RM15 XV15 RV15 XA15 RA15 XN15 RN15 XP15 RP15
  have XQ16 := XN; have RQ16 := RR
  clear XX hbx RR XN NR
  refine (call_at 3 (by decide) [m, v] _ _ _ (Nat.le_refl _) (two_at (alloc_new' _ _) (stands_alloc _ _) RM16.out RV16.out)).mono ?_
  rw [C5.out]
  rintro e w17 ⟨c0, c1, c2, c3, rfl, hr, hb⟩
  have hb' := Below.step (stands_alloc w16 _) hb
  have hr' : RepV w17.heap.size w17 R c0 c1 c2 c3 := hr.on (fun k hk => hk.2) (fun _ _ => rfl)
  obtain ⟨faR, fcR, rfl, rfl, rfl, rfl⟩ := hr'.form
  have NR := Lib.hid hr'; clear hr'
  have B17 := Lib.hid (Below.step B16.out hb')
  have XZ17 := Lib.hid (XZ16.out.on hb'); have RZ17 := Lib.hid ((RepV.on hb' (Nat.le_refl _) RZ16.out).up hb'.size _)
  have XL17 := Lib.hid (XL16.out.on hb'); have RL17 := Lib.hid ((RepV.on hb' (Nat.le_refl _) RL16.out).up hb'.size _)
  have XM17 := Lib.hid (XM16.out.on hb'); have RM17 := Lib.hid ((RepV.on hb' (Nat.le_refl _) RM16.out).up hb'.size _)
  have XV17 := Lib.hid (XV16.out.on hb'); have RV17 := Lib.hid ((RepV.on hb' (Nat.le_refl _) RV16.out).up hb'.size _)
  have XA17 := Lib.hid (XA16.out.on hb'); have RA17 := Lib.hid ((RepV.on hb' (Nat.le_refl _) RA16.out).up hb'.size _)
  have XN17 := Lib.hid (XN16.out.on hb'); have RN17 := Lib.hid ((RepV.on hb' (Nat.le_refl _) RN16.out).up hb'.size _)
  have XP17 := Lib.hid (XP16.out.on hb'); have RP17 := Lib.hid ((RepV.on hb' (Nat.le_refl _) RP16.out).up hb'.size _)
  have XQ17 := Lib.hid (XQ16.out.on hb'); have RQ17 := Lib.hid ((RepV.on hb' (Nat.le_refl _) RQ16.out).up hb'.size _)
  clear B16 XZ16 RZ16 XL16 RL16 XM16 RM16 XV16 RV16 XA16 RA16 XN16 RN16 XP16 RP16 XQ16 RQ16
  clear hb hb' hr
  have hN := EN.out; have hP := EP.out
  obtain ⟨cN0, cN1, cN2, cN3⟩ := (XN17.out.on (stands_alloc w17 (.cells #[.int .i64 R.kind, .int .i64 R.num, .string R.text, .slice faR R.list.length fcR] 24))).cells
  obtain ⟨cP0, cP1, cP2, cP3⟩ := (XP17.out.on (stands_alloc w17 (.cells #[.int .i64 R.kind, .int .i64 R.num, .string R.text, .slice faR R.list.length fcR] 24))).cells
  obtain ⟨cQ0, cQ1, cQ2, cQ3⟩ := (XQ17.out.on (stands_alloc w17 (.cells #[.int .i64 R.kind, .int .i64 R.num, .string R.text, .slice faR R.list.length fcR] 24))).cells
  obtain ⟨cL0, cL1, cL2, cL3⟩ := (XL17.out.on (stands_alloc w17 (.cells #[.int .i64 R.kind, .int .i64 R.num, .string R.text, .slice faR R.list.length fcR] 24))).cells
  obtain ⟨cM0, cM1, cM2, cM3⟩ := (XM17.out.on (stands_alloc w17 (.cells #[.int .i64 R.kind, .int .i64 R.num, .string R.text, .slice faR R.list.length fcR] 24))).cells
  go_wp2_with fail
  go_ret
  exact ⟨rfl, Below.step B17.out (stands_alloc _ _)⟩
set_option maxRecDepth 100000 in
set_option maxHeartbeats 3000000 in
theorem core_out (raw two : List V) (x : V) (W : World) (a a' c0 c1 c2 c3 : Value) (htab : TabOk W) (hraw : RepL W.heap.size W raw a) (htwo : RepL W.heap.size W two a') (hx : RepV W.heap.size W x c0 c1 c2 c3) (l m v : V) (hl : Hid (listV (listTo raw 16) = l)) (hm : Hid (listV (listTo two 16) = m)) (hv : Hid (listTo [x] 1 = [v])) (hl16 : l.list.length ≤ 16) (hm16 : m.list.length ≤ 16) (hsum : 16 < l.list.length + m.list.length) (C1 : Hid (callV 2 [l, m] = none)) :
    Calls Tryd.prog 8 #[a, a', .agg #[c0, c1, c2, c3]] W fun e W' => e = .returned (.bool true) ∧ Below W.heap.size W W' := by
  have HX := Lib.hid hx; have HRAW := Lib.hid hraw; have HTWO := Lib.hid htwo
  have HT := Lib.hid htab
  have hg := tab_lt htab
  obtain ⟨fa, fc, rfl, rfl, rfl, rfl⟩ := hx.form
  obtain ⟨aa, ab, ao, ac, rfl, -⟩ := hraw
  obtain ⟨ta', tb', to', tc', rfl, -⟩ := htwo
  clear hx htab
  go_enter Tryd.func8, Tryd.ntmps8
  go_wp2_with fail
  have x1 := boxed_new W (.int .i64 x.kind) (.int .i64 x.num) (.string x.text) (.slice fa x.list.length fc)
  have b1 := stands_alloc W (.cells #[.int .i64 x.kind, .int .i64 x.num, .string x.text, .slice fa x.list.length fc] 24)
  generalize W.alloc (.cells #[.int .i64 x.kind, .int .i64 x.num, .string x.text, .slice fa x.list.length fc] 24) = w1 at *
  refine (awake2_any _ (Nat.lt_of_lt_of_le hg b1.size) (HT.out.below hg b1)).mono ?_
  rintro e w2 ⟨rfl, b2⟩
  have XZ2 := Lib.hid (x1.on b2); have B2 := Lib.hid (Below.step b1 b2)
  clear x1 b1 b2
  go_wp2_with fail
  refine (list2_any raw W.heap.size _ _ 16 (by omega) B2.out.size (RepL.below (fun j hj => B2.out.block j hj) HRAW.out)).mono ?_
  rw [hl.out]
  rintro e w3 ⟨c0, c1, c2, c3, rfl, hr, hb⟩
  have NR := Lib.hid (hr.on (S' := fun b => b < w3.heap.size) (fun b hb => hb.2) (fun _ _ => rfl))
  obtain ⟨faL, fcL, rfl, rfl, rfl, rfl⟩ := hr.form
  have XZ3 := Lib.hid (XZ2.out.on hb); have B3 := Lib.hid (Below.step B2.out hb)
  have RZ3 := Lib.hid ((RepV.on B3.out (Nat.le_refl _) HX.out).up B3.out.size _)
  clear hr hb XZ2 B2
  obtain ⟨faZ, hfaZ⟩ : ∃ q, q = fa := ⟨_, rfl⟩; obtain ⟨fcZ, hfcZ⟩ : ∃ q, q = fc := ⟨_, rfl⟩; subst hfaZ; subst hfcZ
  go_wp2_with fail
  (try rw [← World.size_alloc w3 (.cells #[.int .i64 l.kind, .int .i64 l.num, .string l.text, .slice faL l.list.length fcL] 24)])
  have XX := boxed_new w3 (.int .i64 l.kind) (.int .i64 l.num) (.string l.text) (.slice faL l.list.length fcL)
  have hbx := stands_alloc w3 (.cells #[.int .i64 l.kind, .int .i64 l.num, .string l.text, .slice faL l.list.length fcL] 24)
  generalize w3.alloc (.cells #[.int .i64 l.kind, .int .i64 l.num, .string l.text, .slice faL l.list.length fcL] 24) = w4 at *
  generalize w3.heap.size = bL at XX ⊢
  have RR := Lib.hid ((RepV.on hbx (Nat.le_refl _) NR.out).up hbx.size _)
  have XN := Lib.hid XX
  have B4 := Lib.hid (Below.step B3.out hbx)
  have XZ4 := Lib.hid (XZ3.out.on hbx); have RZ4 := Lib.hid ((RepV.on hbx (Nat.le_refl _) RZ3.out).up hbx.size _)
  clear B3 XZ3 RZ3
  have XL4 := XN; have RL4 := RR
  clear XX hbx RR XN NR
  refine (list2_any two W.heap.size _ _ 16 (by omega) B4.out.size (RepL.below (fun j hj => B4.out.block j hj) HTWO.out)).mono ?_
  rw [hm.out]
  rintro e w5 ⟨c0, c1, c2, c3, rfl, hr, hb⟩
  have NR := Lib.hid (hr.on (S' := fun b => b < w5.heap.size) (fun b hb => hb.2) (fun _ _ => rfl))
  obtain ⟨faM, fcM, rfl, rfl, rfl, rfl⟩ := hr.form
  have B5 := Lib.hid (Below.step B4.out hb)
  have XZ5 := Lib.hid (XZ4.out.on hb); have RZ5 := Lib.hid ((RepV.on hb (Nat.le_refl _) RZ4.out).up hb.size _)
  have XL5 := Lib.hid (XL4.out.on hb); have RL5 := Lib.hid ((RepV.on hb (Nat.le_refl _) RL4.out).up hb.size _)
  clear B4 XZ4 RZ4 XL4 RL4
  clear hr hb
  obtain ⟨cZ0, cZ1, cZ2, cZ3⟩ := (XZ5.out.on (stands_alloc w5 (.cells #[.int .i64 m.kind, .int .i64 m.num, .string m.text, .slice faM m.list.length fcM] 24))).cells
  go_wp2_with fail
  clear cZ0 cZ1 cZ2 cZ3
  (try rw [← World.size_alloc w5 (.cells #[.int .i64 m.kind, .int .i64 m.num, .string m.text, .slice faM m.list.length fcM] 24)])
  have XX := boxed_new w5 (.int .i64 m.kind) (.int .i64 m.num) (.string m.text) (.slice faM m.list.length fcM)
  have hbx := stands_alloc w5 (.cells #[.int .i64 m.kind, .int .i64 m.num, .string m.text, .slice faM m.list.length fcM] 24)
  generalize w5.alloc (.cells #[.int .i64 m.kind, .int .i64 m.num, .string m.text, .slice faM m.list.length fcM] 24) = w6 at *
  generalize w5.heap.size = bM at XX ⊢
  have RR := Lib.hid ((RepV.on hbx (Nat.le_refl _) NR.out).up hbx.size _)
  have XN := Lib.hid XX
  have B6 := Lib.hid (Below.step B5.out hbx)
  have XZ6 := Lib.hid (XZ5.out.on hbx); have RZ6 := Lib.hid ((RepV.on hbx (Nat.le_refl _) RZ5.out).up hbx.size _)
  have XL6 := Lib.hid (XL5.out.on hbx); have RL6 := Lib.hid ((RepV.on hbx (Nat.le_refl _) RL5.out).up hbx.size _)
  clear B5 XZ5 RZ5 XL5 RL5
  have XM6 := XN; have RM6 := RR
  clear XX hbx RR XN NR
  refine (list2_any [x] _ _ _ 1 (by omega) (Nat.le_refl _) (one_at (alloc_new' _ _) (stands_alloc _ _) RZ6.out)).mono ?_
  rw [hv.out]
  rintro e w7 ⟨c0, c1, c2, c3, rfl, hr, hb⟩
  have hb' := Below.step (stands_alloc w6 _) hb
  have hrv : RepV w7.heap.size w7 (listV [v]) c0 c1 c2 c3 := hr.on (fun b hb => hb.2) (fun _ _ => rfl)
  obtain ⟨ta, tc, rfl, rfl, rfl, rfl⟩ := hrv.form
  obtain ⟨-, -, tb, toff, faV, fcV, rfl, -, t0, t1, t2, t3, tr⟩ := RepLG.at hrv.lst 0 (by show 0 < 1; omega)
  change w7.cell? _ = some (.int .i64 v.kind) at t0; change w7.cell? _ = some (.int .i64 v.num) at t1; change w7.cell? _ = some (.string v.text) at t2; change w7.cell? _ = some (.slice faV v.list.length fcV) at t3
  simp only [Nat.zero_mul, Nat.add_zero] at t0 t1 t2 t3
  have htl : (listV [v]).list.length = 1 := rfl
  rw [htl]; clear htl
  have NR : Hid (RepV w7.heap.size w7 v (.int .i64 v.kind) (.int .i64 v.num) (.string v.text) (.slice faV v.list.length fcV)) := tr
  have hf := field_list
  have B7 := Lib.hid (Below.step B6.out hb')
  have XZ7 := Lib.hid (XZ6.out.on hb'); have RZ7 := Lib.hid ((RepV.on hb' (Nat.le_refl _) RZ6.out).up hb'.size _)
  have XL7 := Lib.hid (XL6.out.on hb'); have RL7 := Lib.hid ((RepV.on hb' (Nat.le_refl _) RL6.out).up hb'.size _)
  have XM7 := Lib.hid (XM6.out.on hb'); have RM7 := Lib.hid ((RepV.on hb' (Nat.le_refl _) RM6.out).up hb'.size _)
  clear B6 XZ6 RZ6 XL6 RL6 XM6 RM6
  clear hb hb' hr hrv tr
  obtain ⟨cL0, cL1, cL2, cL3⟩ := (XL7.out.on (stands_alloc w7 (.cells #[.int .i64 v.kind, .int .i64 v.num, .string v.text, .slice faV v.list.length fcV] 24))).cells
  obtain ⟨cM0, cM1, cM2, cM3⟩ := (XM7.out.on (stands_alloc w7 (.cells #[.int .i64 v.kind, .int .i64 v.num, .string v.text, .slice faV v.list.length fcV] 24))).cells
  go_wp2_with fail
  clear cL0 cL1 cL2 cL3
  clear cM0 cM1 cM2 cM3
  (try rw [← World.size_alloc w7 (.cells #[.int .i64 v.kind, .int .i64 v.num, .string v.text, .slice faV v.list.length fcV] 24)])
  have XX := boxed_new w7 (.int .i64 v.kind) (.int .i64 v.num) (.string v.text) (.slice faV v.list.length fcV)
  have hbx := stands_alloc w7 (.cells #[.int .i64 v.kind, .int .i64 v.num, .string v.text, .slice faV v.list.length fcV] 24)
  generalize w7.alloc (.cells #[.int .i64 v.kind, .int .i64 v.num, .string v.text, .slice faV v.list.length fcV] 24) = w8 at *
  generalize w7.heap.size = bV at XX ⊢
  have RR := Lib.hid ((RepV.on hbx (Nat.le_refl _) NR.out).up hbx.size _)
  have XN := Lib.hid XX
  have B8 := Lib.hid (Below.step B7.out hbx)
  have XZ8 := Lib.hid (XZ7.out.on hbx); have RZ8 := Lib.hid ((RepV.on hbx (Nat.le_refl _) RZ7.out).up hbx.size _)
  have XL8 := Lib.hid (XL7.out.on hbx); have RL8 := Lib.hid ((RepV.on hbx (Nat.le_refl _) RL7.out).up hbx.size _)
  have XM8 := Lib.hid (XM7.out.on hbx); have RM8 := Lib.hid ((RepV.on hbx (Nat.le_refl _) RM7.out).up hbx.size _)
  clear B7 XZ7 RZ7 XL7 RL7 XM7 RM7
  have XV8 := XN; have RV8 := RR
  clear XX hbx RR XN NR
  clear hf t0 t1 t2 t3
  refine (call_at 2 (by decide) [l, m] _ _ _ (Nat.le_refl _) (two_at (alloc_new' _ _) (stands_alloc _ _) RL8.out RM8.out)).mono ?_
  rw [C1.out]
  rintro e w9 ⟨c0, c1, c2, c3, rfl, hr, hb⟩
  have hb' := Below.step (stands_alloc w8 _) hb
  obtain ⟨faA, fcA, rfl, rfl, rfl, rfl⟩ := (show RepG _ _ zeroV c0 c1 c2 c3 from hr).form
  have B9 := Lib.hid (Below.step B8.out hb')
  have XZ9 := Lib.hid (XZ8.out.on hb'); have RZ9 := Lib.hid ((RepV.on hb' (Nat.le_refl _) RZ8.out).up hb'.size _)
  have XL9 := Lib.hid (XL8.out.on hb'); have RL9 := Lib.hid ((RepV.on hb' (Nat.le_refl _) RL8.out).up hb'.size _)
  have XM9 := Lib.hid (XM8.out.on hb'); have RM9 := Lib.hid ((RepV.on hb' (Nat.le_refl _) RM8.out).up hb'.size _)
  have XV9 := Lib.hid (XV8.out.on hb'); have RV9 := Lib.hid ((RepV.on hb' (Nat.le_refl _) RV8.out).up hb'.size _)
  clear B8 XZ8 RZ8 XL8 RL8 XM8 RM8 XV8 RV8
  clear hb hb' hr
  have hle : ¬ ((l.list.length : Int) + (m.list.length : Int) ≤ 16) := by omega
  have hleb : decide ((l.list.length : Int) + (m.list.length : Int) ≤ 16) = false := by simpa using hle
  obtain ⟨cL0, cL1, cL2, cL3⟩ := (XL9.out.on (stands_alloc w9 (.cells #[.int .i64 zeroV.kind, .int .i64 zeroV.num, .string zeroV.text, .slice faA zeroV.list.length fcA] 24))).cells
  obtain ⟨cM0, cM1, cM2, cM3⟩ := (XM9.out.on (stands_alloc w9 (.cells #[.int .i64 zeroV.kind, .int .i64 zeroV.num, .string zeroV.text, .slice faA zeroV.list.length fcA] 24))).cells
  go_wp2_with fail
  go_ret
  exact ⟨rfl, Below.step B9.out (stands_alloc _ _)⟩

theorem walk (raw two : List V) (x : V) (W : World) (a a' c0 c1 c2 c3 : Value) (htab : TabOk W) (hraw : RepL W.heap.size W raw a) (_h1 : raw.length * 56 ≤ 140737488351232) (htwo : RepL W.heap.size W two a') (_h2 : two.length * 56 ≤ 140737488351232) (hx : RepV W.heap.size W x c0 c1 c2 c3) :
    Calls Tryd.prog 8 #[a, a', .agg #[c0, c1, c2, c3]] W fun e W' => e = .returned (.bool true) ∧ Below W.heap.size W W' := by
  have hv := right_flat x
  have hL := all3_to raw 16
  have hM := all3_to two 16
  have hl : (listTo raw 16).length ≤ 16 := by rw [listTo_length]; omega
  have hm : (listTo two 16).length ≤ 16 := by rw [listTo_length]; omega
  by_cases hs : (listTo raw 16).length + (listTo two 16).length ≤ 16
  · refine core_in raw two x W a a' c0 c1 c2 c3 htab hraw htwo hx _ _ _ (Lib.hid rfl) (Lib.hid rfl) (Lib.hid rfl) hl hm hs _ _ _ _ _ (Lib.hid (call_concat hL hM hs)) (Lib.hid (call_size (all3_append hL hM) (by simp; omega))) (Lib.hid (call_member (right_up 3 _ hv) (all3_append hL hM) (by simp; omega))) (Lib.hid (call_member (right_up 3 _ hv) hL hl)) (Lib.hid (call_member (right_up 3 _ hv) hM hm)) (Lib.hid ?_) (Lib.hid (memZ_append _ _ _))
    show ((listTo raw 16 ++ listTo two 16).length : Int) = ((listTo raw 16).length : Int) + ((listTo two 16).length : Int)
    simp
  · exact core_out raw two x W a a' c0 c1 c2 c3 htab hraw htwo hx _ _ _ (Lib.hid rfl) (Lib.hid rfl) (Lib.hid rfl) hl hm (by show 16 < (listTo raw 16).length + (listTo two 16).length; omega) (Lib.hid (call_concat_none (by omega)))

end Go.Proofs.YtlnkngahiapidaaDoor.builtinConcat
