/-
  BuiltinLists: for every list and value the law returns true: f_first and f_rest of f_cons are what it was made of; f_last of f_append is its element; f_reverse undoes itself.
-/
import Derived.Test.YtlnkngahiapidaaDoorLawKit
namespace Go.Proofs.YtlnkngahiapidaaDoor.builtinLists
open Go.ChangeShapes Go.WideShapes Go.ChangeAt Go.RowKit

set_option maxRecDepth 100000 in
set_option maxHeartbeats 16000000 in
theorem core (raw : List V) (x : V) (W : World) (a c0 c1 c2 c3 : Value) (htab : TabOk W) (hraw : RepL W.heap.size W raw a) (hx : RepV W.heap.size W x c0 c1 c2 c3) (l v A D F : V) (hl : Hid (listV (listTo raw 15) = l)) (hv : Hid (listTo [x] 1 = [v]))
    (C1 : Hid (callV 0 [v, l] = some A)) (C2 : Hid (callV 5 [A] = some v)) (C3 : Hid (callV 7 [A] = some l)) (C4 : Hid (callV 1 [l, v] = some D)) (C5 : Hid (callV 6 [D] = some v)) (C6 : Hid (callV 8 [D] = some F)) (C7 : Hid (callV 8 [F] = some D)) (C8 : Hid (callV 5 [F] = some v)) :
    Calls Tryd.prog 7 #[a, .agg #[c0, c1, c2, c3]] W fun e W' => e = .returned (.bool true) ∧ Below W.heap.size W W' := by
  have HX := Lib.hid hx; have HRAW := Lib.hid hraw
  have HT := Lib.hid htab
  have hg := tab_lt htab
  obtain ⟨fa, fc, rfl, rfl, rfl, rfl⟩ := hx.form
  obtain ⟨aa, ab, ao, ac, rfl, -⟩ := hraw
  clear hx htab
  go_enter Tryd.func7, Tryd.ntmps7
  go_wp2_with fail
  have x1 := boxed_new W (.int .i64 x.kind) (.int .i64 x.num) (.string x.text) (.slice fa x.list.length fc)
  have b1 := stands_alloc W (.cells #[.int .i64 x.kind, .int .i64 x.num, .string x.text, .slice fa x.list.length fc] 24)
  generalize W.alloc (.cells #[.int .i64 x.kind, .int .i64 x.num, .string x.text, .slice fa x.list.length fc] 24) = w1 at *
  refine (awake2_any _ (Nat.lt_of_lt_of_le hg b1.size) (HT.out.below hg b1)).mono ?_
  rintro e w2 ⟨rfl, b2⟩
  have XZ2 := Lib.hid (x1.on b2); have B2 := Lib.hid (Below.step b1 b2)
  clear x1 b1 b2
  go_wp2_with fail
  refine (list2_any raw W.heap.size _ _ 15 (by omega) B2.out.size (RepL.below (fun j hj => B2.out.block j hj) HRAW.out)).mono ?_
  rw [hl.out]
  rintro e w3 ⟨c0, c1, c2, c3, rfl, hr, hb⟩
  have NR := Lib.hid (hr.on (S' := fun b => b < w3.heap.size) (fun b hb => hb.2) (fun _ _ => rfl))
  obtain ⟨faL, fcL, rfl, rfl, rfl, rfl⟩ := hr.form
  have XZ3 := Lib.hid (XZ2.out.on hb); have B3 := Lib.hid (Below.step B2.out hb)
  have RZ3 := Lib.hid ((RepV.on B3.out (Nat.le_refl _) HX.out).up B3.out.size _)
  clear hr hb XZ2 B2
  obtain ⟨faZ, hfaZ⟩ : ∃ q, q = fa := ⟨_, rfl⟩; obtain ⟨fcZ, hfcZ⟩ : ∃ q, q = fc := ⟨_, rfl⟩; subst hfaZ; subst hfcZ
  obtain ⟨cZ0, cZ1, cZ2, cZ3⟩ := (XZ3.out.on (stands_alloc w3 (.cells #[.int .i64 l.kind, .int .i64 l.num, .string l.text, .slice faL l.list.length fcL] 24))).cells
  go_wp2_with fail
  clear cZ0 cZ1 cZ2 cZ3
  (try rw [← World.size_alloc w3 (.cells #[.int .i64 l.kind, .int .i64 l.num, .string l.text, .slice faL l.list.length fcL] 24)])
  have XX := boxed_new w3 (.int .i64 l.kind) (.int .i64 l.num) (.string l.text) (.slice faL l.list.length fcL)
  have hbx := stands_alloc w3 (.cells #[.int .i64 l.kind, .int .i64 l.num, .string l.text, .slice faL l.list.length fcL] 24)
  generalize w3.alloc (.cells #[.int .i64 l.kind, .int .i64 l.num, .string l.text, .slice faL l.list.length fcL] 24) = w4 at *
  generalize w3.heap.size = bL at XX ⊢
  have RR := Lib.hid ((RepV.on hbx (Nat.le_refl _) NR.out).up hbx.size _)
  have XN := Lib.hid XX
  have B4 := Lib.hid (Below.step B3.out hbx)
  have XZ4 := Lib.hid (XZ3.out.on hbx); have RZ4 := Lib.hid ((RepV.on hbx (Nat.le_refl _) RZ3.out).up hbx.size _)
  clear B3 XZ3 RZ3
  have XL4 := XN; have RL4 := RR
  clear XX hbx RR XN NR
  refine (list2_any [x] _ _ _ 1 (by omega) (Nat.le_refl _) (one_at (alloc_new' _ _) (stands_alloc _ _) RZ4.out)).mono ?_
  rw [hv.out]
  rintro e w5 ⟨c0, c1, c2, c3, rfl, hr, hb⟩
  have hb' := Below.step (stands_alloc w4 _) hb
  have hrv : RepV w5.heap.size w5 (listV [v]) c0 c1 c2 c3 := hr.on (fun b hb => hb.2) (fun _ _ => rfl)
  obtain ⟨ta, tc, rfl, rfl, rfl, rfl⟩ := hrv.form
  obtain ⟨-, -, tb, toff, faV, fcV, rfl, -, t0, t1, t2, t3, tr⟩ := RepLG.at hrv.lst 0 (by show 0 < 1; omega)
  have hk4 : (listV [v]).kind = 4 := rfl
  change w5.cell? _ = some (.int .i64 v.kind) at t0; change w5.cell? _ = some (.int .i64 v.num) at t1; change w5.cell? _ = some (.string v.text) at t2; change w5.cell? _ = some (.slice faV v.list.length fcV) at t3
  simp only [Nat.zero_mul, Nat.add_zero] at t0 t1 t2 t3
  have htl : (listV [v]).list.length = 1 := rfl
  rw [htl]; clear htl hk4
  have NR : Hid (RepV w5.heap.size w5 v (.int .i64 v.kind) (.int .i64 v.num) (.string v.text) (.slice faV v.list.length fcV)) := tr
  have hf := field_list
  have B5 := Lib.hid (Below.step B4.out hb')
  have XZ5 := Lib.hid (XZ4.out.on hb'); have RZ5 := Lib.hid ((RepV.on hb' (Nat.le_refl _) RZ4.out).up hb'.size _)
  have XL5 := Lib.hid (XL4.out.on hb'); have RL5 := Lib.hid ((RepV.on hb' (Nat.le_refl _) RL4.out).up hb'.size _)
  clear B4 XZ4 RZ4 XL4 RL4
  clear hb hb' hr hrv tr
  obtain ⟨cL0, cL1, cL2, cL3⟩ := (XL5.out.on (stands_alloc w5 (.cells #[.int .i64 v.kind, .int .i64 v.num, .string v.text, .slice faV v.list.length fcV] 24))).cells
  go_wp2_with fail
  clear cL0 cL1 cL2 cL3
  (try rw [← World.size_alloc w5 (.cells #[.int .i64 v.kind, .int .i64 v.num, .string v.text, .slice faV v.list.length fcV] 24)])
  have XX := boxed_new w5 (.int .i64 v.kind) (.int .i64 v.num) (.string v.text) (.slice faV v.list.length fcV)
  have hbx := stands_alloc w5 (.cells #[.int .i64 v.kind, .int .i64 v.num, .string v.text, .slice faV v.list.length fcV] 24)
  generalize w5.alloc (.cells #[.int .i64 v.kind, .int .i64 v.num, .string v.text, .slice faV v.list.length fcV] 24) = w6 at *
  generalize w5.heap.size = bV at XX ⊢
  have RR := Lib.hid ((RepV.on hbx (Nat.le_refl _) NR.out).up hbx.size _)
  have XN := Lib.hid XX
  have B6 := Lib.hid (Below.step B5.out hbx)
  have XZ6 := Lib.hid (XZ5.out.on hbx); have RZ6 := Lib.hid ((RepV.on hbx (Nat.le_refl _) RZ5.out).up hbx.size _)
  have XL6 := Lib.hid (XL5.out.on hbx); have RL6 := Lib.hid ((RepV.on hbx (Nat.le_refl _) RL5.out).up hbx.size _)
  clear B5 XZ5 RZ5 XL5 RL5
  have XV6 := XN; have RV6 := RR
  clear XX hbx RR XN NR
  clear hf t0 t1 t2 t3
  refine (call_at 0 (by decide) [v, l] _ _ _ (Nat.le_refl _) (two_at (alloc_new' _ _) (stands_alloc _ _) RV6.out RL6.out)).mono ?_
  rw [C1.out]
  rintro e w7 ⟨c0, c1, c2, c3, rfl, hr, hb⟩
  have hb' := Below.step (stands_alloc w6 _) hb
  have hr' : RepV w7.heap.size w7 A c0 c1 c2 c3 := hr.on (fun k hk => hk.2) (fun _ _ => rfl)
  obtain ⟨faA, fcA, rfl, rfl, rfl, rfl⟩ := hr'.form
  have NR := Lib.hid hr'; clear hr'
  have B7 := Lib.hid (Below.step B6.out hb')
  have XZ7 := Lib.hid (XZ6.out.on hb'); have RZ7 := Lib.hid ((RepV.on hb' (Nat.le_refl _) RZ6.out).up hb'.size _)
  have XL7 := Lib.hid (XL6.out.on hb'); have RL7 := Lib.hid ((RepV.on hb' (Nat.le_refl _) RL6.out).up hb'.size _)
  have XV7 := Lib.hid (XV6.out.on hb'); have RV7 := Lib.hid ((RepV.on hb' (Nat.le_refl _) RV6.out).up hb'.size _)
  clear B6 XZ6 RZ6 XL6 RL6 XV6 RV6
  clear hb hb' hr
  go_wp2_with fail
  (try rw [← World.size_alloc w7 (.cells #[.int .i64 A.kind, .int .i64 A.num, .string A.text, .slice faA A.list.length fcA] 24)])
  have XX := boxed_new w7 (.int .i64 A.kind) (.int .i64 A.num) (.string A.text) (.slice faA A.list.length fcA)
  have hbx := stands_alloc w7 (.cells #[.int .i64 A.kind, .int .i64 A.num, .string A.text, .slice faA A.list.length fcA] 24)
  generalize w7.alloc (.cells #[.int .i64 A.kind, .int .i64 A.num, .string A.text, .slice faA A.list.length fcA] 24) = w8 at *
  generalize w7.heap.size = bA at XX ⊢
  have RR := Lib.hid ((RepV.on hbx (Nat.le_refl _) NR.out).up hbx.size _)
  have XN := Lib.hid XX
  have B8 := Lib.hid (Below.step B7.out hbx)
  have XZ8 := Lib.hid (XZ7.out.on hbx); have RZ8 := Lib.hid ((RepV.on hbx (Nat.le_refl _) RZ7.out).up hbx.size _)
  have XL8 := Lib.hid (XL7.out.on hbx); have RL8 := Lib.hid ((RepV.on hbx (Nat.le_refl _) RL7.out).up hbx.size _)
  have XV8 := Lib.hid (XV7.out.on hbx); have RV8 := Lib.hid ((RepV.on hbx (Nat.le_refl _) RV7.out).up hbx.size _)
  clear B7 XZ7 RZ7 XL7 RL7 XV7 RV7
  have XA8 := XN; have RA8 := RR
  clear XX hbx RR XN NR
  refine (call_at 5 (by decide) [A] _ _ _ (Nat.le_refl _) (one_at (alloc_new' _ _) (stands_alloc _ _) RA8.out)).mono ?_
  rw [C2.out]
  rintro e w9 ⟨c0, c1, c2, c3, rfl, hr, hb⟩
  have hb' := Below.step (stands_alloc w8 _) hb
  have hr' : RepV w9.heap.size w9 v c0 c1 c2 c3 := hr.on (fun k hk => hk.2) (fun _ _ => rfl)
  obtain ⟨faP, fcP, rfl, rfl, rfl, rfl⟩ := hr'.form
  have NR := Lib.hid hr'; clear hr'
  have B9 := Lib.hid (Below.step B8.out hb')
  have XZ9 := Lib.hid (XZ8.out.on hb'); have RZ9 := Lib.hid ((RepV.on hb' (Nat.le_refl _) RZ8.out).up hb'.size _)
  have XL9 := Lib.hid (XL8.out.on hb'); have RL9 := Lib.hid ((RepV.on hb' (Nat.le_refl _) RL8.out).up hb'.size _)
  have XV9 := Lib.hid (XV8.out.on hb'); have RV9 := Lib.hid ((RepV.on hb' (Nat.le_refl _) RV8.out).up hb'.size _)
  have XA9 := Lib.hid (XA8.out.on hb'); have RA9 := Lib.hid ((RepV.on hb' (Nat.le_refl _) RA8.out).up hb'.size _)
  clear B8 XZ8 RZ8 XL8 RL8 XV8 RV8 XA8 RA8
  clear hb hb' hr
  obtain ⟨cA0, cA1, cA2, cA3⟩ := (XA9.out.on (stands_alloc w9 (.cells #[.int .i64 v.kind, .int .i64 v.num, .string v.text, .slice faP v.list.length fcP] 24))).cells
  go_wp2_with fail
  clear cA0 cA1 cA2 cA3
  (try rw [← World.size_alloc w9 (.cells #[.int .i64 v.kind, .int .i64 v.num, .string v.text, .slice faP v.list.length fcP] 24)])
  have XX := boxed_new w9 (.int .i64 v.kind) (.int .i64 v.num) (.string v.text) (.slice faP v.list.length fcP)
  have hbx := stands_alloc w9 (.cells #[.int .i64 v.kind, .int .i64 v.num, .string v.text, .slice faP v.list.length fcP] 24)
  generalize w9.alloc (.cells #[.int .i64 v.kind, .int .i64 v.num, .string v.text, .slice faP v.list.length fcP] 24) = w10 at *
  generalize w9.heap.size = bP at XX ⊢
  have RR := Lib.hid ((RepV.on hbx (Nat.le_refl _) NR.out).up hbx.size _)
  have XN := Lib.hid XX
  have B10 := Lib.hid (Below.step B9.out hbx)
  have XZ10 := Lib.hid (XZ9.out.on hbx); have RZ10 := Lib.hid ((RepV.on hbx (Nat.le_refl _) RZ9.out).up hbx.size _)
  have XL10 := Lib.hid (XL9.out.on hbx); have RL10 := Lib.hid ((RepV.on hbx (Nat.le_refl _) RL9.out).up hbx.size _)
  have XV10 := Lib.hid (XV9.out.on hbx); have RV10 := Lib.hid ((RepV.on hbx (Nat.le_refl _) RV9.out).up hbx.size _)
  have XA10 := Lib.hid (XA9.out.on hbx); have RA10 := Lib.hid ((RepV.on hbx (Nat.le_refl _) RA9.out).up hbx.size _)
  clear B9 XZ9 RZ9 XL9 RL9 XV9 RV9 XA9 RA9
  have XP10 := XN; have RP10 := RR
  clear XX hbx RR XN NR
  refine (call_at 7 (by decide) [A] _ _ _ (Nat.le_refl _) (one_at (alloc_new' _ _) (stands_alloc _ _) RA10.out)).mono ?_
  rw [C3.out]
  rintro e w11 ⟨c0, c1, c2, c3, rfl, hr, hb⟩
  have hb' := Below.step (stands_alloc w10 _) hb
  have hr' : RepV w11.heap.size w11 l c0 c1 c2 c3 := hr.on (fun k hk => hk.2) (fun _ _ => rfl)
  obtain ⟨faQ, fcQ, rfl, rfl, rfl, rfl⟩ := hr'.form
  have NR := Lib.hid hr'; clear hr'
  have B11 := Lib.hid (Below.step B10.out hb')
  have XZ11 := Lib.hid (XZ10.out.on hb'); have RZ11 := Lib.hid ((RepV.on hb' (Nat.le_refl _) RZ10.out).up hb'.size _)
  have XL11 := Lib.hid (XL10.out.on hb'); have RL11 := Lib.hid ((RepV.on hb' (Nat.le_refl _) RL10.out).up hb'.size _)
  have XV11 := Lib.hid (XV10.out.on hb'); have RV11 := Lib.hid ((RepV.on hb' (Nat.le_refl _) RV10.out).up hb'.size _)
  have XA11 := Lib.hid (XA10.out.on hb'); have RA11 := Lib.hid ((RepV.on hb' (Nat.le_refl _) RA10.out).up hb'.size _)
  have XP11 := Lib.hid (XP10.out.on hb'); have RP11 := Lib.hid ((RepV.on hb' (Nat.le_refl _) RP10.out).up hb'.size _)
  clear B10 XZ10 RZ10 XL10 RL10 XV10 RV10 XA10 RA10 XP10 RP10
  clear hb hb' hr
  obtain ⟨cL0, cL1, cL2, cL3⟩ := (XL11.out.on (stands_alloc w11 (.cells #[.int .i64 l.kind, .int .i64 l.num, .string l.text, .slice faQ l.list.length fcQ] 24))).cells
  obtain ⟨cV0, cV1, cV2, cV3⟩ := (XV11.out.on (stands_alloc w11 (.cells #[.int .i64 l.kind, .int .i64 l.num, .string l.text, .slice faQ l.list.length fcQ] 24))).cells
  go_wp2_with fail
  clear cL0 cL1 cL2 cL3
  clear cV0 cV1 cV2 cV3
  (try rw [← World.size_alloc w11 (.cells #[.int .i64 l.kind, .int .i64 l.num, .string l.text, .slice faQ l.list.length fcQ] 24)])
  have XX := boxed_new w11 (.int .i64 l.kind) (.int .i64 l.num) (.string l.text) (.slice faQ l.list.length fcQ)
  have hbx := stands_alloc w11 (.cells #[.int .i64 l.kind, .int .i64 l.num, .string l.text, .slice faQ l.list.length fcQ] 24)
  generalize w11.alloc (.cells #[.int .i64 l.kind, .int .i64 l.num, .string l.text, .slice faQ l.list.length fcQ] 24) = w12 at *
  generalize w11.heap.size = bQ at XX ⊢
  have RR := Lib.hid ((RepV.on hbx (Nat.le_refl _) NR.out).up hbx.size _)
  have XN := Lib.hid XX
  have B12 := Lib.hid (Below.step B11.out hbx)
  have XZ12 := Lib.hid (XZ11.out.on hbx); have RZ12 := Lib.hid ((RepV.on hbx (Nat.le_refl _) RZ11.out).up hbx.size _)
  have XL12 := Lib.hid (XL11.out.on hbx); have RL12 := Lib.hid ((RepV.on hbx (Nat.le_refl _) RL11.out).up hbx.size _)
  have XV12 := Lib.hid (XV11.out.on hbx); have RV12 := Lib.hid ((RepV.on hbx (Nat.le_refl _) RV11.out).up hbx.size _)
  have XA12 := Lib.hid (XA11.out.on hbx); have RA12 := Lib.hid ((RepV.on hbx (Nat.le_refl _) RA11.out).up hbx.size _)
  have XP12 := Lib.hid (XP11.out.on hbx); have RP12 := Lib.hid ((RepV.on hbx (Nat.le_refl _) RP11.out).up hbx.size _)
  clear B11 XZ11 RZ11 XL11 RL11 XV11 RV11 XA11 RA11 XP11 RP11
  have XQ12 := XN; have RQ12 := RR
  clear XX hbx RR XN NR
  refine (call_at 1 (by decide) [l, v] _ _ _ (Nat.le_refl _) (two_at (alloc_new' _ _) (stands_alloc _ _) RL12.out RV12.out)).mono ?_
  rw [C4.out]
  rintro e w13 ⟨c0, c1, c2, c3, rfl, hr, hb⟩
  have hb' := Below.step (stands_alloc w12 _) hb
  have hr' : RepV w13.heap.size w13 D c0 c1 c2 c3 := hr.on (fun k hk => hk.2) (fun _ _ => rfl)
  obtain ⟨faD, fcD, rfl, rfl, rfl, rfl⟩ := hr'.form
  have NR := Lib.hid hr'; clear hr'
  have B13 := Lib.hid (Below.step B12.out hb')
  have XZ13 := Lib.hid (XZ12.out.on hb'); have RZ13 := Lib.hid ((RepV.on hb' (Nat.le_refl _) RZ12.out).up hb'.size _)
  have XL13 := Lib.hid (XL12.out.on hb'); have RL13 := Lib.hid ((RepV.on hb' (Nat.le_refl _) RL12.out).up hb'.size _)
  have XV13 := Lib.hid (XV12.out.on hb'); have RV13 := Lib.hid ((RepV.on hb' (Nat.le_refl _) RV12.out).up hb'.size _)
  have XA13 := Lib.hid (XA12.out.on hb'); have RA13 := Lib.hid ((RepV.on hb' (Nat.le_refl _) RA12.out).up hb'.size _)
  have XP13 := Lib.hid (XP12.out.on hb'); have RP13 := Lib.hid ((RepV.on hb' (Nat.le_refl _) RP12.out).up hb'.size _)
  have XQ13 := Lib.hid (XQ12.out.on hb'); have RQ13 := Lib.hid ((RepV.on hb' (Nat.le_refl _) RQ12.out).up hb'.size _)
  clear B12 XZ12 RZ12 XL12 RL12 XV12 RV12 XA12 RA12 XP12 RP12 XQ12 RQ12
  clear hb hb' hr
  go_wp2_with fail
  (try rw [← World.size_alloc w13 (.cells #[.int .i64 D.kind, .int .i64 D.num, .string D.text, .slice faD D.list.length fcD] 24)])
  have XX := boxed_new w13 (.int .i64 D.kind) (.int .i64 D.num) (.string D.text) (.slice faD D.list.length fcD)
  have hbx := stands_alloc w13 (.cells #[.int .i64 D.kind, .int .i64 D.num, .string D.text, .slice faD D.list.length fcD] 24)
  generalize w13.alloc (.cells #[.int .i64 D.kind, .int .i64 D.num, .string D.text, .slice faD D.list.length fcD] 24) = w14 at *
  generalize w13.heap.size = bD at XX ⊢
  have RR := Lib.hid ((RepV.on hbx (Nat.le_refl _) NR.out).up hbx.size _)
  have XN := Lib.hid XX
  have B14 := Lib.hid (Below.step B13.out hbx)
  have XZ14 := Lib.hid (XZ13.out.on hbx); have RZ14 := Lib.hid ((RepV.on hbx (Nat.le_refl _) RZ13.out).up hbx.size _)
  have XL14 := Lib.hid (XL13.out.on hbx); have RL14 := Lib.hid ((RepV.on hbx (Nat.le_refl _) RL13.out).up hbx.size _)
  have XV14 := Lib.hid (XV13.out.on hbx); have RV14 := Lib.hid ((RepV.on hbx (Nat.le_refl _) RV13.out).up hbx.size _)
  have XA14 := Lib.hid (XA13.out.on hbx); have RA14 := Lib.hid ((RepV.on hbx (Nat.le_refl _) RA13.out).up hbx.size _)
  have XP14 := Lib.hid (XP13.out.on hbx); have RP14 := Lib.hid ((RepV.on hbx (Nat.le_refl _) RP13.out).up hbx.size _)
  have XQ14 := Lib.hid (XQ13.out.on hbx); have RQ14 := Lib.hid ((RepV.on hbx (Nat.le_refl _) RQ13.out).up hbx.size _)
  clear B13 XZ13 RZ13 XL13 RL13 XV13 RV13 XA13 RA13 XP13 RP13 XQ13 RQ13
  have XD14 := XN; have RD14 := RR
  clear XX hbx RR XN NR
  refine (call_at 6 (by decide) [D] _ _ _ (Nat.le_refl _) (one_at (alloc_new' _ _) (stands_alloc _ _) RD14.out)).mono ?_
  rw [C5.out]
  rintro e w15 ⟨c0, c1, c2, c3, rfl, hr, hb⟩
  have hb' := Below.step (stands_alloc w14 _) hb
  have hr' : RepV w15.heap.size w15 v c0 c1 c2 c3 := hr.on (fun k hk => hk.2) (fun _ _ => rfl)
  obtain ⟨faE, fcE, rfl, rfl, rfl, rfl⟩ := hr'.form
  have NR := Lib.hid hr'; clear hr'
  have B15 := Lib.hid (Below.step B14.out hb')
  have XZ15 := Lib.hid (XZ14.out.on hb'); have RZ15 := Lib.hid ((RepV.on hb' (Nat.le_refl _) RZ14.out).up hb'.size _)
  have XL15 := Lib.hid (XL14.out.on hb'); have RL15 := Lib.hid ((RepV.on hb' (Nat.le_refl _) RL14.out).up hb'.size _)
  have XV15 := Lib.hid (XV14.out.on hb'); have RV15 := Lib.hid ((RepV.on hb' (Nat.le_refl _) RV14.out).up hb'.size _)
  have XA15 := Lib.hid (XA14.out.on hb'); have RA15 := Lib.hid ((RepV.on hb' (Nat.le_refl _) RA14.out).up hb'.size _)
  have XP15 := Lib.hid (XP14.out.on hb'); have RP15 := Lib.hid ((RepV.on hb' (Nat.le_refl _) RP14.out).up hb'.size _)
  have XQ15 := Lib.hid (XQ14.out.on hb'); have RQ15 := Lib.hid ((RepV.on hb' (Nat.le_refl _) RQ14.out).up hb'.size _)
  have XD15 := Lib.hid (XD14.out.on hb'); have RD15 := Lib.hid ((RepV.on hb' (Nat.le_refl _) RD14.out).up hb'.size _)
  clear B14 XZ14 RZ14 XL14 RL14 XV14 RV14 XA14 RA14 XP14 RP14 XQ14 RQ14 XD14 RD14
  clear hb hb' hr
  obtain ⟨cD0, cD1, cD2, cD3⟩ := (XD15.out.on (stands_alloc w15 (.cells #[.int .i64 v.kind, .int .i64 v.num, .string v.text, .slice faE v.list.length fcE] 24))).cells
  go_wp2_with fail
  clear cD0 cD1 cD2 cD3
  (try rw [← World.size_alloc w15 (.cells #[.int .i64 v.kind, .int .i64 v.num, .string v.text, .slice faE v.list.length fcE] 24)])
  have XX := boxed_new w15 (.int .i64 v.kind) (.int .i64 v.num) (.string v.text) (.slice faE v.list.length fcE)
  have hbx := stands_alloc w15 (.cells #[.int .i64 v.kind, .int .i64 v.num, .string v.text, .slice faE v.list.length fcE] 24)
  generalize w15.alloc (.cells #[.int .i64 v.kind, .int .i64 v.num, .string v.text, .slice faE v.list.length fcE] 24) = w16 at *
  generalize w15.heap.size = bE at XX ⊢
  have RR := Lib.hid ((RepV.on hbx (Nat.le_refl _) NR.out).up hbx.size _)
  have XN := Lib.hid XX
  have B16 := Lib.hid (Below.step B15.out hbx)
  have XZ16 := Lib.hid (XZ15.out.on hbx); have RZ16 := Lib.hid ((RepV.on hbx (Nat.le_refl _) RZ15.out).up hbx.size _)
  have XL16 := Lib.hid (XL15.out.on hbx); have RL16 := Lib.hid ((RepV.on hbx (Nat.le_refl _) RL15.out).up hbx.size _)
  have XV16 := Lib.hid (XV15.out.on hbx); have RV16 := Lib.hid ((RepV.on hbx (Nat.le_refl _) RV15.out).up hbx.size _)
  have XA16 := Lib.hid (XA15.out.on hbx); have RA16 := Lib.hid ((RepV.on hbx (Nat.le_refl _) RA15.out).up hbx.size _)
  have XP16 := Lib.hid (XP15.out.on hbx); have RP16 := Lib.hid ((RepV.on hbx (Nat.le_refl _) RP15.out).up hbx.size _)
  have XQ16 := Lib.hid (XQ15.out.on hbx); have RQ16 := Lib.hid ((RepV.on hbx (Nat.le_refl _) RQ15.out).up hbx.size _)
  have XD16 := Lib.hid (XD15.out.on hbx); have RD16 := Lib.hid ((RepV.on hbx (Nat.le_refl _) RD15.out).up hbx.size _)
  clear B15 XZ15 RZ15 XL15 RL15 XV15 RV15 XA15 RA15 XP15 RP15 XQ15 RQ15 XD15 RD15
  have XE16 := XN; have RE16 := RR
  clear XX hbx RR XN NR
  refine (call_at 8 (by decide) [D] _ _ _ (Nat.le_refl _) (one_at (alloc_new' _ _) (stands_alloc _ _) RD16.out)).mono ?_
  rw [C6.out]
  rintro e w17 ⟨c0, c1, c2, c3, rfl, hr, hb⟩
  have hb' := Below.step (stands_alloc w16 _) hb
  have hr' : RepV w17.heap.size w17 F c0 c1 c2 c3 := hr.on (fun k hk => hk.2) (fun _ _ => rfl)
  obtain ⟨faF, fcF, rfl, rfl, rfl, rfl⟩ := hr'.form
  have NR := Lib.hid hr'; clear hr'
  have B17 := Lib.hid (Below.step B16.out hb')
  have XZ17 := Lib.hid (XZ16.out.on hb'); have RZ17 := Lib.hid ((RepV.on hb' (Nat.le_refl _) RZ16.out).up hb'.size _)
  have XL17 := Lib.hid (XL16.out.on hb'); have RL17 := Lib.hid ((RepV.on hb' (Nat.le_refl _) RL16.out).up hb'.size _)
  have XV17 := Lib.hid (XV16.out.on hb'); have RV17 := Lib.hid ((RepV.on hb' (Nat.le_refl _) RV16.out).up hb'.size _)
  have XA17 := Lib.hid (XA16.out.on hb'); have RA17 := Lib.hid ((RepV.on hb' (Nat.le_refl _) RA16.out).up hb'.size _)
  have XP17 := Lib.hid (XP16.out.on hb'); have RP17 := Lib.hid ((RepV.on hb' (Nat.le_refl _) RP16.out).up hb'.size _)
  have XQ17 := Lib.hid (XQ16.out.on hb'); have RQ17 := Lib.hid ((RepV.on hb' (Nat.le_refl _) RQ16.out).up hb'.size _)
  have XD17 := Lib.hid (XD16.out.on hb'); have RD17 := Lib.hid ((RepV.on hb' (Nat.le_refl _) RD16.out).up hb'.size _)
  have XE17 := Lib.hid (XE16.out.on hb'); have RE17 := Lib.hid ((RepV.on hb' (Nat.le_refl _) RE16.out).up hb'.size _)
  clear B16 XZ16 RZ16 XL16 RL16 XV16 RV16 XA16 RA16 XP16 RP16 XQ16 RQ16 XD16 RD16 XE16 RE16
  clear hb hb' hr
  go_wp2_with fail
  (try rw [← World.size_alloc w17 (.cells #[.int .i64 F.kind, .int .i64 F.num, .string F.text, .slice faF F.list.length fcF] 24)])
  have XX := boxed_new w17 (.int .i64 F.kind) (.int .i64 F.num) (.string F.text) (.slice faF F.list.length fcF)
  have hbx := stands_alloc w17 (.cells #[.int .i64 F.kind, .int .i64 F.num, .string F.text, .slice faF F.list.length fcF] 24)
  generalize w17.alloc (.cells #[.int .i64 F.kind, .int .i64 F.num, .string F.text, .slice faF F.list.length fcF] 24) = w18 at *
  generalize w17.heap.size = bF at XX ⊢
  have RR := Lib.hid ((RepV.on hbx (Nat.le_refl _) NR.out).up hbx.size _)
  have XN := Lib.hid XX
  have B18 := Lib.hid (Below.step B17.out hbx)
  have XZ18 := Lib.hid (XZ17.out.on hbx); have RZ18 := Lib.hid ((RepV.on hbx (Nat.le_refl _) RZ17.out).up hbx.size _)
  have XL18 := Lib.hid (XL17.out.on hbx); have RL18 := Lib.hid ((RepV.on hbx (Nat.le_refl _) RL17.out).up hbx.size _)
  have XV18 := Lib.hid (XV17.out.on hbx); have RV18 := Lib.hid ((RepV.on hbx (Nat.le_refl _) RV17.out).up hbx.size _)
  have XA18 := Lib.hid (XA17.out.on hbx); have RA18 := Lib.hid ((RepV.on hbx (Nat.le_refl _) RA17.out).up hbx.size _)
  have XP18 := Lib.hid (XP17.out.on hbx); have RP18 := Lib.hid ((RepV.on hbx (Nat.le_refl _) RP17.out).up hbx.size _)
  have XQ18 := Lib.hid (XQ17.out.on hbx); have RQ18 := Lib.hid ((RepV.on hbx (Nat.le_refl _) RQ17.out).up hbx.size _)
  have XD18 := Lib.hid (XD17.out.on hbx); have RD18 := Lib.hid ((RepV.on hbx (Nat.le_refl _) RD17.out).up hbx.size _)
  have XE18 := Lib.hid (XE17.out.on hbx); have RE18 := Lib.hid ((RepV.on hbx (Nat.le_refl _) RE17.out).up hbx.size _)
  clear B17 XZ17 RZ17 XL17 RL17 XV17 RV17 XA17 RA17 XP17 RP17 XQ17 RQ17 XD17 RD17 XE17 RE17
  have XF18 := XN; have RF18 := RR
  clear XX hbx RR XN NR
  refine (call_at 8 (by decide) [F] _ _ _ (Nat.le_refl _) (one_at (alloc_new' _ _) (stands_alloc _ _) RF18.out)).mono ?_
  rw [C7.out]
  rintro e w19 ⟨c0, c1, c2, c3, rfl, hr, hb⟩
  have hb' := Below.step (stands_alloc w18 _) hb
  have hr' : RepV w19.heap.size w19 D c0 c1 c2 c3 := hr.on (fun k hk => hk.2) (fun _ _ => rfl)
  obtain ⟨faG, fcG, rfl, rfl, rfl, rfl⟩ := hr'.form
  have NR := Lib.hid hr'; clear hr'
  have B19 := Lib.hid (Below.step B18.out hb')
  have XZ19 := Lib.hid (XZ18.out.on hb'); have RZ19 := Lib.hid ((RepV.on hb' (Nat.le_refl _) RZ18.out).up hb'.size _)
  have XL19 := Lib.hid (XL18.out.on hb'); have RL19 := Lib.hid ((RepV.on hb' (Nat.le_refl _) RL18.out).up hb'.size _)
  have XV19 := Lib.hid (XV18.out.on hb'); have RV19 := Lib.hid ((RepV.on hb' (Nat.le_refl _) RV18.out).up hb'.size _)
  have XA19 := Lib.hid (XA18.out.on hb'); have RA19 := Lib.hid ((RepV.on hb' (Nat.le_refl _) RA18.out).up hb'.size _)
  have XP19 := Lib.hid (XP18.out.on hb'); have RP19 := Lib.hid ((RepV.on hb' (Nat.le_refl _) RP18.out).up hb'.size _)
  have XQ19 := Lib.hid (XQ18.out.on hb'); have RQ19 := Lib.hid ((RepV.on hb' (Nat.le_refl _) RQ18.out).up hb'.size _)
  have XD19 := Lib.hid (XD18.out.on hb'); have RD19 := Lib.hid ((RepV.on hb' (Nat.le_refl _) RD18.out).up hb'.size _)
  have XE19 := Lib.hid (XE18.out.on hb'); have RE19 := Lib.hid ((RepV.on hb' (Nat.le_refl _) RE18.out).up hb'.size _)
  have XF19 := Lib.hid (XF18.out.on hb'); have RF19 := Lib.hid ((RepV.on hb' (Nat.le_refl _) RF18.out).up hb'.size _)
  clear B18 XZ18 RZ18 XL18 RL18 XV18 RV18 XA18 RA18 XP18 RP18 XQ18 RQ18 XD18 RD18 XE18 RE18 XF18 RF18
  clear hb hb' hr
  obtain ⟨cP0, cP1, cP2, cP3⟩ := (XP19.out.on (stands_alloc w19 (.cells #[.int .i64 D.kind, .int .i64 D.num, .string D.text, .slice faG D.list.length fcG] 24))).cells
  obtain ⟨cV0, cV1, cV2, cV3⟩ := (XV19.out.on (stands_alloc w19 (.cells #[.int .i64 D.kind, .int .i64 D.num, .string D.text, .slice faG D.list.length fcG] 24))).cells
  go_wp2_with fail
  clear cP0 cP1 cP2 cP3
  clear cV0 cV1 cV2 cV3
  (try rw [← World.size_alloc w19 (.cells #[.int .i64 D.kind, .int .i64 D.num, .string D.text, .slice faG D.list.length fcG] 24)])
  have XX := boxed_new w19 (.int .i64 D.kind) (.int .i64 D.num) (.string D.text) (.slice faG D.list.length fcG)
  have hbx := stands_alloc w19 (.cells #[.int .i64 D.kind, .int .i64 D.num, .string D.text, .slice faG D.list.length fcG] 24)
  generalize w19.alloc (.cells #[.int .i64 D.kind, .int .i64 D.num, .string D.text, .slice faG D.list.length fcG] 24) = w20 at *
  generalize w19.heap.size = bG at XX ⊢
  have RR := Lib.hid ((RepV.on hbx (Nat.le_refl _) NR.out).up hbx.size _)
  have XN := Lib.hid XX
  have B20 := Lib.hid (Below.step B19.out hbx)
  have XZ20 := Lib.hid (XZ19.out.on hbx); have RZ20 := Lib.hid ((RepV.on hbx (Nat.le_refl _) RZ19.out).up hbx.size _)
  have XL20 := Lib.hid (XL19.out.on hbx); have RL20 := Lib.hid ((RepV.on hbx (Nat.le_refl _) RL19.out).up hbx.size _)
  have XV20 := Lib.hid (XV19.out.on hbx); have RV20 := Lib.hid ((RepV.on hbx (Nat.le_refl _) RV19.out).up hbx.size _)
  have XA20 := Lib.hid (XA19.out.on hbx); have RA20 := Lib.hid ((RepV.on hbx (Nat.le_refl _) RA19.out).up hbx.size _)
  have XP20 := Lib.hid (XP19.out.on hbx); have RP20 := Lib.hid ((RepV.on hbx (Nat.le_refl _) RP19.out).up hbx.size _)
  have XQ20 := Lib.hid (XQ19.out.on hbx); have RQ20 := Lib.hid ((RepV.on hbx (Nat.le_refl _) RQ19.out).up hbx.size _)
  have XD20 := Lib.hid (XD19.out.on hbx); have RD20 := Lib.hid ((RepV.on hbx (Nat.le_refl _) RD19.out).up hbx.size _)
  have XE20 := Lib.hid (XE19.out.on hbx); have RE20 := Lib.hid ((RepV.on hbx (Nat.le_refl _) RE19.out).up hbx.size _)
  have XF20 := Lib.hid (XF19.out.on hbx); have RF20 := Lib.hid ((RepV.on hbx (Nat.le_refl _) RF19.out).up hbx.size _)
  clear B19 XZ19 RZ19 XL19 RL19 XV19 RV19 XA19 RA19 XP19 RP19 XQ19 RQ19 XD19 RD19 XE19 RE19 XF19 RF19
  have XG20 := XN; have RG20 := RR
  clear XX hbx RR XN NR
  refine (same_one v w20.heap.size _ _ _ _ _ _ _ _ _ (Nat.le_refl _) RP20.out RV20.out).mono ?_
  rintro e w21 ⟨rfl, hb⟩
  have B21 := Lib.hid (Below.step B20.out hb)
  have XZ21 := Lib.hid (XZ20.out.on hb); have RZ21 := Lib.hid ((RepV.on hb (Nat.le_refl _) RZ20.out).up hb.size _)
  have XL21 := Lib.hid (XL20.out.on hb); have RL21 := Lib.hid ((RepV.on hb (Nat.le_refl _) RL20.out).up hb.size _)
  have XV21 := Lib.hid (XV20.out.on hb); have RV21 := Lib.hid ((RepV.on hb (Nat.le_refl _) RV20.out).up hb.size _)
  have XA21 := Lib.hid (XA20.out.on hb); have RA21 := Lib.hid ((RepV.on hb (Nat.le_refl _) RA20.out).up hb.size _)
  have XP21 := Lib.hid (XP20.out.on hb); have RP21 := Lib.hid ((RepV.on hb (Nat.le_refl _) RP20.out).up hb.size _)
  have XQ21 := Lib.hid (XQ20.out.on hb); have RQ21 := Lib.hid ((RepV.on hb (Nat.le_refl _) RQ20.out).up hb.size _)
  have XD21 := Lib.hid (XD20.out.on hb); have RD21 := Lib.hid ((RepV.on hb (Nat.le_refl _) RD20.out).up hb.size _)
  have XE21 := Lib.hid (XE20.out.on hb); have RE21 := Lib.hid ((RepV.on hb (Nat.le_refl _) RE20.out).up hb.size _)
  have XF21 := Lib.hid (XF20.out.on hb); have RF21 := Lib.hid ((RepV.on hb (Nat.le_refl _) RF20.out).up hb.size _)
  have XG21 := Lib.hid (XG20.out.on hb); have RG21 := Lib.hid ((RepV.on hb (Nat.le_refl _) RG20.out).up hb.size _)
  clear B20 XZ20 RZ20 XL20 RL20 XV20 RV20 XA20 RA20 XP20 RP20 XQ20 RQ20 XD20 RD20 XE20 RE20 XF20 RF20 XG20 RG20
  clear hb
  obtain ⟨cQ0, cQ1, cQ2, cQ3⟩ := XQ21.out.cells
  obtain ⟨cL0, cL1, cL2, cL3⟩ := XL21.out.cells
  go_wp2_with fail
  clear cQ0 cQ1 cQ2 cQ3
  clear cL0 cL1 cL2 cL3
  refine (same_one l w21.heap.size _ _ _ _ _ _ _ _ _ (Nat.le_refl _) RQ21.out RL21.out).mono ?_
  rintro e w22 ⟨rfl, hb⟩
  have B22 := Lib.hid (Below.step B21.out hb)
  have XZ22 := Lib.hid (XZ21.out.on hb); have RZ22 := Lib.hid ((RepV.on hb (Nat.le_refl _) RZ21.out).up hb.size _)
  have XL22 := Lib.hid (XL21.out.on hb); have RL22 := Lib.hid ((RepV.on hb (Nat.le_refl _) RL21.out).up hb.size _)
  have XV22 := Lib.hid (XV21.out.on hb); have RV22 := Lib.hid ((RepV.on hb (Nat.le_refl _) RV21.out).up hb.size _)
  have XA22 := Lib.hid (XA21.out.on hb); have RA22 := Lib.hid ((RepV.on hb (Nat.le_refl _) RA21.out).up hb.size _)
  have XP22 := Lib.hid (XP21.out.on hb); have RP22 := Lib.hid ((RepV.on hb (Nat.le_refl _) RP21.out).up hb.size _)
  have XQ22 := Lib.hid (XQ21.out.on hb); have RQ22 := Lib.hid ((RepV.on hb (Nat.le_refl _) RQ21.out).up hb.size _)
  have XD22 := Lib.hid (XD21.out.on hb); have RD22 := Lib.hid ((RepV.on hb (Nat.le_refl _) RD21.out).up hb.size _)
  have XE22 := Lib.hid (XE21.out.on hb); have RE22 := Lib.hid ((RepV.on hb (Nat.le_refl _) RE21.out).up hb.size _)
  have XF22 := Lib.hid (XF21.out.on hb); have RF22 := Lib.hid ((RepV.on hb (Nat.le_refl _) RF21.out).up hb.size _)
  have XG22 := Lib.hid (XG21.out.on hb); have RG22 := Lib.hid ((RepV.on hb (Nat.le_refl _) RG21.out).up hb.size _)
  clear B21 XZ21 RZ21 XL21 RL21 XV21 RV21 XA21 RA21 XP21 RP21 XQ21 RQ21 XD21 RD21 XE21 RE21 XF21 RF21 XG21 RG21
  clear hb
  obtain ⟨cE0, cE1, cE2, cE3⟩ := XE22.out.cells
  obtain ⟨cV0, cV1, cV2, cV3⟩ := XV22.out.cells
  go_wp2_with fail
  clear cE0 cE1 cE2 cE3
  clear cV0 cV1 cV2 cV3
  refine (same_one v w22.heap.size _ _ _ _ _ _ _ _ _ (Nat.le_refl _) RE22.out RV22.out).mono ?_
  rintro e w23 ⟨rfl, hb⟩
  have B23 := Lib.hid (Below.step B22.out hb)
  have XZ23 := Lib.hid (XZ22.out.on hb); have RZ23 := Lib.hid ((RepV.on hb (Nat.le_refl _) RZ22.out).up hb.size _)
  have XL23 := Lib.hid (XL22.out.on hb); have RL23 := Lib.hid ((RepV.on hb (Nat.le_refl _) RL22.out).up hb.size _)
  have XV23 := Lib.hid (XV22.out.on hb); have RV23 := Lib.hid ((RepV.on hb (Nat.le_refl _) RV22.out).up hb.size _)
  have XA23 := Lib.hid (XA22.out.on hb); have RA23 := Lib.hid ((RepV.on hb (Nat.le_refl _) RA22.out).up hb.size _)
  have XP23 := Lib.hid (XP22.out.on hb); have RP23 := Lib.hid ((RepV.on hb (Nat.le_refl _) RP22.out).up hb.size _)
  have XQ23 := Lib.hid (XQ22.out.on hb); have RQ23 := Lib.hid ((RepV.on hb (Nat.le_refl _) RQ22.out).up hb.size _)
  have XD23 := Lib.hid (XD22.out.on hb); have RD23 := Lib.hid ((RepV.on hb (Nat.le_refl _) RD22.out).up hb.size _)
  have XE23 := Lib.hid (XE22.out.on hb); have RE23 := Lib.hid ((RepV.on hb (Nat.le_refl _) RE22.out).up hb.size _)
  have XF23 := Lib.hid (XF22.out.on hb); have RF23 := Lib.hid ((RepV.on hb (Nat.le_refl _) RF22.out).up hb.size _)
  have XG23 := Lib.hid (XG22.out.on hb); have RG23 := Lib.hid ((RepV.on hb (Nat.le_refl _) RG22.out).up hb.size _)
  clear B22 XZ22 RZ22 XL22 RL22 XV22 RV22 XA22 RA22 XP22 RP22 XQ22 RQ22 XD22 RD22 XE22 RE22 XF22 RF22 XG22 RG22
  clear hb
  obtain ⟨cG0, cG1, cG2, cG3⟩ := XG23.out.cells
  obtain ⟨cD0, cD1, cD2, cD3⟩ := XD23.out.cells
  go_wp2_with fail
  clear cG0 cG1 cG2 cG3
  clear cD0 cD1 cD2 cD3
  refine (same_one D w23.heap.size _ _ _ _ _ _ _ _ _ (Nat.le_refl _) RG23.out RD23.out).mono ?_
  rintro e w24 ⟨rfl, hb⟩
  have B24 := Lib.hid (Below.step B23.out hb)
  have XZ24 := Lib.hid (XZ23.out.on hb); have RZ24 := Lib.hid ((RepV.on hb (Nat.le_refl _) RZ23.out).up hb.size _)
  have XL24 := Lib.hid (XL23.out.on hb); have RL24 := Lib.hid ((RepV.on hb (Nat.le_refl _) RL23.out).up hb.size _)
  have XV24 := Lib.hid (XV23.out.on hb); have RV24 := Lib.hid ((RepV.on hb (Nat.le_refl _) RV23.out).up hb.size _)
  have XA24 := Lib.hid (XA23.out.on hb); have RA24 := Lib.hid ((RepV.on hb (Nat.le_refl _) RA23.out).up hb.size _)
  have XP24 := Lib.hid (XP23.out.on hb); have RP24 := Lib.hid ((RepV.on hb (Nat.le_refl _) RP23.out).up hb.size _)
  have XQ24 := Lib.hid (XQ23.out.on hb); have RQ24 := Lib.hid ((RepV.on hb (Nat.le_refl _) RQ23.out).up hb.size _)
  have XD24 := Lib.hid (XD23.out.on hb); have RD24 := Lib.hid ((RepV.on hb (Nat.le_refl _) RD23.out).up hb.size _)
  have XE24 := Lib.hid (XE23.out.on hb); have RE24 := Lib.hid ((RepV.on hb (Nat.le_refl _) RE23.out).up hb.size _)
  have XF24 := Lib.hid (XF23.out.on hb); have RF24 := Lib.hid ((RepV.on hb (Nat.le_refl _) RF23.out).up hb.size _)
  have XG24 := Lib.hid (XG23.out.on hb); have RG24 := Lib.hid ((RepV.on hb (Nat.le_refl _) RG23.out).up hb.size _)
  clear B23 XZ23 RZ23 XL23 RL23 XV23 RV23 XA23 RA23 XP23 RP23 XQ23 RQ23 XD23 RD23 XE23 RE23 XF23 RF23 XG23 RG23
  clear hb
  obtain ⟨cF0, cF1, cF2, cF3⟩ := XF24.out.cells
  go_wp2_with fail
  clear cF0 cF1 cF2 cF3
  refine (call_at 5 (by decide) [F] _ _ _ (Nat.le_refl _) (one_at (alloc_new' _ _) (stands_alloc _ _) RF24.out)).mono ?_
  rw [C8.out]
  rintro e w25 ⟨c0, c1, c2, c3, rfl, hr, hb⟩
  have hb' := Below.step (stands_alloc w24 _) hb
  have hr' : RepV w25.heap.size w25 v c0 c1 c2 c3 := hr.on (fun k hk => hk.2) (fun _ _ => rfl)
  obtain ⟨faH, fcH, rfl, rfl, rfl, rfl⟩ := hr'.form
  have NR := Lib.hid hr'; clear hr'
  have B25 := Lib.hid (Below.step B24.out hb')
  have XZ25 := Lib.hid (XZ24.out.on hb'); have RZ25 := Lib.hid ((RepV.on hb' (Nat.le_refl _) RZ24.out).up hb'.size _)
  have XL25 := Lib.hid (XL24.out.on hb'); have RL25 := Lib.hid ((RepV.on hb' (Nat.le_refl _) RL24.out).up hb'.size _)
  have XV25 := Lib.hid (XV24.out.on hb'); have RV25 := Lib.hid ((RepV.on hb' (Nat.le_refl _) RV24.out).up hb'.size _)
  have XA25 := Lib.hid (XA24.out.on hb'); have RA25 := Lib.hid ((RepV.on hb' (Nat.le_refl _) RA24.out).up hb'.size _)
  have XP25 := Lib.hid (XP24.out.on hb'); have RP25 := Lib.hid ((RepV.on hb' (Nat.le_refl _) RP24.out).up hb'.size _)
  have XQ25 := Lib.hid (XQ24.out.on hb'); have RQ25 := Lib.hid ((RepV.on hb' (Nat.le_refl _) RQ24.out).up hb'.size _)
  have XD25 := Lib.hid (XD24.out.on hb'); have RD25 := Lib.hid ((RepV.on hb' (Nat.le_refl _) RD24.out).up hb'.size _)
  have XE25 := Lib.hid (XE24.out.on hb'); have RE25 := Lib.hid ((RepV.on hb' (Nat.le_refl _) RE24.out).up hb'.size _)
  have XF25 := Lib.hid (XF24.out.on hb'); have RF25 := Lib.hid ((RepV.on hb' (Nat.le_refl _) RF24.out).up hb'.size _)
  have XG25 := Lib.hid (XG24.out.on hb'); have RG25 := Lib.hid ((RepV.on hb' (Nat.le_refl _) RG24.out).up hb'.size _)
  clear B24 XZ24 RZ24 XL24 RL24 XV24 RV24 XA24 RA24 XP24 RP24 XQ24 RQ24 XD24 RD24 XE24 RE24 XF24 RF24 XG24 RG24
  clear hb hb' hr
  obtain ⟨cV0, cV1, cV2, cV3⟩ := (XV25.out.on (stands_alloc w25 (.cells #[.int .i64 v.kind, .int .i64 v.num, .string v.text, .slice faH v.list.length fcH] 24))).cells
  go_wp2_with fail
  clear cV0 cV1 cV2 cV3
  (try rw [← World.size_alloc w25 (.cells #[.int .i64 v.kind, .int .i64 v.num, .string v.text, .slice faH v.list.length fcH] 24)])
  have XX := boxed_new w25 (.int .i64 v.kind) (.int .i64 v.num) (.string v.text) (.slice faH v.list.length fcH)
  have hbx := stands_alloc w25 (.cells #[.int .i64 v.kind, .int .i64 v.num, .string v.text, .slice faH v.list.length fcH] 24)
  generalize w25.alloc (.cells #[.int .i64 v.kind, .int .i64 v.num, .string v.text, .slice faH v.list.length fcH] 24) = w26 at *
  generalize w25.heap.size = bH at XX ⊢
  have RR := Lib.hid ((RepV.on hbx (Nat.le_refl _) NR.out).up hbx.size _)
  have XN := Lib.hid XX
  have B26 := Lib.hid (Below.step B25.out hbx)
  have XZ26 := Lib.hid (XZ25.out.on hbx); have RZ26 := Lib.hid ((RepV.on hbx (Nat.le_refl _) RZ25.out).up hbx.size _)
  have XL26 := Lib.hid (XL25.out.on hbx); have RL26 := Lib.hid ((RepV.on hbx (Nat.le_refl _) RL25.out).up hbx.size _)
  have XV26 := Lib.hid (XV25.out.on hbx); have RV26 := Lib.hid ((RepV.on hbx (Nat.le_refl _) RV25.out).up hbx.size _)
  have XA26 := Lib.hid (XA25.out.on hbx); have RA26 := Lib.hid ((RepV.on hbx (Nat.le_refl _) RA25.out).up hbx.size _)
  have XP26 := Lib.hid (XP25.out.on hbx); have RP26 := Lib.hid ((RepV.on hbx (Nat.le_refl _) RP25.out).up hbx.size _)
  have XQ26 := Lib.hid (XQ25.out.on hbx); have RQ26 := Lib.hid ((RepV.on hbx (Nat.le_refl _) RQ25.out).up hbx.size _)
  have XD26 := Lib.hid (XD25.out.on hbx); have RD26 := Lib.hid ((RepV.on hbx (Nat.le_refl _) RD25.out).up hbx.size _)
  have XE26 := Lib.hid (XE25.out.on hbx); have RE26 := Lib.hid ((RepV.on hbx (Nat.le_refl _) RE25.out).up hbx.size _)
  have XF26 := Lib.hid (XF25.out.on hbx); have RF26 := Lib.hid ((RepV.on hbx (Nat.le_refl _) RF25.out).up hbx.size _)
  have XG26 := Lib.hid (XG25.out.on hbx); have RG26 := Lib.hid ((RepV.on hbx (Nat.le_refl _) RG25.out).up hbx.size _)
  clear B25 XZ25 RZ25 XL25 RL25 XV25 RV25 XA25 RA25 XP25 RP25 XQ25 RQ25 XD25 RD25 XE25 RE25 XF25 RF25 XG25 RG25
  have XH26 := XN; have RH26 := RR
  clear XX hbx RR XN NR
  refine (same_one v w26.heap.size _ _ _ _ _ _ _ _ _ (Nat.le_refl _) RH26.out RV26.out).mono ?_
  rintro e w27 ⟨rfl, hb⟩
  have B27 := Lib.hid (Below.step B26.out hb)
  have XZ27 := Lib.hid (XZ26.out.on hb); have RZ27 := Lib.hid ((RepV.on hb (Nat.le_refl _) RZ26.out).up hb.size _)
  have XL27 := Lib.hid (XL26.out.on hb); have RL27 := Lib.hid ((RepV.on hb (Nat.le_refl _) RL26.out).up hb.size _)
  have XV27 := Lib.hid (XV26.out.on hb); have RV27 := Lib.hid ((RepV.on hb (Nat.le_refl _) RV26.out).up hb.size _)
  have XA27 := Lib.hid (XA26.out.on hb); have RA27 := Lib.hid ((RepV.on hb (Nat.le_refl _) RA26.out).up hb.size _)
  have XP27 := Lib.hid (XP26.out.on hb); have RP27 := Lib.hid ((RepV.on hb (Nat.le_refl _) RP26.out).up hb.size _)
  have XQ27 := Lib.hid (XQ26.out.on hb); have RQ27 := Lib.hid ((RepV.on hb (Nat.le_refl _) RQ26.out).up hb.size _)
  have XD27 := Lib.hid (XD26.out.on hb); have RD27 := Lib.hid ((RepV.on hb (Nat.le_refl _) RD26.out).up hb.size _)
  have XE27 := Lib.hid (XE26.out.on hb); have RE27 := Lib.hid ((RepV.on hb (Nat.le_refl _) RE26.out).up hb.size _)
  have XF27 := Lib.hid (XF26.out.on hb); have RF27 := Lib.hid ((RepV.on hb (Nat.le_refl _) RF26.out).up hb.size _)
  have XG27 := Lib.hid (XG26.out.on hb); have RG27 := Lib.hid ((RepV.on hb (Nat.le_refl _) RG26.out).up hb.size _)
  have XH27 := Lib.hid (XH26.out.on hb); have RH27 := Lib.hid ((RepV.on hb (Nat.le_refl _) RH26.out).up hb.size _)
  clear B26 XZ26 RZ26 XL26 RL26 XV26 RV26 XA26 RA26 XP26 RP26 XQ26 RQ26 XD26 RD26 XE26 RE26 XF26 RF26 XG26 RG26 XH26 RH26
  clear hb
  go_wp2_with fail
  go_ret
  exact ⟨rfl, B27.out⟩

theorem walk (raw : List V) (x : V) (W : World) (a c0 c1 c2 c3 : Value) (htab : TabOk W) (hraw : RepL W.heap.size W raw a) (_hlen : raw.length * 56 ≤ 140737488351232) (hx : RepV W.heap.size W x c0 c1 c2 c3) :
    Calls Tryd.prog 7 #[a, .agg #[c0, c1, c2, c3]] W fun e W' => e = .returned (.bool true) ∧ Below W.heap.size W W' := by
  have hv := right_flat x
  have hL := all3_to raw 15
  have hl : (listTo raw 15).length ≤ 15 := by rw [listTo_length]; omega
  have hD := all3_append hL (fun y hy => by simp at hy; rw [hy]; exact hv : All3 [flatV (fitV 4 x)])
  have hr : (listTo raw 15 ++ [flatV (fitV 4 x)]).reverse = flatV (fitV 4 x) :: (listTo raw 15).reverse := by simp
  refine core raw x W a c0 c1 c2 c3 htab hraw hx _ _ _ _ _ (Lib.hid rfl) (Lib.hid rfl) (Lib.hid (call_cons hv hL hl)) (Lib.hid (call_first hv hL hl)) (Lib.hid (call_rest hv hL hl)) (Lib.hid (call_append hv hL hl)) (Lib.hid (call_last hv hL hl)) (Lib.hid (call_reverse hD (by simp; omega))) (Lib.hid ?_) (Lib.hid ?_)
  · have := call_reverse (all3_reverse hD) (by simp; omega)
    rw [List.reverse_reverse] at this
    exact this
  · rw [hr]
    exact call_first hv (all3_reverse hL) (by simp; omega)

end Go.Proofs.YtlnkngahiapidaaDoor.builtinLists
