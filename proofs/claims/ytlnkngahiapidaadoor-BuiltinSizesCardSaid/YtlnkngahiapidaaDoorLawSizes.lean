/-
  BuiltinSizes: for every list and value the law returns true: f_cons and f_append make a list longer by one, f_rest shorter by one, f_reverse as long; each element is a member.
-/
import Derived.Test.YtlnkngahiapidaaDoorLawKit
namespace Go.Proofs.YtlnkngahiapidaaDoor.builtinSizes
open Go.ChangeShapes Go.WideShapes Go.ChangeAt Go.RowKit

set_option maxRecDepth 100000 in
set_option maxHeartbeats 2000000 in
theorem core_some (raw : List V) (x : V) (W : World) (a c0 c1 c2 c3 : Value) (htab : TabOk W) (hraw : RepL W.heap.size W raw a) (hx : RepV W.heap.size W x c0 c1 c2 c3) (l v A D F C : V) (hl : Hid (listV (listTo raw 15) = l)) (hv : Hid (listTo [x] 1 = [v])) (hl15 : l.list.length ≤ 15)
    (C1 : Hid (callV 0 [v, l] = some A)) (C2 : Hid (callV 1 [l, v] = some D)) (C4 : Hid (callV 8 [l] = some F)) (CM : Hid (∀ k (h : k < l.list.length), callV 3 [l, l.list[k]] = some (numV 1))) (EA : Hid (A.list.length = l.list.length + 1)) (ED : Hid (D.list.length = l.list.length + 1)) (EF : Hid (F.list.length = l.list.length)) (C3 : Hid (callV 7 [l] = some C)) (hpos : 0 < l.list.length) (EC : Hid ((C.list.length : Int) = (l.list.length : Int) - 1)) :
    Calls Tryd.prog 11 #[a, .agg #[c0, c1, c2, c3]] W fun e W' => e = .returned (.bool true) ∧ Below W.heap.size W W' := by
  have HX := Lib.hid hx; have HRAW := Lib.hid hraw
  have HT := Lib.hid htab
  have hg := tab_lt htab
  obtain ⟨fa, fc, rfl, rfl, rfl, rfl⟩ := hx.form
  obtain ⟨aa, ab, ao, ac, rfl, -⟩ := hraw
  clear hx htab
  go_enter Tryd.func11, Tryd.ntmps11
  go_wp2_with fail
  have x1 := boxed_new W (.int .i64 x.kind) (.int .i64 x.num) (.string x.text) (.slice fa x.list.length fc)
  have b1 := stands_alloc W (.cells #[.int .i64 x.kind, .int .i64 x.num, .string x.text, .slice fa x.list.length fc] 24)
  generalize W.alloc (.cells #[.int .i64 x.kind, .int .i64 x.num, .string x.text, .slice fa x.list.length fc] 24) = w1 at *
  refine (awake2_any _ (Nat.lt_of_lt_of_le hg b1.size) (HT.out.below hg b1)).mono ?_
  rintro e w2 ⟨rfl, b2⟩
  have XZ2 := Lib.hid (x1.on b2); have B2 := Lib.hid (Below.step b1 b2)
  clear x1 b1 b2
  go_wp2_with fail
  refine (list2_any raw W.heap.size _ _ 15 (by omega) B2.out.size (RepL.below (fun j hj => B2.out.block j hj) HRAW.out)).mono ?_
  rw [hl.out]
  rintro e w3 ⟨c0, c1, c2, c3, rfl, hr, hb⟩
  have NR := Lib.hid (hr.on (S' := fun b => b < w3.heap.size) (fun b hb => hb.2) (fun _ _ => rfl))
  obtain ⟨faL, fcL, rfl, rfl, rfl, rfl⟩ := hr.form
  have XZ3 := Lib.hid (XZ2.out.on hb); have B3 := Lib.hid (Below.step B2.out hb)
  have RZ3 := Lib.hid ((RepV.on B3.out (Nat.le_refl _) HX.out).up B3.out.size _)
  clear hr hb XZ2 B2
  obtain ⟨faZ, hfaZ⟩ : ∃ q, q = fa := ⟨_, rfl⟩; obtain ⟨fcZ, hfcZ⟩ : ∃ q, q = fc := ⟨_, rfl⟩; subst hfaZ; subst hfcZ
  obtain ⟨cZ0, cZ1, cZ2, cZ3⟩ := (XZ3.out.on (stands_alloc w3 (.cells #[.int .i64 l.kind, .int .i64 l.num, .string l.text, .slice faL l.list.length fcL] 24))).cells
  go_wp2_with fail
  clear cZ0 cZ1 cZ2 cZ3
  (try rw [← World.size_alloc w3 (.cells #[.int .i64 l.kind, .int .i64 l.num, .string l.text, .slice faL l.list.length fcL] 24)])
  have XX := boxed_new w3 (.int .i64 l.kind) (.int .i64 l.num) (.string l.text) (.slice faL l.list.length fcL)
  have hbx := stands_alloc w3 (.cells #[.int .i64 l.kind, .int .i64 l.num, .string l.text, .slice faL l.list.length fcL] 24)
  generalize w3.alloc (.cells #[.int .i64 l.kind, .int .i64 l.num, .string l.text, .slice faL l.list.length fcL] 24) = w4 at *
  generalize w3.heap.size = bL at XX ⊢
  have RR := Lib.hid ((RepV.on hbx (Nat.le_refl _) NR.out).up hbx.size _)
  have XN := Lib.hid XX
  have B4 := Lib.hid (Below.step B3.out hbx)
  have XZ4 := Lib.hid (XZ3.out.on hbx); have RZ4 := Lib.hid ((RepV.on hbx (Nat.le_refl _) RZ3.out).up hbx.size _)
  clear B3 XZ3 RZ3
  have XL4 := XN; have RL4 := RR
  clear XX hbx RR XN NR
  refine (list2_any [x] _ _ _ 1 (by omega) (Nat.le_refl _) (one_at (alloc_new' _ _) (stands_alloc _ _) RZ4.out)).mono ?_
  rw [hv.out]
  rintro e w5 ⟨c0, c1, c2, c3, rfl, hr, hb⟩
  have hb' := Below.step (stands_alloc w4 _) hb
  have hrv : RepV w5.heap.size w5 (listV [v]) c0 c1 c2 c3 := hr.on (fun b hb => hb.2) (fun _ _ => rfl)
  obtain ⟨ta, tc, rfl, rfl, rfl, rfl⟩ := hrv.form
  obtain ⟨-, -, tb, toff, faV, fcV, rfl, -, t0, t1, t2, t3, tr⟩ := RepLG.at hrv.lst 0 (by show 0 < 1; omega)
  have hk4 : (listV [v]).kind = 4 := rfl
  change w5.cell? _ = some (.int .i64 v.kind) at t0; change w5.cell? _ = some (.int .i64 v.num) at t1; change w5.cell? _ = some (.string v.text) at t2; change w5.cell? _ = some (.slice faV v.list.length fcV) at t3
  simp only [Nat.zero_mul, Nat.add_zero] at t0 t1 t2 t3
  have htl : (listV [v]).list.length = 1 := rfl
  rw [htl]; clear htl hk4
  have NR : Hid (RepV w5.heap.size w5 v (.int .i64 v.kind) (.int .i64 v.num) (.string v.text) (.slice faV v.list.length fcV)) := tr
  have hf := field_list
  have B5 := Lib.hid (Below.step B4.out hb')
  have XZ5 := Lib.hid (XZ4.out.on hb'); have RZ5 := Lib.hid ((RepV.on hb' (Nat.le_refl _) RZ4.out).up hb'.size _)
  have XL5 := Lib.hid (XL4.out.on hb'); have RL5 := Lib.hid ((RepV.on hb' (Nat.le_refl _) RL4.out).up hb'.size _)
  clear B4 XZ4 RZ4 XL4 RL4
  clear hb hb' hr hrv tr
  obtain ⟨cL0, cL1, cL2, cL3⟩ := (XL5.out.on (stands_alloc w5 (.cells #[.int .i64 v.kind, .int .i64 v.num, .string v.text, .slice faV v.list.length fcV] 24))).cells
  go_wp2_with fail
  clear cL0 cL1 cL2 cL3
  (try rw [← World.size_alloc w5 (.cells #[.int .i64 v.kind, .int .i64 v.num, .string v.text, .slice faV v.list.length fcV] 24)])
  have XX := boxed_new w5 (.int .i64 v.kind) (.int .i64 v.num) (.string v.text) (.slice faV v.list.length fcV)
  have hbx := stands_alloc w5 (.cells #[.int .i64 v.kind, .int .i64 v.num, .string v.text, .slice faV v.list.length fcV] 24)
  generalize w5.alloc (.cells #[.int .i64 v.kind, .int .i64 v.num, .string v.text, .slice faV v.list.length fcV] 24) = w6 at *
  generalize w5.heap.size = bV at XX ⊢
  have RR := Lib.hid ((RepV.on hbx (Nat.le_refl _) NR.out).up hbx.size _)
  have XN := Lib.hid XX
  have B6 := Lib.hid (Below.step B5.out hbx)
  have XZ6 := Lib.hid (XZ5.out.on hbx); have RZ6 := Lib.hid ((RepV.on hbx (Nat.le_refl _) RZ5.out).up hbx.size _)
  have XL6 := Lib.hid (XL5.out.on hbx); have RL6 := Lib.hid ((RepV.on hbx (Nat.le_refl _) RL5.out).up hbx.size _)
  clear B5 XZ5 RZ5 XL5 RL5
  have XV6 := XN; have RV6 := RR
  clear XX hbx RR XN NR
  clear hf t0 t1 t2 t3
  refine (call_at 0 (by decide) [v, l] _ _ _ (Nat.le_refl _) (two_at (alloc_new' _ _) (stands_alloc _ _) RV6.out RL6.out)).mono ?_
  rw [C1.out]
  rintro e w7 ⟨c0, c1, c2, c3, rfl, hr, hb⟩
  have hb' := Below.step (stands_alloc w6 _) hb
  have hr' : RepV w7.heap.size w7 A c0 c1 c2 c3 := hr.on (fun k hk => hk.2) (fun _ _ => rfl)
  obtain ⟨faA, fcA, rfl, rfl, rfl, rfl⟩ := hr'.form
  have NR := Lib.hid hr'; clear hr'
  have B7 := Lib.hid (Below.step B6.out hb')
  have XZ7 := Lib.hid (XZ6.out.on hb'); have RZ7 := Lib.hid ((RepV.on hb' (Nat.le_refl _) RZ6.out).up hb'.size _)
  have XL7 := Lib.hid (XL6.out.on hb'); have RL7 := Lib.hid ((RepV.on hb' (Nat.le_refl _) RL6.out).up hb'.size _)
  have XV7 := Lib.hid (XV6.out.on hb'); have RV7 := Lib.hid ((RepV.on hb' (Nat.le_refl _) RV6.out).up hb'.size _)
  clear B6 XZ6 RZ6 XL6 RL6 XV6 RV6
  clear hb hb' hr
  obtain ⟨cL0, cL1, cL2, cL3⟩ := (XL7.out.on (stands_alloc w7 (.cells #[.int .i64 A.kind, .int .i64 A.num, .string A.text, .slice faA A.list.length fcA] 24))).cells
  obtain ⟨cV0, cV1, cV2, cV3⟩ := (XV7.out.on (stands_alloc w7 (.cells #[.int .i64 A.kind, .int .i64 A.num, .string A.text, .slice faA A.list.length fcA] 24))).cells
  go_wp2_with fail
  clear cL0 cL1 cL2 cL3
  clear cV0 cV1 cV2 cV3
  (try rw [← World.size_alloc w7 (.cells #[.int .i64 A.kind, .int .i64 A.num, .string A.text, .slice faA A.list.length fcA] 24)])
  have XX := boxed_new w7 (.int .i64 A.kind) (.int .i64 A.num) (.string A.text) (.slice faA A.list.length fcA)
  have hbx := stands_alloc w7 (.cells #[.int .i64 A.kind, .int .i64 A.num, .string A.text, .slice faA A.list.length fcA] 24)
  generalize w7.alloc (.cells #[.int .i64 A.kind, .int .i64 A.num, .string A.text, .slice faA A.list.length fcA] 24) = w8 at *
  generalize w7.heap.size = bA at XX ⊢
  have RR := Lib.hid ((RepV.on hbx (Nat.le_refl _) NR.out).up hbx.size _)
  have XN := Lib.hid XX
  have B8 := Lib.hid (Below.step B7.out hbx)
  have XZ8 := Lib.hid (XZ7.out.on hbx); have RZ8 := Lib.hid ((RepV.on hbx (Nat.le_refl _) RZ7.out).up hbx.size _)
  have XL8 := Lib.hid (XL7.out.on hbx); have RL8 := Lib.hid ((RepV.on hbx (Nat.le_refl _) RL7.out).up hbx.size _)
  have XV8 := Lib.hid (XV7.out.on hbx); have RV8 := Lib.hid ((RepV.on hbx (Nat.le_refl _) RV7.out).up hbx.size _)
  clear B7 XZ7 RZ7 XL7 RL7 XV7 RV7
  have XA8 := XN; have RA8 := RR
  clear XX hbx RR XN NR
  refine (call_at 1 (by decide) [l, v] _ _ _ (Nat.le_refl _) (two_at (alloc_new' _ _) (stands_alloc _ _) RL8.out RV8.out)).mono ?_
  rw [C2.out]
  rintro e w9 ⟨c0, c1, c2, c3, rfl, hr, hb⟩
  have hb' := Below.step (stands_alloc w8 _) hb
  have hr' : RepV w9.heap.size w9 D c0 c1 c2 c3 := hr.on (fun k hk => hk.2) (fun _ _ => rfl)
  obtain ⟨faD, fcD, rfl, rfl, rfl, rfl⟩ := hr'.form
  have NR := Lib.hid hr'; clear hr'
  have B9 := Lib.hid (Below.step B8.out hb')
  have XZ9 := Lib.hid (XZ8.out.on hb'); have RZ9 := Lib.hid ((RepV.on hb' (Nat.le_refl _) RZ8.out).up hb'.size _)
  have XL9 := Lib.hid (XL8.out.on hb'); have RL9 := Lib.hid ((RepV.on hb' (Nat.le_refl _) RL8.out).up hb'.size _)
  have XV9 := Lib.hid (XV8.out.on hb'); have RV9 := Lib.hid ((RepV.on hb' (Nat.le_refl _) RV8.out).up hb'.size _)
  have XA9 := Lib.hid (XA8.out.on hb'); have RA9 := Lib.hid ((RepV.on hb' (Nat.le_refl _) RA8.out).up hb'.size _)
  clear B8 XZ8 RZ8 XL8 RL8 XV8 RV8 XA8 RA8
  clear hb hb' hr
  obtain ⟨cL0, cL1, cL2, cL3⟩ := (XL9.out.on (stands_alloc w9 (.cells #[.int .i64 D.kind, .int .i64 D.num, .string D.text, .slice faD D.list.length fcD] 24))).cells
  go_wp2_with fail
  clear cL0 cL1 cL2 cL3
  (try rw [← World.size_alloc w9 (.cells #[.int .i64 D.kind, .int .i64 D.num, .string D.text, .slice faD D.list.length fcD] 24)])
  have XX := boxed_new w9 (.int .i64 D.kind) (.int .i64 D.num) (.string D.text) (.slice faD D.list.length fcD)
  have hbx := stands_alloc w9 (.cells #[.int .i64 D.kind, .int .i64 D.num, .string D.text, .slice faD D.list.length fcD] 24)
  generalize w9.alloc (.cells #[.int .i64 D.kind, .int .i64 D.num, .string D.text, .slice faD D.list.length fcD] 24) = w10 at *
  generalize w9.heap.size = bD at XX ⊢
  have RR := Lib.hid ((RepV.on hbx (Nat.le_refl _) NR.out).up hbx.size _)
  have XN := Lib.hid XX
  have B10 := Lib.hid (Below.step B9.out hbx)
  have XZ10 := Lib.hid (XZ9.out.on hbx); have RZ10 := Lib.hid ((RepV.on hbx (Nat.le_refl _) RZ9.out).up hbx.size _)
  have XL10 := Lib.hid (XL9.out.on hbx); have RL10 := Lib.hid ((RepV.on hbx (Nat.le_refl _) RL9.out).up hbx.size _)
  have XV10 := Lib.hid (XV9.out.on hbx); have RV10 := Lib.hid ((RepV.on hbx (Nat.le_refl _) RV9.out).up hbx.size _)
  have XA10 := Lib.hid (XA9.out.on hbx); have RA10 := Lib.hid ((RepV.on hbx (Nat.le_refl _) RA9.out).up hbx.size _)
  clear B9 XZ9 RZ9 XL9 RL9 XV9 RV9 XA9 RA9
  have XD10 := XN; have RD10 := RR
  clear XX hbx RR XN NR
  refine (call_at 7 (by decide) [l] _ _ _ (Nat.le_refl _) (one_at (alloc_new' _ _) (stands_alloc _ _) RL10.out)).mono ?_
  rw [C3.out]
  rintro e w11 ⟨c0, c1, c2, c3, rfl, hr, hb⟩
  have hb' := Below.step (stands_alloc w10 _) hb
  have hr' : RepV w11.heap.size w11 C c0 c1 c2 c3 := hr.on (fun k hk => hk.2) (fun _ _ => rfl)
  obtain ⟨faC, fcC, rfl, rfl, rfl, rfl⟩ := hr'.form
  have NR := Lib.hid hr'; clear hr'
  have B11 := Lib.hid (Below.step B10.out hb')
  have XZ11 := Lib.hid (XZ10.out.on hb'); have RZ11 := Lib.hid ((RepV.on hb' (Nat.le_refl _) RZ10.out).up hb'.size _)
  have XL11 := Lib.hid (XL10.out.on hb'); have RL11 := Lib.hid ((RepV.on hb' (Nat.le_refl _) RL10.out).up hb'.size _)
  have XV11 := Lib.hid (XV10.out.on hb'); have RV11 := Lib.hid ((RepV.on hb' (Nat.le_refl _) RV10.out).up hb'.size _)
  have XA11 := Lib.hid (XA10.out.on hb'); have RA11 := Lib.hid ((RepV.on hb' (Nat.le_refl _) RA10.out).up hb'.size _)
  have XD11 := Lib.hid (XD10.out.on hb'); have RD11 := Lib.hid ((RepV.on hb' (Nat.le_refl _) RD10.out).up hb'.size _)
  clear B10 XZ10 RZ10 XL10 RL10 XV10 RV10 XA10 RA10 XD10 RD10
  clear hb hb' hr
  obtain ⟨cL0, cL1, cL2, cL3⟩ := (XL11.out.on (stands_alloc w11 (.cells #[.int .i64 C.kind, .int .i64 C.num, .string C.text, .slice faC C.list.length fcC] 24))).cells
  go_wp2_with fail
  clear cL0 cL1 cL2 cL3
  (try rw [← World.size_alloc w11 (.cells #[.int .i64 C.kind, .int .i64 C.num, .string C.text, .slice faC C.list.length fcC] 24)])
  have XX := boxed_new w11 (.int .i64 C.kind) (.int .i64 C.num) (.string C.text) (.slice faC C.list.length fcC)
  have hbx := stands_alloc w11 (.cells #[.int .i64 C.kind, .int .i64 C.num, .string C.text, .slice faC C.list.length fcC] 24)
  generalize w11.alloc (.cells #[.int .i64 C.kind, .int .i64 C.num, .string C.text, .slice faC C.list.length fcC] 24) = w12 at *
  generalize w11.heap.size = bC at XX ⊢
  have RR := Lib.hid ((RepV.on hbx (Nat.le_refl _) NR.out).up hbx.size _)
  have XN := Lib.hid XX
  have B12 := Lib.hid (Below.step B11.out hbx)
  have XZ12 := Lib.hid (XZ11.out.on hbx); have RZ12 := Lib.hid ((RepV.on hbx (Nat.le_refl _) RZ11.out).up hbx.size _)
  have XL12 := Lib.hid (XL11.out.on hbx); have RL12 := Lib.hid ((RepV.on hbx (Nat.le_refl _) RL11.out).up hbx.size _)
  have XV12 := Lib.hid (XV11.out.on hbx); have RV12 := Lib.hid ((RepV.on hbx (Nat.le_refl _) RV11.out).up hbx.size _)
  have XA12 := Lib.hid (XA11.out.on hbx); have RA12 := Lib.hid ((RepV.on hbx (Nat.le_refl _) RA11.out).up hbx.size _)
  have XD12 := Lib.hid (XD11.out.on hbx); have RD12 := Lib.hid ((RepV.on hbx (Nat.le_refl _) RD11.out).up hbx.size _)
  clear B11 XZ11 RZ11 XL11 RL11 XV11 RV11 XA11 RA11 XD11 RD11
  have XC12 := XN; have RC12 := RR
  clear XX hbx RR XN NR
  refine (call_at 8 (by decide) [l] _ _ _ (Nat.le_refl _) (one_at (alloc_new' _ _) (stands_alloc _ _) RL12.out)).mono ?_
  rw [C4.out]
  rintro e w13 ⟨c0, c1, c2, c3, rfl, hr, hb⟩
  have hb' := Below.step (stands_alloc w12 _) hb
  have hr' : RepV w13.heap.size w13 F c0 c1 c2 c3 := hr.on (fun k hk => hk.2) (fun _ _ => rfl)
  obtain ⟨faF, fcF, rfl, rfl, rfl, rfl⟩ := hr'.form
  have NR := Lib.hid hr'; clear hr'
  have B13 := Lib.hid (Below.step B12.out hb')
  have XZ13 := Lib.hid (XZ12.out.on hb'); have RZ13 := Lib.hid ((RepV.on hb' (Nat.le_refl _) RZ12.out).up hb'.size _)
  have XL13 := Lib.hid (XL12.out.on hb'); have RL13 := Lib.hid ((RepV.on hb' (Nat.le_refl _) RL12.out).up hb'.size _)
  have XV13 := Lib.hid (XV12.out.on hb'); have RV13 := Lib.hid ((RepV.on hb' (Nat.le_refl _) RV12.out).up hb'.size _)
  have XA13 := Lib.hid (XA12.out.on hb'); have RA13 := Lib.hid ((RepV.on hb' (Nat.le_refl _) RA12.out).up hb'.size _)
  have XD13 := Lib.hid (XD12.out.on hb'); have RD13 := Lib.hid ((RepV.on hb' (Nat.le_refl _) RD12.out).up hb'.size _)
  have XC13 := Lib.hid (XC12.out.on hb'); have RC13 := Lib.hid ((RepV.on hb' (Nat.le_refl _) RC12.out).up hb'.size _)
  clear B12 XZ12 RZ12 XL12 RL12 XV12 RV12 XA12 RA12 XD12 RD12 XC12 RC12
  clear hb hb' hr
  go_wp2_with fail
  (try rw [← World.size_alloc w13 (.cells #[.int .i64 F.kind, .int .i64 F.num, .string F.text, .slice faF F.list.length fcF] 24)])
  have XX := boxed_new w13 (.int .i64 F.kind) (.int .i64 F.num) (.string F.text) (.slice faF F.list.length fcF)
  have hbx := stands_alloc w13 (.cells #[.int .i64 F.kind, .int .i64 F.num, .string F.text, .slice faF F.list.length fcF] 24)
  generalize w13.alloc (.cells #[.int .i64 F.kind, .int .i64 F.num, .string F.text, .slice faF F.list.length fcF] 24) = w14 at *
  generalize w13.heap.size = bF at XX ⊢
  have RR := Lib.hid ((RepV.on hbx (Nat.le_refl _) NR.out).up hbx.size _)
  have XN := Lib.hid XX
  have B14 := Lib.hid (Below.step B13.out hbx)
  have XZ14 := Lib.hid (XZ13.out.on hbx); have RZ14 := Lib.hid ((RepV.on hbx (Nat.le_refl _) RZ13.out).up hbx.size _)
  have XL14 := Lib.hid (XL13.out.on hbx); have RL14 := Lib.hid ((RepV.on hbx (Nat.le_refl _) RL13.out).up hbx.size _)
  have XV14 := Lib.hid (XV13.out.on hbx); have RV14 := Lib.hid ((RepV.on hbx (Nat.le_refl _) RV13.out).up hbx.size _)
  have XA14 := Lib.hid (XA13.out.on hbx); have RA14 := Lib.hid ((RepV.on hbx (Nat.le_refl _) RA13.out).up hbx.size _)
  have XD14 := Lib.hid (XD13.out.on hbx); have RD14 := Lib.hid ((RepV.on hbx (Nat.le_refl _) RD13.out).up hbx.size _)
  have XC14 := Lib.hid (XC13.out.on hbx); have RC14 := Lib.hid ((RepV.on hbx (Nat.le_refl _) RC13.out).up hbx.size _)
  clear B13 XZ13 RZ13 XL13 RL13 XV13 RV13 XA13 RA13 XD13 RD13 XC13 RC13
  have XF14 := XN; have RF14 := RR
  clear XX hbx RR XN NR
  have hW := B14.out.size
  generalize hw0 : w14 = w0 at *
  clear hw0
  go_loopw [17] (fun i wr => ∃ k : Nat, k ≤ l.list.length ∧ i = .int .i64 k ∧ Below w0.heap.size w0 wr) (fun i _ => l.list.length - (intOf i).toNat)
  case atStart => exact ⟨0, Nat.zero_le _, rfl, Below.refl _ _⟩
  case round =>
    obtain ⟨k, hk, rfl, hbel⟩ := hrel
    have HBEL := Lib.hid hbel
    by_cases hlt : k < l.list.length
    · have XLr := Lib.hid (XL14.out.on hbel)
      have RLr := Lib.hid ((RepV.on hbel (Nat.le_refl _) RL14.out).up hbel.size _)
      obtain ⟨-, hlc, qb, qo, qa, qc, rfl, -, q0, q1, q2, q3, qr⟩ := RepLG.at RLr.out.lst k hlt
      have HQ := Lib.hid qr; have CMk := Lib.hid (CM.out k hlt)
      have Q0 := Lib.hid q0; have Q1 := Lib.hid q1; have Q2 := Lib.hid q2; have Q3 := Lib.hid q3
      have hqb : qb < wr.heap.size := cell_lt q0
      generalize l.list[k] = z at *
      clear qr q0 q1 q2 q3 hbel
      go_wp2_with fail
      go_cut [18, 19] (fun s18 s19 wx => HoldsAt (numV 1) wr s18 wx ∧ s19 = .bool true)
      case first =>
        have HK := Lib.hid (Below.drew (Below.refl wr.heap.size wr))
        have hsk : wr.heap.size ≤ wr.drew.heap.size := HK.out.size
        go_region_held3 (fun w' => (w'.cell? ⟨bL, 0, none⟩ = some (.int .i64 l.kind) ∧ w'.cell? ⟨bL, 1, none⟩ = some (.int .i64 l.num) ∧ w'.cell? ⟨bL, 2, none⟩ = some (.string l.text) ∧ w'.cell? ⟨bL, 3, none⟩ = some (.slice (some ⟨qb, qo, none⟩) l.list.length fcL)) ∧ w'.cell? ⟨qb, qo + k * 4, none⟩ = some (.int .i64 z.kind) ∧ w'.cell? ⟨qb, qo + k * 4 + 1, none⟩ = some (.int .i64 z.num) ∧ w'.cell? ⟨qb, qo + k * 4 + 2, none⟩ = some (.string z.text) ∧ w'.cell? ⟨qb, qo + k * 4 + 3, none⟩ = some (.slice qa z.list.length qc))
          (first | exact ⟨boxCells XLr.out HK.out, (Below.cell HK.out (by simpa using hqb)).trans Q0.out, (Below.cell HK.out (by simpa using hqb)).trans Q1.out, (Below.cell HK.out (by simpa using hqb)).trans Q2.out, (Below.cell HK.out (by simpa using hqb)).trans Q3.out⟩ | exact ⟨boxCells XLr.out (belowAlloc HK.out _), (Below.cell (belowAlloc HK.out _) (by simpa using hqb)).trans Q0.out, (Below.cell (belowAlloc HK.out _) (by simpa using hqb)).trans Q1.out, (Below.cell (belowAlloc HK.out _) (by simpa using hqb)).trans Q2.out, (Below.cell (belowAlloc HK.out _) (by simpa using hqb)).trans Q3.out⟩ | exact ⟨boxCells XLr.out (belowAlloc (belowAlloc HK.out _) _), (Below.cell (belowAlloc (belowAlloc HK.out _) _) (by simpa using hqb)).trans Q0.out, (Below.cell (belowAlloc (belowAlloc HK.out _) _) (by simpa using hqb)).trans Q1.out, (Below.cell (belowAlloc (belowAlloc HK.out _) _) (by simpa using hqb)).trans Q2.out, (Below.cell (belowAlloc (belowAlloc HK.out _) _) (by simpa using hqb)).trans Q3.out⟩ | exact ⟨boxCells XLr.out (stored4 HK.out _ (by omega) _ _ _ _), (Below.cell (stored4 HK.out _ (by omega) _ _ _ _) (by simpa using hqb)).trans Q0.out, (Below.cell (stored4 HK.out _ (by omega) _ _ _ _) (by simpa using hqb)).trans Q1.out, (Below.cell (stored4 HK.out _ (by omega) _ _ _ _) (by simpa using hqb)).trans Q2.out, (Below.cell (stored4 HK.out _ (by omega) _ _ _ _) (by simpa using hqb)).trans Q3.out⟩)
          (first
            | (go_at_call 20; refine (call_at 3 (by decide) [l, z] _ _ _ (Nat.le_refl _) (two_in (S := fun b => b < wr.heap.size) (v := wr.drew) (by first | exact alloc_new' _ _ | exact alloc_two _ _ _ | exact alloc_under _ _ _) (by first | exact Below.refl _ _ | exact stands_alloc _ _ | exact stands_two _ _ _) (RepV.below (fun j hj => HK.out.block j hj) _ RLr.out) (RepV.below (fun j hj => HK.out.block j hj) _ HQ.out) (fun k hk => hk))).mono ?_; rw [CMk.out]; rintro e w3 ⟨c0, c1, c2, c3, rfl, hr3, hb⟩; (first | replace HBX := Lib.hid ((HBX.out.on (by first | exact Below.refl _ _ | exact stands_alloc _ _ | exact stands_two _ _ _)).on hb) | have HBX := Lib.hid ((boxed_new _ (.int .i64 0) (.int .i64 0) (.string ⟨#[]⟩) (.slice none 0 0)).on hb) | have HBX := Lib.hid (((boxed_new _ (.int .i64 0) (.int .i64 0) (.string ⟨#[]⟩) (.slice none 0 0)).on (stands_alloc _ _)).on hb) | have HBX := Lib.hid (((boxed_new _ (.int .i64 0) (.int .i64 0) (.string ⟨#[]⟩) (.slice none 0 0)).on (Below.drew (Below.refl _ _))).on hb) | have HBX := Lib.hid ((((boxed_new _ (.int .i64 0) (.int .i64 0) (.string ⟨#[]⟩) (.slice none 0 0)).on (stands_alloc _ _)).on (Below.drew (Below.refl _ _))).on hb) | skip); replace HK := Lib.hid (Below.step (Below.step HK.out (by first | exact Below.refl _ _ | exact stands_alloc _ _ | exact stands_two _ _ _)) hb); have hsk := HK.out.size; have hsz := hb.size; (try dsimp only [World.drew] at hsz); (try simp only [World.size_alloc] at hsz); have HR3 := Lib.hid hr3; obtain ⟨ea, ec, rfl, rfl, rfl, rfl⟩ := hr3.form; clear hb hr3; (try (have X9 := HBX.out; (try dsimp only [World.drew] at X9); (try simp only [World.size_alloc] at X9); replace HBX := Lib.hid X9; obtain ⟨y0, y1, y2, y3⟩ := X9.cells; have z0 := frozen_of_row _ _ 0 _ _ X9; have z1 := frozen_of_row _ _ 1 _ _ X9; have z2 := frozen_of_row _ _ 2 _ _ X9; have z3 := frozen_of_row _ _ 3 _ _ X9; clear X9))))
        all_goals
          go_wp2_with fail
          go_meet
          first
            | (with_reducible exact ⟨holds_new HR3.out (fun b h => h.2) HK.out, rfl⟩)
            | (refine ⟨?_, rfl⟩; refine holds_set HR3.out HBX.out HK.out (fun b h => ⟨h.2, ?_⟩) ?_; (have h1 := h.1; (try dsimp only [World.drew] at h1); (try simp only [World.size_alloc] at h1); omega); omega)
      case rest =>
        obtain ⟨⟨bm, ma, mc, rfl, m5, -, b5⟩, rfl⟩ := hcut
        have m1 := m5.cells.2.1
        have hnum : (numV 1).num = 1 := rfl
        rw [hnum] at m1
        clear m5 hnum
        have HB5 := Lib.hid (Below.step HBEL.out b5); clear b5
        go_wp2_with fail
        go_roundw
        case rel => exact ⟨k + 1, by omega, by go_num, HB5.out⟩
        case measure => simp [intOf]; omega
    · have hke : k = l.list.length := by omega
      subst hke
      obtain ⟨cA0, cA1, cA2, cA3⟩ := (XA14.out.on hbel).cells
      obtain ⟨cD0, cD1, cD2, cD3⟩ := (XD14.out.on hbel).cells
      obtain ⟨cF0, cF1, cF2, cF3⟩ := (XF14.out.on hbel).cells
      obtain ⟨cC0, cC1, cC2, cC3⟩ := (XC14.out.on hbel).cells
      have hA := EA.out; have hD := ED.out; have hF := EF.out
      have hC := EC.out; have hpb : decide (0 < (l.list.length : Int)) = true := by simpa using hpos
      have HBE := Lib.hid (Below.step B14.out hbel); clear hbel
      go_wp2_with fail
      go_ret
      exact ⟨rfl, HBE.out⟩

set_option maxRecDepth 100000 in
set_option maxHeartbeats 2000000 in
theorem core_none (raw : List V) (x : V) (W : World) (a c0 c1 c2 c3 : Value) (htab : TabOk W) (hraw : RepL W.heap.size W raw a) (hx : RepV W.heap.size W x c0 c1 c2 c3) (l v A D F C : V) (hl : Hid (listV (listTo raw 15) = l)) (hv : Hid (listTo [x] 1 = [v])) (_hl15 : l.list.length ≤ 15)
    (C1 : Hid (callV 0 [v, l] = some A)) (C2 : Hid (callV 1 [l, v] = some D)) (C4 : Hid (callV 8 [l] = some F)) (_CM : Hid (∀ k (h : k < l.list.length), callV 3 [l, l.list[k]] = some (numV 1))) (EA : Hid (A.list.length = l.list.length + 1)) (ED : Hid (D.list.length = l.list.length + 1)) (EF : Hid (F.list.length = l.list.length)) (C3 : Hid (callV 7 [l] = none)) (hC : Hid (C = zeroV)) (hz : l.list.length = 0) :
    Calls Tryd.prog 11 #[a, .agg #[c0, c1, c2, c3]] W fun e W' => e = .returned (.bool true) ∧ Below W.heap.size W W' := by
  have hzero : l.list.length = 0 := hz
  have HZ := Lib.hid hz; clear hz hzero
  have HX := Lib.hid hx; have HRAW := Lib.hid hraw
  have HT := Lib.hid htab
  have hg := tab_lt htab
  obtain ⟨fa, fc, rfl, rfl, rfl, rfl⟩ := hx.form
  obtain ⟨aa, ab, ao, ac, rfl, -⟩ := hraw
  clear hx htab
  go_enter Tryd.func11, Tryd.ntmps11
  go_wp2_with fail
  have x1 := boxed_new W (.int .i64 x.kind) (.int .i64 x.num) (.string x.text) (.slice fa x.list.length fc)
  have b1 := stands_alloc W (.cells #[.int .i64 x.kind, .int .i64 x.num, .string x.text, .slice fa x.list.length fc] 24)
  generalize W.alloc (.cells #[.int .i64 x.kind, .int .i64 x.num, .string x.text, .slice fa x.list.length fc] 24) = w1 at *
  refine (awake2_any _ (Nat.lt_of_lt_of_le hg b1.size) (HT.out.below hg b1)).mono ?_
  rintro e w2 ⟨rfl, b2⟩
  have XZ2 := Lib.hid (x1.on b2); have B2 := Lib.hid (Below.step b1 b2)
  clear x1 b1 b2
  go_wp2_with fail
  refine (list2_any raw W.heap.size _ _ 15 (by omega) B2.out.size (RepL.below (fun j hj => B2.out.block j hj) HRAW.out)).mono ?_
  rw [hl.out]
  rintro e w3 ⟨c0, c1, c2, c3, rfl, hr, hb⟩
  have NR := Lib.hid (hr.on (S' := fun b => b < w3.heap.size) (fun b hb => hb.2) (fun _ _ => rfl))
  obtain ⟨faL, fcL, rfl, rfl, rfl, rfl⟩ := hr.form
  have XZ3 := Lib.hid (XZ2.out.on hb); have B3 := Lib.hid (Below.step B2.out hb)
  have RZ3 := Lib.hid ((RepV.on B3.out (Nat.le_refl _) HX.out).up B3.out.size _)
  clear hr hb XZ2 B2
  obtain ⟨faZ, hfaZ⟩ : ∃ q, q = fa := ⟨_, rfl⟩; obtain ⟨fcZ, hfcZ⟩ : ∃ q, q = fc := ⟨_, rfl⟩; subst hfaZ; subst hfcZ
  obtain ⟨cZ0, cZ1, cZ2, cZ3⟩ := (XZ3.out.on (stands_alloc w3 (.cells #[.int .i64 l.kind, .int .i64 l.num, .string l.text, .slice faL l.list.length fcL] 24))).cells
  go_wp2_with fail
  clear cZ0 cZ1 cZ2 cZ3
  (try rw [← World.size_alloc w3 (.cells #[.int .i64 l.kind, .int .i64 l.num, .string l.text, .slice faL l.list.length fcL] 24)])
  have XX := boxed_new w3 (.int .i64 l.kind) (.int .i64 l.num) (.string l.text) (.slice faL l.list.length fcL)
  have hbx := stands_alloc w3 (.cells #[.int .i64 l.kind, .int .i64 l.num, .string l.text, .slice faL l.list.length fcL] 24)
  generalize w3.alloc (.cells #[.int .i64 l.kind, .int .i64 l.num, .string l.text, .slice faL l.list.length fcL] 24) = w4 at *
  generalize w3.heap.size = bL at XX ⊢
  have RR := Lib.hid ((RepV.on hbx (Nat.le_refl _) NR.out).up hbx.size _)
  have XN := Lib.hid XX
  have B4 := Lib.hid (Below.step B3.out hbx)
  have XZ4 := Lib.hid (XZ3.out.on hbx); have RZ4 := Lib.hid ((RepV.on hbx (Nat.le_refl _) RZ3.out).up hbx.size _)
  clear B3 XZ3 RZ3
  have XL4 := XN; have RL4 := RR
  clear XX hbx RR XN NR
  refine (list2_any [x] _ _ _ 1 (by omega) (Nat.le_refl _) (one_at (alloc_new' _ _) (stands_alloc _ _) RZ4.out)).mono ?_
  rw [hv.out]
  rintro e w5 ⟨c0, c1, c2, c3, rfl, hr, hb⟩
  have hb' := Below.step (stands_alloc w4 _) hb
  have hrv : RepV w5.heap.size w5 (listV [v]) c0 c1 c2 c3 := hr.on (fun b hb => hb.2) (fun _ _ => rfl)
  obtain ⟨ta, tc, rfl, rfl, rfl, rfl⟩ := hrv.form
  obtain ⟨-, -, tb, toff, faV, fcV, rfl, -, t0, t1, t2, t3, tr⟩ := RepLG.at hrv.lst 0 (by show 0 < 1; omega)
  have hk4 : (listV [v]).kind = 4 := rfl
  change w5.cell? _ = some (.int .i64 v.kind) at t0; change w5.cell? _ = some (.int .i64 v.num) at t1; change w5.cell? _ = some (.string v.text) at t2; change w5.cell? _ = some (.slice faV v.list.length fcV) at t3
  simp only [Nat.zero_mul, Nat.add_zero] at t0 t1 t2 t3
  have htl : (listV [v]).list.length = 1 := rfl
  rw [htl]; clear htl hk4
  have NR : Hid (RepV w5.heap.size w5 v (.int .i64 v.kind) (.int .i64 v.num) (.string v.text) (.slice faV v.list.length fcV)) := tr
  have hf := field_list
  have B5 := Lib.hid (Below.step B4.out hb')
  have XZ5 := Lib.hid (XZ4.out.on hb'); have RZ5 := Lib.hid ((RepV.on hb' (Nat.le_refl _) RZ4.out).up hb'.size _)
  have XL5 := Lib.hid (XL4.out.on hb'); have RL5 := Lib.hid ((RepV.on hb' (Nat.le_refl _) RL4.out).up hb'.size _)
  clear B4 XZ4 RZ4 XL4 RL4
  clear hb hb' hr hrv tr
  obtain ⟨cL0, cL1, cL2, cL3⟩ := (XL5.out.on (stands_alloc w5 (.cells #[.int .i64 v.kind, .int .i64 v.num, .string v.text, .slice faV v.list.length fcV] 24))).cells
  go_wp2_with fail
  clear cL0 cL1 cL2 cL3
  (try rw [← World.size_alloc w5 (.cells #[.int .i64 v.kind, .int .i64 v.num, .string v.text, .slice faV v.list.length fcV] 24)])
  have XX := boxed_new w5 (.int .i64 v.kind) (.int .i64 v.num) (.string v.text) (.slice faV v.list.length fcV)
  have hbx := stands_alloc w5 (.cells #[.int .i64 v.kind, .int .i64 v.num, .string v.text, .slice faV v.list.length fcV] 24)
  generalize w5.alloc (.cells #[.int .i64 v.kind, .int .i64 v.num, .string v.text, .slice faV v.list.length fcV] 24) = w6 at *
  generalize w5.heap.size = bV at XX ⊢
  have RR := Lib.hid ((RepV.on hbx (Nat.le_refl _) NR.out).up hbx.size _)
  have XN := Lib.hid XX
  have B6 := Lib.hid (Below.step B5.out hbx)
  have XZ6 := Lib.hid (XZ5.out.on hbx); have RZ6 := Lib.hid ((RepV.on hbx (Nat.le_refl _) RZ5.out).up hbx.size _)
  have XL6 := Lib.hid (XL5.out.on hbx); have RL6 := Lib.hid ((RepV.on hbx (Nat.le_refl _) RL5.out).up hbx.size _)
  clear B5 XZ5 RZ5 XL5 RL5
  have XV6 := XN; have RV6 := RR
  clear XX hbx RR XN NR
  clear hf t0 t1 t2 t3
  refine (call_at 0 (by decide) [v, l] _ _ _ (Nat.le_refl _) (two_at (alloc_new' _ _) (stands_alloc _ _) RV6.out RL6.out)).mono ?_
  rw [C1.out]
  rintro e w7 ⟨c0, c1, c2, c3, rfl, hr, hb⟩
  have hb' := Below.step (stands_alloc w6 _) hb
  have hr' : RepV w7.heap.size w7 A c0 c1 c2 c3 := hr.on (fun k hk => hk.2) (fun _ _ => rfl)
  obtain ⟨faA, fcA, rfl, rfl, rfl, rfl⟩ := hr'.form
  have NR := Lib.hid hr'; clear hr'
  have B7 := Lib.hid (Below.step B6.out hb')
  have XZ7 := Lib.hid (XZ6.out.on hb'); have RZ7 := Lib.hid ((RepV.on hb' (Nat.le_refl _) RZ6.out).up hb'.size _)
  have XL7 := Lib.hid (XL6.out.on hb'); have RL7 := Lib.hid ((RepV.on hb' (Nat.le_refl _) RL6.out).up hb'.size _)
  have XV7 := Lib.hid (XV6.out.on hb'); have RV7 := Lib.hid ((RepV.on hb' (Nat.le_refl _) RV6.out).up hb'.size _)
  clear B6 XZ6 RZ6 XL6 RL6 XV6 RV6
  clear hb hb' hr
  obtain ⟨cL0, cL1, cL2, cL3⟩ := (XL7.out.on (stands_alloc w7 (.cells #[.int .i64 A.kind, .int .i64 A.num, .string A.text, .slice faA A.list.length fcA] 24))).cells
  obtain ⟨cV0, cV1, cV2, cV3⟩ := (XV7.out.on (stands_alloc w7 (.cells #[.int .i64 A.kind, .int .i64 A.num, .string A.text, .slice faA A.list.length fcA] 24))).cells
  go_wp2_with fail
  clear cL0 cL1 cL2 cL3
  clear cV0 cV1 cV2 cV3
  (try rw [← World.size_alloc w7 (.cells #[.int .i64 A.kind, .int .i64 A.num, .string A.text, .slice faA A.list.length fcA] 24)])
  have XX := boxed_new w7 (.int .i64 A.kind) (.int .i64 A.num) (.string A.text) (.slice faA A.list.length fcA)
  have hbx := stands_alloc w7 (.cells #[.int .i64 A.kind, .int .i64 A.num, .string A.text, .slice faA A.list.length fcA] 24)
  generalize w7.alloc (.cells #[.int .i64 A.kind, .int .i64 A.num, .string A.text, .slice faA A.list.length fcA] 24) = w8 at *
  generalize w7.heap.size = bA at XX ⊢
  have RR := Lib.hid ((RepV.on hbx (Nat.le_refl _) NR.out).up hbx.size _)
  have XN := Lib.hid XX
  have B8 := Lib.hid (Below.step B7.out hbx)
  have XZ8 := Lib.hid (XZ7.out.on hbx); have RZ8 := Lib.hid ((RepV.on hbx (Nat.le_refl _) RZ7.out).up hbx.size _)
  have XL8 := Lib.hid (XL7.out.on hbx); have RL8 := Lib.hid ((RepV.on hbx (Nat.le_refl _) RL7.out).up hbx.size _)
  have XV8 := Lib.hid (XV7.out.on hbx); have RV8 := Lib.hid ((RepV.on hbx (Nat.le_refl _) RV7.out).up hbx.size _)
  clear B7 XZ7 RZ7 XL7 RL7 XV7 RV7
  have XA8 := XN; have RA8 := RR
  clear XX hbx RR XN NR
  refine (call_at 1 (by decide) [l, v] _ _ _ (Nat.le_refl _) (two_at (alloc_new' _ _) (stands_alloc _ _) RL8.out RV8.out)).mono ?_
  rw [C2.out]
  rintro e w9 ⟨c0, c1, c2, c3, rfl, hr, hb⟩
  have hb' := Below.step (stands_alloc w8 _) hb
  have hr' : RepV w9.heap.size w9 D c0 c1 c2 c3 := hr.on (fun k hk => hk.2) (fun _ _ => rfl)
  obtain ⟨faD, fcD, rfl, rfl, rfl, rfl⟩ := hr'.form
  have NR := Lib.hid hr'; clear hr'
  have B9 := Lib.hid (Below.step B8.out hb')
  have XZ9 := Lib.hid (XZ8.out.on hb'); have RZ9 := Lib.hid ((RepV.on hb' (Nat.le_refl _) RZ8.out).up hb'.size _)
  have XL9 := Lib.hid (XL8.out.on hb'); have RL9 := Lib.hid ((RepV.on hb' (Nat.le_refl _) RL8.out).up hb'.size _)
  have XV9 := Lib.hid (XV8.out.on hb'); have RV9 := Lib.hid ((RepV.on hb' (Nat.le_refl _) RV8.out).up hb'.size _)
  have XA9 := Lib.hid (XA8.out.on hb'); have RA9 := Lib.hid ((RepV.on hb' (Nat.le_refl _) RA8.out).up hb'.size _)
  clear B8 XZ8 RZ8 XL8 RL8 XV8 RV8 XA8 RA8
  clear hb hb' hr
  obtain ⟨cL0, cL1, cL2, cL3⟩ := (XL9.out.on (stands_alloc w9 (.cells #[.int .i64 D.kind, .int .i64 D.num, .string D.text, .slice faD D.list.length fcD] 24))).cells
  go_wp2_with fail
  clear cL0 cL1 cL2 cL3
  (try rw [← World.size_alloc w9 (.cells #[.int .i64 D.kind, .int .i64 D.num, .string D.text, .slice faD D.list.length fcD] 24)])
  have XX := boxed_new w9 (.int .i64 D.kind) (.int .i64 D.num) (.string D.text) (.slice faD D.list.length fcD)
  have hbx := stands_alloc w9 (.cells #[.int .i64 D.kind, .int .i64 D.num, .string D.text, .slice faD D.list.length fcD] 24)
  generalize w9.alloc (.cells #[.int .i64 D.kind, .int .i64 D.num, .string D.text, .slice faD D.list.length fcD] 24) = w10 at *
  generalize w9.heap.size = bD at XX ⊢
  have RR := Lib.hid ((RepV.on hbx (Nat.le_refl _) NR.out).up hbx.size _)
  have XN := Lib.hid XX
  have B10 := Lib.hid (Below.step B9.out hbx)
  have XZ10 := Lib.hid (XZ9.out.on hbx); have RZ10 := Lib.hid ((RepV.on hbx (Nat.le_refl _) RZ9.out).up hbx.size _)
  have XL10 := Lib.hid (XL9.out.on hbx); have RL10 := Lib.hid ((RepV.on hbx (Nat.le_refl _) RL9.out).up hbx.size _)
  have XV10 := Lib.hid (XV9.out.on hbx); have RV10 := Lib.hid ((RepV.on hbx (Nat.le_refl _) RV9.out).up hbx.size _)
  have XA10 := Lib.hid (XA9.out.on hbx); have RA10 := Lib.hid ((RepV.on hbx (Nat.le_refl _) RA9.out).up hbx.size _)
  clear B9 XZ9 RZ9 XL9 RL9 XV9 RV9 XA9 RA9
  have XD10 := XN; have RD10 := RR
  clear XX hbx RR XN NR
  refine (call_at 7 (by decide) [l] _ _ _ (Nat.le_refl _) (one_at (alloc_new' _ _) (stands_alloc _ _) RL10.out)).mono ?_
  rw [C3.out]
  rintro e w11 ⟨c0, c1, c2, c3, rfl, hr, hb⟩
  have hb' := Below.step (stands_alloc w10 _) hb
  have hr0 : RepV w11.heap.size w11 zeroV c0 c1 c2 c3 := hr.on (fun k hk => hk.2) (fun _ _ => rfl)
  have hr' : RepV w11.heap.size w11 C c0 c1 c2 c3 := by rw [hC.out]; exact hr0
  obtain ⟨faC, fcC, rfl, rfl, rfl, rfl⟩ := hr'.form
  have NR := Lib.hid hr'; clear hr' hr0
  have B11 := Lib.hid (Below.step B10.out hb')
  have XZ11 := Lib.hid (XZ10.out.on hb'); have RZ11 := Lib.hid ((RepV.on hb' (Nat.le_refl _) RZ10.out).up hb'.size _)
  have XL11 := Lib.hid (XL10.out.on hb'); have RL11 := Lib.hid ((RepV.on hb' (Nat.le_refl _) RL10.out).up hb'.size _)
  have XV11 := Lib.hid (XV10.out.on hb'); have RV11 := Lib.hid ((RepV.on hb' (Nat.le_refl _) RV10.out).up hb'.size _)
  have XA11 := Lib.hid (XA10.out.on hb'); have RA11 := Lib.hid ((RepV.on hb' (Nat.le_refl _) RA10.out).up hb'.size _)
  have XD11 := Lib.hid (XD10.out.on hb'); have RD11 := Lib.hid ((RepV.on hb' (Nat.le_refl _) RD10.out).up hb'.size _)
  clear B10 XZ10 RZ10 XL10 RL10 XV10 RV10 XA10 RA10 XD10 RD10
  clear hb hb' hr
  obtain ⟨cL0, cL1, cL2, cL3⟩ := (XL11.out.on (stands_alloc w11 (.cells #[.int .i64 C.kind, .int .i64 C.num, .string C.text, .slice faC C.list.length fcC] 24))).cells
  go_wp2_with fail
  clear cL0 cL1 cL2 cL3
  (try rw [← World.size_alloc w11 (.cells #[.int .i64 C.kind, .int .i64 C.num, .string C.text, .slice faC C.list.length fcC] 24)])
  have XX := boxed_new w11 (.int .i64 C.kind) (.int .i64 C.num) (.string C.text) (.slice faC C.list.length fcC)
  have hbx := stands_alloc w11 (.cells #[.int .i64 C.kind, .int .i64 C.num, .string C.text, .slice faC C.list.length fcC] 24)
  generalize w11.alloc (.cells #[.int .i64 C.kind, .int .i64 C.num, .string C.text, .slice faC C.list.length fcC] 24) = w12 at *
  generalize w11.heap.size = bC at XX ⊢
  have RR := Lib.hid ((RepV.on hbx (Nat.le_refl _) NR.out).up hbx.size _)
  have XN := Lib.hid XX
  have B12 := Lib.hid (Below.step B11.out hbx)
  have XZ12 := Lib.hid (XZ11.out.on hbx); have RZ12 := Lib.hid ((RepV.on hbx (Nat.le_refl _) RZ11.out).up hbx.size _)
  have XL12 := Lib.hid (XL11.out.on hbx); have RL12 := Lib.hid ((RepV.on hbx (Nat.le_refl _) RL11.out).up hbx.size _)
  have XV12 := Lib.hid (XV11.out.on hbx); have RV12 := Lib.hid ((RepV.on hbx (Nat.le_refl _) RV11.out).up hbx.size _)
  have XA12 := Lib.hid (XA11.out.on hbx); have RA12 := Lib.hid ((RepV.on hbx (Nat.le_refl _) RA11.out).up hbx.size _)
  have XD12 := Lib.hid (XD11.out.on hbx); have RD12 := Lib.hid ((RepV.on hbx (Nat.le_refl _) RD11.out).up hbx.size _)
  clear B11 XZ11 RZ11 XL11 RL11 XV11 RV11 XA11 RA11 XD11 RD11
  have XC12 := XN; have RC12 := RR
  clear XX hbx RR XN NR
  refine (call_at 8 (by decide) [l] _ _ _ (Nat.le_refl _) (one_at (alloc_new' _ _) (stands_alloc _ _) RL12.out)).mono ?_
  rw [C4.out]
  rintro e w13 ⟨c0, c1, c2, c3, rfl, hr, hb⟩
  have hb' := Below.step (stands_alloc w12 _) hb
  have hr' : RepV w13.heap.size w13 F c0 c1 c2 c3 := hr.on (fun k hk => hk.2) (fun _ _ => rfl)
  obtain ⟨faF, fcF, rfl, rfl, rfl, rfl⟩ := hr'.form
  have NR := Lib.hid hr'; clear hr'
  have B13 := Lib.hid (Below.step B12.out hb')
  have XZ13 := Lib.hid (XZ12.out.on hb'); have RZ13 := Lib.hid ((RepV.on hb' (Nat.le_refl _) RZ12.out).up hb'.size _)
  have XL13 := Lib.hid (XL12.out.on hb'); have RL13 := Lib.hid ((RepV.on hb' (Nat.le_refl _) RL12.out).up hb'.size _)
  have XV13 := Lib.hid (XV12.out.on hb'); have RV13 := Lib.hid ((RepV.on hb' (Nat.le_refl _) RV12.out).up hb'.size _)
  have XA13 := Lib.hid (XA12.out.on hb'); have RA13 := Lib.hid ((RepV.on hb' (Nat.le_refl _) RA12.out).up hb'.size _)
  have XD13 := Lib.hid (XD12.out.on hb'); have RD13 := Lib.hid ((RepV.on hb' (Nat.le_refl _) RD12.out).up hb'.size _)
  have XC13 := Lib.hid (XC12.out.on hb'); have RC13 := Lib.hid ((RepV.on hb' (Nat.le_refl _) RC12.out).up hb'.size _)
  clear B12 XZ12 RZ12 XL12 RL12 XV12 RV12 XA12 RA12 XD12 RD12 XC12 RC12
  clear hb hb' hr
  go_wp2_with fail
  (try rw [← World.size_alloc w13 (.cells #[.int .i64 F.kind, .int .i64 F.num, .string F.text, .slice faF F.list.length fcF] 24)])
  have XX := boxed_new w13 (.int .i64 F.kind) (.int .i64 F.num) (.string F.text) (.slice faF F.list.length fcF)
  have hbx := stands_alloc w13 (.cells #[.int .i64 F.kind, .int .i64 F.num, .string F.text, .slice faF F.list.length fcF] 24)
  generalize w13.alloc (.cells #[.int .i64 F.kind, .int .i64 F.num, .string F.text, .slice faF F.list.length fcF] 24) = w14 at *
  generalize w13.heap.size = bF at XX ⊢
  have RR := Lib.hid ((RepV.on hbx (Nat.le_refl _) NR.out).up hbx.size _)
  have XN := Lib.hid XX
  have B14 := Lib.hid (Below.step B13.out hbx)
  have XZ14 := Lib.hid (XZ13.out.on hbx); have RZ14 := Lib.hid ((RepV.on hbx (Nat.le_refl _) RZ13.out).up hbx.size _)
  have XL14 := Lib.hid (XL13.out.on hbx); have RL14 := Lib.hid ((RepV.on hbx (Nat.le_refl _) RL13.out).up hbx.size _)
  have XV14 := Lib.hid (XV13.out.on hbx); have RV14 := Lib.hid ((RepV.on hbx (Nat.le_refl _) RV13.out).up hbx.size _)
  have XA14 := Lib.hid (XA13.out.on hbx); have RA14 := Lib.hid ((RepV.on hbx (Nat.le_refl _) RA13.out).up hbx.size _)
  have XD14 := Lib.hid (XD13.out.on hbx); have RD14 := Lib.hid ((RepV.on hbx (Nat.le_refl _) RD13.out).up hbx.size _)
  have XC14 := Lib.hid (XC13.out.on hbx); have RC14 := Lib.hid ((RepV.on hbx (Nat.le_refl _) RC13.out).up hbx.size _)
  clear B13 XZ13 RZ13 XL13 RL13 XV13 RV13 XA13 RA13 XD13 RD13 XC13 RC13
  have XF14 := XN; have RF14 := RR
  clear XX hbx RR XN NR
  have hW := B14.out.size
  generalize hw0 : w14 = w0 at *
  clear hw0
  go_loopw [17] (fun i wr => ∃ k : Nat, k ≤ l.list.length ∧ i = .int .i64 k ∧ Below w0.heap.size w0 wr) (fun i _ => l.list.length - (intOf i).toNat)
  case atStart => exact ⟨0, Nat.zero_le _, rfl, Below.refl _ _⟩
  case round =>
    obtain ⟨k, hk, rfl, hbel⟩ := hrel
    have HBEL := Lib.hid hbel
    have hk0 : k = 0 := by have := HZ.out; omega
    subst hk0
    obtain ⟨cA0, cA1, cA2, cA3⟩ := (XA14.out.on hbel).cells
    obtain ⟨cD0, cD1, cD2, cD3⟩ := (XD14.out.on hbel).cells
    obtain ⟨cF0, cF1, cF2, cF3⟩ := (XF14.out.on hbel).cells
    obtain ⟨cC0, cC1, cC2, cC3⟩ := (XC14.out.on hbel).cells
    have hA := EA.out; have hD := ED.out; have hF := EF.out
    have hz0 := HZ.out
    have HBE := Lib.hid (Below.step B14.out hbel); clear hbel
    go_wp2_with fail
    go_ret
    exact ⟨rfl, HBE.out⟩

theorem walk (raw : List V) (x : V) (W : World) (a c0 c1 c2 c3 : Value) (htab : TabOk W) (hraw : RepL W.heap.size W raw a) (_hlen : raw.length * 56 ≤ 140737488351232) (hx : RepV W.heap.size W x c0 c1 c2 c3) :
    Calls Tryd.prog 11 #[a, .agg #[c0, c1, c2, c3]] W fun e W' => e = .returned (.bool true) ∧ Below W.heap.size W W' := by
  have hv := right_flat x
  have hL := all3_to raw 15
  have hl : (listTo raw 15).length ≤ 15 := by rw [listTo_length]; omega
  have cm : ∀ k (h : k < (listV (listTo raw 15)).list.length), callV 3 [listV (listTo raw 15), (listV (listTo raw 15)).list[k]] = some (numV 1) := by
    intro k h
    have h' : k < (listTo raw 15).length := h
    show callV 3 [listV (listTo raw 15), (listTo raw 15)[k]] = some (numV 1)
    rw [call_member (right_up 3 _ (hL _ (List.getElem_mem h'))) hL (by omega), memZ_in h']
  have e1 : (listV (flatV (fitV 4 x) :: listTo raw 15)).list.length = (listV (listTo raw 15)).list.length + 1 := rfl
  have e2 : (listV (listTo raw 15 ++ [flatV (fitV 4 x)])).list.length = (listV (listTo raw 15)).list.length + 1 := by simp [listV, V.list]
  have e3 : (listV (listTo raw 15).reverse).list.length = (listV (listTo raw 15)).list.length := by simp [listV, V.list]
  match hc : listTo raw 15 with
  | [] =>
    rw [hc] at hL hl cm e1 e2 e3
    exact core_none raw x W a c0 c1 c2 c3 htab hraw hx (listV []) _ _ _ _ zeroV (Lib.hid (by rw [hc])) (Lib.hid rfl) (Nat.zero_le _) (Lib.hid (call_cons hv hL hl)) (Lib.hid (call_append hv hL hl)) (Lib.hid (call_reverse hL (by omega))) (Lib.hid cm) (Lib.hid e1) (Lib.hid e2) (Lib.hid e3) (Lib.hid call_rest_none) (Lib.hid rfl) rfl
  | z :: t =>
    rw [hc] at hL hl cm e1 e2 e3
    have ht : All3 t := fun y hy => hL y (by simp [hy])
    exact core_some raw x W a c0 c1 c2 c3 htab hraw hx (listV (z :: t)) _ _ _ _ (listV t) (Lib.hid (by rw [hc])) (Lib.hid rfl) hl (Lib.hid (call_cons hv hL hl)) (Lib.hid (call_append hv hL hl)) (Lib.hid (call_reverse hL (by omega))) (Lib.hid cm) (Lib.hid e1) (Lib.hid e2) (Lib.hid e3) (Lib.hid (call_rest (hL z (by simp)) ht (by simp at hl; omega))) (by show 0 < (z :: t).length; simp) (Lib.hid (by show (t.length : Int) = ((z :: t).length : Int) - 1; simp))

end Go.Proofs.YtlnkngahiapidaaDoor.builtinSizes
