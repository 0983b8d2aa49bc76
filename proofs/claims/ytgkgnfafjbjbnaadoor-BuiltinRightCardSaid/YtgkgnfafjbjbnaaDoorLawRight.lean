/-
  BuiltinRight: for every number and two values the law returns true: what comes out of the functions and ops is right, and nothing comes of what is not.
-/
import Derived.Test.YtgkgnfafjbjbnaaDoorLawKit
import Derived.Test.YtgkgnfafjbjbnaaDoorNames
import Derived.Test.YtgkgnfafjbjbnaaDoorRightFacts
namespace Go.Proofs.YtgkgnfafjbjbnaaDoor.builtinRight
open Go.ChangeShapes Go.WideShapes Go.ChangeAt Go.RowKit

def opAt (j : Nat) : ByteArray := if j = 0 then ⟨#[43]⟩ else if j = 1 then ⟨#[45]⟩ else ⟨#[42]⟩
theorem ops_new (w : World) (t : TypeId) (j : Nat) (hj : j < 3) : (w.alloc (.cells #[.string ⟨#[43]⟩, .string ⟨#[45]⟩, .string ⟨#[42]⟩] t)).cell? ⟨w.heap.size, j, none⟩ = some (.string (opAt j)) := by
  refine cell_of_block' (alloc_new' w _) _ ?_
  match j, hj with
  | 0, _ => rfl | 1, _ => rfl | 2, _ => rfl
/-- The k-th row of arguments: where it lies, and what comes of it. -/
structure Row (f : Nat) (x y : V) (w : World) (b k : Nat) : Prop where
  ex : ∃ (bk n : Nat) (args : List V) (z : V) (z0 z1 z2 z3 : Value), w.cell? ⟨b, k, none⟩ = some (.slice (some ⟨bk, 0, none⟩) n n) ∧ RepL w.heap.size w args (.slice (some ⟨bk, 0, none⟩) n n) ∧ (n = 1 ∨ n = 2) ∧
    w.cell? ⟨bk, 0, none⟩ = some z0 ∧ w.cell? ⟨bk, 1, none⟩ = some z1 ∧ w.cell? ⟨bk, 2, none⟩ = some z2 ∧ w.cell? ⟨bk, 3, none⟩ = some z3 ∧ RepV w.heap.size w z z0 z1 z2 z3 ∧
    ∀ r, callV f args = some r → rightV 4 r = true ∧ rightV 4 z = true ∧ (n = 2 → (rightV 4 x && rightV 4 y) = true) ∧ (n : Int) = fnArity f
theorem Row.on {f : Nat} {x y : V} {w w' : World} {b k : Nat} (h : Row f x y w b k) (hb : Below w.heap.size w w') : Row f x y w' b k := by
  obtain ⟨bk, n, args, z, z0, z1, z2, z3, h1, h2, h3, h4, h5, h6, h7, h8, h9⟩ := h.ex
  refine ⟨bk, n, args, z, z0, z1, z2, z3, ?_, (RepL.below (fun j hj => hb.block j hj) h2).up hb.size, h3, ?_, ?_, ?_, ?_, (RepV.below (fun j hj => hb.block j hj) _ h8).up hb.size _, h9⟩
  · rw [hb.cell (p := ⟨b, k, none⟩) (cell_lt h1)]; exact h1
  · rw [hb.cell (p := ⟨bk, 0, none⟩) (cell_lt h4)]; exact h4
  · rw [hb.cell (p := ⟨bk, 1, none⟩) (cell_lt h5)]; exact h5
  · rw [hb.cell (p := ⟨bk, 2, none⟩) (cell_lt h6)]; exact h6
  · rw [hb.cell (p := ⟨bk, 3, none⟩) (cell_lt h7)]; exact h7
theorem row_new {x y : V} {w : World} {x0 x1 x2 x3 y0 y1 y2 y3 : Value} (f : Nat) (hx : RepV w.heap.size w x x0 x1 x2 x3) (hy : RepV w.heap.size w y y0 y1 y2 y3) (t : TypeId) (W : World)
    (hW : W = (((w.alloc (.cells #[x0, x1, x2, x3] 24)).alloc (.cells #[x0, x1, x2, x3, y0, y1, y2, y3] 24)).alloc (.cells #[y0, y1, y2, y3, x0, x1, x2, x3] 24)).alloc (.cells #[.slice (some ⟨w.heap.size, 0, none⟩) 1 1, .slice (some ⟨w.heap.size + 1, 0, none⟩) 2 2, .slice (some ⟨w.heap.size + 1 + 1, 0, none⟩) 2 2] t)) :
    Below w.heap.size w W ∧ ∀ k, k < 3 → Row f x y W (w.heap.size + 1 + 1 + 1) k := by
  generalize hA : w.alloc (.cells #[x0, x1, x2, x3] 24) = A at *
  have bA : Below w.heap.size w A := by rw [← hA]; exact stands_alloc _ _
  have nA : A.heap[w.heap.size]? = some (.cells #[x0, x1, x2, x3] 24 (0, 0)) := by rw [← hA]; exact alloc_new' _ _
  have sA : A.heap.size = w.heap.size + 1 := by rw [← hA]; simp
  generalize hB : A.alloc (.cells #[x0, x1, x2, x3, y0, y1, y2, y3] 24) = B at *
  have bB : Below A.heap.size A B := by rw [← hB]; exact stands_alloc _ _
  have nB : B.heap[w.heap.size + 1]? = some (.cells #[x0, x1, x2, x3, y0, y1, y2, y3] 24 (0, 0)) := by rw [← hB, ← sA]; exact alloc_new' _ _
  have sB : B.heap.size = w.heap.size + 1 + 1 := by rw [← hB]; simp [sA]
  generalize hC : B.alloc (.cells #[y0, y1, y2, y3, x0, x1, x2, x3] 24) = C at *
  have bC : Below B.heap.size B C := by rw [← hC]; exact stands_alloc _ _
  have nC : C.heap[w.heap.size + 1 + 1]? = some (.cells #[y0, y1, y2, y3, x0, x1, x2, x3] 24 (0, 0)) := by rw [← hC, ← sB]; exact alloc_new' _ _
  have sC : C.heap.size = w.heap.size + 1 + 1 + 1 := by rw [← hC]; simp [sB]
  have bD : Below C.heap.size C W := by rw [hW]; exact stands_alloc _ _
  have nD : W.heap[w.heap.size + 1 + 1 + 1]? = some (.cells #[.slice (some ⟨w.heap.size, 0, none⟩) 1 1, .slice (some ⟨w.heap.size + 1, 0, none⟩) 2 2, .slice (some ⟨w.heap.size + 1 + 1, 0, none⟩) 2 2] t (0, 0)) := by rw [hW, ← sC]; exact alloc_new' _ _
  have bAD := Below.step (Below.step bB bC) bD
  have bBD := Below.step bC bD
  have bW := Below.step bA bAD
  have mA := (bAD.block w.heap.size (by omega)).trans nA
  have mB := (bBD.block (w.heap.size + 1) (by omega)).trans nB
  have mC := (bD.block (w.heap.size + 1 + 1) (by omega)).trans nC
  have hxW := (RepV.below (fun j hj => bW.block j hj) _ hx).up bW.size _
  have hyW := (RepV.below (fun j hj => bW.block j hj) _ hy).up bW.size _
  refine ⟨bW, fun k hk => ?_⟩
  match k, hk with
  | 0, _ =>
    refine ⟨w.heap.size, 1, [x], x, x0, x1, x2, x3, cell_of_block' nD _ rfl, one_at mA bW hx, .inl rfl, cell_of_block' mA _ rfl, cell_of_block' mA _ rfl, cell_of_block' mA _ rfl, cell_of_block' mA _ rfl, hxW, fun r hr => ?_⟩
    obtain ⟨h1, h2⟩ := call_right hr
    obtain ⟨h3, h4⟩ := takes_right h2
    exact ⟨h1, h3 x (by simp), fun h => by omega, h4⟩
  | 1, _ =>
    refine ⟨w.heap.size + 1, 2, [x, y], x, x0, x1, x2, x3, cell_of_block' nD _ rfl, two_at mB bW hx hy, .inr rfl, cell_of_block' mB _ rfl, cell_of_block' mB _ rfl, cell_of_block' mB _ rfl, cell_of_block' mB _ rfl, hxW, fun r hr => ?_⟩
    obtain ⟨h1, h2⟩ := call_right hr
    obtain ⟨h3, h4⟩ := takes_right h2
    exact ⟨h1, h3 x (by simp), fun _ => by rw [h3 x (by simp), h3 y (by simp)]; rfl, h4⟩
  | 2, _ =>
    refine ⟨w.heap.size + 1 + 1, 2, [y, x], y, y0, y1, y2, y3, cell_of_block' nD _ rfl, two_at mC bW hy hx, .inr rfl, cell_of_block' mC _ rfl, cell_of_block' mC _ rfl, cell_of_block' mC _ rfl, cell_of_block' mC _ rfl, hyW, fun r hr => ?_⟩
    obtain ⟨h1, h2⟩ := call_right hr
    obtain ⟨h3, h4⟩ := takes_right h2
    exact ⟨h1, h3 y (by simp), fun _ => by rw [h3 x (by simp), h3 y (by simp)]; rfl, h4⟩

set_option maxRecDepth 100000 in
set_option maxHeartbeats 16000000 in
theorem walk (which : Int) (x y : V) (W : World) (c0 c1 c2 c3 d0 d1 d2 d3 : Value) (htab : TabOk W) (hwh : I64 which) (hx : RepV W.heap.size W x c0 c1 c2 c3) (hy : RepV W.heap.size W y d0 d1 d2 d3) :
    Calls Tryd.prog 5 #[.int .i64 which, .agg #[c0, c1, c2, c3], .agg #[d0, d1, d2, d3]] W fun e W' => e = .returned (.bool true) ∧ Below W.heap.size W W' := by
  have HX := Lib.hid hx; have HY := Lib.hid hy
  have HT := Lib.hid htab
  have hg := tab_lt htab
  obtain ⟨fa, fc, rfl, rfl, rfl, rfl⟩ := hx.form
  obtain ⟨ga, gc, rfl, rfl, rfl, rfl⟩ := hy.form
  clear hx hy htab
  go_enter Tryd.func5, Tryd.ntmps5
  go_wp2_with fail
  have x1 := boxed_new W (.int .i64 x.kind) (.int .i64 x.num) (.string x.text) (.slice fa x.list.length fc)
  have b1 := stands_alloc W (.cells #[.int .i64 x.kind, .int .i64 x.num, .string x.text, .slice fa x.list.length fc] 24)
  have s1 := World.size_alloc W (.cells #[.int .i64 x.kind, .int .i64 x.num, .string x.text, .slice fa x.list.length fc] 24)
  generalize W.alloc (.cells #[.int .i64 x.kind, .int .i64 x.num, .string x.text, .slice fa x.list.length fc] 24) = W1 at *
  have y2 := boxed_new W1 (.int .i64 y.kind) (.int .i64 y.num) (.string y.text) (.slice ga y.list.length gc)
  have b2 := stands_alloc W1 (.cells #[.int .i64 y.kind, .int .i64 y.num, .string y.text, .slice ga y.list.length gc] 24)
  generalize W1.alloc (.cells #[.int .i64 y.kind, .int .i64 y.num, .string y.text, .slice ga y.list.length gc] 24) = W2 at *
  rw [s1] at y2
  have B2 := Below.step b1 b2
  refine (awake2_any _ (Nat.lt_of_lt_of_le hg B2.size) (HT.out.below hg B2)).mono ?_
  rintro e w4 ⟨rfl, b4⟩
  have X4 := Lib.hid ((x1.on b2).on b4); have Y4 := Lib.hid (y2.on b4); have B4 := Lib.hid (Below.step B2 b4)
  clear x1 y2 b1 b2 s1 B2 b4
  go_wp2_with fail
  refine (names_any _).mono ?_
  rintro e w5 ⟨rfl, hn5, hl5, b5⟩
  have X5 := Lib.hid (X4.out.on b5); have Y5 := Lib.hid (Y4.out.on b5); have B5 := Lib.hid (Below.step B4.out b5)
  have HN5 := Lib.hid hn5
  clear X4 Y4 B4 hn5 b5
  go_wp2_with fail
  refine (pick2_any which 9 _ hwh (by omega) (by omega)).mono ?_
  rintro e w' ⟨rfl, rfl⟩
  obtain ⟨hp1, hp2⟩ := pickZ_bd which 9 (by omega)
  obtain ⟨k, hk⟩ := Int.eq_ofNat_of_zero_le hp1
  have hk9 : k < 9 := by omega
  rw [hk]; clear hk hp1 hp2
  have hcell := HN5.out k hk9
  have HFN : Hid (fnOf ⟨(fname k).toArray⟩ = k) := name_at k hk9
  generalize (⟨(fname k).toArray⟩ : ByteArray) = f at *
  generalize w4.heap.size = bn at *
  go_wp2_with fail
  have hop := ops_new w5 9
  have B6 := Lib.hid (Below.step B5.out (stands_alloc w5 (.cells #[.string ⟨#[43]⟩, .string ⟨#[45]⟩, .string ⟨#[42]⟩] 9)))
  have X6 := Lib.hid (X5.out.on (stands_alloc w5 (.cells #[.string ⟨#[43]⟩, .string ⟨#[45]⟩, .string ⟨#[42]⟩] 9))); have Y6 := Lib.hid (Y5.out.on (stands_alloc w5 (.cells #[.string ⟨#[43]⟩, .string ⟨#[45]⟩, .string ⟨#[42]⟩] 9)))
  generalize w5.alloc (.cells #[.string ⟨#[43]⟩, .string ⟨#[45]⟩, .string ⟨#[42]⟩] 9) = w6 at *
  clear X5 Y5 B5 hcell HN5
  refine (pick2_any which 3 _ hwh (by omega) (by omega)).mono ?_
  rintro e w' ⟨rfl, rfl⟩
  obtain ⟨hp1, hp2⟩ := pickZ_bd which 3 (by omega)
  obtain ⟨j, hj⟩ := Int.eq_ofNat_of_zero_le hp1
  have hj3 : j < 3 := by omega
  rw [hj]; clear hj hp1 hp2
  have hcell := hop j hj3
  generalize opAt j = o at *
  generalize w5.heap.size = bo at *
  obtain ⟨cX0, cX1, cX2, cX3⟩ := X6.out.cells
  clear hop
  go_wp2_with fail
  refine (right_any x W.heap.size _ _ _ _ _ B6.out.size (RepV.on B6.out (Nat.le_refl _) HX.out)).mono ?_
  rintro e w7 ⟨rfl, b7⟩
  have X7 := Lib.hid (X6.out.on b7); have Y7 := Lib.hid (Y6.out.on b7); have B7 := Lib.hid (Below.step B6.out b7)
  clear X6 Y6 B6 b7 cX0 cX1 cX2 cX3 hcell
  obtain ⟨cY0, cY1, cY2, cY3⟩ := Y7.out.cells
  generalize hr1 : rightV 4 x = ra at *
  generalize hr2 : rightV 4 y = rb at *
  have HR1 := Lib.hid hr1; have HR2' := Lib.hid hr2
  clear hr1 hr2
  obtain ⟨w8, hw8⟩ : ∃ w8, w8 = w7 := ⟨_, rfl⟩
  cases ra
  case' false =>
    have X8 := X7; have Y8 := Y7; have B8 := B7
    subst hw8
  case' true =>
    go_wp2_with fail
    refine (right_any y W.heap.size _ _ _ _ _ B7.out.size (RepV.on B7.out (Nat.le_refl _) HY.out)).mono ?_
    rw [HR2'.out]
    clear hw8 w8
    rintro e w8 ⟨rfl, b8⟩
    have X8 := Lib.hid (X7.out.on b8); have Y8 := Lib.hid (Y7.out.on b8); have B8 := Lib.hid (Below.step B7.out b8)
    clear b8
    cases rb
  all_goals
    clear X7 Y7 B7 cY0 cY1 cY2 cY3
    obtain ⟨x0, x1, x2, x3⟩ := X8.out.cells
    obtain ⟨y0, y1, y2, y3⟩ := Y8.out.cells
    have hRX := (RepV.on B8.out (Nat.le_refl _) HX.out).up B8.out.size _
    have hRY := (RepV.on B8.out (Nat.le_refl _) HY.out).up B8.out.size _
    have hs1 := stands_alloc w8 (.cells #[.int .i64 x.kind, .int .i64 x.num, .string x.text, .slice fa x.list.length fc] 24)
    have hs2 := stands_alloc (w8.alloc (.cells #[.int .i64 x.kind, .int .i64 x.num, .string x.text, .slice fa x.list.length fc] 24)) (.cells #[.int .i64 x.kind, .int .i64 x.num, .string x.text, .slice fa x.list.length fc, .int .i64 y.kind, .int .i64 y.num, .string y.text, .slice ga y.list.length gc] 24)
    obtain ⟨xa0, xa1, xa2, xa3⟩ := (X8.out.on hs1).cells
    obtain ⟨ya0, ya1, ya2, ya3⟩ := (Y8.out.on hs1).cells
    obtain ⟨xb0, xb1, xb2, xb3⟩ := ((X8.out.on hs1).on hs2).cells
    obtain ⟨yb0, yb1, yb2, yb3⟩ := ((Y8.out.on hs1).on hs2).cells
    clear hs1 hs2
    obtain ⟨b9, hrows⟩ := row_new k hRX hRY 22 _ rfl
    clear hRX hRY
    go_wp2_with fail
    clear xa0 xa1 xa2 xa3 ya0 ya1 ya2 ya3 xb0 xb1 xb2 xb3 yb0 yb1 yb2 yb3
    generalize (((w8.alloc (.cells #[.int .i64 x.kind, .int .i64 x.num, .string x.text, .slice fa x.list.length fc] 24)).alloc (.cells #[.int .i64 x.kind, .int .i64 x.num, .string x.text, .slice fa x.list.length fc, .int .i64 y.kind, .int .i64 y.num, .string y.text, .slice ga y.list.length gc] 24)).alloc (.cells #[.int .i64 y.kind, .int .i64 y.num, .string y.text, .slice ga y.list.length gc, .int .i64 x.kind, .int .i64 x.num, .string x.text, .slice fa x.list.length fc] 24)).alloc (.cells #[.slice (some ⟨w8.heap.size, 0, none⟩) 1 1, .slice (some ⟨w8.heap.size + 1, 0, none⟩) 2 2, .slice (some ⟨w8.heap.size + 1 + 1, 0, none⟩) 2 2] 22) = w9 at *
    have B9 := Lib.hid (Below.step B8.out b9); have X9 := Lib.hid (X8.out.on b9); have Y9 := Lib.hid (Y8.out.on b9)
    have HROWS := Lib.hid hrows
    clear b9 hrows X8 Y8 B8 x0 x1 x2 x3 y0 y1 y2 y3
    generalize w8.heap.size + 1 + 1 + 1 = b4 at *
    go_loopw [45, 12, 13, 14, 15] (fun i _ _ _ _ wr => ∃ kk : Nat, kk ≤ 3 ∧ i = .int .i64 kk ∧ Below w9.heap.size w9 wr) (fun i _ _ _ _ _ => 3 - (intOf i).toNat)
    case atStart => exact ⟨0, Nat.zero_le _, rfl, Below.refl _ _⟩
    case round =>
      obtain ⟨kk, hkk, rfl, hbel⟩ := hrel
      have HBEL := Lib.hid hbel
      by_cases hlt : kk < 3
      · obtain ⟨bk, n, args, z, z0, z1, z2, z3, hsl, hrep, hn12, q0, q1, q2, q3, hz, hfx⟩ := ((HROWS.out kk hlt).on hbel).ex
        obtain ⟨za, zc, rfl, rfl, rfl, rfl⟩ := hz.form
        have HZ := Lib.hid hz; have HFX := Lib.hid hfx
        have HQ := Lib.hid (And.intro q0 (And.intro q1 (And.intro q2 q3)))
        clear hbel hz hfx q0 q1 q2 q3
        rcases hn12 with rfl | rfl
        all_goals
          go_wp2_with fail
          refine (call_any f args _ _ _ (Nat.le_refl _) hrep).mono ?_
          rw [HFN.out]
          rintro e wc1 ⟨e0, e1, e2, e3, rfl, hr, hb⟩
          have hcl := HQ.out
          have hbx : Below wr.heap.size wr wc1 := hb
          cases hcv : callV k args with
          | none =>
            rw [hcv] at hr
            obtain ⟨ea, ec, rfl, rfl, rfl, rfl⟩ := hr.form
            have HR := Lib.hid (show RepG (fun b => wr.heap.size < b ∧ b < wc1.heap.size) wc1 zeroV (.int .i64 0) (.int .i64 0) (.string ⟨#[]⟩) (.slice ea 0 ec) from hr)
            clear hr hcv
            simp only [Option.getD_none, Option.isSome_none, show zeroV.kind = 0 from rfl, show zeroV.num = 0 from rfl, show zeroV.text = ⟨#[]⟩ from rfl, show zeroV.list = [] from rfl, List.length_nil]
            have hst := Below.step hbx (stands_alloc wc1 (.cells #[.int .i64 0, .int .i64 0, .string ⟨#[]⟩, .slice ea 0 ec] 24))
            have HV2 := Lib.hid (boxed_new wc1 (.int .i64 0) (.int .i64 0) (.string ⟨#[]⟩) (.slice ea 0 ec))
            obtain ⟨g0, g1, g2, g3⟩ := hcl
            have p0 := (hst.cell (p := ⟨bk, 0, none⟩) (cell_lt g0)).trans g0
            have p1 := (hst.cell (p := ⟨bk, 1, none⟩) (cell_lt g1)).trans g1
            have p2 := (hst.cell (p := ⟨bk, 2, none⟩) (cell_lt g2)).trans g2
            have p3 := (hst.cell (p := ⟨bk, 3, none⟩) (cell_lt g3)).trans g3
            have HST := Lib.hid hst
            have HZ2 := Lib.hid ((RepV.below (fun j hj => hst.block j hj) _ HZ.out).up hst.size _)
            have HR2 := Lib.hid (RepG.on (S' := fun b => b < (wc1.alloc (.cells #[.int .i64 0, .int .i64 0, .string ⟨#[]⟩, .slice ea 0 ec] 24)).heap.size) (w' := wc1.alloc (.cells #[.int .i64 0, .int .i64 0, .string ⟨#[]⟩, .slice ea 0 ec] 24)) (fun b hb => by have := hb.2; simp; omega) (fun b hb => Below.heap_alloc wc1 (.cells #[.int .i64 0, .int .i64 0, .string ⟨#[]⟩, .slice ea 0 ec] 24) b hb.2) zeroV HR.out)
            clear g0 g1 g2 g3 hst hb hbx
            go_wp2_with fail
            generalize hwv : wc1.alloc (.cells #[.int .i64 0, .int .i64 0, .string ⟨#[]⟩, .slice ea 0 ec] 24) = w10 at *
            generalize wc1.heap.size = bv at *
            clear hwv
            refine (right_any z w10.heap.size _ _ _ _ _ (Nat.le_refl _) HZ2.out).mono ?_
            rintro e w11 ⟨rfl, b11⟩
            have HB11 := Lib.hid (HBEL.out.trans ((Below.step HST.out b11).mono HBEL.out.size))
            obtain ⟨v0, v1, v2, v3⟩ := (HV2.out.on b11).cells
            have HR3 := Lib.hid ((RepV.below (fun j hj => b11.block j hj) zeroV HR2.out).up b11.size _)
            clear b11 p0 p1 p2 p3
            cases rightV 4 z
            all_goals
              go_wp2_with fail
              refine (same_one zeroV _ _ _ _ _ _ _ _ _ _ (Nat.le_refl _) HR3.out rep_zero).mono ?_
              rintro e w12 ⟨rfl, b12⟩
              go_wp2_with fail
              go_roundw
              case rel => exact ⟨kk + 1, by omega, by go_num, HB11.out.trans (b12.mono HB11.out.size)⟩
              case measure => first | (simp [intOf]; omega) | simp [intOf]

          | some r =>
            obtain ⟨f1, f2, f3, f4⟩ := HFX.out r hcv
            have HF1 := Lib.hid f1; have HF2 := Lib.hid f2; have HF3 := Lib.hid f3; have HF4 := Lib.hid f4
            rw [hcv] at hr
            have hr' : RepG (fun b => wr.heap.size < b ∧ b < wc1.heap.size) wc1 r e0 e1 e2 e3 := hr
            obtain ⟨ea, ec, rfl, rfl, rfl, rfl⟩ := hr'.form
            have HR := Lib.hid hr'
            clear hr hr' hcv f1 f2 f3 f4
            dsimp only [Option.isSome]
            have hst := Below.step hbx (stands_alloc wc1 (.cells #[.int .i64 r.kind, .int .i64 r.num, .string r.text, .slice ea r.list.length ec] 24))
            have HV2 := Lib.hid (boxed_new wc1 (.int .i64 r.kind) (.int .i64 r.num) (.string r.text) (.slice ea r.list.length ec))
            obtain ⟨g0, g1, g2, g3⟩ := hcl
            have p0 := (hst.cell (p := ⟨bk, 0, none⟩) (cell_lt g0)).trans g0
            have p1 := (hst.cell (p := ⟨bk, 1, none⟩) (cell_lt g1)).trans g1
            have p2 := (hst.cell (p := ⟨bk, 2, none⟩) (cell_lt g2)).trans g2
            have p3 := (hst.cell (p := ⟨bk, 3, none⟩) (cell_lt g3)).trans g3
            have HST := Lib.hid hst
            have HZ2 := Lib.hid ((RepV.below (fun j hj => hst.block j hj) _ HZ.out).up hst.size _)
            have HR2 := Lib.hid (RepG.on (S' := fun b => b < (wc1.alloc (.cells #[.int .i64 r.kind, .int .i64 r.num, .string r.text, .slice ea r.list.length ec] 24)).heap.size) (w' := wc1.alloc (.cells #[.int .i64 r.kind, .int .i64 r.num, .string r.text, .slice ea r.list.length ec] 24)) (fun b hb => by have := hb.2; simp; omega) (fun b hb => Below.heap_alloc wc1 (.cells #[.int .i64 r.kind, .int .i64 r.num, .string r.text, .slice ea r.list.length ec] 24) b hb.2) r HR.out)
            clear g0 g1 g2 g3 hst hb hbx
            go_wp2_with fail
            generalize hwv : wc1.alloc (.cells #[.int .i64 r.kind, .int .i64 r.num, .string r.text, .slice ea r.list.length ec] 24) = w10 at *
            generalize wc1.heap.size = bv at *
            clear hwv
            refine (right_any z w10.heap.size _ _ _ _ _ (Nat.le_refl _) HZ2.out).mono ?_
            rw [HF2.out]
            rintro e w11 ⟨rfl, b11⟩
            have HB11 := Lib.hid (HBEL.out.trans ((Below.step HST.out b11).mono HBEL.out.size))
            obtain ⟨v0, v1, v2, v3⟩ := (HV2.out.on b11).cells
            have HR3 := Lib.hid ((RepV.below (fun j hj => b11.block j hj) r HR2.out).up b11.size _)
            clear b11 p0 p1 p2 p3
            (first | (exfalso; have h := HF3.out (by trivial); simp [HR1.out, HR2'.out] at h; done) | skip)
            all_goals
              go_wp2_with fail
              refine (right_any r w11.heap.size _ _ _ _ _ (Nat.le_refl _) HR3.out).mono ?_
              rw [HF1.out]
              rintro e w12 ⟨rfl, b12⟩
              have HB12 := Lib.hid (HB11.out.trans (b12.mono HB11.out.size))
              clear b12
              go_wp2_with fail
              refine (arity_any f _).mono ?_
              rw [HFN.out, ← HF4.out]
              rintro e w13 ⟨rfl, b13⟩
              go_wp2_with fail
              go_roundw
              case rel => exact ⟨kk + 1, by omega, by go_num, HB12.out.trans (b13.mono HB12.out.size)⟩
              case measure => first | (simp [intOf]; omega) | simp [intOf]

      · have hke : kk = 3 := by omega
        obtain ⟨cx0, cx1, cx2, cx3⟩ := (X9.out.on hbel).cells
        obtain ⟨cy0, cy1, cy2, cy3⟩ := (Y9.out.on hbel).cells
        have B10 := Lib.hid (Below.step B9.out hbel)
        clear hbel hke
        go_wp2_with fail
        refine (op_any o x y W.heap.size _ _ _ _ _ _ _ _ _ B10.out.size (RepV.on B10.out (Nat.le_refl _) HX.out) (RepV.on B10.out (Nat.le_refl _) HY.out)).mono ?_
        rintro e wc1 ⟨rfl, hb⟩
        have B11 := Lib.hid (Below.step B10.out hb)
        clear hb cx0 cx1 cx2 cx3 cy0 cy1 cy2 cy3
        cases hop : opZ o x y with
        | none =>
          rw [show opCells none = .agg #[.int .i64 0, .int .i64 0, .string ⟨#[]⟩, .slice none 0 0] from rfl, show (none : Option Int).isSome = false from rfl]
          have B12 := Lib.hid (Below.step B11.out (stands_alloc wc1 (.cells #[.int .i64 0, .int .i64 0, .string ⟨#[]⟩, .slice none 0 0] 24)))
          go_wp2_with fail
          refine (same_one zeroV 0 _ _ _ _ _ _ _ _ _ (Nat.zero_le _) rep_zero rep_zero).mono ?_
          rintro e w12 ⟨rfl, b12⟩
          go_wp2_with fail
          go_ret
          exact ⟨rfl, Below.step B12.out b12⟩
        | some m =>
          obtain ⟨f1, f2, f3⟩ := op_right hop
          (first | (exfalso; simp [HR1.out, HR2'.out] at f2 f3; done) | skip)
          all_goals
            rw [show opCells (some m) = .agg #[.int .i64 1, .int .i64 m, .string ⟨#[]⟩, .slice none 0 0] from rfl, show (some m : Option Int).isSome = true from rfl]
            have hm64 : I64 m := by
              rw [right_num, Bool.and_eq_true, decide_eq_true_eq, decide_eq_true_eq] at f1
              exact ⟨by omega, by omega⟩
            have HM := Lib.hid hm64; have HF1 := Lib.hid f1
            clear f1 f2 f3 hop hm64
            have B12 := Lib.hid (Below.step B11.out (stands_alloc wc1 (.cells #[.int .i64 1, .int .i64 m, .string ⟨#[]⟩, .slice none 0 0] 24)))
            have V12 := Lib.hid (boxed_new wc1 (.int .i64 1) (.int .i64 m) (.string ⟨#[]⟩) (.slice none 0 0))
            go_wp2_with fail
            generalize wc1.alloc (.cells #[.int .i64 1, .int .i64 m, .string ⟨#[]⟩, .slice none 0 0] 24) = w12 at *
            generalize wc1.heap.size = bv at *
            refine (right_any (numV m) 0 _ _ _ _ _ (Nat.zero_le _) (rep_num HM.out)).mono ?_
            rw [HF1.out]
            rintro e w13 ⟨rfl, b13⟩
            obtain ⟨v0, v1, v2, v3⟩ := (V12.out.on b13).cells
            go_wp2_with fail
            go_ret
            exact ⟨rfl, Below.step B12.out b13⟩

end Go.Proofs.YtgkgnfafjbjbnaaDoor.builtinRight
