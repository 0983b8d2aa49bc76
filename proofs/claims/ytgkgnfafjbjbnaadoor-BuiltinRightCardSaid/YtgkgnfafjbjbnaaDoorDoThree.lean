/-
  What builtin's functions do: cons, appended, concat.
-/
import Derived.Test.YtgkgnfafjbjbnaaDoorDoTwo
namespace Go.Proofs.YtgkgnfafjbjbnaaDoor
open Go.RowKit

set_option maxRecDepth 100000 in
set_option maxHeartbeats 1000000 in
theorem cons_any (x y : V) (B : Nat) (w : World) (a : Value) (hB : B ≤ w.heap.size) (ha : RepL B w [x, y] a) (_hx1 : x.list.length ≤ 100) (hy1 : y.list.length ≤ 100) :
    Calls Tryd.prog 75 #[a] w (DoPost (listV (x :: y.list)) w) := by
  have hb1 : Below w.heap.size w (w.alloc (.cells #[.int .i64 0, .int .i64 0, .string ⟨#[]⟩, .slice none 0 0] 24)) := (Below.refl _ w).alloc (Nat.le_refl _) _
  have hbd : Below w.heap.size w ((w.alloc (.cells #[.int .i64 0, .int .i64 0, .string ⟨#[]⟩, .slice none 0 0] 24))).drew := hb1.drew
  have HX := Lib.hid ((boxed_new w (.int .i64 0) (.int .i64 0) (.string ⟨#[]⟩) (.slice none 0 0)).on (Below.drew (Below.refl _ (w.alloc (.cells #[.int .i64 0, .int .i64 0, .string ⟨#[]⟩, .slice none 0 0] 24)))))
  have HBD := Lib.hid hbd
  obtain ⟨aa, ab, ao, ac, rfl, hac, -⟩ := id ha
  obtain ⟨-, hcap, b, o, fa, fc, rfl, hSb, g0, g1, g2, g3, g⟩ := RepLG.at (RepL.below (w' := (w.alloc (.cells #[.int .i64 0, .int .i64 0, .string ⟨#[]⟩, .slice none 0 0] 24))) (fun j hj => hb1.block j (by omega)) ha) 0 (by simp)
  obtain ⟨-, -, b', o', fa', fc', e', -, e0, e1, e2, e3, g'⟩ := RepLG.at (RepL.below (w' := (w.alloc (.cells #[.int .i64 0, .int .i64 0, .string ⟨#[]⟩, .slice none 0 0] 24))) (fun j hj => hb1.block j (by omega)) ha) 1 (by simp)
  cases e'
  simp only [List.getElem_cons_zero, List.getElem_cons_succ, Nat.zero_mul, Nat.one_mul, Nat.add_zero, List.length_cons, List.length_nil, Nat.zero_add, Nat.reduceAdd] at g0 g1 g2 g3 g e0 e1 e2 e3 g' hcap hac
  have GA := Lib.hid (RepL.below (w' := ((w.alloc (.cells #[.int .i64 0, .int .i64 0, .string ⟨#[]⟩, .slice none 0 0] 24))).drew) (fun j hj => hbd.block j (by omega)) ha)
  have GX := Lib.hid g.lst
  have GY := Lib.hid g'.lst
  have GF := Lib.hid (RepLG.front (RepL.below (w' := ((w.alloc (.cells #[.int .i64 0, .int .i64 0, .string ⟨#[]⟩, .slice none 0 0] 24))).drew) (fun j hj => hbd.block j (by omega)) ha) 1 (by simp))
  have h1c : (1 : Int) ≤ (ac : Int) := by omega
  have h1d : 1 < ac := by omega
  have h1e : ¬ ac = 1 := by omega
  clear ha g g' hb1 hbd
  go_enter Tryd.func75, Tryd.ntmps75
  go_wp2_with fail
  have hs1 : ((w.alloc (.cells #[.int .i64 0, .int .i64 0, .string ⟨#[]⟩, .slice none 0 0] 24))).drew.heap.size = w.heap.size + 1 := World.size_alloc _ _
  have GX1 := Lib.hid (RepL.below (B := B) (w := (w.alloc (.cells #[.int .i64 0, .int .i64 0, .string ⟨#[]⟩, .slice none 0 0] 24))) (w' := ((w.alloc (.cells #[.int .i64 0, .int .i64 0, .string ⟨#[]⟩, .slice none 0 0] 24))).drew) (fun _ _ => rfl) GX.out)
  have GY1 := Lib.hid (RepL.below (B := B) (w := (w.alloc (.cells #[.int .i64 0, .int .i64 0, .string ⟨#[]⟩, .slice none 0 0] 24))) (w' := ((w.alloc (.cells #[.int .i64 0, .int .i64 0, .string ⟨#[]⟩, .slice none 0 0] 24))).drew) (fun _ _ => rfl) GY.out)
  clear GX GY
  generalize (w.alloc (.cells #[.int .i64 0, .int .i64 0, .string ⟨#[]⟩, .slice none 0 0] 24)) = w0 at *
  go_still_tail 6, (by kernel_rfl)
  change wpList _ _ _ _ _ w0.drew
  clear g0 g1 g2 g3 e0 e1 e2 e3
  generalize w0.drew = w1 at *
  have HS1 := Lib.hid hs1
  have hs1' : w.heap.size < w1.heap.size := by omega
  clear hs1
  go_wp2_with fail
  have hba : ∀ o, Below w1.heap.size w1 (w1.alloc o) := fun o => (Below.refl _ w1).alloc (Nat.le_refl _) o
  refine (concat_any [x] y.list B _ _ _ w1.heap.size (by simp; omega) (alloc_new' _ _) (RepL.below (fun j hj => (hba _).block j (by omega)) GF.out) (RepL.below (fun j hj => (hba _).block j (by omega)) GY1.out) (by simp) hy1).mono ?_
  rintro e w2 ⟨r, rfl, hr, hb2⟩
  obtain ⟨ra, rb, ro, rc, rfl, -⟩ := id hr
  generalize ([x] ++ y.list).length = n at hr ⊢
  have HR2 := Lib.hid hr
  have HB2 := Lib.hid (Below.step (hba _) hb2)
  clear hr hb2
  go_wp2_with fail
  refine (sharing_any _ _ _ _).mono ?_
  rintro e w3 ⟨rfl, hb3⟩
  have HB3 := Lib.hid (Below.step HB2.out hb3)
  have HR3 := Lib.hid (HR2.out.on (w' := w3) (fun _ h => h) (fun k hk => hb3.block k (by have := HB2.out.size; omega)))
  have X3 := HX.out.on HB3.out
  obtain ⟨r0, r1, r2, r3⟩ := X3.cells
  have z0 := frozen_of_row w3 _ 0 _ _ X3
  have z1 := frozen_of_row w3 _ 1 _ _ X3
  have z2 := frozen_of_row w3 _ 2 _ _ X3
  have z3 := frozen_of_row w3 _ 3 _ _ X3
  have hs3 := hb3.size
  have hs2 := HB2.out.size
  clear X3
  go_wp2_with fail
  refine bodyPost_ret (by simp [results, Tryd.results75, go_sem, r0, r1, r2, r3]; rfl) rfl ?_
  exact ⟨_, _, _, _, rfl, RepG.past4 (rep_list HR3.out) w.heap.size (by have := HS1.out; simp; omega) (fun b h => by simp at h; omega) _ _ _ _, stored4 (Below.trans HBD.out (HB3.out.mono (by have := HS1.out; omega))) w.heap.size (Nat.le_refl _) _ _ _ _⟩

set_option maxRecDepth 100000 in
set_option maxHeartbeats 1000000 in
theorem appended_any (x y : V) (B : Nat) (w : World) (a : Value) (hB : B ≤ w.heap.size) (ha : RepL B w [x, y] a) (hx1 : x.list.length ≤ 100) (_hy1 : y.list.length ≤ 100) :
    Calls Tryd.prog 76 #[a] w (DoPost (listV (x.list ++ [y])) w) := by
  have hb1 : Below w.heap.size w (w.alloc (.cells #[.int .i64 0, .int .i64 0, .string ⟨#[]⟩, .slice none 0 0] 24)) := (Below.refl _ w).alloc (Nat.le_refl _) _
  have hbd : Below w.heap.size w ((w.alloc (.cells #[.int .i64 0, .int .i64 0, .string ⟨#[]⟩, .slice none 0 0] 24))).drew := hb1.drew
  have HX := Lib.hid ((boxed_new w (.int .i64 0) (.int .i64 0) (.string ⟨#[]⟩) (.slice none 0 0)).on (Below.drew (Below.refl _ (w.alloc (.cells #[.int .i64 0, .int .i64 0, .string ⟨#[]⟩, .slice none 0 0] 24)))))
  have HBD := Lib.hid hbd
  obtain ⟨aa, ab, ao, ac, rfl, hac, -⟩ := id ha
  obtain ⟨-, hcap, b, o, fa, fc, rfl, hSb, g0, g1, g2, g3, g⟩ := RepLG.at (RepL.below (w' := (w.alloc (.cells #[.int .i64 0, .int .i64 0, .string ⟨#[]⟩, .slice none 0 0] 24))) (fun j hj => hb1.block j (by omega)) ha) 0 (by simp)
  obtain ⟨-, -, b', o', fa', fc', e', -, e0, e1, e2, e3, g'⟩ := RepLG.at (RepL.below (w' := (w.alloc (.cells #[.int .i64 0, .int .i64 0, .string ⟨#[]⟩, .slice none 0 0] 24))) (fun j hj => hb1.block j (by omega)) ha) 1 (by simp)
  cases e'
  simp only [List.getElem_cons_zero, List.getElem_cons_succ, Nat.zero_mul, Nat.one_mul, Nat.add_zero, List.length_cons, List.length_nil, Nat.zero_add, Nat.reduceAdd] at g0 g1 g2 g3 g e0 e1 e2 e3 g' hcap hac
  have GA := Lib.hid (RepL.below (w' := ((w.alloc (.cells #[.int .i64 0, .int .i64 0, .string ⟨#[]⟩, .slice none 0 0] 24))).drew) (fun j hj => hbd.block j (by omega)) ha)
  have GX := Lib.hid g.lst
  have GY := Lib.hid g'.lst
  have GF := Lib.hid (RepLG.behind (RepL.below (w' := ((w.alloc (.cells #[.int .i64 0, .int .i64 0, .string ⟨#[]⟩, .slice none 0 0] 24))).drew) (fun j hj => hbd.block j (by omega)) ha))
  have h1c : (1 : Int) ≤ (ac : Int) := by omega
  have h1d : 1 < ac := by omega
  have h1e : ¬ ac = 1 := by omega
  clear ha g g' hb1 hbd
  go_enter Tryd.func76, Tryd.ntmps76
  go_wp2_with fail
  have hs1 : ((w.alloc (.cells #[.int .i64 0, .int .i64 0, .string ⟨#[]⟩, .slice none 0 0] 24))).drew.heap.size = w.heap.size + 1 := World.size_alloc _ _
  have GX1 := Lib.hid (RepL.below (B := B) (w := (w.alloc (.cells #[.int .i64 0, .int .i64 0, .string ⟨#[]⟩, .slice none 0 0] 24))) (w' := ((w.alloc (.cells #[.int .i64 0, .int .i64 0, .string ⟨#[]⟩, .slice none 0 0] 24))).drew) (fun _ _ => rfl) GX.out)
  have GY1 := Lib.hid (RepL.below (B := B) (w := (w.alloc (.cells #[.int .i64 0, .int .i64 0, .string ⟨#[]⟩, .slice none 0 0] 24))) (w' := ((w.alloc (.cells #[.int .i64 0, .int .i64 0, .string ⟨#[]⟩, .slice none 0 0] 24))).drew) (fun _ _ => rfl) GY.out)
  clear GX GY
  generalize (w.alloc (.cells #[.int .i64 0, .int .i64 0, .string ⟨#[]⟩, .slice none 0 0] 24)) = w0 at *
  go_still_tail 6, (by kernel_rfl)
  change wpList _ _ _ _ _ w0.drew
  clear g0 g1 g2 g3 e0 e1 e2 e3
  generalize w0.drew = w1 at *
  have HS1 := Lib.hid hs1
  have hs1' : w.heap.size < w1.heap.size := by omega
  clear hs1
  go_wp2_with fail
  have hba : ∀ o, Below w1.heap.size w1 (w1.alloc o) := fun o => (Below.refl _ w1).alloc (Nat.le_refl _) o
  refine (concat_any x.list [y] B _ _ _ w1.heap.size (by simp; omega) (alloc_new' _ _) (RepL.below (fun j hj => (hba _).block j (by omega)) GX1.out) (RepL.below (fun j hj => (hba _).block j (by omega)) GF.out) hx1 (by simp)).mono ?_
  rintro e w2 ⟨r, rfl, hr, hb2⟩
  obtain ⟨ra, rb, ro, rc, rfl, -⟩ := id hr
  generalize (x.list ++ [y]).length = n at hr ⊢
  have HR2 := Lib.hid hr
  have HB2 := Lib.hid (Below.step (hba _) hb2)
  clear hr hb2
  go_wp2_with fail
  refine (sharing_any _ _ _ _).mono ?_
  rintro e w3 ⟨rfl, hb3⟩
  have HB3 := Lib.hid (Below.step HB2.out hb3)
  have HR3 := Lib.hid (HR2.out.on (w' := w3) (fun _ h => h) (fun k hk => hb3.block k (by have := HB2.out.size; omega)))
  have X3 := HX.out.on HB3.out
  obtain ⟨r0, r1, r2, r3⟩ := X3.cells
  have z0 := frozen_of_row w3 _ 0 _ _ X3
  have z1 := frozen_of_row w3 _ 1 _ _ X3
  have z2 := frozen_of_row w3 _ 2 _ _ X3
  have z3 := frozen_of_row w3 _ 3 _ _ X3
  have hs3 := hb3.size
  have hs2 := HB2.out.size
  clear X3
  go_wp2_with fail
  refine bodyPost_ret (by simp [results, Tryd.results76, go_sem, r0, r1, r2, r3]; rfl) rfl ?_
  exact ⟨_, _, _, _, rfl, RepG.past4 (rep_list HR3.out) w.heap.size (by have := HS1.out; simp; omega) (fun b h => by simp at h; omega) _ _ _ _, stored4 (Below.trans HBD.out (HB3.out.mono (by have := HS1.out; omega))) w.heap.size (Nat.le_refl _) _ _ _ _⟩

set_option maxRecDepth 100000 in
set_option maxHeartbeats 1000000 in
theorem joined_any (x y : V) (B : Nat) (w : World) (a : Value) (hB : B ≤ w.heap.size) (ha : RepL B w [x, y] a) (hx1 : x.list.length ≤ 100) (hy1 : y.list.length ≤ 100) :
    Calls Tryd.prog 77 #[a] w (DoPost (listV (x.list ++ y.list)) w) := by
  have hb1 : Below w.heap.size w (w.alloc (.cells #[.int .i64 0, .int .i64 0, .string ⟨#[]⟩, .slice none 0 0] 24)) := (Below.refl _ w).alloc (Nat.le_refl _) _
  have hbd : Below w.heap.size w ((w.alloc (.cells #[.int .i64 0, .int .i64 0, .string ⟨#[]⟩, .slice none 0 0] 24))).drew := hb1.drew
  have HX := Lib.hid ((boxed_new w (.int .i64 0) (.int .i64 0) (.string ⟨#[]⟩) (.slice none 0 0)).on (Below.drew (Below.refl _ (w.alloc (.cells #[.int .i64 0, .int .i64 0, .string ⟨#[]⟩, .slice none 0 0] 24)))))
  have HBD := Lib.hid hbd
  obtain ⟨aa, ab, ao, ac, rfl, hac, -⟩ := id ha
  obtain ⟨-, hcap, b, o, fa, fc, rfl, hSb, g0, g1, g2, g3, g⟩ := RepLG.at (RepL.below (w' := (w.alloc (.cells #[.int .i64 0, .int .i64 0, .string ⟨#[]⟩, .slice none 0 0] 24))) (fun j hj => hb1.block j (by omega)) ha) 0 (by simp)
  obtain ⟨-, -, b', o', fa', fc', e', -, e0, e1, e2, e3, g'⟩ := RepLG.at (RepL.below (w' := (w.alloc (.cells #[.int .i64 0, .int .i64 0, .string ⟨#[]⟩, .slice none 0 0] 24))) (fun j hj => hb1.block j (by omega)) ha) 1 (by simp)
  cases e'
  simp only [List.getElem_cons_zero, List.getElem_cons_succ, Nat.zero_mul, Nat.one_mul, Nat.add_zero, List.length_cons, List.length_nil, Nat.zero_add, Nat.reduceAdd] at g0 g1 g2 g3 g e0 e1 e2 e3 g' hcap hac
  have GA := Lib.hid (RepL.below (w' := ((w.alloc (.cells #[.int .i64 0, .int .i64 0, .string ⟨#[]⟩, .slice none 0 0] 24))).drew) (fun j hj => hbd.block j (by omega)) ha)
  have GX := Lib.hid g.lst
  have GY := Lib.hid g'.lst
  have h1c : (1 : Int) ≤ (ac : Int) := by omega
  have h1d : 1 < ac := by omega
  have h1e : ¬ ac = 1 := by omega
  clear ha g g' hb1 hbd
  go_enter Tryd.func77, Tryd.ntmps77
  go_wp2_with fail
  have hs1 : ((w.alloc (.cells #[.int .i64 0, .int .i64 0, .string ⟨#[]⟩, .slice none 0 0] 24))).drew.heap.size = w.heap.size + 1 := World.size_alloc _ _
  have GX1 := Lib.hid (RepL.below (B := B) (w := (w.alloc (.cells #[.int .i64 0, .int .i64 0, .string ⟨#[]⟩, .slice none 0 0] 24))) (w' := ((w.alloc (.cells #[.int .i64 0, .int .i64 0, .string ⟨#[]⟩, .slice none 0 0] 24))).drew) (fun _ _ => rfl) GX.out)
  have GY1 := Lib.hid (RepL.below (B := B) (w := (w.alloc (.cells #[.int .i64 0, .int .i64 0, .string ⟨#[]⟩, .slice none 0 0] 24))) (w' := ((w.alloc (.cells #[.int .i64 0, .int .i64 0, .string ⟨#[]⟩, .slice none 0 0] 24))).drew) (fun _ _ => rfl) GY.out)
  clear GX GY
  generalize (w.alloc (.cells #[.int .i64 0, .int .i64 0, .string ⟨#[]⟩, .slice none 0 0] 24)) = w0 at *
  go_still_tail 8, (by kernel_rfl)
  change wpList _ _ _ _ _ w0.drew
  clear g0 g1 g2 g3 e0 e1 e2 e3
  generalize w0.drew = w1 at *
  have HS1 := Lib.hid hs1
  have hs1' : w.heap.size < w1.heap.size := by omega
  clear hs1
  go_wp2_with fail
  have hba : ∀ o, Below w1.heap.size w1 (w1.alloc o) := fun o => (Below.refl _ w1).alloc (Nat.le_refl _) o
  refine (concat_any x.list y.list B _ _ _ w1.heap.size (by simp; omega) (alloc_new' _ _) (RepL.below (fun j hj => (hba _).block j (by omega)) GX1.out) (RepL.below (fun j hj => (hba _).block j (by omega)) GY1.out) hx1 hy1).mono ?_
  rintro e w2 ⟨r, rfl, hr, hb2⟩
  obtain ⟨ra, rb, ro, rc, rfl, -⟩ := id hr
  generalize (x.list ++ y.list).length = n at hr ⊢
  have HR2 := Lib.hid hr
  have HB2 := Lib.hid (Below.step (hba _) hb2)
  clear hr hb2
  go_wp2_with fail
  refine (sharing_any _ _ _ _).mono ?_
  rintro e w3 ⟨rfl, hb3⟩
  have HB3 := Lib.hid (Below.step HB2.out hb3)
  have HR3 := Lib.hid (HR2.out.on (w' := w3) (fun _ h => h) (fun k hk => hb3.block k (by have := HB2.out.size; omega)))
  have X3 := HX.out.on HB3.out
  obtain ⟨r0, r1, r2, r3⟩ := X3.cells
  have z0 := frozen_of_row w3 _ 0 _ _ X3
  have z1 := frozen_of_row w3 _ 1 _ _ X3
  have z2 := frozen_of_row w3 _ 2 _ _ X3
  have z3 := frozen_of_row w3 _ 3 _ _ X3
  have hs3 := hb3.size
  have hs2 := HB2.out.size
  clear X3
  go_wp2_with fail
  refine bodyPost_ret (by simp [results, Tryd.results77, go_sem, r0, r1, r2, r3]; rfl) rfl ?_
  exact ⟨_, _, _, _, rfl, RepG.past4 (rep_list HR3.out) w.heap.size (by have := HS1.out; simp; omega) (fun b h => by simp at h; omega) _ _ _ _, stored4 (Below.trans HBD.out (HB3.out.mono (by have := HS1.out; omega))) w.heap.size (Nat.le_refl _) _ _ _ _⟩

end Go.Proofs.YtgkgnfafjbjbnaaDoor
