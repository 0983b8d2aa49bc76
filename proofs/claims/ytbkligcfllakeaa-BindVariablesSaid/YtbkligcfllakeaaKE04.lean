/-
  DoThree, Compare, Member
-/
import Derived.Test.YtbkligcfllakeaaKE03
import Derived.Test.YtbkligcfllakeaaKE01
import Derived.WalkSpells
import Derived.WalkLawsBesides
import Derived.StillTailTactics
namespace Go.Proofs.Ytbkligcfllakeaa
open Go.RowKit
set_option maxRecDepth 100000 in
set_option maxHeartbeats 1000000 in
theorem cons_any (x y : V) (B : Nat) (w : World) (a : Value) (hB : B ≤ w.heap.size) (ha : RepL B w [x, y] a) (_hx1 : x.list.length ≤ 100) (hy1 : y.list.length ≤ 100) :
  Calls Try.prog 112 #[a] w (DoPost (listV (x :: y.list)) w) := by
 have hb1 : Below w.heap.size w (w.alloc (.cells #[.int .i64 0, .int .i64 0, .string ⟨#[]⟩, .slice none 0 0] 27)) := (Below.refl _ w).alloc (Nat.le_refl _) _;have hbd : Below w.heap.size w ((w.alloc (.cells #[.int .i64 0, .int .i64 0, .string ⟨#[]⟩, .slice none 0 0] 27))).drew := hb1.drew;have HX := Lib.hid ((boxed_new w (.int .i64 0) (.int .i64 0) (.string ⟨#[]⟩) (.slice none 0 0)).on (Below.drew (Below.refl _ (w.alloc (.cells #[.int .i64 0, .int .i64 0, .string ⟨#[]⟩, .slice none 0 0] 27)))));have HBD := Lib.hid hbd;obtain ⟨aa, ab, ao, ac, rfl, hac, -⟩ := id ha;obtain ⟨-, hcap, b, o, fa, fc, rfl, hSb, g0, g1, g2, g3, g⟩ := RepLG.at (RepL.below (w' := (w.alloc (.cells #[.int .i64 0, .int .i64 0, .string ⟨#[]⟩, .slice none 0 0] 27))) (fun j hj => hb1.block j (by omega)) ha) 0 (by simp);obtain ⟨-, -, b', o', fa', fc', e', -, e0, e1, e2, e3, g'⟩ := RepLG.at (RepL.below (w' := (w.alloc (.cells #[.int .i64 0, .int .i64 0, .string ⟨#[]⟩, .slice none 0 0] 27))) (fun j hj => hb1.block j (by omega)) ha) 1 (by simp)
 cases e'
 simp only [List.getElem_cons_zero, List.getElem_cons_succ, Nat.zero_mul, Nat.one_mul, Nat.add_zero, List.length_cons, List.length_nil, Nat.zero_add, Nat.reduceAdd] at g0 g1 g2 g3 g e0 e1 e2 e3 g' hcap hac
 have GA := Lib.hid (RepL.below (w' := ((w.alloc (.cells #[.int .i64 0, .int .i64 0, .string ⟨#[]⟩, .slice none 0 0] 27))).drew) (fun j hj => hbd.block j (by omega)) ha);have GX := Lib.hid g.lst;have GY := Lib.hid g'.lst;have GF := Lib.hid (RepLG.front (RepL.below (w' := ((w.alloc (.cells #[.int .i64 0, .int .i64 0, .string ⟨#[]⟩, .slice none 0 0] 27))).drew) (fun j hj => hbd.block j (by omega)) ha) 1 (by simp));have h1c : (1 : Int) ≤ (ac : Int) := by omega
 have h1d : 1 < ac := by omega
 have h1e : ¬ ac = 1 := by omega
 clear ha g g' hb1 hbd;go_enter Try.func112, Try.ntmps112
 go_wp2_with fail
 have hs1 : ((w.alloc (.cells #[.int .i64 0, .int .i64 0, .string ⟨#[]⟩, .slice none 0 0] 27))).drew.heap.size = w.heap.size + 1 := World.size_alloc _ _;have GX1 := Lib.hid (RepL.below (B := B) (w := (w.alloc (.cells #[.int .i64 0, .int .i64 0, .string ⟨#[]⟩, .slice none 0 0] 27))) (w' := ((w.alloc (.cells #[.int .i64 0, .int .i64 0, .string ⟨#[]⟩, .slice none 0 0] 27))).drew) (fun _ _ => rfl) GX.out);have GY1 := Lib.hid (RepL.below (B := B) (w := (w.alloc (.cells #[.int .i64 0, .int .i64 0, .string ⟨#[]⟩, .slice none 0 0] 27))) (w' := ((w.alloc (.cells #[.int .i64 0, .int .i64 0, .string ⟨#[]⟩, .slice none 0 0] 27))).drew) (fun _ _ => rfl) GY.out);clear GX GY;generalize (w.alloc (.cells #[.int .i64 0, .int .i64 0, .string ⟨#[]⟩, .slice none 0 0] 27)) = w0 at *;go_still_tail 6, (by kernel_rfl)
 change wpList _ _ _ _ _ w0.drew;clear g0 g1 g2 g3 e0 e1 e2 e3;generalize w0.drew = w1 at *;have HS1 := Lib.hid hs1;have hs1' : w.heap.size < w1.heap.size := by omega
 clear hs1;go_wp2_with fail
 have hba : ∀ o, Below w1.heap.size w1 (w1.alloc o) := fun o => (Below.refl _ w1).alloc (Nat.le_refl _) o
 refine (concat_any [x] y.list B _ _ _ w1.heap.size (by simp; omega) (alloc_new' _ _) (RepL.below (fun j hj => (hba _).block j (by omega)) GF.out) (RepL.below (fun j hj => (hba _).block j (by omega)) GY1.out) (by simp) hy1).mono ?_;rintro e w2 ⟨r, rfl, hr, hb2⟩;obtain ⟨ra, rb, ro, rc, rfl, -⟩ := id hr;generalize ([x] ++ y.list).length = n at hr ⊢;have HR2 := Lib.hid hr;have HB2 := Lib.hid (Below.step (hba _) hb2);clear hr hb2;go_wp2_with fail
 refine (sharing_any _ _ _ _).mono ?_;rintro e w3 ⟨rfl, hb3⟩;have HB3 := Lib.hid (Below.step HB2.out hb3);have HR3 := Lib.hid (HR2.out.on (w' := w3) (fun _ h => h) (fun k hk => hb3.block k (by have := HB2.out.size; omega)));have X3 := HX.out.on HB3.out;obtain ⟨r0, r1, r2, r3⟩ := X3.cells;have z0 := frozen_of_row w3 _ 0 _ _ X3;have z1 := frozen_of_row w3 _ 1 _ _ X3;have z2 := frozen_of_row w3 _ 2 _ _ X3;have z3 := frozen_of_row w3 _ 3 _ _ X3;have hs3 := hb3.size;have hs2 := HB2.out.size;clear X3;go_wp2_with fail
 refine bodyPost_ret (by simp [results, Try.results112, go_sem, r0, r1, r2, r3]; rfl) rfl ?_;exact ⟨_, _, _, _, rfl, RepG.past4 (rep_list HR3.out) w.heap.size (by have := HS1.out; simp; omega) (fun b h => by simp at h; omega) _ _ _ _, stored4 (Below.trans HBD.out (HB3.out.mono (by have := HS1.out; omega))) w.heap.size (Nat.le_refl _) _ _ _ _⟩
set_option maxRecDepth 100000 in
set_option maxHeartbeats 1000000 in
theorem appended_any (x y : V) (B : Nat) (w : World) (a : Value) (hB : B ≤ w.heap.size) (ha : RepL B w [x, y] a) (hx1 : x.list.length ≤ 100) (_hy1 : y.list.length ≤ 100) :
  Calls Try.prog 113 #[a] w (DoPost (listV (x.list ++ [y])) w) := by
 have hb1 : Below w.heap.size w (w.alloc (.cells #[.int .i64 0, .int .i64 0, .string ⟨#[]⟩, .slice none 0 0] 27)) := (Below.refl _ w).alloc (Nat.le_refl _) _;have hbd : Below w.heap.size w ((w.alloc (.cells #[.int .i64 0, .int .i64 0, .string ⟨#[]⟩, .slice none 0 0] 27))).drew := hb1.drew;have HX := Lib.hid ((boxed_new w (.int .i64 0) (.int .i64 0) (.string ⟨#[]⟩) (.slice none 0 0)).on (Below.drew (Below.refl _ (w.alloc (.cells #[.int .i64 0, .int .i64 0, .string ⟨#[]⟩, .slice none 0 0] 27)))));have HBD := Lib.hid hbd;obtain ⟨aa, ab, ao, ac, rfl, hac, -⟩ := id ha;obtain ⟨-, hcap, b, o, fa, fc, rfl, hSb, g0, g1, g2, g3, g⟩ := RepLG.at (RepL.below (w' := (w.alloc (.cells #[.int .i64 0, .int .i64 0, .string ⟨#[]⟩, .slice none 0 0] 27))) (fun j hj => hb1.block j (by omega)) ha) 0 (by simp);obtain ⟨-, -, b', o', fa', fc', e', -, e0, e1, e2, e3, g'⟩ := RepLG.at (RepL.below (w' := (w.alloc (.cells #[.int .i64 0, .int .i64 0, .string ⟨#[]⟩, .slice none 0 0] 27))) (fun j hj => hb1.block j (by omega)) ha) 1 (by simp)
 cases e'
 simp only [List.getElem_cons_zero, List.getElem_cons_succ, Nat.zero_mul, Nat.one_mul, Nat.add_zero, List.length_cons, List.length_nil, Nat.zero_add, Nat.reduceAdd] at g0 g1 g2 g3 g e0 e1 e2 e3 g' hcap hac
 have GA := Lib.hid (RepL.below (w' := ((w.alloc (.cells #[.int .i64 0, .int .i64 0, .string ⟨#[]⟩, .slice none 0 0] 27))).drew) (fun j hj => hbd.block j (by omega)) ha);have GX := Lib.hid g.lst;have GY := Lib.hid g'.lst;have GF := Lib.hid (RepLG.behind (RepL.below (w' := ((w.alloc (.cells #[.int .i64 0, .int .i64 0, .string ⟨#[]⟩, .slice none 0 0] 27))).drew) (fun j hj => hbd.block j (by omega)) ha));have h1c : (1 : Int) ≤ (ac : Int) := by omega
 have h1d : 1 < ac := by omega
 have h1e : ¬ ac = 1 := by omega
 clear ha g g' hb1 hbd;go_enter Try.func113, Try.ntmps113
 go_wp2_with fail
 have hs1 : ((w.alloc (.cells #[.int .i64 0, .int .i64 0, .string ⟨#[]⟩, .slice none 0 0] 27))).drew.heap.size = w.heap.size + 1 := World.size_alloc _ _;have GX1 := Lib.hid (RepL.below (B := B) (w := (w.alloc (.cells #[.int .i64 0, .int .i64 0, .string ⟨#[]⟩, .slice none 0 0] 27))) (w' := ((w.alloc (.cells #[.int .i64 0, .int .i64 0, .string ⟨#[]⟩, .slice none 0 0] 27))).drew) (fun _ _ => rfl) GX.out);have GY1 := Lib.hid (RepL.below (B := B) (w := (w.alloc (.cells #[.int .i64 0, .int .i64 0, .string ⟨#[]⟩, .slice none 0 0] 27))) (w' := ((w.alloc (.cells #[.int .i64 0, .int .i64 0, .string ⟨#[]⟩, .slice none 0 0] 27))).drew) (fun _ _ => rfl) GY.out);clear GX GY;generalize (w.alloc (.cells #[.int .i64 0, .int .i64 0, .string ⟨#[]⟩, .slice none 0 0] 27)) = w0 at *;go_still_tail 6, (by kernel_rfl)
 change wpList _ _ _ _ _ w0.drew;clear g0 g1 g2 g3 e0 e1 e2 e3;generalize w0.drew = w1 at *;have HS1 := Lib.hid hs1;have hs1' : w.heap.size < w1.heap.size := by omega
 clear hs1;go_wp2_with fail
 have hba : ∀ o, Below w1.heap.size w1 (w1.alloc o) := fun o => (Below.refl _ w1).alloc (Nat.le_refl _) o
 refine (concat_any x.list [y] B _ _ _ w1.heap.size (by simp; omega) (alloc_new' _ _) (RepL.below (fun j hj => (hba _).block j (by omega)) GX1.out) (RepL.below (fun j hj => (hba _).block j (by omega)) GF.out) hx1 (by simp)).mono ?_;rintro e w2 ⟨r, rfl, hr, hb2⟩;obtain ⟨ra, rb, ro, rc, rfl, -⟩ := id hr;generalize (x.list ++ [y]).length = n at hr ⊢;have HR2 := Lib.hid hr;have HB2 := Lib.hid (Below.step (hba _) hb2);clear hr hb2;go_wp2_with fail
 refine (sharing_any _ _ _ _).mono ?_;rintro e w3 ⟨rfl, hb3⟩;have HB3 := Lib.hid (Below.step HB2.out hb3);have HR3 := Lib.hid (HR2.out.on (w' := w3) (fun _ h => h) (fun k hk => hb3.block k (by have := HB2.out.size; omega)));have X3 := HX.out.on HB3.out;obtain ⟨r0, r1, r2, r3⟩ := X3.cells;have z0 := frozen_of_row w3 _ 0 _ _ X3;have z1 := frozen_of_row w3 _ 1 _ _ X3;have z2 := frozen_of_row w3 _ 2 _ _ X3;have z3 := frozen_of_row w3 _ 3 _ _ X3;have hs3 := hb3.size;have hs2 := HB2.out.size;clear X3;go_wp2_with fail
 refine bodyPost_ret (by simp [results, Try.results113, go_sem, r0, r1, r2, r3]; rfl) rfl ?_;exact ⟨_, _, _, _, rfl, RepG.past4 (rep_list HR3.out) w.heap.size (by have := HS1.out; simp; omega) (fun b h => by simp at h; omega) _ _ _ _, stored4 (Below.trans HBD.out (HB3.out.mono (by have := HS1.out; omega))) w.heap.size (Nat.le_refl _) _ _ _ _⟩
set_option maxRecDepth 100000 in
set_option maxHeartbeats 1000000 in
theorem joined_any (x y : V) (B : Nat) (w : World) (a : Value) (hB : B ≤ w.heap.size) (ha : RepL B w [x, y] a) (hx1 : x.list.length ≤ 100) (hy1 : y.list.length ≤ 100) :
  Calls Try.prog 114 #[a] w (DoPost (listV (x.list ++ y.list)) w) := by
 have hb1 : Below w.heap.size w (w.alloc (.cells #[.int .i64 0, .int .i64 0, .string ⟨#[]⟩, .slice none 0 0] 27)) := (Below.refl _ w).alloc (Nat.le_refl _) _;have hbd : Below w.heap.size w ((w.alloc (.cells #[.int .i64 0, .int .i64 0, .string ⟨#[]⟩, .slice none 0 0] 27))).drew := hb1.drew;have HX := Lib.hid ((boxed_new w (.int .i64 0) (.int .i64 0) (.string ⟨#[]⟩) (.slice none 0 0)).on (Below.drew (Below.refl _ (w.alloc (.cells #[.int .i64 0, .int .i64 0, .string ⟨#[]⟩, .slice none 0 0] 27)))));have HBD := Lib.hid hbd;obtain ⟨aa, ab, ao, ac, rfl, hac, -⟩ := id ha;obtain ⟨-, hcap, b, o, fa, fc, rfl, hSb, g0, g1, g2, g3, g⟩ := RepLG.at (RepL.below (w' := (w.alloc (.cells #[.int .i64 0, .int .i64 0, .string ⟨#[]⟩, .slice none 0 0] 27))) (fun j hj => hb1.block j (by omega)) ha) 0 (by simp);obtain ⟨-, -, b', o', fa', fc', e', -, e0, e1, e2, e3, g'⟩ := RepLG.at (RepL.below (w' := (w.alloc (.cells #[.int .i64 0, .int .i64 0, .string ⟨#[]⟩, .slice none 0 0] 27))) (fun j hj => hb1.block j (by omega)) ha) 1 (by simp)
 cases e'
 simp only [List.getElem_cons_zero, List.getElem_cons_succ, Nat.zero_mul, Nat.one_mul, Nat.add_zero, List.length_cons, List.length_nil, Nat.zero_add, Nat.reduceAdd] at g0 g1 g2 g3 g e0 e1 e2 e3 g' hcap hac
 have GA := Lib.hid (RepL.below (w' := ((w.alloc (.cells #[.int .i64 0, .int .i64 0, .string ⟨#[]⟩, .slice none 0 0] 27))).drew) (fun j hj => hbd.block j (by omega)) ha);have GX := Lib.hid g.lst;have GY := Lib.hid g'.lst;have h1c : (1 : Int) ≤ (ac : Int) := by omega
 have h1d : 1 < ac := by omega
 have h1e : ¬ ac = 1 := by omega
 clear ha g g' hb1 hbd;go_enter Try.func114, Try.ntmps114
 go_wp2_with fail
 have hs1 : ((w.alloc (.cells #[.int .i64 0, .int .i64 0, .string ⟨#[]⟩, .slice none 0 0] 27))).drew.heap.size = w.heap.size + 1 := World.size_alloc _ _;have GX1 := Lib.hid (RepL.below (B := B) (w := (w.alloc (.cells #[.int .i64 0, .int .i64 0, .string ⟨#[]⟩, .slice none 0 0] 27))) (w' := ((w.alloc (.cells #[.int .i64 0, .int .i64 0, .string ⟨#[]⟩, .slice none 0 0] 27))).drew) (fun _ _ => rfl) GX.out);have GY1 := Lib.hid (RepL.below (B := B) (w := (w.alloc (.cells #[.int .i64 0, .int .i64 0, .string ⟨#[]⟩, .slice none 0 0] 27))) (w' := ((w.alloc (.cells #[.int .i64 0, .int .i64 0, .string ⟨#[]⟩, .slice none 0 0] 27))).drew) (fun _ _ => rfl) GY.out);clear GX GY;generalize (w.alloc (.cells #[.int .i64 0, .int .i64 0, .string ⟨#[]⟩, .slice none 0 0] 27)) = w0 at *;go_still_tail 8, (by kernel_rfl)
 change wpList _ _ _ _ _ w0.drew;clear g0 g1 g2 g3 e0 e1 e2 e3;generalize w0.drew = w1 at *;have HS1 := Lib.hid hs1;have hs1' : w.heap.size < w1.heap.size := by omega
 clear hs1;go_wp2_with fail
 have hba : ∀ o, Below w1.heap.size w1 (w1.alloc o) := fun o => (Below.refl _ w1).alloc (Nat.le_refl _) o
 refine (concat_any x.list y.list B _ _ _ w1.heap.size (by simp; omega) (alloc_new' _ _) (RepL.below (fun j hj => (hba _).block j (by omega)) GX1.out) (RepL.below (fun j hj => (hba _).block j (by omega)) GY1.out) hx1 hy1).mono ?_;rintro e w2 ⟨r, rfl, hr, hb2⟩;obtain ⟨ra, rb, ro, rc, rfl, -⟩ := id hr;generalize (x.list ++ y.list).length = n at hr ⊢;have HR2 := Lib.hid hr;have HB2 := Lib.hid (Below.step (hba _) hb2);clear hr hb2;go_wp2_with fail
 refine (sharing_any _ _ _ _).mono ?_;rintro e w3 ⟨rfl, hb3⟩;have HB3 := Lib.hid (Below.step HB2.out hb3);have HR3 := Lib.hid (HR2.out.on (w' := w3) (fun _ h => h) (fun k hk => hb3.block k (by have := HB2.out.size; omega)));have X3 := HX.out.on HB3.out;obtain ⟨r0, r1, r2, r3⟩ := X3.cells;have z0 := frozen_of_row w3 _ 0 _ _ X3;have z1 := frozen_of_row w3 _ 1 _ _ X3;have z2 := frozen_of_row w3 _ 2 _ _ X3;have z3 := frozen_of_row w3 _ 3 _ _ X3;have hs3 := hb3.size;have hs2 := HB2.out.size;clear X3;go_wp2_with fail
 refine bodyPost_ret (by simp [results, Try.results114, go_sem, r0, r1, r2, r3]; rfl) rfl ?_;exact ⟨_, _, _, _, rfl, RepG.past4 (rep_list HR3.out) w.heap.size (by have := HS1.out; simp; omega) (fun b h => by simp at h; omega) _ _ _ _, stored4 (Below.trans HBD.out (HB3.out.mono (by have := HS1.out; omega))) w.heap.size (Nat.le_refl _) _ _ _ _⟩
end Go.Proofs.Ytbkligcfllakeaa
namespace Go.Proofs.Ytbkligcfllakeaa
open Go.RowKit
def cmpS (a b : ByteArray) : Int := if Op.bytesLess a.toList b.toList = true then -1 else if (a.toList == b.toList) = true then 0 else 1
theorem isNaN_str (s : ByteArray) (w : World) : Calls Try.prog 70 #[.string s] w fun e w' => e = .returned (.bool false) ∧ w = w' := by
 go_enter Try.func70, Try.ntmps70
 go_wp2
 go_ret
 exact ⟨by simp, rfl⟩
theorem ret_int {k : IntKind} {a b : Int} (h : a = b) : Ending.returned (.int k a) = .returned (.int k b) := by rw [h]
set_option maxRecDepth 100000 in
set_option maxHeartbeats 400000 in
theorem cmp_str (a b : ByteArray) (w : World) : Calls Try.prog 42 #[.string a, .string b] w fun e w' => e = .returned (.int .i64 (cmpS a b)) ∧ w = w' := by
 go_enter Try.func42, Try.ntmps42
 go_wp2_with (go_at_call 70; refine (isNaN_str _ _).mono ?_; rintro e w' ⟨rfl, rfl⟩)
 all_goals go_ret
 ·exact ⟨ret_int (by unfold cmpS; rw [if_pos ‹_›]), rfl⟩
 ·exact ⟨ret_int (by unfold cmpS; rw [if_neg (by simp [*]), if_neg (by simp_all)]), rfl⟩
 ·exact ⟨ret_int (by unfold cmpS; rw [if_neg (by simp [*]), if_pos (by simp_all)]), rfl⟩
mutual
def cmpV : V → V → Int
 | .mk k n s l, .mk k' n' s' l' =>
  if k ≠ k' then Lib.compareInt k k' else if k = 1 then Lib.compareInt n n' else if k = 2 ∨ k = 3 then cmpS s s' else if k = 4 then cmpL l l' else 0
def cmpL : List V → List V → Int
 | [], [] => 0
 | [], _ :: _ => -1
 | _ :: _, [] => 1
 | x :: l, y :: m => if cmpV x y ≠ 0 then cmpV x y else cmpL l m
end
theorem cmpL_at {l m : List V} {k : Nat} (hl : k < l.length) (hm : k < m.length) : cmpL (l.drop k) (m.drop k) = if cmpV l[k] m[k] ≠ 0 then cmpV l[k] m[k] else cmpL (l.drop (k + 1)) (m.drop (k + 1)) := by
 rw [List.drop_eq_getElem_cons hl, List.drop_eq_getElem_cons hm, cmpL]
theorem cmpL_end {l m : List V} {k : Nat} (hl : k ≤ l.length) (hm : k ≤ m.length) (h : ¬ (k < l.length ∧ k < m.length)) : cmpL (l.drop k) (m.drop k) = Lib.compareInt l.length m.length := by
 unfold Lib.compareInt
 by_cases e1 : k < l.length
 ·have e2 : k = m.length := by omega
  rw [List.drop_of_length_le (l := m) (by omega), List.drop_eq_getElem_cons e1, cmpL, if_neg (by omega), if_pos (by omega)]
 ·rw [List.drop_of_length_le (l := l) (by omega)]
  by_cases e2 : k < m.length
  ·rw [List.drop_eq_getElem_cons e2, cmpL, if_pos (by omega)]
  ·rw [List.drop_of_length_le (l := m) (by omega), cmpL, if_neg (by omega), if_neg (by omega)]
def CmpAt (x y : V) : Prop := ∀ (B : Nat) (w : World) (c0 c1 c2 c3 d0 d1 d2 d3 : Value), B ≤ w.heap.size → RepV B w x c0 c1 c2 c3 → RepV B w y d0 d1 d2 d3 →
 Calls Try.prog 20 #[.agg #[c0, c1, c2, c3], .agg #[d0, d1, d2, d3]] w fun e w' => e = .returned (.int .i64 (cmpV x y)) ∧ Below w.heap.size w w'
set_option maxRecDepth 100000 in
set_option maxHeartbeats 400000 in
theorem cmpLists_of (l m : List V) (hC : ∀ x, x ∈ l → ∀ y, CmpAt x y) (B : Nat) (w : World) (a b : Value) (hB : B ≤ w.heap.size) (ha : RepL B w l a) (hb : RepL B w m b) :
  Calls Try.prog 43 #[a, b] w fun e w' => e = .returned (.int .i64 (cmpL l m)) ∧ Below w.heap.size w w' := by
 obtain ⟨aa, ab, ao, ac, rfl, hal, hac, haa, hab, hax⟩ := ha;obtain ⟨ba, bb, bo, bc, rfl, hbl, hbc, hba, hbb, hbx⟩ := hb;have HC := Lib.hid hC; clear hC
 have HAX := Lib.hid hax; clear hax
 have HBX := Lib.hid hbx; clear hbx
 have HAA := Lib.hid haa; clear haa
 have HBA := Lib.hid hba; clear hba
 go_enter Try.func43, Try.ntmps43
 go_wp2_with fail
 go_loopw [12] (fun i wr => ∃ k : Nat, k ≤ l.length ∧ k ≤ m.length ∧ i = .int .i64 k ∧ Hid (cmpL l m = cmpL (l.drop k) (m.drop k)) ∧ Below w.heap.size w wr) (fun i _ => min l.length m.length - (intOf i).toNat)
 case atStart => exact ⟨0, Nat.zero_le _, Nat.zero_le _, rfl, rfl, Below.refl _ _⟩
 case round =>
  obtain ⟨k, hk1, hk2, rfl, hrec, hbel⟩ := hrel
  by_cases hlt : k < l.length ∧ k < m.length
  ·obtain ⟨hl, hm⟩ := hlt
   obtain ⟨x0, x1, x2, x3, g0, g1, g2, g3, gr⟩ := HAX.out k hl;obtain ⟨y0, y1, y2, y3, e0, e1, e2, e3, er⟩ := HBX.out k hm;have hab' : ab < B := hab (by omega);have hbb' : bb < B := hbb (by omega);obtain rfl := HAA.out (by omega);obtain rfl := HBA.out (by omega);rw [← hbel.cell (by simp; omega)] at g0 g1 g2 g3 e0 e1 e2 e3;go_wp2_with fail
   go_still_tail 8, (by kernel_rfl)
   change wpList _ _ _ _ _ wr.drew;have hbel2 : Below w.heap.size w wr.drew := hbel.drew;clear g0 g1 g2 g3 e0 e1 e2 e3 hbel;generalize wr.drew = w2 at *;have hs := hbel2.size;go_wp2_with fail
   refine (HC.out _ (List.getElem_mem hl) _ B w2 _ _ _ _ _ _ _ _ (by omega) (RepV.below (fun j hj => hbel2.block j (by omega)) _ gr) (RepV.below (fun j hj => hbel2.block j (by omega)) _ er)).mono ?_;rintro e w3 ⟨rfl, hbel3⟩;have hbel4 : Below w.heap.size w w3 := hbel2.trans (hbel3.mono hs);have hcons := cmpL_at hl hm;generalize cmpV l[k] m[k] = c at *;have HN := Lib.hid hcons; clear hcons
   by_cases hc : c = 0
   ·have hc' : (c != 0) = false := by simp [hc]
    have HCZ := Lib.hid hc; clear hc
    go_wp2_with fail
    go_roundw
    case rel => exact ⟨k + 1, by omega, by omega, by go_num, by show _ = _; rw [hrec.out, HN.out, if_neg (by simp [HCZ.out])], hbel4⟩
    case measure => simp [intOf]; omega
   ·have hc' : (c != 0) = true := by simp [hc]
    have HCZ := Lib.hid hc; clear hc
    go_wp2_with fail
    go_ret
    exact ⟨ret_int (by rw [hrec.out, HN.out, if_pos HCZ.out]), hbel4⟩
  ·have hfin : cmpL l m = Lib.compareInt l.length m.length := by rw [hrec.out]; exact cmpL_end hk1 hk2 hlt
   have HF := Lib.hid hfin; clear hfin hrec
   have hmin : ¬ (k : Int) < min (l.length : Int) (m.length : Int) := by omega
   go_wp2_with fail
   refine (Try.cmp_Compare_int _ _ _).mono ?_;rintro e w' ⟨rfl, rfl⟩;go_wp2_with fail
   go_ret
   exact ⟨ret_int HF.out.symm, hbel⟩
theorem below2 (w : World) (o1 o2 : Obj) {w' : World} (h : Below ((w.alloc o1).alloc o2).heap.size ((w.alloc o1).alloc o2) w') : Below w.heap.size w w' :=
 (((Below.refl _ w).alloc (Nat.le_refl _) o1).alloc (by simp) o2).trans (h.mono (by simp; omega))
set_option maxRecDepth 100000 in
set_option maxHeartbeats 1000000 in
theorem cmp_any (x y : V) : CmpAt x y := by
 match x, y with
 | .mk k n s l, .mk k' n' s' l' =>
 have hC : ∀ z, z ∈ l → ∀ y, CmpAt z y := fun z hz y => cmp_any z y
 have HC := Lib.hid hC; clear hC
 intro B w c0 c1 c2 c3 d0 d1 d2 d3 hB hx hy;rw [repV_mk] at hx hy;obtain ⟨rfl, rfl, rfl, hk, hn, hs, hl⟩ := hx;obtain ⟨rfl, rfl, rfl, hk', hn', hs', hl'⟩ := hy;have HL := Lib.hid hl; clear hl
 have HL' := Lib.hid hl'; clear hl'
 have hbb : Below w.heap.size w ((w.alloc (.cells #[.int .i64 k, .int .i64 n, .string s, c3] 27)).alloc (.cells #[.int .i64 k', .int .i64 n', .string s', d3] 27)) :=
  ((Below.refl _ w).alloc (Nat.le_refl _) _).alloc (by simp) _
 by_cases e : k = k'
 ·subst e
  by_cases e1 : k = 1
  ·subst e1
   go_enter Try.func20, Try.ntmps20
   go_wp2_with fail
   refine (Try.cmp_Compare_int _ _ _).mono ?_;rintro e w' ⟨rfl, rfl⟩;go_wp2_with fail
   go_ret
   exact ⟨ret_int (by simp [cmpV]), hbb⟩
  ·by_cases e2 : k = 2
   ·subst e2
    go_enter Try.func20, Try.ntmps20
    go_wp2_with fail
    refine (cmp_str _ _ _).mono ?_;rintro e w' ⟨rfl, rfl⟩;go_wp2_with fail
    go_ret
    exact ⟨ret_int (by simp [cmpV]), hbb⟩
   ·by_cases e3 : k = 3
    ·subst e3
     go_enter Try.func20, Try.ntmps20
     go_wp2_with fail
     refine (cmp_str _ _ _).mono ?_;rintro e w' ⟨rfl, rfl⟩;go_wp2_with fail
     go_ret
     exact ⟨ret_int (by simp [cmpV]), hbb⟩
    ·by_cases e4 : k = 4
     ·subst e4
      go_enter Try.func20, Try.ntmps20
      go_wp2_with fail
      refine (cmpLists_of l l' HC.out B _ _ _ (by simp; omega) (RepL.below (fun j hj => hbb.block j (by omega)) HL.out) (RepL.below (fun j hj => hbb.block j (by omega)) HL'.out)).mono ?_;rintro e w' ⟨rfl, hb⟩;have hb4 := below2 _ _ _ hb;go_wp2_with fail
      go_ret
      exact ⟨ret_int (by simp [cmpV]), hb4⟩
     ·have f1 : (k == 1) = false := by simp [e1]
      have f2 : (k == 2) = false := by simp [e2]
      have f3 : (k == 3) = false := by simp [e3]
      have f4 : (k == 4) = false := by simp [e4]
      have HF : Hid (cmpV (.mk k n s l) (.mk k n' s' l') = 0) := by show _ = _; simp [cmpV, e1, e2, e3, e4]
      clear e1 e2 e3 e4;go_enter Try.func20, Try.ntmps20
      go_wp2_with fail
      go_ret
      exact ⟨ret_int HF.out.symm, hbb⟩
 ·have f1 : (k != k') = true := by simp [e]
  have HF : Hid (cmpV (.mk k n s l) (.mk k' n' s' l') = Lib.compareInt k k') := by show _ = _; simp [cmpV, e]
  clear e;go_enter Try.func20, Try.ntmps20
  go_wp2_with fail
  refine (Try.cmp_Compare_int _ _ _).mono ?_;rintro e w' ⟨rfl, rfl⟩;go_wp2_with fail
  go_ret
  exact ⟨ret_int HF.out.symm, hbb⟩
 termination_by SizeOf.sizeOf x
 decreasing_by
  have := List.sizeOf_lt_of_mem hz;simp only [V.mk.sizeOf_spec]
  omega
end Go.Proofs.Ytbkligcfllakeaa
namespace Go.Proofs.Ytbkligcfllakeaa
open Go.RowKit
def memZ (l : List V) (y : V) : Int := if l.any (fun z => cmpV z y == 0) = true then 1 else 0
theorem memZ_nil (y : V) : memZ [] y = 0 := rfl
theorem memZ_hit {l : List V} {y : V} {k : Nat} (hk : k < l.length) (h : cmpV l[k] y = 0) : memZ (l.drop k) y = 1 := by
 rw [List.drop_eq_getElem_cons hk, memZ, if_pos (by rw [List.any_cons, h]; rfl)]
theorem memZ_miss {l : List V} {y : V} {k : Nat} (hk : k < l.length) (h : (cmpV l[k] y == 0) = false) : memZ (l.drop k) y = memZ (l.drop (k + 1)) y := by
 rw [List.drop_eq_getElem_cons hk, memZ, memZ, List.any_cons, h, Bool.false_or]
theorem memZ_range (l : List V) (y : V) : memZ l y = 0 ∨ memZ l y = 1 := by
 unfold memZ; split <;> simp
theorem num_post {W w : World} {n : Int} (hn : I64 n) (hw : Below W.heap.size W w) : DoPost (numV n) W (.returned (.agg #[.int .i64 1, .int .i64 n, .string ⟨#[]⟩, .slice none 0 0])) ((((w.setCell ⟨W.heap.size, 0, none⟩ (.int .i64 1)).setCell ⟨W.heap.size, 1, none⟩ (.int .i64 n)).setCell ⟨W.heap.size, 2, none⟩ (.string ⟨#[]⟩)).setCell ⟨W.heap.size, 3, none⟩ (.slice none 0 0)) :=
 ⟨_, _, _, _, rfl, rep_num hn, stored4 hw _ (Nat.le_refl _) _ _ _ _⟩
set_option maxRecDepth 100000 in
set_option maxHeartbeats 2000000 in
theorem member_any (x y : V) (B : Nat) (w : World) (a : Value) (hB : B ≤ w.heap.size) (ha : RepL B w [x, y] a) :
  Calls Try.prog 115 #[a] w (DoPost (numV (memZ x.list y)) w) := by
 have hb1 : Below w.heap.size w (w.alloc (.cells #[.int .i64 0, .int .i64 0, .string ⟨#[]⟩, .slice none 0 0] 27)) := (Below.refl _ w).alloc (Nat.le_refl _) _;have HX := Lib.hid (boxed_new w (.int .i64 0) (.int .i64 0) (.string ⟨#[]⟩) (.slice none 0 0));have HB1 := Lib.hid hb1;have HS := Lib.hid (World.size_alloc w (.cells #[.int .i64 0, .int .i64 0, .string ⟨#[]⟩, .slice none 0 0] 27));obtain ⟨aa, ab, ao, ac, rfl, hac, -⟩ := id ha;have ha1 : RepL B (w.alloc (.cells #[.int .i64 0, .int .i64 0, .string ⟨#[]⟩, .slice none 0 0] 27)) [x, y] (.slice aa [x, y].length ac) := RepL.below (fun j hj => hb1.block j (by omega)) ha;obtain ⟨-, hcap, b, o, fa, fc, rfl, hSb, g0, g1, g2, g3, g⟩ := RepLG.at ha1 0 (by simp);obtain ⟨-, -, b', o', fa', fc', e', -, e0, e1, e2, e3, g'⟩ := RepLG.at ha1 1 (by simp)
 cases e'
 simp only [List.getElem_cons_zero, List.getElem_cons_succ, Nat.zero_mul, Nat.one_mul, Nat.add_zero, List.length_cons, List.length_nil, Nat.zero_add, Nat.reduceAdd] at g0 g1 g2 g3 g e0 e1 e2 e3 g' hcap hac
 have GX := Lib.hid g.lst;have GY := Lib.hid g';have E0 := Lib.hid e0; have E1 := Lib.hid e1; have E2 := Lib.hid e2; have E3 := Lib.hid e3
 have hlen : x.list.length * 56 ≤ 140737488355328 := by obtain ⟨_, _, _, _, _, _, h, _⟩ := g.lst; exact h
 have hm0 := memZ_range x.list y;have HM0 := Lib.hid hm0;clear ha ha1 g g' hb1 g0 g1 g2 hm0 e0 e1 e2 e3;have HZ : Hid (memZ x.list y = memZ (x.list.drop 0) y) := rfl;generalize x.list = l at *;go_enter Try.func115, Try.ntmps115
 go_wp2_with fail
 generalize (w.alloc (.cells #[.int .i64 0, .int .i64 0, .string ⟨#[]⟩, .slice none 0 0] 27)) = w0 at *;go_loopw [10] (fun i wr => ∃ k : Nat, k ≤ l.length ∧ i = .int .i64 k ∧ Hid (memZ l y = memZ (l.drop k) y) ∧ Below w0.heap.size w0 wr) (fun i _ => l.length - (intOf i).toNat)
 case atStart => exact ⟨0, Nat.zero_le _, rfl, HZ, Below.refl _ _⟩
 case round =>
  obtain ⟨k, hk1, rfl, hrec, hbel⟩ := hrel;clear g3;have hs := hbel.size
  by_cases hl : k < l.length
  ·obtain ⟨-, -, lb, lo, la, lc, rfl, hSl, q0, q1, q2, q3, qq⟩ := RepLG.at (GX.out.on (w' := wr) (fun _ h => h) (fun j hj => hbel.block j (by have := HS.out; omega))) k hl
   have HQ := Lib.hid qq;have HN := Lib.hid (fun h => memZ_hit (l := l) (y := y) hl h);have HN2 := Lib.hid (fun h => memZ_miss (l := l) (y := y) hl h);generalize l[k] = z at *;clear qq;go_wp2_with fail
   have Z1 := boxed_new wr (.int .i64 z.kind) (.int .i64 z.num) (.string z.text) (.slice la z.list.length lc);have b1 : Below wr.heap.size wr (wr.alloc (.cells #[.int .i64 z.kind, .int .i64 z.num, .string z.text, .slice la z.list.length lc] 27)) := (Below.refl _ wr).alloc (Nat.le_refl _) _;generalize wr.alloc (.cells #[.int .i64 z.kind, .int .i64 z.num, .string z.text, .slice la z.list.length lc] 27) = w4 at *;have B4 := Lib.hid (Below.step hbel b1);have HQ4 := Lib.hid (HQ.out.on (w' := w4) (fun _ h => h) (fun j hj => b1.block j (by have := HS.out; omega)));have GY4 := Lib.hid (GY.out.on (w' := w4) (fun _ h => h) (fun j hj => B4.out.block j (by have := HS.out; omega)));obtain ⟨p0, p1, p2, p3⟩ := Z1.cells;have e0 := (B4.out.cell (p := ⟨b, o + 4, none⟩) (by have := HS.out; simp; omega)).trans E0.out;have e1 := (B4.out.cell (p := ⟨b, o + 4 + 1, none⟩) (by have := HS.out; simp; omega)).trans E1.out;have e2 := (B4.out.cell (p := ⟨b, o + 4 + 2, none⟩) (by have := HS.out; simp; omega)).trans E2.out;have e3 := (B4.out.cell (p := ⟨b, o + 4 + 3, none⟩) (by have := HS.out; simp; omega)).trans E3.out;clear q0 q1 q2 q3 Z1 b1;go_still_tail 4, (by kernel_rfl)
   change wpList _ _ _ _ _ w4.drew;have hb5 : Below w4.heap.size w4 w4.drew := Below.drew (Below.refl _ _);have B5 := Lib.hid (Below.step B4.out hb5);have HQ5 := Lib.hid (HQ4.out.on (w := w4) (w' := w4.drew) (fun _ h => h) (fun j hj => rfl));have GY5 := Lib.hid (GY4.out.on (w := w4) (w' := w4.drew) (fun _ h => h) (fun j hj => rfl));clear p0 p1 p2 p3 e0 e1 e2 e3 hb5;generalize w4.drew = w5 at *;go_wp2_with fail
   refine (cmp_any z y B _ _ _ _ _ _ _ _ _ (by have := HS.out; have := B5.out.size; omega) HQ5.out GY5.out).mono ?_;rintro e w6 ⟨rfl, hb6⟩;have B6 := Lib.hid (Below.step B5.out hb6)
   cases hc : (cmpV z y == 0) with
   | true =>
    have hc0 : cmpV z y = 0 := by simpa using hc
    have HF : Hid (memZ l y = 1) := by show _ = _; rw [hrec.out, HN.out hc0]
    rw [hc0];clear hc hc0;go_wp2_with fail
    refine (number_any _ _).mono ?_;rintro e w7 ⟨rfl, hb7⟩;have B7 := Lib.hid (Below.step B6.out hb7);have X7 := HX.out.on B7.out;obtain ⟨r0, r1, r2, r3⟩ := X7.cells;have z0 := frozen_of_row w7 _ 0 _ _ X7;have z1 := frozen_of_row w7 _ 1 _ _ X7;have z2 := frozen_of_row w7 _ 2 _ _ X7;have z3 := frozen_of_row w7 _ 3 _ _ X7;clear X7;go_wp2_with fail
    refine bodyPost_ret (v := .agg #[.int .i64 1, .int .i64 1, .string ⟨#[]⟩, .slice none 0 0]) (by simp [results, Try.results115, go_sem, r0, r1, r2, r3]) rfl ?_;rw [HF.out];exact num_post ⟨by omega, by omega⟩ (HB1.out.trans (B7.out.mono (by have := HS.out; omega)))
   | false =>
    have HF : Hid (memZ l y = memZ (l.drop (k + 1)) y) := by show _ = _; rw [hrec.out, HN2.out hc]
    go_wp2_with fail
    go_roundw
    case rel => exact ⟨k + 1, by omega, by go_num, HF, B6.out⟩
    case measure => simp [intOf]; omega
  ·have HF : Hid (memZ l y = 0) := by show _ = _; rw [hrec.out, List.drop_of_length_le (by omega), memZ_nil]
   go_wp2_with fail
   refine (number_any _ _).mono ?_;rintro e w7 ⟨rfl, hb7⟩;have B7 := Lib.hid (Below.step hbel hb7);have X7 := HX.out.on B7.out;obtain ⟨r0, r1, r2, r3⟩ := X7.cells;have z0 := frozen_of_row w7 _ 0 _ _ X7;have z1 := frozen_of_row w7 _ 1 _ _ X7;have z2 := frozen_of_row w7 _ 2 _ _ X7;have z3 := frozen_of_row w7 _ 3 _ _ X7;clear X7;go_wp2_with fail
   refine bodyPost_ret (v := .agg #[.int .i64 1, .int .i64 0, .string ⟨#[]⟩, .slice none 0 0]) (by simp [results, Try.results115, go_sem, r0, r1, r2, r3]) rfl ?_;rw [HF.out];exact num_post ⟨by omega, by omega⟩ (HB1.out.trans (B7.out.mono (by have := HS.out; omega)))
end Go.Proofs.Ytbkligcfllakeaa
