/-
  ValueTells: for every two values, number and text the law returns true: values are made, may be, come first and are printed as the document says.
-/
import Derived.Test.YtagehmcnihebdaaDoorLaw
import Derived.Test.YtagehmcnihebdaaDoorSame
import Derived.Test.YtagehmcnihebdaaDoorRefList
import Derived.Test.YtagehmcnihebdaaDoorRefCmp
import Derived.Test.YtagehmcnihebdaaDoorRefPrinted
import Derived.Deep.RegionHeld3
namespace Go.Proofs.YtagehmcnihebdaaDoor.valueTells
open Go.ChangeShapes Go.WideShapes Go.ChangeAt Go.RowKit

theorem same_self (x : V) (B : Nat) (w : World) (c0 c1 c2 c3 d0 d1 d2 d3 : Value) (hB : B ≤ w.heap.size) (h1 : RepV B w x c0 c1 c2 c3) (h2 : RepV B w x d0 d1 d2 d3) :
    Calls Tryd.prog 11 #[.agg #[c0, c1, c2, c3], .agg #[d0, d1, d2, d3]] w fun e w' => e = .returned (.bool true) ∧ Below w.heap.size w w' :=
  (same_any x x B w c0 c1 c2 c3 d0 d1 d2 d3 hB h1 h2).mono fun e w' ⟨he, hb⟩ => ⟨by rw [he, (sameV_iff x x).2 rfl], hb⟩

theorem list_rep {B : Nat} {w : World} {l : List V} {r : Value} (h : RepL B w l r) : RepV B w (.mk 4 0 ⟨#[]⟩ l) (.int .i64 4) (.int .i64 0) (.string ⟨#[]⟩) r :=
  repV_mk.2 ⟨rfl, rfl, rfl, ⟨by omega, by omega⟩, ⟨by omega, by omega⟩, by unfold maxLen; simp [ByteArray.size], h⟩

set_option maxHeartbeats 8000000 in
set_option maxRecDepth 100000 in
theorem walk (x y : V) (n : Int) (s : ByteArray) (W : World) (c0 c1 c2 c3 d0 d1 d2 d3 : Value) (htab : TabOk W) (hx : RepV W.heap.size W x c0 c1 c2 c3) (hy : RepV W.heap.size W y d0 d1 d2 d3) (hn : I64 n) (hs : s.size ≤ maxLen) (_ks : s.size ≤ 140737488351232) :
    Calls Tryd.prog 3 #[.agg #[c0, c1, c2, c3], .agg #[d0, d1, d2, d3], .int .i64 n, .string s] W fun e W' => e = .returned (.bool true) ∧ Below W.heap.size W W' := by
  have HX := Lib.hid hx; have HY := Lib.hid hy
  have HT := Lib.hid htab
  have hg := tab_lt htab
  obtain ⟨fa, fc, rfl, rfl, rfl, rfl⟩ := hx.form
  obtain ⟨ga, gc, rfl, rfl, rfl, rfl⟩ := hy.form
  clear hx hy htab
  go_enter Tryd.func3, Tryd.ntmps3
  go_wp2_with fail
  have x1 := boxed_new W (.int .i64 x.kind) (.int .i64 x.num) (.string x.text) (.slice fa x.list.length fc)
  have b1 := stands_alloc W (.cells #[.int .i64 x.kind, .int .i64 x.num, .string x.text, .slice fa x.list.length fc] 24)
  have s1 := World.size_alloc W (.cells #[.int .i64 x.kind, .int .i64 x.num, .string x.text, .slice fa x.list.length fc] 24)
  generalize W.alloc (.cells #[.int .i64 x.kind, .int .i64 x.num, .string x.text, .slice fa x.list.length fc] 24) = W1 at *
  have y2 := boxed_new W1 (.int .i64 y.kind) (.int .i64 y.num) (.string y.text) (.slice ga y.list.length gc)
  have b2 := stands_alloc W1 (.cells #[.int .i64 y.kind, .int .i64 y.num, .string y.text, .slice ga y.list.length gc] 24)
  generalize W1.alloc (.cells #[.int .i64 y.kind, .int .i64 y.num, .string y.text, .slice ga y.list.length gc] 24) = W2 at *
  rw [s1] at y2
  have X2 := x1.on b2
  have B2 := Below.step b1 b2
  clear x1 b1 b2 s1
  refine (awake_any _ (Nat.lt_of_lt_of_le hg B2.size) (HT.out.below hg B2)).mono ?_
  rintro e w4 ⟨rfl, b4⟩
  have X4 := Lib.hid (X2.on b4); have Y4 := Lib.hid (y2.on b4); have B4 := Lib.hid (Below.step B2 b4)
  clear X2 y2 B2 b4
  generalize W.heap.size = bx at X4 Y4
  obtain ⟨p0, p1, p2, p3⟩ := X4.out.cells
  go_wp2_with fail
  have hi2 : I64 2 := ⟨by omega, by omega⟩
  have hi3 : I64 3 := ⟨by omega, by omega⟩
  have HK := Lib.hid (Below.drew (Below.refl w4.heap.size w4))
  have HLX := Lib.hid ((HX.out.on B4.out (Nat.le_refl _)).lst.up B4.out.size)
  clear p0 p1 p2
  go_region_held3 (fun w' => w'.cell? ⟨bx, 3, none⟩ = some (.slice fa x.list.length fc))
    (first | exact (X4.out.on HK.out).cells.2.2.2)
    (first
      | (go_at_call 12; refine (number_any _ _).mono ?_; rintro e w' ⟨rfl, hb⟩; replace HK := Lib.hid (Below.step HK.out hb); clear hb)
      | (go_at_call 13; refine (refNumber_any _ _).mono ?_; rintro e w' ⟨rfl, hb⟩; replace HK := Lib.hid (Below.step HK.out hb); clear hb)
      | (go_at_call 14; refine (text_any _ _).mono ?_; rintro e w' ⟨rfl, hb⟩; replace HK := Lib.hid (Below.step HK.out hb); clear hb)
      | (go_at_call 15; refine (refText_any _ _).mono ?_; rintro e w' ⟨rfl, hb⟩; replace HK := Lib.hid (Below.step HK.out hb); clear hb)
      | (go_at_call 16; refine (addr_any _ _).mono ?_; rintro e w' ⟨rfl, hb⟩; replace HK := Lib.hid (Below.step HK.out hb); clear hb)
      | (go_at_call 17; refine (refAddr_any _ _).mono ?_; rintro e w' ⟨rfl, hb⟩; replace HK := Lib.hid (Below.step HK.out hb); clear hb)
      | (go_at_call 11; ((with_reducible refine (same_self (.mk 1 n ⟨#[]⟩ []) 0 _ _ _ _ _ _ _ _ _ (Nat.zero_le _) (repV_num _ _ _ hn) (repV_num _ _ _ hn)).mono ?_); rintro e w' ⟨rfl, hb⟩; replace HK := Lib.hid (Below.step HK.out hb); clear hb))
      | (go_at_call 11; ((with_reducible refine (same_self (.mk 2 0 s []) 0 _ _ _ _ _ _ _ _ _ (Nat.zero_le _) (repV_str _ _ 2 _ hi2 hs) (repV_str _ _ 2 _ hi2 hs)).mono ?_); rintro e w' ⟨rfl, hb⟩; replace HK := Lib.hid (Below.step HK.out hb); clear hb))
      | (go_at_call 11; ((with_reducible refine (same_self (.mk 3 0 s []) 0 _ _ _ _ _ _ _ _ _ (Nat.zero_le _) (repV_str _ _ 3 _ hi3 hs) (repV_str _ _ 3 _ hi3 hs)).mono ?_); rintro e w' ⟨rfl, hb⟩; replace HK := Lib.hid (Below.step HK.out hb); clear hb))
      | (go_at_call 18; refine (list_any x.list w4.heap.size _ _ HK.out.size (RepL.below (fun j hj => HK.out.block j hj) HLX.out)).mono ?_; rintro e w' ⟨r, rfl, hrl, hb⟩; obtain ⟨ra, rb, ro, rc, hr1, -⟩ := id hrl; subst hr1; replace HK := Lib.hid (Below.step HK.out hb); have HR1 := Lib.hid (list_rep (hrl.on (S' := fun b => b < w'.heap.size) (fun k hk => hk.2) (fun _ _ => rfl))); clear hb hrl)
      | (go_at_call 19; refine (refList_any x.list w4.heap.size _ _ HK.out.size (RepL.below (fun j hj => HK.out.block j hj) HLX.out)).mono ?_; rintro e w' ⟨r, rfl, hrl, hb⟩; obtain ⟨ra, rb, ro, rc, hr1, -⟩ := id hrl; subst hr1; replace HK := Lib.hid (Below.step HK.out hb); have HR2 := Lib.hid (list_rep hrl); replace HR1 := Lib.hid ((HR1.out.on hb (Nat.le_refl _)).up hb.size _); clear hb hrl)
      | (go_at_call 11; ((with_reducible refine (same_self (.mk 4 0 ⟨#[]⟩ x.list) _ _ _ _ _ _ _ _ _ _ (Nat.le_refl _) HR1.out HR2.out).mono ?_); rintro e w' ⟨rfl, hb⟩; replace HK := Lib.hid (Below.step HK.out hb); clear hb HR1 HR2)))
  obtain ⟨w5, hw5⟩ : ∃ w5 : World, w5 = w' := ⟨_, rfl⟩
  subst hw5
  have B5 := Lib.hid (Below.step B4.out HK.out)
  have X5 := Lib.hid (X4.out.on HK.out)
  have Y5 := Lib.hid (Y4.out.on HK.out)
  clear HK HLX X4 Y4
  have HRX := Lib.hid ((HX.out.on B5.out (Nat.le_refl _)).up B5.out.size _)
  have HRY := Lib.hid ((HY.out.on B5.out (Nat.le_refl _)).up B5.out.size _)
  have HT5 := Lib.hid (HT.out.below hg B5.out)
  have hg5 : 0 < w5.heap.size := Nat.lt_of_lt_of_le hg B5.out.size
  clear p3
  obtain ⟨p0, p1, p2, p3⟩ := X5.out.cells
  obtain ⟨q0, q1, q2, q3⟩ := Y5.out.cells
  go_wp2_with fail
  have HK := Lib.hid (Below.drew (Below.refl w5.heap.size w5))
  go_region_held3 (fun w' => w'.cell? ⟨bx, 0, none⟩ = some (.int .i64 x.kind) ∧ w'.cell? ⟨bx, 1, none⟩ = some (.int .i64 x.num) ∧ w'.cell? ⟨bx, 2, none⟩ = some (.string x.text) ∧ w'.cell? ⟨bx, 3, none⟩ = some (.slice fa x.list.length fc) ∧
      w'.cell? ⟨bx + 1, 0, none⟩ = some (.int .i64 y.kind) ∧ w'.cell? ⟨bx + 1, 1, none⟩ = some (.int .i64 y.num) ∧ w'.cell? ⟨bx + 1, 2, none⟩ = some (.string y.text) ∧ w'.cell? ⟨bx + 1, 3, none⟩ = some (.slice ga y.list.length gc))
    (first | exact ⟨(X5.out.on HK.out).cells.1, (X5.out.on HK.out).cells.2.1, (X5.out.on HK.out).cells.2.2.1, (X5.out.on HK.out).cells.2.2.2, (Y5.out.on HK.out).cells.1, (Y5.out.on HK.out).cells.2.1, (Y5.out.on HK.out).cells.2.2.1, (Y5.out.on HK.out).cells.2.2.2⟩)
    (first
      | (go_at_call 20; refine (name_any _ _ hs).mono ?_; rintro e w' ⟨rfl, hb⟩; replace HK := Lib.hid (Below.step HK.out hb); clear hb)
      | (go_at_call 21; refine (refName_any _ _ hs).mono ?_; rintro e w' ⟨rfl, rfl⟩)
      | (go_at_call 22; refine (right_any x w5.heap.size _ _ _ _ _ HK.out.size (HRX.out.on HK.out (Nat.le_refl _))).mono ?_; rintro e w' ⟨rfl, hb⟩; replace HK := Lib.hid (Below.step HK.out hb); clear hb)
      | (go_at_call 23; refine (refRight_any x w5.heap.size _ _ _ _ _ HK.out.size (HRX.out.on HK.out (Nat.le_refl _))).mono ?_; rintro e w' ⟨rfl, hb⟩; replace HK := Lib.hid (Below.step HK.out hb); clear hb)
      | (go_at_call 24; refine (cmp_any x y w5.heap.size _ _ _ _ _ _ _ _ _ HK.out.size (HRX.out.on HK.out (Nat.le_refl _)) (HRY.out.on HK.out (Nat.le_refl _))).mono ?_; rintro e w' ⟨rfl, hb⟩; replace HK := Lib.hid (Below.step HK.out hb); clear hb)
      | (go_at_call 25; refine (refCmp_any x y w5.heap.size _ _ _ _ _ _ _ _ _ HK.out.size (HRX.out.on HK.out (Nat.le_refl _)) (HRY.out.on HK.out (Nat.le_refl _))).mono ?_; rintro e w' ⟨rfl, hb⟩; replace HK := Lib.hid (Below.step HK.out hb); clear hb)
      | (go_at_call 26; refine (print_any x w5.heap.size _ _ _ _ _ HK.out.size (Nat.lt_of_lt_of_le hg5 HK.out.size) (HT5.out.below hg5 HK.out) (HRX.out.on HK.out (Nat.le_refl _))).mono ?_; rintro e w' ⟨rfl, hb⟩; replace HK := Lib.hid (Below.step HK.out hb); clear hb)
      | (go_at_call 27; refine (refPrint_any x w5.heap.size _ _ _ _ _ HK.out.size (HRX.out.on HK.out (Nat.le_refl _))).mono ?_; rintro e w' ⟨rfl, hb⟩; replace HK := Lib.hid (Below.step HK.out hb); clear hb))
  go_wp2_with fail
  go_ret
  exact ⟨rfl, Below.step B5.out HK.out⟩

end Go.Proofs.YtagehmcnihebdaaDoor.valueTells
