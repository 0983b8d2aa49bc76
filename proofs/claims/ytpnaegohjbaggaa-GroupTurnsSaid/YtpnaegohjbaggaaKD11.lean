/-
  GrBut, GrClos, RoSortQ
-/
import Derived.Test.YtpnaegohjbaggaaKD10
import Derived.Test.YtpnaegohjbaggaaKD02
import Derived.Test.YtpnaegohjbaggaaKD06
namespace Go.Proofs.Ytpnaegohjbaggaa
open Go.RowKit
def cmpBut (n : Nat) (x y : Ro) : Int := orZ [cmpS x.name y.name, cmpL (x.args.take n) (y.args.take n), cmpL (x.args.drop (n + 1)) (y.args.drop (n + 1))]
theorem orZ_three (a b c : Int) : orZ [a, b, c] = if a ≠ 0 then a else if b ≠ 0 then b else c := by
 rw [orZ]; split
 ·rfl
 ·exact orZ_two b c
theorem ord_cmpL : IsOrd cmpL := fun a b c => by
 have h := ord_lex cmpV a (fun x _ y z => ord_value x y z) b c;have e : (lex cmpV : List V → List V → Int) = cmpL := by funext l m; exact (cmpL_lex l m).symm
 rw [e] at h; exact h
theorem ord_cmpBut (n : Nat) : IsOrd (cmpBut n) := by
 have h : IsOrd (fun x y : Ro => if cmpS x.name y.name ≠ 0 then cmpS x.name y.name else if cmpL (x.args.take n) (y.args.take n) ≠ 0 then cmpL (x.args.take n) (y.args.take n) else cmpL (x.args.drop (n + 1)) (y.args.drop (n + 1))) :=
  ord_or (ord_on (fun a b c => ord_bytes a b c) Ro.name) (ord_or (ord_on ord_cmpL fun x : Ro => x.args.take n) (ord_on ord_cmpL fun x : Ro => x.args.drop (n + 1)))
 have e : cmpBut n = (fun x y : Ro => if cmpS x.name y.name ≠ 0 then cmpS x.name y.name else if cmpL (x.args.take n) (y.args.take n) ≠ 0 then cmpL (x.args.take n) (y.args.take n) else cmpL (x.args.drop (n + 1)) (y.args.drop (n + 1))) := by
  funext x y; exact orZ_three _ _ _
 rw [e]; exact h
theorem or3_any (a b c : Int) (w : World) :
  Calls Try.prog 75 #[.slice (some ⟨w.heap.size, 0, none⟩) 3 3] (w.alloc (.cells #[.int .i64 a, .int .i64 b, .int .i64 c] 3)) fun e w' => e = .returned (.int .i64 (orZ [a, b, c])) ∧ w' = w.alloc (.cells #[.int .i64 a, .int .i64 b, .int .i64 c] 3) := by
 have hm := alloc_new' w (.cells #[.int .i64 a, .int .i64 b, .int .i64 c] 3);refine (or_any [a, b, c] w.heap.size _ (by simp) (fun j h => ?_)).mono ?_
 ·match j, h with
  | 0, _ => exact cell_of_block' (i := 0) hm _ rfl
  | 1, _ => exact cell_of_block' (i := 1) hm _ rfl
  | 2, _ => exact cell_of_block' (i := 2) hm _ rfl
 ·rintro e w' ⟨rfl, rfl⟩
  exact ⟨rfl, rfl⟩
theorem drop_all {S : Nat → Prop} {w : World} {l : List V} {b o k : Nat} (h : l.length ≤ k) : RepLG S w (l.drop k) (.slice (some ⟨b, o, none⟩) (l.length - k) 0) := by
 have e : l.drop k = [] := List.drop_of_length_le h;rw [e, show l.length - k = 0 by omega];exact lg_of_slg ⟨_, b, 0, 0, rfl, Nat.le_refl _, by simp, fun h => by omega, fun h => by simp at h, fun i hi => by simp at hi⟩
set_option maxRecDepth 100000 in
set_option maxHeartbeats 4000000 in
theorem cmpBut_any (n : Nat) (x y : Ro) (S : Nat → Prop) (w : World) (xv yv : Value) (hS : ∀ k, S k → k < w.heap.size) (hx : RepRo S w x (.string x.name) xv (.int .i64 x.stamp)) (hy : RepRo S w y (.string y.name) yv (.int .i64 y.stamp)) (hnx : n < x.args.length) (hny : n < y.args.length) :
  Calls Try.prog 64 #[.int .i64 (n : Int), .agg #[.string x.name, xv, .int .i64 x.stamp], .agg #[.string y.name, yv, .int .i64 y.stamp]] w fun e w' => e = .returned (.int .i64 (cmpBut n x y)) ∧ Onto w w' := by
 have h63 : x.args.length * 56 ≤ 140737488355328 := SlG.bytes (slg_of_lg hx.2.2.1);have h64 : y.args.length * 56 ≤ 140737488355328 := SlG.bytes (slg_of_lg hy.2.2.1);obtain ⟨xa, xc, -, rfl, -⟩ := hx.form;obtain ⟨ya, yc, -, rfl, -⟩ := hy.form;have hlx := slg_of_lg hx.2.2.1;have hly := slg_of_lg hy.2.2.1;obtain ⟨-, hcx, xb, xo, rfl, -⟩ := SlG.at hlx n hnx;obtain ⟨-, hcy, yb, yo, rfl, -⟩ := SlG.at hly n hny;have HTX0 := Lib.hid (lg_of_slg (SlG.front hlx (k := n) (by omega)));have HTY0 := Lib.hid (lg_of_slg (SlG.front hly (k := n) (by omega)));have HNX0 := Lib.hid (lg_of_slg (SlG.behind hlx (k := n + 1) (by omega) (by omega)));have HNY0 := Lib.hid (lg_of_slg (SlG.behind hly (k := n + 1) (by omega) (by omega)));have HS := Lib.hid hS;have HLX := Lib.hid hcx; have HLY := Lib.hid hcy
 have k1 : (0 : Int) ≤ (n : Int) := Int.natCast_nonneg n;have k2 : (n : Int) ≤ (x.args.length : Int) := by omega
 have k3 : (n : Int) ≤ (y.args.length : Int) := by omega
 have k4 : (n : Int) ≤ (xc : Int) := by omega
 have k5 : (n : Int) ≤ (yc : Int) := by omega
 have k6 : (n : Int) + 1 ≤ (x.args.length : Int) := by omega
 have k7 : (n : Int) + 1 ≤ (y.args.length : Int) := by omega
 have k8 : (0 : Int) ≤ (n : Int) + 1 := by omega
 have k9 : (x.args.length : Int) ≤ (xc : Int) := by omega
 have k10 : (y.args.length : Int) ≤ (yc : Int) := by omega
 have hwr : IntKind.i64.wrap ((n : Int) + 1) = (n : Int) + 1 := by simp [IntKind.wrap, IntKind.bits, IntKind.signed]; omega
 have c1 : ¬ xc = 0 := by omega
 have c2 : ¬ yc = 0 := by omega
 have c3 : ¬ (xc : Int) = 0 := by omega
 have c4 : ¬ (yc : Int) = 0 := by omega
 have e1 : (n : Int) ≤ (n : Int) + 1 := by omega
 have e2 : n ≤ n + 1 := Nat.le_succ n;have e3 : ¬ (n : Int) + 1 = 0 := by omega
 have n1 : n ≤ x.args.length := by omega
 have n2 : n ≤ y.args.length := by omega
 have n3 : n ≤ xc := by omega
 have n4 : n ≤ yc := by omega
 have n5 : n + 1 ≤ x.args.length := hnx;have n6 : n + 1 ≤ y.args.length := hny;clear hx hy hS hlx hly;go_enter Try.func64, Try.ntmps64
 go_upto_region 1 with fail
 obtain ⟨w2, hw2, m0, m1, ho⟩ := boxed2 w (.cells #[.string x.name, .slice (some ⟨xb, xo, none⟩) x.args.length xc, .int .i64 x.stamp] 47) (.cells #[.string y.name, .slice (some ⟨yb, yo, none⟩) y.args.length yc, .int .i64 y.stamp] 47);rw [hw2];have HO := Lib.hid ho;have hb0 : w.heap.size < w2.heap.size := (Array.getElem?_eq_some_iff.1 m0).1;have hb1' : w.heap.size + 1 < w2.heap.size := (Array.getElem?_eq_some_iff.1 m1).1;clear hw2 ho;obtain ⟨b1, hb1⟩ : ∃ b1, w.heap.size + 1 = b1 := ⟨_, rfl⟩;obtain ⟨b0, hbz⟩ : ∃ b0, w.heap.size = b0 := ⟨_, rfl⟩;rw [hb1] at m1 hb1' ⊢;rw [hbz] at m0 hb0 ⊢;have HWB := Lib.hid hbz;clear hb1 hbz;have p0 : w2.drew.cell? ⟨b0, 0, none⟩ = some (.string x.name) := cell_of_block' (i := 0) m0 _ rfl;have p1 : w2.drew.cell? ⟨b0, 1, none⟩ = some (.slice (some ⟨xb, xo, none⟩) x.args.length xc) := cell_of_block' (i := 1) m0 _ rfl;have p2 : w2.drew.cell? ⟨b0, 2, none⟩ = some (.int .i64 x.stamp) := cell_of_block' (i := 2) m0 _ rfl;have q0 : w2.drew.cell? ⟨b1, 0, none⟩ = some (.string y.name) := cell_of_block' (i := 0) m1 _ rfl;have q1 : w2.drew.cell? ⟨b1, 1, none⟩ = some (.slice (some ⟨yb, yo, none⟩) y.args.length yc) := cell_of_block' (i := 1) m1 _ rfl;have q2 : w2.drew.cell? ⟨b1, 2, none⟩ = some (.int .i64 y.stamp) := cell_of_block' (i := 2) m1 _ rfl;have HB : Hid (b0 < w2.drew.heap.size ∧ b1 < w2.drew.heap.size) := ⟨hb0, hb1'⟩;have HOD : Hid (Onto w w2.drew) := HO.out.drew;have HSD : Hid (∀ k, S k → k < w2.drew.heap.size) := fun k hk => Nat.lt_of_lt_of_le (HS.out k hk) HO.out.below.size
 have hkp : ∀ k, S k → w2.drew.heap[k]? = w.heap[k]? := fun k hk => HO.out.below.block k (HS.out k hk)
 have HTX : Hid (RepLG S w2.drew (x.args.take n) (.slice (some ⟨xb, xo, none⟩) n xc)) := RepLG.on (fun _ h => h) hkp HTX0.out;have HTY : Hid (RepLG S w2.drew (y.args.take n) (.slice (some ⟨yb, yo, none⟩) n yc)) := RepLG.on (fun _ h => h) hkp HTY0.out;have HNX : Hid (RepLG S w2.drew (x.args.drop (n + 1)) (.slice (some ⟨xb, xo + (n + 1) * 4, none⟩) (x.args.length - (n + 1)) (xc - (n + 1)))) := RepLG.on (fun _ h => h) hkp HNX0.out;have HNY : Hid (RepLG S w2.drew (y.args.drop (n + 1)) (.slice (some ⟨yb, yo + (n + 1) * 4, none⟩) (y.args.length - (n + 1)) (yc - (n + 1)))) := RepLG.on (fun _ h => h) hkp HNY0.out;clear m0 m1 hb0 hb1' HS HO HTX0 HTY0 HNX0 HNY0 hkp hcx hcy hnx hny
 by_cases cx : xc = n + 1
 ·by_cases cy : yc = n + 1
  ·subst cx
   subst cy;have HDX : Hid (RepLG S w2.drew (x.args.drop (n + 1)) (.slice (some ⟨xb, xo, none⟩) (x.args.length - (n + 1)) 0)) := drop_all (by have := HLX.out; omega);have HDY : Hid (RepLG S w2.drew (y.args.drop (n + 1)) (.slice (some ⟨yb, yo, none⟩) (y.args.length - (n + 1)) 0)) := drop_all (by have := HLY.out; omega)
   have HF2 : Hid (∀ w3, Onto w2.drew w3 → Calls Try.prog 68 #[.slice (some ⟨xb, xo, none⟩) (x.args.length - (n + 1)) 0, .slice (some ⟨yb, yo, none⟩) (y.args.length - (n + 1)) 0, .func (.func 20) #[] #[]] w3 fun e w' => e = .returned (.int .i64 (cmpL (x.args.drop (n + 1)) (y.args.drop (n + 1)))) ∧ Onto w3 w') :=
    fun w3 ho => cmpFunc_any (x.args.drop (n + 1)) (y.args.drop (n + 1)) S w3 _ _ (fun k hk => Nat.lt_of_lt_of_le (HSD.out k hk) ho.below.size) (RepLG.on (fun _ h => h) (fun k hk => ho.below.block k (HSD.out k hk)) HDX.out) (RepLG.on (fun _ h => h) (fun k hk => ho.below.block k (HSD.out k hk)) HDY.out)
   go_region_held3 (fun w' => w'.cell? ⟨b0, 0, none⟩ = some (.string x.name) ∧ w'.cell? ⟨b0, 1, none⟩ = some (.slice (some ⟨xb, xo, none⟩) x.args.length (n + 1)) ∧ w'.cell? ⟨b0, 2, none⟩ = some (.int .i64 x.stamp) ∧ w'.cell? ⟨b1, 0, none⟩ = some (.string y.name) ∧ w'.cell? ⟨b1, 1, none⟩ = some (.slice (some ⟨yb, yo, none⟩) y.args.length (n + 1)) ∧ w'.cell? ⟨b1, 2, none⟩ = some (.int .i64 y.stamp))
    (first | (with_reducible exact ⟨p0, p1, p2, q0, q1, q2⟩) | (with_reducible exact ⟨((ho).below.cell (p := ⟨b0, 0, none⟩) HB.out.1).trans p0, ((ho).below.cell (p := ⟨b0, 1, none⟩) HB.out.1).trans p1, ((ho).below.cell (p := ⟨b0, 2, none⟩) HB.out.1).trans p2, ((ho).below.cell (p := ⟨b1, 0, none⟩) HB.out.2).trans q0, ((ho).below.cell (p := ⟨b1, 1, none⟩) HB.out.2).trans q1, ((ho).below.cell (p := ⟨b1, 2, none⟩) HB.out.2).trans q2⟩) | (with_reducible exact ⟨((ho.trans ho2).below.cell (p := ⟨b0, 0, none⟩) HB.out.1).trans p0, ((ho.trans ho2).below.cell (p := ⟨b0, 1, none⟩) HB.out.1).trans p1, ((ho.trans ho2).below.cell (p := ⟨b0, 2, none⟩) HB.out.1).trans p2, ((ho.trans ho2).below.cell (p := ⟨b1, 0, none⟩) HB.out.2).trans q0, ((ho.trans ho2).below.cell (p := ⟨b1, 1, none⟩) HB.out.2).trans q1, ((ho.trans ho2).below.cell (p := ⟨b1, 2, none⟩) HB.out.2).trans q2⟩) | (with_reducible exact ⟨(((ho.trans ho2).alloc _).below.cell (p := ⟨b0, 0, none⟩) HB.out.1).trans p0, (((ho.trans ho2).alloc _).below.cell (p := ⟨b0, 1, none⟩) HB.out.1).trans p1, (((ho.trans ho2).alloc _).below.cell (p := ⟨b0, 2, none⟩) HB.out.1).trans p2, (((ho.trans ho2).alloc _).below.cell (p := ⟨b1, 0, none⟩) HB.out.2).trans q0, (((ho.trans ho2).alloc _).below.cell (p := ⟨b1, 1, none⟩) HB.out.2).trans q1, (((ho.trans ho2).alloc _).below.cell (p := ⟨b1, 2, none⟩) HB.out.2).trans q2⟩))
    (first | (go_at_call 42; refine (cmp_str x.name y.name _).mono ?_; rintro e w' ⟨rfl, rfl⟩) | (go_at_call 68; refine (HF2.out _ ho).mono ?_; rintro e w4 ⟨rfl, ho2⟩) | (go_at_call 68; refine (cmpFunc_any (x.args.take n) (y.args.take n) S w2.drew _ _ HSD.out HTX.out HTY.out).mono ?_; rintro e w3 ⟨rfl, ho⟩) | (go_at_call 75; refine (or3_any _ _ _ _).mono ?_; rintro e w' ⟨rfl, rfl⟩))
   go_wp2_with fail
   go_ret
   exact ⟨ret_int rfl, HOD.out.trans ((ho.trans ho2).alloc _)⟩
  ·subst cx

   have HDX : Hid (RepLG S w2.drew (x.args.drop (n + 1)) (.slice (some ⟨xb, xo, none⟩) (x.args.length - (n + 1)) 0)) := drop_all (by have := HLX.out; omega);have HDY : Hid (RepLG S w2.drew (y.args.drop (n + 1)) (.slice (some ⟨yb, yo + (n + 1) * 4, none⟩) (y.args.length - (n + 1)) (yc - (n + 1)))) := HNY.out
   have HF2 : Hid (∀ w3, Onto w2.drew w3 → Calls Try.prog 68 #[.slice (some ⟨xb, xo, none⟩) (x.args.length - (n + 1)) 0, .slice (some ⟨yb, yo + (n + 1) * 4, none⟩) (y.args.length - (n + 1)) (yc - (n + 1)), .func (.func 20) #[] #[]] w3 fun e w' => e = .returned (.int .i64 (cmpL (x.args.drop (n + 1)) (y.args.drop (n + 1)))) ∧ Onto w3 w') :=
    fun w3 ho => cmpFunc_any (x.args.drop (n + 1)) (y.args.drop (n + 1)) S w3 _ _ (fun k hk => Nat.lt_of_lt_of_le (HSD.out k hk) ho.below.size) (RepLG.on (fun _ h => h) (fun k hk => ho.below.block k (HSD.out k hk)) HDX.out) (RepLG.on (fun _ h => h) (fun k hk => ho.below.block k (HSD.out k hk)) HDY.out)
   go_region_held3 (fun w' => w'.cell? ⟨b0, 0, none⟩ = some (.string x.name) ∧ w'.cell? ⟨b0, 1, none⟩ = some (.slice (some ⟨xb, xo, none⟩) x.args.length (n + 1)) ∧ w'.cell? ⟨b0, 2, none⟩ = some (.int .i64 x.stamp) ∧ w'.cell? ⟨b1, 0, none⟩ = some (.string y.name) ∧ w'.cell? ⟨b1, 1, none⟩ = some (.slice (some ⟨yb, yo, none⟩) y.args.length yc) ∧ w'.cell? ⟨b1, 2, none⟩ = some (.int .i64 y.stamp))
    (first | (with_reducible exact ⟨p0, p1, p2, q0, q1, q2⟩) | (with_reducible exact ⟨((ho).below.cell (p := ⟨b0, 0, none⟩) HB.out.1).trans p0, ((ho).below.cell (p := ⟨b0, 1, none⟩) HB.out.1).trans p1, ((ho).below.cell (p := ⟨b0, 2, none⟩) HB.out.1).trans p2, ((ho).below.cell (p := ⟨b1, 0, none⟩) HB.out.2).trans q0, ((ho).below.cell (p := ⟨b1, 1, none⟩) HB.out.2).trans q1, ((ho).below.cell (p := ⟨b1, 2, none⟩) HB.out.2).trans q2⟩) | (with_reducible exact ⟨((ho.trans ho2).below.cell (p := ⟨b0, 0, none⟩) HB.out.1).trans p0, ((ho.trans ho2).below.cell (p := ⟨b0, 1, none⟩) HB.out.1).trans p1, ((ho.trans ho2).below.cell (p := ⟨b0, 2, none⟩) HB.out.1).trans p2, ((ho.trans ho2).below.cell (p := ⟨b1, 0, none⟩) HB.out.2).trans q0, ((ho.trans ho2).below.cell (p := ⟨b1, 1, none⟩) HB.out.2).trans q1, ((ho.trans ho2).below.cell (p := ⟨b1, 2, none⟩) HB.out.2).trans q2⟩) | (with_reducible exact ⟨(((ho.trans ho2).alloc _).below.cell (p := ⟨b0, 0, none⟩) HB.out.1).trans p0, (((ho.trans ho2).alloc _).below.cell (p := ⟨b0, 1, none⟩) HB.out.1).trans p1, (((ho.trans ho2).alloc _).below.cell (p := ⟨b0, 2, none⟩) HB.out.1).trans p2, (((ho.trans ho2).alloc _).below.cell (p := ⟨b1, 0, none⟩) HB.out.2).trans q0, (((ho.trans ho2).alloc _).below.cell (p := ⟨b1, 1, none⟩) HB.out.2).trans q1, (((ho.trans ho2).alloc _).below.cell (p := ⟨b1, 2, none⟩) HB.out.2).trans q2⟩))
    (first | (go_at_call 42; refine (cmp_str x.name y.name _).mono ?_; rintro e w' ⟨rfl, rfl⟩) | (go_at_call 68; refine (HF2.out _ ho).mono ?_; rintro e w4 ⟨rfl, ho2⟩) | (go_at_call 68; refine (cmpFunc_any (x.args.take n) (y.args.take n) S w2.drew _ _ HSD.out HTX.out HTY.out).mono ?_; rintro e w3 ⟨rfl, ho⟩) | (go_at_call 75; refine (or3_any _ _ _ _).mono ?_; rintro e w' ⟨rfl, rfl⟩))
   go_wp2_with fail
   go_ret
   exact ⟨ret_int rfl, HOD.out.trans ((ho.trans ho2).alloc _)⟩
 ·by_cases cy : yc = n + 1
  ·subst cy
   have HDX : Hid (RepLG S w2.drew (x.args.drop (n + 1)) (.slice (some ⟨xb, xo + (n + 1) * 4, none⟩) (x.args.length - (n + 1)) (xc - (n + 1)))) := HNX.out;have HDY : Hid (RepLG S w2.drew (y.args.drop (n + 1)) (.slice (some ⟨yb, yo, none⟩) (y.args.length - (n + 1)) 0)) := drop_all (by have := HLY.out; omega)
   have HF2 : Hid (∀ w3, Onto w2.drew w3 → Calls Try.prog 68 #[.slice (some ⟨xb, xo + (n + 1) * 4, none⟩) (x.args.length - (n + 1)) (xc - (n + 1)), .slice (some ⟨yb, yo, none⟩) (y.args.length - (n + 1)) 0, .func (.func 20) #[] #[]] w3 fun e w' => e = .returned (.int .i64 (cmpL (x.args.drop (n + 1)) (y.args.drop (n + 1)))) ∧ Onto w3 w') :=
    fun w3 ho => cmpFunc_any (x.args.drop (n + 1)) (y.args.drop (n + 1)) S w3 _ _ (fun k hk => Nat.lt_of_lt_of_le (HSD.out k hk) ho.below.size) (RepLG.on (fun _ h => h) (fun k hk => ho.below.block k (HSD.out k hk)) HDX.out) (RepLG.on (fun _ h => h) (fun k hk => ho.below.block k (HSD.out k hk)) HDY.out)
   go_region_held3 (fun w' => w'.cell? ⟨b0, 0, none⟩ = some (.string x.name) ∧ w'.cell? ⟨b0, 1, none⟩ = some (.slice (some ⟨xb, xo, none⟩) x.args.length xc) ∧ w'.cell? ⟨b0, 2, none⟩ = some (.int .i64 x.stamp) ∧ w'.cell? ⟨b1, 0, none⟩ = some (.string y.name) ∧ w'.cell? ⟨b1, 1, none⟩ = some (.slice (some ⟨yb, yo, none⟩) y.args.length (n + 1)) ∧ w'.cell? ⟨b1, 2, none⟩ = some (.int .i64 y.stamp))
    (first | (with_reducible exact ⟨p0, p1, p2, q0, q1, q2⟩) | (with_reducible exact ⟨((ho).below.cell (p := ⟨b0, 0, none⟩) HB.out.1).trans p0, ((ho).below.cell (p := ⟨b0, 1, none⟩) HB.out.1).trans p1, ((ho).below.cell (p := ⟨b0, 2, none⟩) HB.out.1).trans p2, ((ho).below.cell (p := ⟨b1, 0, none⟩) HB.out.2).trans q0, ((ho).below.cell (p := ⟨b1, 1, none⟩) HB.out.2).trans q1, ((ho).below.cell (p := ⟨b1, 2, none⟩) HB.out.2).trans q2⟩) | (with_reducible exact ⟨((ho.trans ho2).below.cell (p := ⟨b0, 0, none⟩) HB.out.1).trans p0, ((ho.trans ho2).below.cell (p := ⟨b0, 1, none⟩) HB.out.1).trans p1, ((ho.trans ho2).below.cell (p := ⟨b0, 2, none⟩) HB.out.1).trans p2, ((ho.trans ho2).below.cell (p := ⟨b1, 0, none⟩) HB.out.2).trans q0, ((ho.trans ho2).below.cell (p := ⟨b1, 1, none⟩) HB.out.2).trans q1, ((ho.trans ho2).below.cell (p := ⟨b1, 2, none⟩) HB.out.2).trans q2⟩) | (with_reducible exact ⟨(((ho.trans ho2).alloc _).below.cell (p := ⟨b0, 0, none⟩) HB.out.1).trans p0, (((ho.trans ho2).alloc _).below.cell (p := ⟨b0, 1, none⟩) HB.out.1).trans p1, (((ho.trans ho2).alloc _).below.cell (p := ⟨b0, 2, none⟩) HB.out.1).trans p2, (((ho.trans ho2).alloc _).below.cell (p := ⟨b1, 0, none⟩) HB.out.2).trans q0, (((ho.trans ho2).alloc _).below.cell (p := ⟨b1, 1, none⟩) HB.out.2).trans q1, (((ho.trans ho2).alloc _).below.cell (p := ⟨b1, 2, none⟩) HB.out.2).trans q2⟩))
    (first | (go_at_call 42; refine (cmp_str x.name y.name _).mono ?_; rintro e w' ⟨rfl, rfl⟩) | (go_at_call 68; refine (HF2.out _ ho).mono ?_; rintro e w4 ⟨rfl, ho2⟩) | (go_at_call 68; refine (cmpFunc_any (x.args.take n) (y.args.take n) S w2.drew _ _ HSD.out HTX.out HTY.out).mono ?_; rintro e w3 ⟨rfl, ho⟩) | (go_at_call 75; refine (or3_any _ _ _ _).mono ?_; rintro e w' ⟨rfl, rfl⟩))
   go_wp2_with fail
   go_ret
   exact ⟨ret_int rfl, HOD.out.trans ((ho.trans ho2).alloc _)⟩
  ·have HDX : Hid (RepLG S w2.drew (x.args.drop (n + 1)) (.slice (some ⟨xb, xo + (n + 1) * 4, none⟩) (x.args.length - (n + 1)) (xc - (n + 1)))) := HNX.out
   have HDY : Hid (RepLG S w2.drew (y.args.drop (n + 1)) (.slice (some ⟨yb, yo + (n + 1) * 4, none⟩) (y.args.length - (n + 1)) (yc - (n + 1)))) := HNY.out
   have HF2 : Hid (∀ w3, Onto w2.drew w3 → Calls Try.prog 68 #[.slice (some ⟨xb, xo + (n + 1) * 4, none⟩) (x.args.length - (n + 1)) (xc - (n + 1)), .slice (some ⟨yb, yo + (n + 1) * 4, none⟩) (y.args.length - (n + 1)) (yc - (n + 1)), .func (.func 20) #[] #[]] w3 fun e w' => e = .returned (.int .i64 (cmpL (x.args.drop (n + 1)) (y.args.drop (n + 1)))) ∧ Onto w3 w') :=
    fun w3 ho => cmpFunc_any (x.args.drop (n + 1)) (y.args.drop (n + 1)) S w3 _ _ (fun k hk => Nat.lt_of_lt_of_le (HSD.out k hk) ho.below.size) (RepLG.on (fun _ h => h) (fun k hk => ho.below.block k (HSD.out k hk)) HDX.out) (RepLG.on (fun _ h => h) (fun k hk => ho.below.block k (HSD.out k hk)) HDY.out)
   go_region_held3 (fun w' => w'.cell? ⟨b0, 0, none⟩ = some (.string x.name) ∧ w'.cell? ⟨b0, 1, none⟩ = some (.slice (some ⟨xb, xo, none⟩) x.args.length xc) ∧ w'.cell? ⟨b0, 2, none⟩ = some (.int .i64 x.stamp) ∧ w'.cell? ⟨b1, 0, none⟩ = some (.string y.name) ∧ w'.cell? ⟨b1, 1, none⟩ = some (.slice (some ⟨yb, yo, none⟩) y.args.length yc) ∧ w'.cell? ⟨b1, 2, none⟩ = some (.int .i64 y.stamp))
    (first | (with_reducible exact ⟨p0, p1, p2, q0, q1, q2⟩) | (with_reducible exact ⟨((ho).below.cell (p := ⟨b0, 0, none⟩) HB.out.1).trans p0, ((ho).below.cell (p := ⟨b0, 1, none⟩) HB.out.1).trans p1, ((ho).below.cell (p := ⟨b0, 2, none⟩) HB.out.1).trans p2, ((ho).below.cell (p := ⟨b1, 0, none⟩) HB.out.2).trans q0, ((ho).below.cell (p := ⟨b1, 1, none⟩) HB.out.2).trans q1, ((ho).below.cell (p := ⟨b1, 2, none⟩) HB.out.2).trans q2⟩) | (with_reducible exact ⟨((ho.trans ho2).below.cell (p := ⟨b0, 0, none⟩) HB.out.1).trans p0, ((ho.trans ho2).below.cell (p := ⟨b0, 1, none⟩) HB.out.1).trans p1, ((ho.trans ho2).below.cell (p := ⟨b0, 2, none⟩) HB.out.1).trans p2, ((ho.trans ho2).below.cell (p := ⟨b1, 0, none⟩) HB.out.2).trans q0, ((ho.trans ho2).below.cell (p := ⟨b1, 1, none⟩) HB.out.2).trans q1, ((ho.trans ho2).below.cell (p := ⟨b1, 2, none⟩) HB.out.2).trans q2⟩) | (with_reducible exact ⟨(((ho.trans ho2).alloc _).below.cell (p := ⟨b0, 0, none⟩) HB.out.1).trans p0, (((ho.trans ho2).alloc _).below.cell (p := ⟨b0, 1, none⟩) HB.out.1).trans p1, (((ho.trans ho2).alloc _).below.cell (p := ⟨b0, 2, none⟩) HB.out.1).trans p2, (((ho.trans ho2).alloc _).below.cell (p := ⟨b1, 0, none⟩) HB.out.2).trans q0, (((ho.trans ho2).alloc _).below.cell (p := ⟨b1, 1, none⟩) HB.out.2).trans q1, (((ho.trans ho2).alloc _).below.cell (p := ⟨b1, 2, none⟩) HB.out.2).trans q2⟩))
    (first | (go_at_call 42; refine (cmp_str x.name y.name _).mono ?_; rintro e w' ⟨rfl, rfl⟩) | (go_at_call 68; refine (HF2.out _ ho).mono ?_; rintro e w4 ⟨rfl, ho2⟩) | (go_at_call 68; refine (cmpFunc_any (x.args.take n) (y.args.take n) S w2.drew _ _ HSD.out HTX.out HTY.out).mono ?_; rintro e w3 ⟨rfl, ho⟩) | (go_at_call 75; refine (or3_any _ _ _ _).mono ?_; rintro e w' ⟨rfl, rfl⟩))
   go_wp2_with fail
   go_ret
   exact ⟨ret_int rfl, HOD.out.trans ((ho.trans ho2).alloc _)⟩
end Go.Proofs.Ytpnaegohjbaggaa
namespace Go.Proofs.Ytpnaegohjbaggaa
open Go.RowKit
theorem cell_lt {w : World} {b o : Nat} {v : Value} (h : w.cell? ⟨b, o, none⟩ = some v) : b < w.heap.size := by
 rcases Nat.lt_or_ge b w.heap.size with h' | h'
 ·exact h'
 ·simp [World.cell?, Array.getElem?_eq_none h'] at h
set_option maxRecDepth 100000 in
set_option maxHeartbeats 2000000 in
theorem bySet_any (n ab : Nat) (x y : Ro) (S : Nat → Prop) (w : World) (xv yv : Value) (hS : ∀ k, S k → k < w.heap.size) (hab : w.cell? ⟨ab, 0, none⟩ = some (.int .i64 (n : Int)))
  (hx : RepRo S w x (.string x.name) xv (.int .i64 x.stamp)) (hy : RepRo S w y (.string y.name) yv (.int .i64 y.stamp)) (hnx : n < x.args.length) (hny : n < y.args.length) :
  Calls Try.prog 63 (#[.agg #[.string x.name, xv, .int .i64 x.stamp], .agg #[.string y.name, yv, .int .i64 y.stamp]] ++ #[.pointer (some ⟨ab, 0, none⟩)]) w fun e w' => e = .returned (.int .i64 (cmpBut n x y)) ∧ Onto w w' := by
 have HX := Lib.hid hx; have HY := Lib.hid hy; have HS := Lib.hid hS
 have HA := Lib.hid hab;have HAL := Lib.hid (cell_lt hab);clear hx hy hS hab;go_enter Try.func63, Try.ntmps63
 go_upto_region 1 with fail
 obtain ⟨w2, hw2, m0, m1, ho⟩ := boxed2 w (.cells #[.string x.name, xv, .int .i64 x.stamp] 47) (.cells #[.string y.name, yv, .int .i64 y.stamp] 47);rw [hw2];have HO := Lib.hid ho;have a0 := (ho.below.cell (p := ⟨ab, 0, none⟩) HAL.out).trans HA.out;clear hw2 ho;obtain ⟨b1, hb1⟩ : ∃ b1, w.heap.size + 1 = b1 := ⟨_, rfl⟩;rw [hb1] at m1 ⊢;clear hb1;have p0 := cell_of_block' (i := 0) m0 _ rfl;have p1 := cell_of_block' (i := 1) m0 _ rfl;have p2 := cell_of_block' (i := 2) m0 _ rfl;have q0 := cell_of_block' (i := 0) m1 _ rfl;have q1 := cell_of_block' (i := 1) m1 _ rfl;have q2 := cell_of_block' (i := 2) m1 _ rfl;clear m0 m1;go_wp2_with fail
 refine (cmpBut_any n x y S w2 _ _ (fun k hk => Nat.lt_of_lt_of_le (HS.out k hk) HO.out.below.size) (RepRo.on (fun _ h => h) (fun k hk => HO.out.below.block k (HS.out k hk)) HX.out) (RepRo.on (fun _ h => h) (fun k hk => HO.out.below.block k (HS.out k hk)) HY.out) hnx hny).mono ?_;rintro e w3 ⟨rfl, ho⟩;have HO3 := Lib.hid (HO.out.trans ho);clear ho p0 p1 p2 q0 q1 q2;go_wp2_with fail
 go_ret
 exact ⟨rfl, HO3.out⟩
set_option maxRecDepth 100000 in
set_option maxHeartbeats 2000000 in
theorem unlike_any (n ab rb blk o len cap : Nat) (y x : Cel) (S : Nat → Prop) (w : World) (hS : ∀ k, S k → k < w.heap.size) (hab : w.cell? ⟨ab, 0, none⟩ = some (.int .i64 (n : Int))) (hrb : w.cell? ⟨rb, 0, none⟩ = some (.slice (some ⟨blk, o * 3, none⟩) len cap)) (hlen : 0 < len)
  (hrow : HasRow w blk o y) (hx : RepRo S w x.1 (.string x.1.name) x.2 (.int .i64 x.1.stamp)) (hy : RepRo S w y.1 (.string y.1.name) y.2 (.int .i64 y.1.stamp)) (hnx : n < x.1.args.length) (hny : n < y.1.args.length) :
  Calls Try.prog 65 (#[rowArg x] ++ #[.pointer (some ⟨ab, 0, none⟩), .pointer (some ⟨rb, 0, none⟩)]) w fun e w' => e = .returned (.bool (cmpBut n y.1 x.1 != 0)) ∧ Onto w w' := by
 have HX := Lib.hid hx; have HY := Lib.hid hy; have HS := Lib.hid hS
 have hk1 : (0 : Int) < (len : Int) := by omega
 have hbb := cell_lt hrow.1;have hal := cell_lt hab;have hrl := cell_lt hrb;have hb := below_alloc w (.cells #[.string x.1.name, x.2, .int .i64 x.1.stamp] 47);have hm := alloc_new' w (.cells #[.string x.1.name, x.2, .int .i64 x.1.stamp] 47);have HO : Hid (Onto w (w.alloc (.cells #[.string x.1.name, x.2, .int .i64 x.1.stamp] 47))) := (Onto.refl w).alloc _;have a0 := (hb.cell (p := ⟨ab, 0, none⟩) hal).trans hab;have r0 := (hb.cell (p := ⟨rb, 0, none⟩) hrl).trans hrb;obtain ⟨y0, y1, y2⟩ := hrow.on hbb hb;unfold rowArg;clear hx hy hS hab hrb hrow hbb hal hrl hb;go_enter Try.func65, Try.ntmps65
 go_upto_region 1 with fail
 obtain ⟨b1, hb1⟩ : ∃ b1, w.heap.size = b1 := ⟨_, rfl⟩;rw [hb1] at hm ⊢;clear hb1;generalize w.alloc (.cells #[.string x.1.name, x.2, .int .i64 x.1.stamp] 47) = w2 at *;have x0 : w2.drew.cell? ⟨b1, 0, none⟩ = some (.string x.1.name) := cell_of_block' (i := 0) hm _ rfl;have x1 : w2.drew.cell? ⟨b1, 1, none⟩ = some x.2 := cell_of_block' (i := 1) hm _ rfl;have x2 : w2.drew.cell? ⟨b1, 2, none⟩ = some (.int .i64 x.1.stamp) := cell_of_block' (i := 2) hm _ rfl;replace a0 : w2.drew.cell? ⟨ab, 0, none⟩ = some (.int .i64 (n : Int)) := a0;replace r0 : w2.drew.cell? ⟨rb, 0, none⟩ = some (.slice (some ⟨blk, o * 3, none⟩) len cap) := r0;replace y0 : w2.drew.cell? ⟨blk, o * 3, none⟩ = some (.string y.1.name) := y0;replace y1 : w2.drew.cell? ⟨blk, o * 3 + 1, none⟩ = some y.2 := y1;replace y2 : w2.drew.cell? ⟨blk, o * 3 + 2, none⟩ = some (.int .i64 y.1.stamp) := y2;have HB : Hid (b1 < w2.drew.heap.size ∧ ab < w2.drew.heap.size ∧ rb < w2.drew.heap.size ∧ blk < w2.drew.heap.size) := ⟨cell_lt x0, cell_lt a0, cell_lt r0, cell_lt y0⟩;have HSD : Hid (∀ k, S k → k < w2.drew.heap.size) := fun k hk => Nat.lt_of_lt_of_le (HS.out k hk) HO.out.below.size
 have HXD : Hid (RepRo S w2.drew x.1 (.string x.1.name) x.2 (.int .i64 x.1.stamp)) := RepRo.on (w' := w2.drew) (fun _ h => h) (fun k hk => HO.out.below.block k (HS.out k hk)) HX.out;have HYD : Hid (RepRo S w2.drew y.1 (.string y.1.name) y.2 (.int .i64 y.1.stamp)) := RepRo.on (w' := w2.drew) (fun _ h => h) (fun k hk => HO.out.below.block k (HS.out k hk)) HY.out;have HOD : Hid (Onto w w2.drew) := HO.out.drew;obtain ⟨c, hc⟩ : ∃ c, cmpBut n y.1 x.1 = c := ⟨_, rfl⟩;have HC := Lib.hid hc;clear hm HX HY HS HO hc
 go_region_held3 (fun w' => w'.cell? ⟨b1, 0, none⟩ = some (.string x.1.name) ∧ w'.cell? ⟨b1, 1, none⟩ = some x.2 ∧ w'.cell? ⟨b1, 2, none⟩ = some (.int .i64 x.1.stamp) ∧ w'.cell? ⟨ab, 0, none⟩ = some (.int .i64 (n : Int)) ∧ w'.cell? ⟨rb, 0, none⟩ = some (.slice (some ⟨blk, o * 3, none⟩) len cap) ∧ w'.cell? ⟨blk, o * 3, none⟩ = some (.string y.1.name) ∧ w'.cell? ⟨blk, o * 3 + 1, none⟩ = some y.2 ∧ w'.cell? ⟨blk, o * 3 + 2, none⟩ = some (.int .i64 y.1.stamp))
  (first | (with_reducible exact ⟨x0, x1, x2, a0, r0, y0, y1, y2⟩) | (with_reducible exact ⟨(ho.below.cell (p := ⟨b1, 0, none⟩) HB.out.1).trans x0, (ho.below.cell (p := ⟨b1, 1, none⟩) HB.out.1).trans x1, (ho.below.cell (p := ⟨b1, 2, none⟩) HB.out.1).trans x2, (ho.below.cell (p := ⟨ab, 0, none⟩) HB.out.2.1).trans a0, (ho.below.cell (p := ⟨rb, 0, none⟩) HB.out.2.2.1).trans r0, (ho.below.cell (p := ⟨blk, o * 3, none⟩) HB.out.2.2.2).trans y0, (ho.below.cell (p := ⟨blk, o * 3 + 1, none⟩) HB.out.2.2.2).trans y1, (ho.below.cell (p := ⟨blk, o * 3 + 2, none⟩) HB.out.2.2.2).trans y2⟩))
  (first | (go_at_call 64; refine (cmpBut_any n y.1 x.1 S _ _ _ HSD.out HYD.out HXD.out hny hnx).mono ?_; rintro e w3 ⟨he, ho⟩; rw [HC.out] at he; subst he))
 go_wp2_with fail
 go_ret
 exact ⟨by rw [HC.out] <;> rfl, HOD.out.trans ho⟩
end Go.Proofs.Ytpnaegohjbaggaa
namespace Go.Proofs.Ytpnaegohjbaggaa
open Go.RowKit Go.Sort
set_option maxHeartbeats 1000000 in
theorem sortRowQ_any (Q : Cel → Prop) (L : List Cel) (hQ : ∀ x ∈ L, Q x) (hne : L ≠ []) (cf : Ro → Ro → Int) (hO : IsOrd cf) (g : Nat) (cb : Array Value) (blk cap : Nat) (cur : Array Value) (w : World) (S : Nat → Prop)
  (eg : ∀ args w, (callFunc g args).run Try.prog w = .ok (.enter g args) w)
  (hcur : w.heap[blk]? = some (.cells cur 47 (0, 0))) (hat : CelAt cur L) (hn : L.length < 4611686018427387904)
  (hS : ∀ k, S k → k < w.heap.size ∧ k ≠ blk) (hrep : ∀ x ∈ L, RepRo S w x.1 (.string x.1.name) x.2 (.int .i64 x.1.stamp))
  (hclo : ∀ (x y : Cel) (W : World), Beside blk w W → RepRo S W x.1 (.string x.1.name) x.2 (.int .i64 x.1.stamp) → RepRo S W y.1 (.string y.1.name) y.2 (.int .i64 y.1.stamp) → Q x → Q y →
   Calls Try.prog g (#[.agg #[.string x.1.name, x.2, .int .i64 x.1.stamp], .agg #[.string y.1.name, y.2, .int .i64 y.1.stamp]] ++ cb) W fun e W' => e = .returned (.int .i64 (cf x.1 y.1)) ∧ Onto W W') :
  Calls Try.prog 39 #[.slice (some ⟨blk, 0, none⟩) L.length cap, .func (.func g) #[] cb] w fun e w' =>
   e = .returned (.tuple #[]) ∧ ∃ (L' : List Cel) (cur' : Array Value), L'.Perm L ∧ L'.Pairwise (fun a b => ¬ cf b.1 a.1 < 0) ∧ w'.heap[blk]? = some (.cells cur' 47 (0, 0)) ∧ cur'.size = cur.size ∧ CelAt cur' L' ∧ Beside blk w w' := by
 let P : Cel → Prop := fun x => RepRo S w x.1 (.string x.1.name) x.2 (.int .i64 x.1.stamp) ∧ Q x
 have hrepP : ∀ x ∈ L, P x := fun x hx => ⟨hrep x hx, hQ x hx⟩
 haveI : Inhabited {x // P x} := ⟨⟨L.head hne, hrepP _ (List.head_mem hne)⟩⟩
 let enc : {x // P x} → List Value := fun x => celOf x.1
 let d : Array {x // P x} := (L.attachWith P hrepP).toArray
 have hd : d.size = L.length := by simp [d]
 have hdi : ∀ i (h : i < L.length), d[i]! = ⟨L[i], hrepP _ (List.getElem_mem h)⟩ := fun i h => by
  rw [getElem!_pos d i (by omega)]; simp [d]
 have hblk : blk < w.heap.size := (Array.getElem?_eq_some_iff.1 hcur).1
 have hbes : ∀ (n : Nat) (os : Array Obj) (dk : Array {x // P x}), Beside blk w (sortWorldK enc 3 w blk 0 n dk os) := fun n os dk => by
  refine ⟨rfl, rfl, rfl, by unfold sortWorldK putRowK; simp [Sort.putRow, Sort.mapBlock, Sort.ahead, Sort.grow], fun k hk hne => ?_⟩;unfold sortWorldK putRowK;rw [heap_grow_old _ _ (by simpa [Sort.putRow, Sort.mapBlock, Sort.ahead] using hk)];simp [Sort.putRow, Sort.mapBlock, Sort.ahead, Array.getElem?_modify, Ne.symm hne]
 have hH : HoldsK enc 3 w blk 0 d := by
  intro t ht;rw [size_flatK, hd] at ht;have h1 : t / 3 < L.length := by omega
  rw [get_flatK _ _ _ _ (by omega), hdi _ h1, Nat.zero_add];refine ⟨?_, by simp [World.frozen?, hcur]⟩;have h2 := hat.2 (t / 3) h1 (t % 3) (by omega);rw [show t / 3 * 3 + t % 3 = t by omega] at h2
  show w.cell? ⟨blk, t, none⟩ = some ((celOf L[t / 3])[t % 3]!)
  have h3 : t % 3 < (celOf L[t / 3]).length := by rw [celOf_len]; omega
  rw [getElem!_pos (celOf L[t / 3]) (t % 3) h3];rw [List.getElem?_eq_getElem h3] at h2;exact cell_of_block' hcur _ h2
 have hcl : CmpLays Try.prog g cb enc 3 (fun x y => cf x.1.1 y.1.1) blk 0 d.size w := fun m os dk _ x y => by
  have hb := hbes m os dk;refine (hclo x.1 y.1 _ hb (RepRo.on (fun _ h => h) (fun k hk => hb.block k (hS k hk).1 (hS k hk).2) x.2.1) (RepRo.on (fun _ h => h) (fun k hk => hb.block k (hS k hk).1 (hS k hk).2) y.2.1) x.2.2 y.2.2).mono ?_;rintro e w' ⟨he, ho⟩;exact ⟨he, ho.grow⟩
 have h := AnyQ.slices_SortFunc Try.sortRow 3 Try.isAgg47 Try.sizeOf47 enc (fun _ => rfl) (fun x v hv => by
  obtain ⟨fa, fc, -, e, -⟩ := x.2.1.form;simp only [enc, celOf, List.mem_cons, List.not_mem_nil, or_false] at hv
  rcases hv with rfl | rfl | rfl
  ·rfl
  ·rw [e]; rfl
  ·rfl) (fun x y => cf x.1.1 y.1.1) (ord_swo (ord_on hO (fun x : {x // P x} => x.1.1))) g cb blk 0 cap d w eg hcl hH hblk (by omega)
 rw [hd] at h;refine Calls.mono h ?_;rintro e w' ⟨he, d', n, os, ⟨hps, -, hperm⟩, hsort, rfl⟩;replace hps := hps.trans hd;have hext : ∀ a : Array {x // P x}, a.size = L.length → (a.extract 0 L.length).toList = a.toList := fun a ha => by rw [← ha, Array.extract_size]
 rw [hext d' hps, hext d hd] at hperm;have hL' : (d'.toList.map (·.1)).length = L.length := by simp [hps]
 refine ⟨he, d'.toList.map (·.1), Sort.putCells id 0 (flatK enc 3 d') cur, ?_, ?_, ?_, ?_, ?_, hbes n os d'⟩
 ·have h1 := hperm.map (·.1)
  have h2 : d.toList.map (·.1) = L := by
   apply List.ext_getElem?
   intro i
   by_cases hi : i < L.length
   ·rw [List.getElem?_map, List.getElem?_eq_getElem (by simp; omega), List.getElem?_eq_getElem hi]
    simp [d]
   ·rw [List.getElem?_eq_none (by simp; omega), List.getElem?_eq_none (by omega)]
  rw [h2] at h1;exact h1
 ·rw [List.pairwise_iff_getElem]
  intro i j hi hj hij;have h1 := hsort i j (Nat.zero_le _) hij (by omega);rw [getElem!_pos d' i (by omega), getElem!_pos d' j (by omega)] at h1
  simpa [ltOf] using h1
 ·unfold sortWorldK putRowK
  rw [heap_grow_old _ _ (by simpa [Sort.putRow, Sort.mapBlock, Sort.ahead] using hblk)];simp [Sort.putRow, Sort.mapBlock, Sort.ahead, Array.getElem?_modify, hcur, Sort.onCells]
 ·simp [Sort.putCells]
 ·refine ⟨by rw [hL']; simp [Sort.putCells]; exact hat.1, fun j hj t ht => ?_⟩
  rw [hL'] at hj;have hc := hat.1;have h1 : j * 3 + t < (flatK enc 3 d').size := by rw [size_flatK, hps]; omega
  have h2 : j * 3 + t < cur.size := by omega
  simp only [Sort.putCells, Array.getElem?_mapIdx]
  rw [Array.getElem?_eq_getElem h2];simp only [Option.map_some, Nat.zero_le, Nat.zero_add, true_and, Nat.sub_zero]
  rw [if_pos h1, get_flatK _ _ _ _ (by rw [size_flatK] at h1; exact h1), div3 j t ht, mod3 j t ht, getElem!_pos d' j (by omega)];have h3 : t < (celOf d'[j].1).length := by rw [celOf_len]; exact ht
  show some (id ((celOf d'[j].1)[t]!)) = _
  rw [getElem!_pos (celOf d'[j].1) t h3, id, ← List.getElem?_eq_getElem h3];simp
end Go.Proofs.Ytpnaegohjbaggaa
