/-
  GrTell, GrThere
-/
import Derived.Test.YtpnaegohjbaggaaKD12
namespace Go.Proofs.Ytpnaegohjbaggaa
open Go.RowKit
def minC (cf : Cel → Cel → Int) : Cel → List Cel → Cel
 | m, [] => m
 | m, y :: l => minC cf (if cf y m < 0 then y else m) l
theorem minC_app (cf : Cel → Cel → Int) (y : Cel) : ∀ (l : List Cel) (m : Cel), minC cf m (l ++ [y]) = if cf y (minC cf m l) < 0 then y else minC cf m l
 | [], m => rfl
 | z :: l, m => by rw [List.cons_append, minC, minC, minC_app cf y l]
theorem minC_snoc (cf : Cel → Cel → Int) (x : Cel) (l : List Cel) (i : Nat) (h : i < l.length) : minC cf x (l.take (i + 1)) = if cf l[i] (minC cf x (l.take i)) < 0 then l[i] else minC cf x (l.take i) := by
 rw [List.take_succ_eq_append_getElem h, minC_app]
def maxC (cf : Cel → Cel → Int) : Cel → List Cel → Cel
 | m, [] => m
 | m, y :: l => maxC cf (if cf y m > 0 then y else m) l
theorem maxC_app (cf : Cel → Cel → Int) (y : Cel) : ∀ (l : List Cel) (m : Cel), maxC cf m (l ++ [y]) = if cf y (maxC cf m l) > 0 then y else maxC cf m l
 | [], m => rfl
 | z :: l, m => by rw [List.cons_append, maxC, maxC, maxC_app cf y l]
theorem maxC_snoc (cf : Cel → Cel → Int) (x : Cel) (l : List Cel) (i : Nat) (h : i < l.length) : maxC cf x (l.take (i + 1)) = if cf l[i] (maxC cf x (l.take i)) > 0 then l[i] else maxC cf x (l.take i) := by
 rw [List.take_succ_eq_append_getElem h, maxC_app]
def MinInv (y : Cel) (l : List Cel) (x : Cel) (w : World) (mb rb : Nat) (wr : World) : Prop :=
 y ∈ x :: l ∧ (∃ a m c, y.2 = .slice a m c ∧ wr.heap[mb]? = some (.cells #[.string y.1.name, .slice a m c, .int .i64 y.1.stamp] 47 (0, 0))) ∧ wr.heap[rb]? = some (.cells #[.string ⟨#[]⟩, .slice none 0 0, .int .i64 0] 47 (0, 0)) ∧ Below w.heap.size w wr
set_option maxRecDepth 100000 in
set_option maxHeartbeats 4000000 in
theorem min_any (x : Cel) (l : List Cel) (cf : Cel → Cel → Int) (blk o cap g : Nat) (cb : Array Value) (w : World) (h63 : l.length + 1 ≤ 140737488355328) (hen : ∀ args w, Sem.run Try.prog (callFunc g args) w = .ok (.enter g args) w)
  (hrow : ∀ j (h : j < (x :: l).length), HasRow w blk (o + j) (x :: l)[j]) (hblk : blk < w.heap.size) (hform : ∀ y ∈ x :: l, ∃ a m c, y.2 = .slice a m c)
  (hclo : ∀ y ∈ x :: l, ∀ z ∈ x :: l, ∀ (W : World), Below w.heap.size w W → Calls Try.prog g (#[rowArg y, rowArg z] ++ cb) W fun e W' => e = .returned (.int .i64 (cf y z)) ∧ Onto W W') :
  Calls Try.prog 58 #[.slice (some ⟨blk, o * 3, none⟩) (l.length + 1) cap, .func (.func g) #[] cb] w fun e w' => e = .returned (rowArg (minC cf x l)) ∧ Below w.heap.size w w' := by
 have HR := Lib.hid hrow; have HB := Lib.hid hblk; have HC := Lib.hid hclo; have HF := Lib.hid hform
 have hx := hrow 0 (by simp);obtain ⟨xa, xm, xc, hx2⟩ := hform x (by simp);rw [Nat.add_zero] at hx;obtain ⟨p0, p1, p2⟩ := hx;simp only [List.getElem_cons_zero] at p0 p1 p2
 rw [hx2] at p1;have d0 := below_alloc w (.cells #[.string ⟨#[]⟩, .slice none 0 0, .int .i64 0] 47);have k0 : decide (((l.length + 1 : Nat) : Int) < 1) = false := decide_eq_false (by omega);have k0' : decide ((l.length : Int) + 1 < 1) = false := decide_eq_false (by omega);have k1 : (0 : Int) < (l.length : Int) + 1 := by omega
 have k2 : (0 : Int) < ((l.length + 1 : Nat) : Int) := by omega
 replace p0 := (d0.cell (p := ⟨blk, o * 3, none⟩) HB.out).trans p0;replace p1 := (d0.cell (p := ⟨blk, o * 3 + 1, none⟩) HB.out).trans p1;replace p2 := (d0.cell (p := ⟨blk, o * 3 + 2, none⟩) HB.out).trans p2;have m0 := alloc_new' w (.cells #[.string ⟨#[]⟩, .slice none 0 0, .int .i64 0] 47);have D0 := Lib.hid d0;clear hrow hblk hclo hform d0;go_enter Try.func58, Try.ntmps58
 go_upto_region 1 with fail
 obtain ⟨rb, hrb⟩ : ∃ b, w.heap.size = b := ⟨_, rfl⟩;rw [hrb] at m0 ⊢;have HRB := Lib.hid hrb;clear hrb;generalize w.alloc (.cells #[.string ⟨#[]⟩, .slice none 0 0, .int .i64 0] 47) = w1 at *;have M0 := Lib.hid m0;have hl1 : rb < w1.heap.size := (Array.getElem?_eq_some_iff.1 m0).1;clear m0;have d1 := below_alloc w1 (.cells #[.string x.1.name, .slice xa xm xc, .int .i64 x.1.stamp] 47);have m1 := alloc_new' w1 (.cells #[.string x.1.name, .slice xa xm xc, .int .i64 x.1.stamp] 47);have M0' : Hid ((w1.alloc (.cells #[.string x.1.name, .slice xa xm xc, .int .i64 x.1.stamp] 47)).heap[rb]? = _) := (d1.block rb hl1).trans M0.out;have HW : Hid (Below w.heap.size w (w1.alloc (.cells #[.string x.1.name, .slice xa xm xc, .int .i64 x.1.stamp] 47))) := Below.step D0.out d1;have HRL : Hid (rb < w1.heap.size ∧ w.heap.size = rb) := ⟨hl1, HRB.out⟩;clear d1 hl1;go_upto_region 5 with fail
 obtain ⟨mb, hmb⟩ : ∃ b, w1.heap.size = b := ⟨_, rfl⟩;rw [hmb] at m1 HRL ⊢;clear hmb p0 p1 p2;generalize w1.alloc (.cells #[.string x.1.name, .slice xa xm xc, .int .i64 x.1.stamp] 47) = w2 at *;have M1 : Hid (w2.heap[mb]? = some (.cells #[.string x.1.name, .slice xa xm xc, .int .i64 x.1.stamp] 47 (0, 0))) := m1;have HX2 := Lib.hid hx2;have HML : Hid (mb < w2.heap.size) := (Array.getElem?_eq_some_iff.1 m1).1;clear m1 hx2 k0 k0' k1 k2;go_loopw [6] (fun iv wr => ∃ (i : Nat), i ≤ l.length ∧ iv = .int .i64 ((i : Int) + 1) ∧ Hid (MinInv (minC cf x (l.take i)) l x w mb rb wr)) (fun iv _ => l.length + 1 - (intOf iv).toNat)
 case atStart => exact ⟨0, Nat.zero_le _, rfl, (⟨(by simp : x ∈ x :: l), ⟨xa, xm, xc, HX2.out, M1.out⟩, M0'.out, HW.out⟩ : MinInv _ l x w mb rb w2)⟩
 case round =>
  obtain ⟨i, hi, rfl, hinv⟩ := hrel;obtain ⟨hmem, ⟨ya, ym, yc, hy2, hmb⟩, hrb, hbw⟩ := hinv.out
  by_cases hlt : i < l.length
  ·have k1 : decide ((i : Int) + 1 < (l.length : Int) + 1) = true := decide_eq_true (by omega)
   have k2 : decide ((i : Int) < (l.length : Int)) = true := decide_eq_true (by omega);have k3 : (0 : Int) ≤ (i : Int) + 1 := by omega
   have k4 : (i : Int) + 1 < (l.length : Int) + 1 := by omega
   have k4' : (i : Int) < (l.length : Int) := by omega
   have hz := HR.out (i + 1) (by simp; omega);simp only [List.getElem_cons_succ] at hz
   have hzm : l[i] ∈ x :: l := List.mem_cons_of_mem _ (List.getElem_mem hlt);obtain ⟨za, zm, zc, hz2⟩ := HF.out l[i] hzm;have hbl := Nat.lt_of_lt_of_le HB.out hbw.size;obtain ⟨e0, e1, e2⟩ := hz.on HB.out hbw;rw [show (o + (i + 1)) * 3 = o * 3 + (i + 1) * 3 by omega] at e0 e1 e2;rw [hz2] at e1;have hcl := HC.out l[i] hzm _ hmem wr.drew (Below.drew hbw);have hst : minC cf x (l.take (i + 1)) = if cf l[i] (minC cf x (l.take i)) < 0 then l[i] else minC cf x (l.take i) := minC_snoc cf x l i hlt
   have HST := Lib.hid hst;unfold rowArg at hcl;rw [hz2, hy2] at hcl;have HCL := Lib.hid hcl;have HLT := Lib.hid hlt; have HZM := Lib.hid hzm; have HZ2 := Lib.hid hz2; have HY2 := Lib.hid hy2; have HYM := Lib.hid hmem; have HBW := Lib.hid hbw; have HMB := Lib.hid hmb; have HRBB := Lib.hid hrb
   have k5 : decide (i < l.length) = true := decide_eq_true hlt;clear hz hcl hst hzm hz2 hy2 hmem hinv hi;generalize l[i] = z at *;clear hlt;generalize minC cf x (l.take i) = y at *;have q0 : wr.drew.cell? ⟨mb, 0, none⟩ = some (.string y.1.name) := cell_of_block' (i := 0) hmb _ rfl;have q1 : wr.drew.cell? ⟨mb, 1, none⟩ = some (.slice ya ym yc) := cell_of_block' (i := 1) hmb _ rfl;have q2 : wr.drew.cell? ⟨mb, 2, none⟩ = some (.int .i64 y.1.stamp) := cell_of_block' (i := 2) hmb _ rfl;replace e0 : wr.drew.cell? ⟨blk, o * 3 + (i + 1) * 3, none⟩ = some (.string z.1.name) := e0;replace e1 : wr.drew.cell? ⟨blk, o * 3 + (i + 1) * 3 + 1, none⟩ = some (.slice za zm zc) := e1;replace e2 : wr.drew.cell? ⟨blk, o * 3 + (i + 1) * 3 + 2, none⟩ = some (.int .i64 z.1.stamp) := e2;have HL : Hid (blk < wr.drew.heap.size ∧ mb < wr.drew.heap.size) := ⟨hbl, (Array.getElem?_eq_some_iff.1 hmb).1⟩;clear hmb hrb hbw hbl;obtain ⟨c, hc⟩ : ∃ c, cf z y = c := ⟨_, rfl⟩;rw [hc] at HCL HST;obtain ⟨d, hd⟩ : ∃ d, decide (c < 0) = d := ⟨_, rfl⟩;have HD := Lib.hid hd;clear hc;go_upto_region 7 with fail
   cases d
   all_goals
    go_region_held3 (fun w' => w'.cell? ⟨blk, o * 3 + (i + 1) * 3, none⟩ = some (.string z.1.name) ∧ w'.cell? ⟨blk, o * 3 + (i + 1) * 3 + 1, none⟩ = some (.slice za zm zc) ∧ w'.cell? ⟨blk, o * 3 + (i + 1) * 3 + 2, none⟩ = some (.int .i64 z.1.stamp) ∧ w'.cell? ⟨mb, 0, none⟩ = some (.string y.1.name) ∧ w'.cell? ⟨mb, 1, none⟩ = some (.slice ya ym yc) ∧ w'.cell? ⟨mb, 2, none⟩ = some (.int .i64 y.1.stamp))
     (first | (with_reducible exact ⟨e0, e1, e2, q0, q1, q2⟩) | (with_reducible exact ⟨(ho.below.cell (p := ⟨blk, o * 3 + (i + 1) * 3, none⟩) HL.out.1).trans e0, (ho.below.cell (p := ⟨blk, o * 3 + (i + 1) * 3 + 1, none⟩) HL.out.1).trans e1, (ho.below.cell (p := ⟨blk, o * 3 + (i + 1) * 3 + 2, none⟩) HL.out.1).trans e2, (ho.below.cell (p := ⟨mb, 0, none⟩) HL.out.2).trans q0, (ho.below.cell (p := ⟨mb, 1, none⟩) HL.out.2).trans q1, (ho.below.cell (p := ⟨mb, 2, none⟩) HL.out.2).trans q2⟩))
     (first | (go_at_fn g; refine HCL.out.mono ?_; rintro e w3 ⟨rfl, ho⟩))
   ·have HO : Hid (Onto wr w3) := ((Onto.refl wr).drew).trans ho
    clear ho e0 e1 e2 q0 q1 q2;go_wp2_with fail
    go_roundw
    case rel => exact ⟨i + 1, HLT.out, by go_num, by
     show MinInv (minC cf x (l.take (i + 1))) l x w mb rb w3
     rw [HST.out, if_neg (of_decide_eq_false HD.out)]
     exact ⟨HYM.out, ⟨ya, ym, yc, HY2.out, (HO.out.below.block mb HL.out.2).trans HMB.out⟩, (HO.out.below.block rb (Array.getElem?_eq_some_iff.1 HRBB.out).1).trans HRBB.out, Below.step HBW.out HO.out.below⟩⟩
    case measure => have := HLT.out; simp [intOf]; omega
   ·have HO : Hid (Onto wr w3) := ((Onto.refl wr).drew).trans ho
    have M3 : Hid (w3.heap[mb]? = some (.cells #[.string y.1.name, .slice ya ym yc, .int .i64 y.1.stamp] 47 (0, 0))) := (HO.out.below.block mb HL.out.2).trans HMB.out;have R3 : Hid (w3.heap[rb]? = some (.cells #[.string ⟨#[]⟩, .slice none 0 0, .int .i64 0] 47 (0, 0))) := (HO.out.below.block rb (Array.getElem?_eq_some_iff.1 HRBB.out).1).trans HRBB.out;replace e0 := (ho.below.cell (p := ⟨blk, o * 3 + (i + 1) * 3, none⟩) HL.out.1).trans e0;replace e1 := (ho.below.cell (p := ⟨blk, o * 3 + (i + 1) * 3 + 1, none⟩) HL.out.1).trans e1;replace e2 := (ho.below.cell (p := ⟨blk, o * 3 + (i + 1) * 3 + 2, none⟩) HL.out.1).trans e2;replace q0 := cell_of_block' (i := 0) M3.out _ rfl;replace q1 := cell_of_block' (i := 1) M3.out _ rfl;replace q2 := cell_of_block' (i := 2) M3.out _ rfl;have z0 := frozen_of_row w3 mb 0 _ _ M3.out;have z1 := frozen_of_row w3 mb 1 _ _ M3.out;have z2 := frozen_of_row w3 mb 2 _ _ M3.out;clear ho;go_wp2_with fail
    obtain ⟨wz, hwz⟩ : ∃ z', ((w3.setCell ⟨mb, 0, none⟩ (.string z.1.name)).setCell ⟨mb, 1, none⟩ (.slice za zm zc)).setCell ⟨mb, 2, none⟩ (.int .i64 z.1.stamp) = z' := ⟨_, rfl⟩;rw [hwz];have hpz : wz = putCells w3 mb 0 [.string z.1.name, .slice za zm zc, .int .i64 z.1.stamp] := hwz.symm.trans rfl;have Y : wz.heap[mb]? = some (.cells #[.string z.1.name, .slice za zm zc, .int .i64 z.1.stamp] 47 (0, 0)) := by rw [hpz]; exact putCells_all M3.out rfl
    have hoth : ∀ b, b ≠ mb → wz.heap[b]? = w3.heap[b]? := fun b hb => by rw [hpz]; exact putCells_other _ _ hb _ _ _
    have hbz : Below w.heap.size w wz := by rw [hpz]; exact putCells_below _ mb (by have := HRL.out; omega) _ _ _ (Below.step HBW.out HO.out.below)
    have R4 := (hoth rb (by have := HRL.out.1; omega)).trans R3.out
    have HINV : Hid (MinInv (minC cf x (l.take (i + 1))) l x w mb rb wz) := by
     show MinInv (minC cf x (l.take (i + 1))) l x w mb rb wz
     rw [HST.out, if_pos (of_decide_eq_true HD.out)];exact ⟨HZM.out, ⟨za, zm, zc, HZ2.out, Y⟩, R4, hbz⟩
    clear hwz hpz Y hoth hbz R4 e0 e1 e2 q0 q1 q2 z0 z1 z2;go_roundw
    case rel => exact ⟨i + 1, HLT.out, by go_num, HINV⟩
    case measure => have := HLT.out; simp [intOf]; omega
  ·have hie : i = l.length := by omega
   have k1 : decide ((i : Int) + 1 < (l.length : Int) + 1) = false := decide_eq_false (by omega);have k2 : decide ((i : Int) < (l.length : Int)) = false := decide_eq_false (by omega);have hall : l.take i = l := by rw [hie, List.take_length]
   have k5 : decide (i < l.length) = false := decide_eq_false (by omega);have k6 : decide (i + 1 < l.length + 1) = false := decide_eq_false (by omega);rw [hall] at hmem hy2 hmb;obtain ⟨y, hyy⟩ : ∃ y, minC cf x l = y := ⟨_, rfl⟩;rw [hyy] at hmem hy2 hmb;have HYY := Lib.hid hyy;have HY2 := Lib.hid hy2; have HBW := Lib.hid hbw
   clear hyy;have M3 := Lib.hid hmb; have R3 := Lib.hid hrb
   have q0 := cell_of_block' (i := 0) hmb _ rfl;have q1 := cell_of_block' (i := 1) hmb _ rfl;have q2 := cell_of_block' (i := 2) hmb _ rfl;have f0 := cell_of_block' (i := 0) hrb _ rfl;have f1 := cell_of_block' (i := 1) hrb _ rfl;have f2 := cell_of_block' (i := 2) hrb _ rfl;have z0 := frozen_of_row wr rb 0 _ _ hrb;have z1 := frozen_of_row wr rb 1 _ _ hrb;have z2 := frozen_of_row wr rb 2 _ _ hrb;have hie' := Lib.hid hie;clear hinv hmem hy2 hmb hrb hbw hall hie hi;go_wp2_with fail
   obtain ⟨wz, hwz⟩ : ∃ z', ((wr.setCell ⟨rb, 0, none⟩ (.string y.1.name)).setCell ⟨rb, 1, none⟩ (.slice ya ym yc)).setCell ⟨rb, 2, none⟩ (.int .i64 y.1.stamp) = z' := ⟨_, rfl⟩;rw [hwz];have hpz : wz = putCells wr rb 0 [.string y.1.name, .slice ya ym yc, .int .i64 y.1.stamp] := hwz.symm.trans rfl;have Y : wz.heap[rb]? = some (.cells #[.string y.1.name, .slice ya ym yc, .int .i64 y.1.stamp] 47 (0, 0)) := by rw [hpz]; exact putCells_all R3.out rfl
   have y0 := cell_of_block' (i := 0) Y _ rfl;have y1 := cell_of_block' (i := 1) Y _ rfl;have y2 := cell_of_block' (i := 2) Y _ rfl;have hbz : Below w.heap.size w wz := by rw [hpz]; exact putCells_below _ rb (by have := HRL.out; omega) _ _ _ HBW.out
   refine bodyPost_ret (v := .agg #[.string y.1.name, .slice ya ym yc, .int .i64 y.1.stamp]) (by simp [results, Try.results58, go_sem, y0, y1, y2]) rfl ⟨by unfold rowArg; rw [HYY.out, HY2.out], hbz⟩
set_option maxRecDepth 100000 in
set_option maxHeartbeats 4000000 in
theorem max_any (x : Cel) (l : List Cel) (cf : Cel → Cel → Int) (blk o cap g : Nat) (cb : Array Value) (w : World) (h63 : l.length + 1 ≤ 140737488355328) (hen : ∀ args w, Sem.run Try.prog (callFunc g args) w = .ok (.enter g args) w)
  (hrow : ∀ j (h : j < (x :: l).length), HasRow w blk (o + j) (x :: l)[j]) (hblk : blk < w.heap.size) (hform : ∀ y ∈ x :: l, ∃ a m c, y.2 = .slice a m c)
  (hclo : ∀ y ∈ x :: l, ∀ z ∈ x :: l, ∀ (W : World), Below w.heap.size w W → Calls Try.prog g (#[rowArg y, rowArg z] ++ cb) W fun e W' => e = .returned (.int .i64 (cf y z)) ∧ Onto W W') :
  Calls Try.prog 60 #[.slice (some ⟨blk, o * 3, none⟩) (l.length + 1) cap, .func (.func g) #[] cb] w fun e w' => e = .returned (rowArg (maxC cf x l)) ∧ Below w.heap.size w w' := by
 have HR := Lib.hid hrow; have HB := Lib.hid hblk; have HC := Lib.hid hclo; have HF := Lib.hid hform
 have hx := hrow 0 (by simp);obtain ⟨xa, xm, xc, hx2⟩ := hform x (by simp);rw [Nat.add_zero] at hx;obtain ⟨p0, p1, p2⟩ := hx;simp only [List.getElem_cons_zero] at p0 p1 p2
 rw [hx2] at p1;have d0 := below_alloc w (.cells #[.string ⟨#[]⟩, .slice none 0 0, .int .i64 0] 47);have k0 : decide (((l.length + 1 : Nat) : Int) < 1) = false := decide_eq_false (by omega);have k0' : decide ((l.length : Int) + 1 < 1) = false := decide_eq_false (by omega);have k1 : (0 : Int) < (l.length : Int) + 1 := by omega
 have k2 : (0 : Int) < ((l.length + 1 : Nat) : Int) := by omega
 replace p0 := (d0.cell (p := ⟨blk, o * 3, none⟩) HB.out).trans p0;replace p1 := (d0.cell (p := ⟨blk, o * 3 + 1, none⟩) HB.out).trans p1;replace p2 := (d0.cell (p := ⟨blk, o * 3 + 2, none⟩) HB.out).trans p2;have m0 := alloc_new' w (.cells #[.string ⟨#[]⟩, .slice none 0 0, .int .i64 0] 47);have D0 := Lib.hid d0;clear hrow hblk hclo hform d0;go_enter Try.func60, Try.ntmps60
 go_upto_region 1 with fail
 obtain ⟨rb, hrb⟩ : ∃ b, w.heap.size = b := ⟨_, rfl⟩;rw [hrb] at m0 ⊢;have HRB := Lib.hid hrb;clear hrb;generalize w.alloc (.cells #[.string ⟨#[]⟩, .slice none 0 0, .int .i64 0] 47) = w1 at *;have M0 := Lib.hid m0;have hl1 : rb < w1.heap.size := (Array.getElem?_eq_some_iff.1 m0).1;clear m0;have d1 := below_alloc w1 (.cells #[.string x.1.name, .slice xa xm xc, .int .i64 x.1.stamp] 47);have m1 := alloc_new' w1 (.cells #[.string x.1.name, .slice xa xm xc, .int .i64 x.1.stamp] 47);have M0' : Hid ((w1.alloc (.cells #[.string x.1.name, .slice xa xm xc, .int .i64 x.1.stamp] 47)).heap[rb]? = _) := (d1.block rb hl1).trans M0.out;have HW : Hid (Below w.heap.size w (w1.alloc (.cells #[.string x.1.name, .slice xa xm xc, .int .i64 x.1.stamp] 47))) := Below.step D0.out d1;have HRL : Hid (rb < w1.heap.size ∧ w.heap.size = rb) := ⟨hl1, HRB.out⟩;clear d1 hl1;go_upto_region 5 with fail
 obtain ⟨mb, hmb⟩ : ∃ b, w1.heap.size = b := ⟨_, rfl⟩;rw [hmb] at m1 HRL ⊢;clear hmb p0 p1 p2;generalize w1.alloc (.cells #[.string x.1.name, .slice xa xm xc, .int .i64 x.1.stamp] 47) = w2 at *;have M1 : Hid (w2.heap[mb]? = some (.cells #[.string x.1.name, .slice xa xm xc, .int .i64 x.1.stamp] 47 (0, 0))) := m1;have HX2 := Lib.hid hx2;have HML : Hid (mb < w2.heap.size) := (Array.getElem?_eq_some_iff.1 m1).1;clear m1 hx2 k0 k0' k1 k2;go_loopw [6] (fun iv wr => ∃ (i : Nat), i ≤ l.length ∧ iv = .int .i64 ((i : Int) + 1) ∧ Hid (MinInv (maxC cf x (l.take i)) l x w mb rb wr)) (fun iv _ => l.length + 1 - (intOf iv).toNat)
 case atStart => exact ⟨0, Nat.zero_le _, rfl, (⟨(by simp : x ∈ x :: l), ⟨xa, xm, xc, HX2.out, M1.out⟩, M0'.out, HW.out⟩ : MinInv _ l x w mb rb w2)⟩
 case round =>
  obtain ⟨i, hi, rfl, hinv⟩ := hrel;obtain ⟨hmem, ⟨ya, ym, yc, hy2, hmb⟩, hrb, hbw⟩ := hinv.out
  by_cases hlt : i < l.length
  ·have k1 : decide ((i : Int) + 1 < (l.length : Int) + 1) = true := decide_eq_true (by omega)
   have k2 : decide ((i : Int) < (l.length : Int)) = true := decide_eq_true (by omega);have k3 : (0 : Int) ≤ (i : Int) + 1 := by omega
   have k4 : (i : Int) + 1 < (l.length : Int) + 1 := by omega
   have k4' : (i : Int) < (l.length : Int) := by omega
   have hz := HR.out (i + 1) (by simp; omega);simp only [List.getElem_cons_succ] at hz
   have hzm : l[i] ∈ x :: l := List.mem_cons_of_mem _ (List.getElem_mem hlt);obtain ⟨za, zm, zc, hz2⟩ := HF.out l[i] hzm;have hbl := Nat.lt_of_lt_of_le HB.out hbw.size;obtain ⟨e0, e1, e2⟩ := hz.on HB.out hbw;rw [show (o + (i + 1)) * 3 = o * 3 + (i + 1) * 3 by omega] at e0 e1 e2;rw [hz2] at e1;have hcl := HC.out l[i] hzm _ hmem wr.drew (Below.drew hbw);have hst : maxC cf x (l.take (i + 1)) = if cf l[i] (maxC cf x (l.take i)) > 0 then l[i] else maxC cf x (l.take i) := maxC_snoc cf x l i hlt
   have HST := Lib.hid hst;unfold rowArg at hcl;rw [hz2, hy2] at hcl;have HCL := Lib.hid hcl;have HLT := Lib.hid hlt; have HZM := Lib.hid hzm; have HZ2 := Lib.hid hz2; have HY2 := Lib.hid hy2; have HYM := Lib.hid hmem; have HBW := Lib.hid hbw; have HMB := Lib.hid hmb; have HRBB := Lib.hid hrb
   have k5 : decide (i < l.length) = true := decide_eq_true hlt;clear hz hcl hst hzm hz2 hy2 hmem hinv hi;generalize l[i] = z at *;clear hlt;generalize maxC cf x (l.take i) = y at *;have q0 : wr.drew.cell? ⟨mb, 0, none⟩ = some (.string y.1.name) := cell_of_block' (i := 0) hmb _ rfl;have q1 : wr.drew.cell? ⟨mb, 1, none⟩ = some (.slice ya ym yc) := cell_of_block' (i := 1) hmb _ rfl;have q2 : wr.drew.cell? ⟨mb, 2, none⟩ = some (.int .i64 y.1.stamp) := cell_of_block' (i := 2) hmb _ rfl;replace e0 : wr.drew.cell? ⟨blk, o * 3 + (i + 1) * 3, none⟩ = some (.string z.1.name) := e0;replace e1 : wr.drew.cell? ⟨blk, o * 3 + (i + 1) * 3 + 1, none⟩ = some (.slice za zm zc) := e1;replace e2 : wr.drew.cell? ⟨blk, o * 3 + (i + 1) * 3 + 2, none⟩ = some (.int .i64 z.1.stamp) := e2;have HL : Hid (blk < wr.drew.heap.size ∧ mb < wr.drew.heap.size) := ⟨hbl, (Array.getElem?_eq_some_iff.1 hmb).1⟩;clear hmb hrb hbw hbl;obtain ⟨c, hc⟩ : ∃ c, cf z y = c := ⟨_, rfl⟩;rw [hc] at HCL HST;obtain ⟨d, hd⟩ : ∃ d, decide (c > 0) = d := ⟨_, rfl⟩;have HD := Lib.hid hd;clear hc;go_upto_region 7 with fail
   cases d
   all_goals
    go_region_held3 (fun w' => w'.cell? ⟨blk, o * 3 + (i + 1) * 3, none⟩ = some (.string z.1.name) ∧ w'.cell? ⟨blk, o * 3 + (i + 1) * 3 + 1, none⟩ = some (.slice za zm zc) ∧ w'.cell? ⟨blk, o * 3 + (i + 1) * 3 + 2, none⟩ = some (.int .i64 z.1.stamp) ∧ w'.cell? ⟨mb, 0, none⟩ = some (.string y.1.name) ∧ w'.cell? ⟨mb, 1, none⟩ = some (.slice ya ym yc) ∧ w'.cell? ⟨mb, 2, none⟩ = some (.int .i64 y.1.stamp))
     (first | (with_reducible exact ⟨e0, e1, e2, q0, q1, q2⟩) | (with_reducible exact ⟨(ho.below.cell (p := ⟨blk, o * 3 + (i + 1) * 3, none⟩) HL.out.1).trans e0, (ho.below.cell (p := ⟨blk, o * 3 + (i + 1) * 3 + 1, none⟩) HL.out.1).trans e1, (ho.below.cell (p := ⟨blk, o * 3 + (i + 1) * 3 + 2, none⟩) HL.out.1).trans e2, (ho.below.cell (p := ⟨mb, 0, none⟩) HL.out.2).trans q0, (ho.below.cell (p := ⟨mb, 1, none⟩) HL.out.2).trans q1, (ho.below.cell (p := ⟨mb, 2, none⟩) HL.out.2).trans q2⟩))
     (first | (go_at_fn g; refine HCL.out.mono ?_; rintro e w3 ⟨rfl, ho⟩))
   ·have HO : Hid (Onto wr w3) := ((Onto.refl wr).drew).trans ho
    clear ho e0 e1 e2 q0 q1 q2;go_wp2_with fail
    go_roundw
    case rel => exact ⟨i + 1, HLT.out, by go_num, by
     show MinInv (maxC cf x (l.take (i + 1))) l x w mb rb w3
     rw [HST.out, if_neg (of_decide_eq_false HD.out)]
     exact ⟨HYM.out, ⟨ya, ym, yc, HY2.out, (HO.out.below.block mb HL.out.2).trans HMB.out⟩, (HO.out.below.block rb (Array.getElem?_eq_some_iff.1 HRBB.out).1).trans HRBB.out, Below.step HBW.out HO.out.below⟩⟩
    case measure => have := HLT.out; simp [intOf]; omega
   ·have HO : Hid (Onto wr w3) := ((Onto.refl wr).drew).trans ho
    have M3 : Hid (w3.heap[mb]? = some (.cells #[.string y.1.name, .slice ya ym yc, .int .i64 y.1.stamp] 47 (0, 0))) := (HO.out.below.block mb HL.out.2).trans HMB.out;have R3 : Hid (w3.heap[rb]? = some (.cells #[.string ⟨#[]⟩, .slice none 0 0, .int .i64 0] 47 (0, 0))) := (HO.out.below.block rb (Array.getElem?_eq_some_iff.1 HRBB.out).1).trans HRBB.out;replace e0 := (ho.below.cell (p := ⟨blk, o * 3 + (i + 1) * 3, none⟩) HL.out.1).trans e0;replace e1 := (ho.below.cell (p := ⟨blk, o * 3 + (i + 1) * 3 + 1, none⟩) HL.out.1).trans e1;replace e2 := (ho.below.cell (p := ⟨blk, o * 3 + (i + 1) * 3 + 2, none⟩) HL.out.1).trans e2;replace q0 := cell_of_block' (i := 0) M3.out _ rfl;replace q1 := cell_of_block' (i := 1) M3.out _ rfl;replace q2 := cell_of_block' (i := 2) M3.out _ rfl;have z0 := frozen_of_row w3 mb 0 _ _ M3.out;have z1 := frozen_of_row w3 mb 1 _ _ M3.out;have z2 := frozen_of_row w3 mb 2 _ _ M3.out;clear ho;go_wp2_with fail
    obtain ⟨wz, hwz⟩ : ∃ z', ((w3.setCell ⟨mb, 0, none⟩ (.string z.1.name)).setCell ⟨mb, 1, none⟩ (.slice za zm zc)).setCell ⟨mb, 2, none⟩ (.int .i64 z.1.stamp) = z' := ⟨_, rfl⟩;rw [hwz];have hpz : wz = putCells w3 mb 0 [.string z.1.name, .slice za zm zc, .int .i64 z.1.stamp] := hwz.symm.trans rfl;have Y : wz.heap[mb]? = some (.cells #[.string z.1.name, .slice za zm zc, .int .i64 z.1.stamp] 47 (0, 0)) := by rw [hpz]; exact putCells_all M3.out rfl
    have hoth : ∀ b, b ≠ mb → wz.heap[b]? = w3.heap[b]? := fun b hb => by rw [hpz]; exact putCells_other _ _ hb _ _ _
    have hbz : Below w.heap.size w wz := by rw [hpz]; exact putCells_below _ mb (by have := HRL.out; omega) _ _ _ (Below.step HBW.out HO.out.below)
    have R4 := (hoth rb (by have := HRL.out.1; omega)).trans R3.out
    have HINV : Hid (MinInv (maxC cf x (l.take (i + 1))) l x w mb rb wz) := by
     show MinInv (maxC cf x (l.take (i + 1))) l x w mb rb wz
     rw [HST.out, if_pos (of_decide_eq_true HD.out)];exact ⟨HZM.out, ⟨za, zm, zc, HZ2.out, Y⟩, R4, hbz⟩
    clear hwz hpz Y hoth hbz R4 e0 e1 e2 q0 q1 q2 z0 z1 z2;go_roundw
    case rel => exact ⟨i + 1, HLT.out, by go_num, HINV⟩
    case measure => have := HLT.out; simp [intOf]; omega
  ·have hie : i = l.length := by omega
   have k1 : decide ((i : Int) + 1 < (l.length : Int) + 1) = false := decide_eq_false (by omega);have k2 : decide ((i : Int) < (l.length : Int)) = false := decide_eq_false (by omega);have hall : l.take i = l := by rw [hie, List.take_length]
   have k5 : decide (i < l.length) = false := decide_eq_false (by omega);have k6 : decide (i + 1 < l.length + 1) = false := decide_eq_false (by omega);rw [hall] at hmem hy2 hmb;obtain ⟨y, hyy⟩ : ∃ y, maxC cf x l = y := ⟨_, rfl⟩;rw [hyy] at hmem hy2 hmb;have HYY := Lib.hid hyy;have HY2 := Lib.hid hy2; have HBW := Lib.hid hbw
   clear hyy;have M3 := Lib.hid hmb; have R3 := Lib.hid hrb
   have q0 := cell_of_block' (i := 0) hmb _ rfl;have q1 := cell_of_block' (i := 1) hmb _ rfl;have q2 := cell_of_block' (i := 2) hmb _ rfl;have f0 := cell_of_block' (i := 0) hrb _ rfl;have f1 := cell_of_block' (i := 1) hrb _ rfl;have f2 := cell_of_block' (i := 2) hrb _ rfl;have z0 := frozen_of_row wr rb 0 _ _ hrb;have z1 := frozen_of_row wr rb 1 _ _ hrb;have z2 := frozen_of_row wr rb 2 _ _ hrb;have hie' := Lib.hid hie;clear hinv hmem hy2 hmb hrb hbw hall hie hi;go_wp2_with fail
   obtain ⟨wz, hwz⟩ : ∃ z', ((wr.setCell ⟨rb, 0, none⟩ (.string y.1.name)).setCell ⟨rb, 1, none⟩ (.slice ya ym yc)).setCell ⟨rb, 2, none⟩ (.int .i64 y.1.stamp) = z' := ⟨_, rfl⟩;rw [hwz];have hpz : wz = putCells wr rb 0 [.string y.1.name, .slice ya ym yc, .int .i64 y.1.stamp] := hwz.symm.trans rfl;have Y : wz.heap[rb]? = some (.cells #[.string y.1.name, .slice ya ym yc, .int .i64 y.1.stamp] 47 (0, 0)) := by rw [hpz]; exact putCells_all R3.out rfl
   have y0 := cell_of_block' (i := 0) Y _ rfl;have y1 := cell_of_block' (i := 1) Y _ rfl;have y2 := cell_of_block' (i := 2) Y _ rfl;have hbz : Below w.heap.size w wz := by rw [hpz]; exact putCells_below _ rb (by have := HRL.out; omega) _ _ _ HBW.out
   refine bodyPost_ret (v := .agg #[.string y.1.name, .slice ya ym yc, .int .i64 y.1.stamp]) (by simp [results, Try.results60, go_sem, y0, y1, y2]) rfl ⟨by unfold rowArg; rw [HYY.out, HY2.out], hbz⟩
end Go.Proofs.Ytpnaegohjbaggaa
namespace Go.Proofs.Ytpnaegohjbaggaa
open Go.RowKit
theorem arg_at {S : Nat → Prop} {w : World} {x : Cel} (h : RepRo S w x.1 (.string x.1.name) x.2 (.int .i64 x.1.stamp)) {n : Nat} (hn : n < x.1.args.length) :
  ∃ xb xo xc va vc, x.2 = .slice (some ⟨xb, xo, none⟩) x.1.args.length xc ∧ S xb ∧ w.cell? ⟨xb, xo + n * 4, none⟩ = some (.int .i64 x.1.args[n].kind) ∧ w.cell? ⟨xb, xo + n * 4 + 1, none⟩ = some (.int .i64 x.1.args[n].num) ∧ w.cell? ⟨xb, xo + n * 4 + 2, none⟩ = some (.string x.1.args[n].text) ∧ w.cell? ⟨xb, xo + n * 4 + 3, none⟩ = some (.slice va x.1.args[n].list.length vc) ∧
   RepG S w x.1.args[n] (.int .i64 x.1.args[n].kind) (.int .i64 x.1.args[n].num) (.string x.1.args[n].text) (.slice va x.1.args[n].list.length vc) := by
 obtain ⟨xa, xc, -, e1, -⟩ := h.form;have hl := slg_of_lg h.2.2.1;rw [e1] at hl;obtain ⟨-, -, xb, xo, rfl, hS, c, hc, hR⟩ := SlG.at hl n hn;have hR' : RepG S w x.1.args[n] (c 0) (c 1) (c 2) (c 3) := hR;obtain ⟨va, vc, c0, c1, c2, c3⟩ := hR'.form;have f0 := hc 0 (by decide); have f1 := hc 1 (by decide); have f2 := hc 2 (by decide); have f3 := hc 3 (by decide)
 rw [c0] at f0; rw [c1] at f1; rw [c2] at f2; rw [c3] at f3
 rw [c0, c1, c2, c3] at hR';exact ⟨xb, xo, xc, va, vc, e1, hS, f0, f1, f2, f3, hR'⟩
set_option maxRecDepth 100000 in
set_option maxHeartbeats 4000000 in
theorem there_any (n ab : Nat) (x y : Cel) (S : Nat → Prop) (w : World) (hS : ∀ k, S k → k < w.heap.size) (hab : w.cell? ⟨ab, 0, none⟩ = some (.int .i64 (n : Int)))
  (hx : RepRo S w x.1 (.string x.1.name) x.2 (.int .i64 x.1.stamp)) (hy : RepRo S w y.1 (.string y.1.name) y.2 (.int .i64 y.1.stamp)) (hnx : n < x.1.args.length) (hny : n < y.1.args.length) :
  Calls Try.prog 56 (#[rowArg x, rowArg y] ++ #[.pointer (some ⟨ab, 0, none⟩)]) w fun e w' => e = .returned (.int .i64 (cmpV x.1.args[n] y.1.args[n])) ∧ Onto w w' := by
 obtain ⟨xb, xo, xc, va, vc, hx2, hxb, x0, x1, x2, x3, hxr⟩ := arg_at hx hnx;obtain ⟨yb, yo, yc, ua, uc, hy2, hyb, y0, y1, y2, y3, hyr⟩ := arg_at hy hny;have k1 : (0 : Int) ≤ (n : Int) := Int.natCast_nonneg n;have k2 : (n : Int) < (x.1.args.length : Int) := by omega
 have k3 : (n : Int) < (y.1.args.length : Int) := by omega
 unfold rowArg;rw [hx2, hy2];have HXR := Lib.hid hxr; have HYR := Lib.hid hyr; have HS := Lib.hid hS
 have HIX : Hid (xb < w.heap.size ∧ yb < w.heap.size ∧ ab < w.heap.size) := ⟨hS _ hxb, hS _ hyb, cell_lt hab⟩;generalize x.1.args[n] = u at *;generalize y.1.args[n] = v at *;clear hx hy hS hxr hyr hx2 hy2 hxb hyb hnx hny;go_enter Try.func56, Try.ntmps56
 go_upto_region 1 with fail
 obtain ⟨w2, hw2, m0, m1, ho⟩ := boxed2 w (.cells #[.string x.1.name, .slice (some ⟨xb, xo, none⟩) x.1.args.length xc, .int .i64 x.1.stamp] 47) (.cells #[.string y.1.name, .slice (some ⟨yb, yo, none⟩) y.1.args.length yc, .int .i64 y.1.stamp] 47);rw [hw2];have HO := Lib.hid ho;have hb0 : w.heap.size < w2.heap.size := (Array.getElem?_eq_some_iff.1 m0).1;have hb1' : w.heap.size + 1 < w2.heap.size := (Array.getElem?_eq_some_iff.1 m1).1;replace x0 : w2.drew.cell? ⟨xb, xo + n * 4, none⟩ = some (.int .i64 u.kind) := (ho.below.cell (p := ⟨xb, xo + n * 4, none⟩) HIX.out.1).trans x0;replace x1 : w2.drew.cell? ⟨xb, xo + n * 4 + 1, none⟩ = some (.int .i64 u.num) := (ho.below.cell (p := ⟨xb, xo + n * 4 + 1, none⟩) HIX.out.1).trans x1;replace x2 : w2.drew.cell? ⟨xb, xo + n * 4 + 2, none⟩ = some (.string u.text) := (ho.below.cell (p := ⟨xb, xo + n * 4 + 2, none⟩) HIX.out.1).trans x2;replace x3 : w2.drew.cell? ⟨xb, xo + n * 4 + 3, none⟩ = some (.slice va u.list.length vc) := (ho.below.cell (p := ⟨xb, xo + n * 4 + 3, none⟩) HIX.out.1).trans x3;replace y0 : w2.drew.cell? ⟨yb, yo + n * 4, none⟩ = some (.int .i64 v.kind) := (ho.below.cell (p := ⟨yb, yo + n * 4, none⟩) HIX.out.2.1).trans y0;replace y1 : w2.drew.cell? ⟨yb, yo + n * 4 + 1, none⟩ = some (.int .i64 v.num) := (ho.below.cell (p := ⟨yb, yo + n * 4 + 1, none⟩) HIX.out.2.1).trans y1;replace y2 : w2.drew.cell? ⟨yb, yo + n * 4 + 2, none⟩ = some (.string v.text) := (ho.below.cell (p := ⟨yb, yo + n * 4 + 2, none⟩) HIX.out.2.1).trans y2;replace y3 : w2.drew.cell? ⟨yb, yo + n * 4 + 3, none⟩ = some (.slice ua v.list.length uc) := (ho.below.cell (p := ⟨yb, yo + n * 4 + 3, none⟩) HIX.out.2.1).trans y3;have a0 : w2.drew.cell? ⟨ab, 0, none⟩ = some (.int .i64 (n : Int)) := (ho.below.cell (p := ⟨ab, 0, none⟩) HIX.out.2.2).trans hab;clear hw2 ho hab;obtain ⟨b1, hb1⟩ : ∃ b1, w.heap.size + 1 = b1 := ⟨_, rfl⟩;obtain ⟨b0, hbz⟩ : ∃ b0, w.heap.size = b0 := ⟨_, rfl⟩;rw [hb1] at m1 hb1' ⊢;rw [hbz] at m0 hb0 ⊢;clear hb1 hbz;have p1 : w2.drew.cell? ⟨b0, 1, none⟩ = some (.slice (some ⟨xb, xo, none⟩) x.1.args.length xc) := cell_of_block' (i := 1) m0 _ rfl;have q1 : w2.drew.cell? ⟨b1, 1, none⟩ = some (.slice (some ⟨yb, yo, none⟩) y.1.args.length yc) := cell_of_block' (i := 1) m1 _ rfl;have HOD : Hid (Onto w w2.drew) := HO.out.drew;have HSD : Hid (∀ k, S k → k < w2.drew.heap.size) := fun k hk => Nat.lt_of_lt_of_le (HS.out k hk) HO.out.below.size
 have HUD : Hid (RepV w2.drew.heap.size w2.drew u (.int .i64 u.kind) (.int .i64 u.num) (.string u.text) (.slice va u.list.length vc)) := RepG.on (w' := w2.drew) (fun k hk => HSD.out k hk) (fun k hk => HO.out.below.block k (HS.out k hk)) _ HXR.out;have HVD : Hid (RepV w2.drew.heap.size w2.drew v (.int .i64 v.kind) (.int .i64 v.num) (.string v.text) (.slice ua v.list.length uc)) := RepG.on (w' := w2.drew) (fun k hk => HSD.out k hk) (fun k hk => HO.out.below.block k (HS.out k hk)) _ HYR.out;clear m0 m1 hb0 hb1' HS HO HXR HYR
 go_region_held3 (fun w' => w'.cell? ⟨b0, 1, none⟩ = some (.slice (some ⟨xb, xo, none⟩) x.1.args.length xc) ∧ w'.cell? ⟨b1, 1, none⟩ = some (.slice (some ⟨yb, yo, none⟩) y.1.args.length yc) ∧ w'.cell? ⟨ab, 0, none⟩ = some (.int .i64 (n : Int)) ∧ w'.cell? ⟨xb, xo + n * 4, none⟩ = some (.int .i64 u.kind) ∧ w'.cell? ⟨xb, xo + n * 4 + 1, none⟩ = some (.int .i64 u.num) ∧ w'.cell? ⟨xb, xo + n * 4 + 2, none⟩ = some (.string u.text) ∧ w'.cell? ⟨xb, xo + n * 4 + 3, none⟩ = some (.slice va u.list.length vc) ∧ w'.cell? ⟨yb, yo + n * 4, none⟩ = some (.int .i64 v.kind) ∧ w'.cell? ⟨yb, yo + n * 4 + 1, none⟩ = some (.int .i64 v.num) ∧ w'.cell? ⟨yb, yo + n * 4 + 2, none⟩ = some (.string v.text) ∧ w'.cell? ⟨yb, yo + n * 4 + 3, none⟩ = some (.slice ua v.list.length uc))
  (first | (with_reducible exact ⟨p1, q1, a0, x0, x1, x2, x3, y0, y1, y2, y3⟩) | (with_reducible exact ⟨(ho.below.cell (p := ⟨b0, 1, none⟩) (cell_lt p1)).trans p1, (ho.below.cell (p := ⟨b1, 1, none⟩) (cell_lt q1)).trans q1, (ho.below.cell (p := ⟨ab, 0, none⟩) (cell_lt a0)).trans a0, (ho.below.cell (p := ⟨xb, xo + n * 4, none⟩) (cell_lt x0)).trans x0, (ho.below.cell (p := ⟨xb, xo + n * 4 + 1, none⟩) (cell_lt x0)).trans x1, (ho.below.cell (p := ⟨xb, xo + n * 4 + 2, none⟩) (cell_lt x0)).trans x2, (ho.below.cell (p := ⟨xb, xo + n * 4 + 3, none⟩) (cell_lt x0)).trans x3, (ho.below.cell (p := ⟨yb, yo + n * 4, none⟩) (cell_lt y0)).trans y0, (ho.below.cell (p := ⟨yb, yo + n * 4 + 1, none⟩) (cell_lt y0)).trans y1, (ho.below.cell (p := ⟨yb, yo + n * 4 + 2, none⟩) (cell_lt y0)).trans y2, (ho.below.cell (p := ⟨yb, yo + n * 4 + 3, none⟩) (cell_lt y0)).trans y3⟩))
  (first | (go_at_call 20; refine (cmpO_any u v _ _ _ _ _ _ _ _ _ _ (Nat.le_refl _) HUD.out HVD.out).mono ?_; rintro e w3 ⟨rfl, ho⟩))
 go_wp2_with fail
 go_ret
 exact ⟨rfl, HOD.out.trans ho⟩
end Go.Proofs.Ytpnaegohjbaggaa
