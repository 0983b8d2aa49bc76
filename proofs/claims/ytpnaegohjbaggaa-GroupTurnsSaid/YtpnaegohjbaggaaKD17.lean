/-
  ElAlike, Same
-/
import Derived.Test.YtpnaegohjbaggaaKD13
import Derived.Test.YtpnaegohjbaggaaKD01
import Derived.WalkSpells
import Derived.WalkLawsBesides
import Derived.StillTailTactics
namespace Go.Proofs.Ytpnaegohjbaggaa
open Go.RowKit
def AlikeP (k : Int) (x y : Ro) : Prop := x.name = y.name ∧ x.args.length = y.args.length ∧ ∀ i (h : i < x.args.length) (h2 : i < y.args.length), (i : Int) ≠ k → cmpV x.args[i] y.args[i] = 0
open Classical in
noncomputable def alikeB (k : Int) (x y : Ro) : Bool := decide (AlikeP k x y)
theorem alikeB_yes {k : Int} {x y : Ro} (h : AlikeP k x y) : alikeB k x y = true := by unfold alikeB; simp [h]
theorem alikeB_no {k : Int} {x y : Ro} (h : ¬ AlikeP k x y) : alikeB k x y = false := by unfold alikeB; simp [h]
set_option maxRecDepth 100000 in
set_option maxHeartbeats 4000000 in
theorem alike_any (x y : Ro) (k : Int) (S : Nat → Prop) (w : World) (xv yv : Value) (hS : ∀ b, S b → b < w.heap.size) (hx : RepRo S w x (.string x.name) xv (.int .i64 x.stamp)) (hy : RepRo S w y (.string y.name) yv (.int .i64 y.stamp)) :
  Calls Try.prog 19 #[.agg #[.string x.name, xv, .int .i64 x.stamp], .agg #[.string y.name, yv, .int .i64 y.stamp], .int .i64 k] w fun e w' => e = .returned (.bool (alikeB k x y)) ∧ Below w.heap.size w w' := by
 obtain ⟨xa, xc, -, rfl, -⟩ := hx.form;obtain ⟨ya, yc, -, rfl, -⟩ := hy.form;have h63 : x.args.length * 56 ≤ 140737488355328 := SlG.bytes (slg_of_lg hx.2.2.1);have HX := Lib.hid hx; have HY := Lib.hid hy; have HS := Lib.hid hS
 obtain ⟨w2, hw2, m0, m1, ho⟩ := boxed2 w (.cells #[.string x.name, .slice xa x.args.length xc, .int .i64 x.stamp] 47) (.cells #[.string y.name, .slice ya y.args.length yc, .int .i64 y.stamp] 47);have HO := Lib.hid ho;have HW2 := Lib.hid hw2;have M0 := Lib.hid m0; have M1 := Lib.hid m1
 have hnn : (x.name.toList == y.name.toList) = decide (x.name = y.name) := by
  by_cases h : x.name = y.name
  ·rw [h]; simp
  ·rw [decide_eq_false h]
   exact beq_eq_false_iff_ne.2 fun e => h (by rw [Lib.toList_data, Lib.toList_data] at e; cases hx : x.name; cases hy : y.name; rw [hx, hy] at e; exact congrArg ByteArray.mk (Array.toList_inj.1 e))
 clear hx hy hS hw2 m0 m1 ho;go_enter Try.func19, Try.ntmps19
 go_upto_region 1 with fail
 rw [HW2.out];obtain ⟨b1, hb1⟩ : ∃ b, w.heap.size + 1 = b := ⟨_, rfl⟩;obtain ⟨b0, hb0⟩ : ∃ b, w.heap.size = b := ⟨_, rfl⟩;rw [hb1] at M1 ⊢;rw [hb0] at M0 ⊢;clear hb0 hb1 HW2;have p0 := cell_of_block' (i := 0) M0.out _ rfl;have p1 := cell_of_block' (i := 1) M0.out _ rfl;have q0 := cell_of_block' (i := 0) M1.out _ rfl;have q1 := cell_of_block' (i := 1) M1.out _ rfl
 by_cases hn : x.name = y.name
 ·rw [decide_eq_true hn] at hnn
  have hnn2 : (x.name.toList != y.name.toList) = false := by rw [bne, hnn]; rfl
  have HN := Lib.hid hn
  by_cases hl : x.args.length = y.args.length
  ·have HL := Lib.hid hl
   have hl1 : ((x.args.length : Int) != (y.args.length : Int)) = false := by simp [hl]
   clear hn hl;go_upto_region 3 with fail
   clear hnn hnn2 hl1 p0 p1 q0 q1;go_wp2_with fail
   go_loopw [7] (fun iv wr => ∃ i : Nat, i ≤ x.args.length ∧ iv = .int .i64 (i : Int) ∧ Hid (∀ j (h : j < x.args.length) (h2 : j < y.args.length), j < i → (j : Int) ≠ k → cmpV x.args[j] y.args[j] = 0) ∧ Hid (Onto w2 wr)) (fun iv _ => x.args.length - (intOf iv).toNat)
   case atStart => exact ⟨0, Nat.zero_le _, rfl, fun j _ _ h => by omega, Onto.refl _⟩
   case round =>
    obtain ⟨i, hi, rfl, hall, hon⟩ := hrel;have hm0 := (hon.out.below.block b0 (Array.getElem?_eq_some_iff.1 M0.out).1).trans M0.out;have hm1 := (hon.out.below.block b1 (Array.getElem?_eq_some_iff.1 M1.out).1).trans M1.out;have p1 := cell_of_block' (i := 1) hm0 _ rfl;have q1 := cell_of_block' (i := 1) hm1 _ rfl
    by_cases hlt : i < x.args.length
    ·have hlt2 : i < y.args.length := by have := HL.out; omega
     have k1 : decide ((i : Int) < (x.args.length : Int)) = true := decide_eq_true (by omega);have k2 : decide (i < x.args.length) = true := decide_eq_true hlt;have k3 : (0 : Int) ≤ (i : Int) := Int.natCast_nonneg i;have k4 : (i : Int) < (x.args.length : Int) := by omega
     have k5 : (i : Int) < (y.args.length : Int) := by omega
     have HLT := Lib.hid hlt
     by_cases hk : (i : Int) = k
     ·have e1 : ((i : Int) != k) = false := by simp [hk]
      have HK := Lib.hid hk;replace p1 : wr.drew.cell? ⟨b0, 1, none⟩ = _ := p1;replace q1 : wr.drew.cell? ⟨b1, 1, none⟩ = _ := q1;clear hk hm0 hm1;have p1' : wr.cell? ⟨b0, 1, none⟩ = _ := p1;go_upto_region 6 with fail
      go_quiet (fail)
      go_wp2_with fail
      go_roundw
      case rel => exact ⟨i + 1, HLT.out, by go_num, fun j h h2 hj hjk => by
       by_cases e : j = i
       ·subst e; exact absurd HK.out hjk
       ·exact hall.out j h h2 (by omega) hjk, hon.out.drewN _⟩
      case measure => have := HLT.out; simp [intOf]; omega
     ·have e1 : ((i : Int) != k) = true := by simp [hk]
      have HK := Lib.hid hk;have hkeep : ∀ b, S b → wr.drew.heap[b]? = w.heap[b]? := fun b hb => (hon.out.below.block b (Nat.lt_of_lt_of_le (HS.out b hb) HO.out.below.size)).trans (HO.out.below.block b (HS.out b hb))
      have hSD : ∀ b, S b → b < wr.drew.heap.size := fun b hb => Nat.lt_of_lt_of_le (HS.out b hb) (Nat.le_trans HO.out.below.size hon.out.below.size)
      obtain ⟨xb, xo, xc', va, vc, ex, -, x0, x1, x2, x3, hxr⟩ := arg_at (x := (x, .slice xa x.args.length xc)) (n := i) (RepRo.on (w' := wr.drew) (fun _ h => h) hkeep HX.out) hlt;obtain ⟨yb, yo, yc', ua, uc, ey, -, y0, y1, y2, y3, hyr⟩ := arg_at (x := (y, .slice ya y.args.length yc)) (n := i) (RepRo.on (w' := wr.drew) (fun _ h => h) hkeep HY.out) hlt2;have ex1 : xa = some ⟨xb, xo, none⟩ := by injection ex
      have ey1 : ya = some ⟨yb, yo, none⟩ := by injection ey
      replace p1 : wr.drew.cell? ⟨b0, 1, none⟩ = some (.slice (some ⟨xb, xo, none⟩) x.args.length xc) := by rw [← ex1]; exact p1
      replace q1 : wr.drew.cell? ⟨b1, 1, none⟩ = some (.slice (some ⟨yb, yo, none⟩) y.args.length yc) := by rw [← ey1]; exact q1
      have hc0 : (i : Int) ≠ k → (cmpV x.args[i] y.args[i] = 0 ∨ ¬ AlikeP k x y) := fun _ => by
       by_cases h : cmpV x.args[i] y.args[i] = 0
       ·exact .inl h
       ·exact .inr fun ha => h (ha.2.2 i hlt hlt2 hk)
      have hstep : cmpV x.args[i] y.args[i] = 0 → ∀ j (h : j < x.args.length) (h2 : j < y.args.length), j < i + 1 → (j : Int) ≠ k → cmpV x.args[j] y.args[j] = 0 := fun hz j h h2 hj hjk => by
       by_cases e : j = i
       ·subst e; exact hz
       ·exact hall.out j h h2 (by omega) hjk
      have HC0 := Lib.hid (hc0 hk); have HST := Lib.hid hstep
      have hxr' : RepG S wr.drew x.args[i] (.int .i64 x.args[i].kind) (.int .i64 x.args[i].num) (.string x.args[i].text) (.slice va x.args[i].list.length vc) := hxr;have hyr' : RepG S wr.drew y.args[i] (.int .i64 y.args[i].kind) (.int .i64 y.args[i].num) (.string y.args[i].text) (.slice ua y.args[i].list.length uc) := hyr;have HXR := Lib.hid hxr'; have HYR := Lib.hid hyr'; have HSD := Lib.hid hSD
      replace x0 : wr.drew.cell? ⟨xb, xo + i * 4, none⟩ = some (.int .i64 x.args[i].kind) := x0;replace x1 : wr.drew.cell? ⟨xb, xo + i * 4 + 1, none⟩ = some (.int .i64 x.args[i].num) := x1;replace x2 : wr.drew.cell? ⟨xb, xo + i * 4 + 2, none⟩ = some (.string x.args[i].text) := x2;replace x3 : wr.drew.cell? ⟨xb, xo + i * 4 + 3, none⟩ = some (.slice va x.args[i].list.length vc) := x3;replace y0 : wr.drew.cell? ⟨yb, yo + i * 4, none⟩ = some (.int .i64 y.args[i].kind) := y0;replace y1 : wr.drew.cell? ⟨yb, yo + i * 4 + 1, none⟩ = some (.int .i64 y.args[i].num) := y1;replace y2 : wr.drew.cell? ⟨yb, yo + i * 4 + 2, none⟩ = some (.string y.args[i].text) := y2;replace y3 : wr.drew.cell? ⟨yb, yo + i * 4 + 3, none⟩ = some (.slice ua y.args[i].list.length uc) := y3;have p1w : wr.cell? ⟨b0, 1, none⟩ = some (.slice (some ⟨xb, xo, none⟩) x.args.length xc) := p1;subst ex1;subst ey1;clear hkeep hSD ex ey hxr hyr hxr' hyr' hc0 hstep hall hk hm0 hm1;generalize x.args[i] = u at *;generalize y.args[i] = v at *;clear hlt hlt2;obtain ⟨c, hc⟩ : ∃ c, cmpV u v = c := ⟨_, rfl⟩;have HC := Lib.hid hc;rw [hc] at HC0 HST;clear hc
      by_cases hz : c = 0
      ·have hz1 : (c != 0) = false := by simp [hz]
       have HZ := Lib.hid hz;clear hz;go_upto_region 6 with fail
       go_region_held3 (fun w' => w'.cell? ⟨b0, 1, none⟩ = some (.slice (some ⟨xb, xo, none⟩) x.args.length xc) ∧ w'.cell? ⟨b1, 1, none⟩ = some (.slice (some ⟨yb, yo, none⟩) y.args.length yc) ∧ w'.cell? ⟨xb, xo + i * 4, none⟩ = some (.int .i64 u.kind) ∧ w'.cell? ⟨xb, xo + i * 4 + 1, none⟩ = some (.int .i64 u.num) ∧ w'.cell? ⟨xb, xo + i * 4 + 2, none⟩ = some (.string u.text) ∧ w'.cell? ⟨xb, xo + i * 4 + 3, none⟩ = some (.slice va u.list.length vc) ∧ w'.cell? ⟨yb, yo + i * 4, none⟩ = some (.int .i64 v.kind) ∧ w'.cell? ⟨yb, yo + i * 4 + 1, none⟩ = some (.int .i64 v.num) ∧ w'.cell? ⟨yb, yo + i * 4 + 2, none⟩ = some (.string v.text) ∧ w'.cell? ⟨yb, yo + i * 4 + 3, none⟩ = some (.slice ua v.list.length uc))
        (first | (with_reducible exact ⟨p1, q1, x0, x1, x2, x3, y0, y1, y2, y3⟩) | (with_reducible exact ⟨(ho.below.cell (p := ⟨b0, 1, none⟩) (cell_lt p1)).trans p1, (ho.below.cell (p := ⟨b1, 1, none⟩) (cell_lt q1)).trans q1, (ho.below.cell (p := ⟨xb, xo + i * 4, none⟩) (cell_lt x0)).trans x0, (ho.below.cell (p := ⟨xb, xo + i * 4 + 1, none⟩) (cell_lt x1)).trans x1, (ho.below.cell (p := ⟨xb, xo + i * 4 + 2, none⟩) (cell_lt x2)).trans x2, (ho.below.cell (p := ⟨xb, xo + i * 4 + 3, none⟩) (cell_lt x3)).trans x3, (ho.below.cell (p := ⟨yb, yo + i * 4, none⟩) (cell_lt y0)).trans y0, (ho.below.cell (p := ⟨yb, yo + i * 4 + 1, none⟩) (cell_lt y1)).trans y1, (ho.below.cell (p := ⟨yb, yo + i * 4 + 2, none⟩) (cell_lt y2)).trans y2, (ho.below.cell (p := ⟨yb, yo + i * 4 + 3, none⟩) (cell_lt y3)).trans y3⟩))
        (first | (go_at_call 20; refine (cmpO_any u v _ _ _ _ _ _ _ _ _ _ (Nat.le_refl _) (RepG.on (w' := wr.drew) (fun b hb => HSD.out b hb) (fun _ _ => rfl) _ HXR.out) (RepG.on (w' := wr.drew) (fun b hb => HSD.out b hb) (fun _ _ => rfl) _ HYR.out)).mono ?_; rintro e w3 ⟨he, ho⟩; rw [HC.out] at he; subst he))
       have hon2 : Onto w2 w3 := (hon.out.drew).trans ho;clear ho p1w p1 q1 x0 x1 x2 x3 y0 y1 y2 y3;go_wp2_with fail
       go_roundw
       case rel => exact ⟨i + 1, HLT.out, by go_num, HST.out HZ.out, hon2⟩
       case measure => have := HLT.out; simp [intOf]; omega
      ·have hz1 : (c != 0) = true := by simp [hz]
       have HZ := Lib.hid hz;clear hz;go_upto_region 6 with fail
       go_region_held3 (fun w' => w'.cell? ⟨b0, 1, none⟩ = some (.slice (some ⟨xb, xo, none⟩) x.args.length xc) ∧ w'.cell? ⟨b1, 1, none⟩ = some (.slice (some ⟨yb, yo, none⟩) y.args.length yc) ∧ w'.cell? ⟨xb, xo + i * 4, none⟩ = some (.int .i64 u.kind) ∧ w'.cell? ⟨xb, xo + i * 4 + 1, none⟩ = some (.int .i64 u.num) ∧ w'.cell? ⟨xb, xo + i * 4 + 2, none⟩ = some (.string u.text) ∧ w'.cell? ⟨xb, xo + i * 4 + 3, none⟩ = some (.slice va u.list.length vc) ∧ w'.cell? ⟨yb, yo + i * 4, none⟩ = some (.int .i64 v.kind) ∧ w'.cell? ⟨yb, yo + i * 4 + 1, none⟩ = some (.int .i64 v.num) ∧ w'.cell? ⟨yb, yo + i * 4 + 2, none⟩ = some (.string v.text) ∧ w'.cell? ⟨yb, yo + i * 4 + 3, none⟩ = some (.slice ua v.list.length uc))
        (first | (with_reducible exact ⟨p1, q1, x0, x1, x2, x3, y0, y1, y2, y3⟩) | (with_reducible exact ⟨(ho.below.cell (p := ⟨b0, 1, none⟩) (cell_lt p1)).trans p1, (ho.below.cell (p := ⟨b1, 1, none⟩) (cell_lt q1)).trans q1, (ho.below.cell (p := ⟨xb, xo + i * 4, none⟩) (cell_lt x0)).trans x0, (ho.below.cell (p := ⟨xb, xo + i * 4 + 1, none⟩) (cell_lt x1)).trans x1, (ho.below.cell (p := ⟨xb, xo + i * 4 + 2, none⟩) (cell_lt x2)).trans x2, (ho.below.cell (p := ⟨xb, xo + i * 4 + 3, none⟩) (cell_lt x3)).trans x3, (ho.below.cell (p := ⟨yb, yo + i * 4, none⟩) (cell_lt y0)).trans y0, (ho.below.cell (p := ⟨yb, yo + i * 4 + 1, none⟩) (cell_lt y1)).trans y1, (ho.below.cell (p := ⟨yb, yo + i * 4 + 2, none⟩) (cell_lt y2)).trans y2, (ho.below.cell (p := ⟨yb, yo + i * 4 + 3, none⟩) (cell_lt y3)).trans y3⟩))
        (first | (go_at_call 20; refine (cmpO_any u v _ _ _ _ _ _ _ _ _ _ (Nat.le_refl _) (RepG.on (w' := wr.drew) (fun b hb => HSD.out b hb) (fun _ _ => rfl) _ HXR.out) (RepG.on (w' := wr.drew) (fun b hb => HSD.out b hb) (fun _ _ => rfl) _ HYR.out)).mono ?_; rintro e w3 ⟨he, ho⟩; rw [HC.out] at he; subst he))
       have hon2 : Onto w2 w3 := (hon.out.drew).trans ho;clear ho p1w p1 q1 x0 x1 x2 x3 y0 y1 y2 y3;go_wp2_with fail
       go_ret
       exact ⟨by rw [alikeB_no (HC0.out.resolve_left HZ.out)] <;> rfl, (HO.out.trans hon2).below⟩
    ·have hie : i = x.args.length := by omega
     have HA : Hid (alikeB k x y = true) := alikeB_yes ⟨HN.out, HL.out, fun j h h2 hjk => hall.out j h h2 (by omega) hjk⟩;have k1 : decide ((i : Int) < (x.args.length : Int)) = false := decide_eq_false (by omega);have k2 : decide (i < x.args.length) = false := decide_eq_false hlt;clear hie hlt hi;go_wp2_with fail
     go_ret
     exact ⟨by rw [HA.out] <;> rfl, (HO.out.trans hon.out).below⟩
  ·have HL : Hid (alikeB k x y = false) := alikeB_no fun h => hl h.2.1
   have hl1 : ((x.args.length : Int) != (y.args.length : Int)) = true := by simp; omega
   have hl2 : (x.args.length != y.args.length) = true := by simp [hl]
   clear hn hl;go_wp2_with fail
   go_ret
   exact ⟨by rw [HL.out] <;> rfl, HO.out.below⟩
 ·rw [decide_eq_false hn] at hnn
  have hnn2 : (x.name.toList != y.name.toList) = true := by rw [bne, hnn]; rfl
  have HL : Hid (alikeB k x y = false) := alikeB_no fun h => hn h.1
  clear hn;go_wp2_with fail
  go_ret
  exact ⟨by rw [HL.out] <;> rfl, HO.out.below⟩
end Go.Proofs.Ytpnaegohjbaggaa
namespace Go.Proofs.Ytpnaegohjbaggaa
open Go.RowKit
mutual
def sameV : V → V → Bool
 | .mk k n s l, .mk k' n' s' l' => (k == k') && (n == n') && (s.toList == s'.toList) && sameL l l'
def sameL : List V → List V → Bool
 | [], [] => true
 | [], _ :: _ => false
 | _ :: _, [] => false
 | x :: l, y :: m => sameV x y && sameL l m
end
def SameAt (x y : V) : Prop := ∀ (B : Nat) (w : World) (c0 c1 c2 c3 d0 d1 d2 d3 : Value), B ≤ w.heap.size → RepV B w x c0 c1 c2 c3 → RepV B w y d0 d1 d2 d3 →
 Calls Try.prog 12 #[.agg #[c0, c1, c2, c3], .agg #[d0, d1, d2, d3]] w fun e w' => e = .returned (.bool (sameV x y)) ∧ Below w.heap.size w w'
def ValuesAt (l m : List V) : Prop := ∀ (B : Nat) (w : World) (a b : Value), B ≤ w.heap.size → RepL B w l a → RepL B w m b →
 Calls Try.prog 30 #[a, b] w fun e w' => e = .returned (.bool (sameL l m)) ∧ Below w.heap.size w w'
theorem sameL_len : ∀ {l m : List V}, l.length ≠ m.length → sameL l m = false
 | [], [], h => absurd rfl h
 | [], _ :: _, _ => by simp [sameL]
 | _ :: _, [], _ => by simp [sameL]
 | x :: l, y :: m, h => by simp [sameL, sameL_len (l := l) (m := m) (by simpa using h)]
theorem sameL_at {l m : List V} {k : Nat} (hl : k < l.length) (hm : k < m.length) : sameL (l.drop k) (m.drop k) = (sameV l[k] m[k] && sameL (l.drop (k + 1)) (m.drop (k + 1))) := by
 rw [List.drop_eq_getElem_cons hl, List.drop_eq_getElem_cons hm, sameL]
theorem retB {a b : Bool} (h : a = b) : Ending.returned (.bool a) = .returned (.bool b) := by rw [h]
set_option maxRecDepth 100000 in
set_option maxHeartbeats 1000000 in
theorem values_of (l m : List V) (hC : ∀ x, x ∈ l → ∀ y, SameAt x y) : ValuesAt l m := by
 intro B w a b hB ha hb;obtain ⟨aa, ab, ao, ac, rfl, hal, hac, haa, hab, hax⟩ := ha;obtain ⟨ba, bb, bo, bc, rfl, hbl, hbc, hba, hbb, hbx⟩ := hb;have HC := Lib.hid hC; clear hC
 have HAX := Lib.hid hax; clear hax
 have HBX := Lib.hid hbx; clear hbx
 have HAA := Lib.hid haa; clear haa
 have HBA := Lib.hid hba; clear hba
 by_cases hne : l.length = m.length
 ·have hn' : ((l.length : Int) != (m.length : Int)) = false := by simp; omega
  have HNE := Lib.hid hne;have hle1 : l.length ≤ m.length := by omega
  have hle2 : m.length ≤ l.length := by omega
  clear hne;go_enter Try.func30, Try.ntmps30
  go_wp2_with fail
  go_loopw [5] (fun i wr => ∃ k : Nat, k ≤ l.length ∧ i = .int .i64 k ∧ Hid (sameL l m = sameL (l.drop k) (m.drop k)) ∧ Below w.heap.size w wr) (fun i _ => l.length - (intOf i).toNat)
  case atStart => exact ⟨0, Nat.zero_le _, rfl, rfl, Below.refl _ _⟩
  case round =>
   obtain ⟨k, hk1, rfl, hrec, hbel⟩ := hrel
   by_cases hl : k < l.length
   ·have hm : k < m.length := by omega
    obtain ⟨x0, x1, x2, x3, g0, g1, g2, g3, gr⟩ := HAX.out k hl;obtain ⟨y0, y1, y2, y3, e0, e1, e2, e3, er⟩ := HBX.out k hm;have hab' : ab < B := hab (by omega);have hbb' : bb < B := hbb (by omega);obtain rfl := HAA.out (by omega);obtain rfl := HBA.out (by omega);rw [← hbel.cell (by simp; omega)] at g0 g1 g2 g3 e0 e1 e2 e3;go_wp2_with fail
    go_still_tail 8, (by kernel_rfl)
    change wpList _ _ _ _ _ wr.drew;have hbel2 : Below w.heap.size w wr.drew := hbel.drew;clear g0 g1 g2 g3 e0 e1 e2 e3 hbel;generalize wr.drew = w2 at *;have hs := hbel2.size;go_wp2_with fail
    refine (HC.out _ (List.getElem_mem hl) _ B w2 _ _ _ _ _ _ _ _ (by omega) (RepV.below (fun j hj => hbel2.block j (by omega)) _ gr) (RepV.below (fun j hj => hbel2.block j (by omega)) _ er)).mono ?_;rintro e w3 ⟨rfl, hbel3⟩;have hbel4 : Below w.heap.size w w3 := hbel2.trans (hbel3.mono hs);have HN := Lib.hid (sameL_at hl hm)
    cases hc : sameV l[k] m[k] with
    | true =>
     have HCZ := Lib.hid hc; clear hc
     go_wp2_with fail
     go_roundw
     case rel => exact ⟨k + 1, by omega, by go_num, by show _ = _; rw [hrec.out, HN.out, HCZ.out, Bool.true_and], hbel4⟩
     case measure => simp [intOf]; omega
    | false =>
     have HCZ := Lib.hid hc; clear hc
     go_wp2_with fail
     go_ret
     exact ⟨retB (by rw [hrec.out, HN.out, HCZ.out, Bool.false_and]), hbel4⟩
   ·have HF : Hid (sameL l m = true) := by
     show _ = _
     rw [hrec.out, List.drop_of_length_le (by omega), List.drop_of_length_le (by have := HNE.out; omega), sameL]
    go_wp2_with fail
    go_ret
    exact ⟨retB HF.out.symm, hbel⟩
 ·have hn' : ((l.length : Int) != (m.length : Int)) = true := by simp; omega
  have HF := Lib.hid (sameL_len hne);clear hne;go_enter Try.func30, Try.ntmps30
  go_wp2_with fail
  go_ret
  exact ⟨retB HF.out.symm, Below.refl _ _⟩
set_option maxRecDepth 100000 in
set_option maxHeartbeats 1000000 in
theorem same_any (x y : V) : SameAt x y := by
 match x, y with
 | .mk k n s l, .mk k' n' s' l' =>
 have hC : ∀ z, z ∈ l → ∀ y, SameAt z y := fun z _hz y => same_any z y
 have HC := Lib.hid hC; clear hC
 intro B w c0 c1 c2 c3 d0 d1 d2 d3 hB hx hy;rw [repV_mk] at hx hy;obtain ⟨rfl, rfl, rfl, hk, hn, hs, hl⟩ := hx;obtain ⟨rfl, rfl, rfl, hk', hn', hs', hl'⟩ := hy;have HL := Lib.hid hl;have HL' := Lib.hid hl';obtain ⟨aa, ab, ao, ac, rfl, -⟩ := hl;obtain ⟨ba, bb, bo, bc, rfl, -⟩ := hl'
 have hbb : Below w.heap.size w ((w.alloc (.cells #[.int .i64 k, .int .i64 n, .string s, .slice aa l.length ac] 27)).alloc (.cells #[.int .i64 k', .int .i64 n', .string s', .slice ba l'.length bc] 27)) :=
  ((Below.refl _ w).alloc (Nat.le_refl _) _).alloc (by simp) _
 by_cases e : k = k'
 ·subst e
  by_cases e2 : n = n'
  ·subst e2
   cases e3 : (s.toList == s'.toList) with
   | true =>
    have e3' : s.toList = s'.toList := by simpa using e3
    have HE := Lib.hid e3;have hz : (!(s.toList == s'.toList)) = false := by simp [e3']
    clear e3';go_enter Try.func12, Try.ntmps12
    go_wp2_with fail
    refine (values_of l l' HC.out B _ _ _ (by simp; omega) (RepL.below (fun j hj => hbb.block j (by omega)) HL.out) (RepL.below (fun j hj => hbb.block j (by omega)) HL'.out)).mono ?_;rintro e w' ⟨rfl, hb⟩;have hb4 : Below w.heap.size w w' := hbb.trans (hb.mono (by simp; omega));go_wp2_with fail
    go_ret
    exact ⟨retB (by simp [sameV, HE.out]), hb4⟩
   | false =>
    have HE := Lib.hid e3;have hz : ¬ (s.toList = s'.toList) := by simpa using e3
    go_enter Try.func12, Try.ntmps12
    go_wp2_with fail
    go_ret
    exact ⟨retB (by simp [sameV, HE.out]), hbb⟩
  ·have f2 : (n == n') = false := by simp [e2]
   have HE := Lib.hid f2;clear e2;go_enter Try.func12, Try.ntmps12
   go_wp2_with fail
   go_ret
   exact ⟨retB (by simp [sameV, HE.out]), hbb⟩
 ·have f1 : (k == k') = false := by simp [e]
  have HE := Lib.hid f1;clear e;go_enter Try.func12, Try.ntmps12
  go_wp2_with fail
  go_ret
  exact ⟨retB (by simp [sameV, HE.out]), hbb⟩
 termination_by SizeOf.sizeOf x
 decreasing_by
  have := List.sizeOf_lt_of_mem _hz;simp only [V.mk.sizeOf_spec]
  omega
theorem toList_inj {s s' : ByteArray} (h : s.toList = s'.toList) : s = s' := by
 rw [Lib.toList_data, Lib.toList_data] at h;exact ByteArray.ext (Array.toList_inj.1 h)
mutual
theorem sameV_iff (x y : V) : sameV x y = true ↔ x = y := by
 match x, y with
 | .mk k n s l, .mk k' n' s' l' =>
  rw [sameV, V.mk.injEq];simp only [Bool.and_eq_true, beq_iff_eq, sameL_iff l l']
  constructor
  ·rintro ⟨⟨⟨h1, h2⟩, h3⟩, h4⟩; exact ⟨h1, h2, toList_inj h3, h4⟩
  ·rintro ⟨h1, h2, h3, h4⟩; exact ⟨⟨⟨h1, h2⟩, by rw [h3]⟩, h4⟩
 termination_by SizeOf.sizeOf x
 decreasing_by simp only [V.mk.sizeOf_spec]; omega
theorem sameL_iff (l m : List V) : sameL l m = true ↔ l = m := by
 match l, m with
 | [], [] => simp [sameL]
 | [], _ :: _ => simp [sameL]
 | _ :: _, [] => simp [sameL]
 | x :: l, y :: m =>
  rw [sameL, Bool.and_eq_true, sameV_iff x y, sameL_iff l m, List.cons.injEq]
 termination_by SizeOf.sizeOf l
end
end Go.Proofs.Ytpnaegohjbaggaa
