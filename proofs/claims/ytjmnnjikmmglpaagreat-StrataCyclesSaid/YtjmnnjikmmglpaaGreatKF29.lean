/-
  SixProgram
-/
import Derived.Test.YtjmnnjikmmglpaaGreatKF03
import Derived.Test.YtjmnnjikmmglpaaGreatKF04
import Derived.Test.YtjmnnjikmmglpaaGreatKF13
import Derived.Test.YtjmnnjikmmglpaaGreatKF11
namespace Go.Proofs.YtjmnnjikmmglpaaGreat
open Go.RowKit
theorem rulesTo_succ (l : List (List Rw)) {k : Nat} (h : k < l.length) : rulesTo l (k + 1) = rulesTo l k ++ [ruleZ l[k] k] := by
 rw [rulesTo, rulesTo, List.range_succ, List.map_append];simp [List.getD, List.getElem?_eq_getElem h]
theorem rulesTo_len (l : List (List Rw)) (k : Nat) : (rulesTo l k).length = k := by rw [rulesTo, List.length_map, List.length_range]
def factsTo (l : List Rw) (k : Nat) : List Fa := (l.take k).map factZ
theorem factsTo_succ (l : List Rw) {k : Nat} (h : k < l.length) : factsTo l (k + 1) = factsTo l k ++ [factZ l[k]] := by
 rw [factsTo, factsTo, List.take_succ_eq_append_getElem h, List.map_append]; rfl
theorem factsTo_len (l : List Rw) (k : Nat) : (factsTo l k).length ≤ k := by rw [factsTo, List.length_map, List.length_take]; omega
theorem factsTo_end (l : List Rw) {k : Nat} (h : ¬ (k < 12 ∧ k < l.length)) (hk : k ≤ 12) : factsTo l k = (l.take 12).map factZ := by
 by_cases e : k = 12
 ·rw [e]; rfl
 ·rw [factsTo, List.take_of_length_le (show l.length ≤ k by omega), List.take_of_length_le (show l.length ≤ 12 by omega)]
def RuAt (B : Nat) (y : Ru) (w : World) (v : Value) : Prop := ∃ c2 c5, v = .agg #[.string y.label, .string y.head, c2, .string y.agg, .int .i64 y.at', c5] ∧ RepRu (fun b => B ≤ b ∧ b < w.heap.size) w y (.string y.label) (.string y.head) c2 (.string y.agg) (.int .i64 y.at') c5
theorem RuAt.stay {B : Nat} {y : Ru} {w w' : World} {v : Value} (hb : Below w.heap.size w w') (h : RuAt B y w v) : RuAt B y w' v := by
 obtain ⟨c2, c5, e, h⟩ := h;exact ⟨c2, c5, e, RepRu.on (fun k hk => ⟨hk.1, Nat.lt_of_lt_of_le hk.2 hb.size⟩) (fun k hk => hb.block k hk.2) h⟩
theorem RuAt.of {B : Nat} {y : Ru} {w w' : World} {e : Ending} (hB : B ≤ w.heap.size) (h : MadeRu y w e w') : ∃ v, e = .returned v ∧ RuAt B y w' v ∧ Below w.heap.size w w' := by
 obtain ⟨c2, c5, e, h, hb⟩ := h;exact ⟨_, e, ⟨c2, c5, rfl, RepRu.on (fun k hk => ⟨Nat.le_trans hB hk.1, hk.2⟩) (fun _ _ => rfl) h⟩, hb⟩
def RowRu (B : Nat) (y : Ru) (w : World) (v : Value) : Prop := ∃ b c2 c5, v = .slice (some ⟨b, 0, none⟩) 1 1 ∧ w.heap[b]? = some (.cells #[.string y.label, .string y.head, c2, .string y.agg, .int .i64 y.at', c5] 47 (0, 0)) ∧ RepRu (fun b => B ≤ b ∧ b < w.heap.size) w y (.string y.label) (.string y.head) c2 (.string y.agg) (.int .i64 y.at') c5
theorem RowRu.stay {B : Nat} {y : Ru} {w w' : World} {v : Value} (hb : Below w.heap.size w w') (h : RowRu B y w v) : RowRu B y w' v := by
 obtain ⟨b, c2, c5, e, h1, h⟩ := h;exact ⟨b, c2, c5, e, (hb.block b (Array.getElem?_eq_some_iff.1 h1).1).trans h1, RepRu.on (fun k hk => ⟨hk.1, Nat.lt_of_lt_of_le hk.2 hb.size⟩) (fun k hk => hb.block k hk.2) h⟩
theorem RowRu.new {B : Nat} {y : Ru} {w : World} {c2 c5 : Value} (h : RepRu (fun b => B ≤ b ∧ b < w.heap.size) w y (.string y.label) (.string y.head) c2 (.string y.agg) (.int .i64 y.at') c5) : RowRu B y (w.alloc (.cells #[.string y.label, .string y.head, c2, .string y.agg, .int .i64 y.at', c5] 47)) (.slice (some ⟨w.heap.size, 0, none⟩) 1 1) :=
 ⟨_, c2, c5, rfl, alloc_new' w _, RepRu.on (fun k hk => ⟨hk.1, by simp; omega⟩) (fun k hk => Below.heap_alloc _ _ _ hk.2) h⟩
def FaAt (B : Nat) (y : Fa) (w : World) (v : Value) : Prop := ∃ sl, v = .agg #[.string y.name, sl] ∧ RepFa (fun b => B ≤ b ∧ b < w.heap.size) w y (.string y.name) sl
theorem FaAt.stay {B : Nat} {y : Fa} {w w' : World} {v : Value} (hb : Below w.heap.size w w') (h : FaAt B y w v) : FaAt B y w' v := by
 obtain ⟨sl, e, h⟩ := h;exact ⟨sl, e, RepFa.on (fun k hk => ⟨hk.1, Nat.lt_of_lt_of_le hk.2 hb.size⟩) (fun k hk => hb.block k hk.2) h⟩
theorem FaAt.of {B : Nat} {y : Fa} {w w' : World} {e : Ending} (hB : B ≤ w.heap.size) (h : MadeFa y w e w') : ∃ v, e = .returned v ∧ FaAt B y w' v ∧ Below w.heap.size w w' := by
 obtain ⟨sl, e, h, hb⟩ := h;exact ⟨_, e, ⟨sl, rfl, RepFa.on (fun k hk => ⟨Nat.le_trans hB hk.1, hk.2⟩) (fun _ _ => rfl) h⟩, hb⟩
def RowFa (B : Nat) (y : Fa) (w : World) (v : Value) : Prop := ∃ b sl, v = .slice (some ⟨b, 0, none⟩) 1 1 ∧ w.heap[b]? = some (.cells #[.string y.name, sl] 73 (0, 0)) ∧ RepFa (fun b => B ≤ b ∧ b < w.heap.size) w y (.string y.name) sl
theorem RowFa.stay {B : Nat} {y : Fa} {w w' : World} {v : Value} (hb : Below w.heap.size w w') (h : RowFa B y w v) : RowFa B y w' v := by
 obtain ⟨b, sl, e, h1, h⟩ := h;exact ⟨b, sl, e, (hb.block b (Array.getElem?_eq_some_iff.1 h1).1).trans h1, RepFa.on (fun k hk => ⟨hk.1, Nat.lt_of_lt_of_le hk.2 hb.size⟩) (fun k hk => hb.block k hk.2) h⟩
theorem RowFa.new {B : Nat} {y : Fa} {w : World} {sl : Value} (h : RepFa (fun b => B ≤ b ∧ b < w.heap.size) w y (.string y.name) sl) : RowFa B y (w.alloc (.cells #[.string y.name, sl] 73)) (.slice (some ⟨w.heap.size, 0, none⟩) 1 1) :=
 ⟨_, sl, rfl, alloc_new' w _, RepFa.on (fun k hk => ⟨hk.1, by simp; omega⟩) (fun k hk => Below.heap_alloc _ _ _ hk.2) h⟩
def MadePr (y : Pr) (w : World) (e : Ending) (w' : World) : Prop := ∃ c0 c1 c2, e = .returned (.agg #[c0, c1, c2]) ∧ RepPr (fun b => w.heap.size ≤ b ∧ b < w'.heap.size) w' y c0 c1 c2 ∧ Below w.heap.size w w'
set_option maxRecDepth 100000 in
set_option maxHeartbeats 20000000 in
theorem program_any (rules : List (List Rw)) (facts : List Rw) (S : Nat → Prop) (w : World) (va vb : Value) (hS : ∀ k, S k → k < w.heap.size) (hx : RepRwss S w rules va) (hy : RepRws S w facts vb) : Calls Tryz.prog 10 #[va, vb] w (MadePr (progZ rules facts) w) := by
 have HX := Lib.hid hx; have HY := Lib.hid hy; have HS := Lib.hid hS
 obtain ⟨fa, fc, rfl⟩ := SlG.form hx;obtain ⟨ga, gc, rfl⟩ := SlG.form hy;have HLN : Hid (rules.length ≤ 140737488355328 ∧ facts.length ≤ 140737488355328) := by have h1 := SlG.bytes hx; have h2 := SlG.bytes hy; exact ⟨by omega, by omega⟩
 clear hx hy hS;go_enter Tryz.func10, Tryz.ntmps10
 go_wp2_with fail
 have t1 := boxPr_new w (.slice none 0 0) (.slice none 0 0) (.slice none 0 0); have b1 := below_alloc w (.cells #[.slice none 0 0, .slice none 0 0, .slice none 0 0] 28)
 have s1 := World.size_alloc w (.cells #[.slice none 0 0, .slice none 0 0, .slice none 0 0] 28);generalize w.alloc (.cells #[.slice none 0 0, .slice none 0 0, .slice none 0 0] 28) = wa at *;refine (relations_any wa).mono ?_;rintro e w' ⟨rfl, hr, hb⟩;have z := fun i => frozen_of_row (w'.alloc (.cells #[.slice none 0 0, .slice none 0 0, .slice none 0 0] 28)) w'.heap.size i _ _ (alloc_new' w' _)
 have z0 := z 0; have z1 := z 1; have z2 := z 2
 clear z;rw [s1] at hr ⊢;have T2 := t1.on hb;have B2 := Below.step b1 hb;have hsz := hb.size;clear t1 b1 hb;go_wp2_with fail
 have k3 := boxPr_new w' (.slice (some ⟨w.heap.size + 1, 0, none⟩) 6 6) (.slice none 0 0) (.slice none 0 0);have b3 := below_alloc w' (.cells #[.slice (some ⟨w.heap.size + 1, 0, none⟩) 6 6, .slice none 0 0, .slice none 0 0] 28);have s3 := World.size_alloc w' (.cells #[.slice (some ⟨w.heap.size + 1, 0, none⟩) 6 6, .slice none 0 0, .slice none 0 0] 28);clear z0 z1 z2;generalize w'.alloc (.cells #[.slice (some ⟨w.heap.size + 1, 0, none⟩) 6 6, .slice none 0 0, .slice none 0 0] 28) = w3 at *;have T3 := Lib.hid (T2.on b3); have B3 := Lib.hid (Below.step B2 b3)
 have D3 : Hid (RepDes (fun b => w.heap.size + 1 ≤ b ∧ b < w'.heap.size) w3 decls6 (.slice (some ⟨w.heap.size + 1, 0, none⟩) 6 6)) := RepDes.on (fun b hb => hb) (fun b hb => b3.block b hb.2) hr;obtain ⟨kq, hkq⟩ : ∃ kq, w'.heap.size = kq := ⟨_, rfl⟩;rw [hkq] at k3 s3 D3 hsz ⊢;have K3 := Lib.hid k3; have S3 := Lib.hid s3
 have HKQ : Hid (w.heap.size + 1 ≤ kq) := by show _ ≤ _; omega
 clear T2 B2 b3 hr k3 s3 hkq hsz;go_loopw [6] (fun iv wr => ∃ (k : Nat) (lv : Value), k ≤ 6 ∧ k ≤ rules.length ∧ iv = .int .i64 (k : Int) ∧ MineK kdRu wr w3.heap.size (rulesTo rules k) lv ∧ BoxPr wr kq (.slice (some ⟨w.heap.size + 1, 0, none⟩) 6 6) (.slice none 0 0) lv ∧ But kq w3.heap.size w3 wr) (fun iv _ => 6 - (intOf iv).toNat)
 case atStart => exact ⟨0, .slice none 0 0, by omega, Nat.zero_le _, rfl, MineK.nil _ _, K3.out, But.refl _ _ _⟩
 case round =>
  obtain ⟨k, lv, hk5, hkl, rfl, hmine, hbox, hbut⟩ := hrel;have HKB : Hid (k ≤ 6 ∧ k ≤ rules.length) := ⟨hk5, hkl⟩;have HO := Lib.hid hmine; have OR := Lib.hid hbox; have HBUT := Lib.hid hbut
  have HWS : Hid (w3.heap.size ≤ wr.heap.size) := hbut.size;have HBW : Hid (Below w.heap.size w wr) := Below.trans B3.out (hbut.below (by have := S3.out; have := HKQ.out; omega) (by have := HKQ.out; omega));have hlen := HLN.out.1;clear hmine hbox hbut;have HKW : Hid (kq < w3.heap.size) := by show _ < _; have := S3.out; omega
  go_upto_region 3 with fail
  go_cut [17] from 10 to 30 (fun s wx => s = .bool (decide (k < 6 ∧ k < rules.length)) ∧ wr = wx)
  case first =>
   by_cases c1 : k < rules.length
   ·have i1 : decide ((k : Int) < (rules.length : Int)) = true := decide_eq_true (by omega)
    by_cases c2 : k < 6
    ·have i2 : decide ((k : Int) < 6) = true := decide_eq_true (by omega)
     have HZ : Hid (decide (k < 6 ∧ k < rules.length) = true) := decide_eq_true ⟨c2, c1⟩;clear hk5 hkl;go_wp2_with fail
     go_meet
     exact ⟨by rw [HZ.out], rfl⟩
    ·have i2 : decide ((k : Int) < 6) = false := decide_eq_false (by omega)
     have HZ : Hid (decide (k < 6 ∧ k < rules.length) = false) := decide_eq_false (by omega);clear hk5 hkl;go_wp2_with fail
     go_meet
     exact ⟨by rw [HZ.out], rfl⟩
   ·have i1 : decide ((k : Int) < (rules.length : Int)) = false := decide_eq_false (by omega)
    have HZ : Hid (decide (k < 6 ∧ k < rules.length) = false) := decide_eq_false (by omega);clear hk5 hkl;go_wp2_with fail
    go_meet
    exact ⟨by rw [HZ.out], rfl⟩
  case rest =>
   obtain ⟨rfl, rfl⟩ := hcut;clear hlen hk5 hkl
   by_cases hlt : k < 6 ∧ k < rules.length
   ·rw [decide_eq_true hlt]
    obtain ⟨hlt1, hlt2⟩ := hlt;obtain ⟨-, -, rb, ro, hfa, hSb, c, hc, hrx⟩ := SlG.at HX.out k hlt2;have q0 := hc 0 (by omega);rw [Nat.mul_one, Nat.add_zero] at q0;obtain ⟨xa, xc, hxv⟩ := SlG.form hrx;rw [hxv] at q0 hrx;have HRB : Hid (rb < w.heap.size) := HS.out rb hSb;have Q0 := Lib.hid ((HBW.out.cell (p := ⟨rb, ro + k, none⟩) HRB.out).trans q0);have HSW : Hid (∀ b, S b → b < wr.heap.size) := fun b hb => Nat.lt_of_lt_of_le (HS.out b hb) HBW.out.size
    have GX : Hid (RepRws S wr rules[k] (.slice xa rules[k].length xc)) := SlG.on (fun _ h => h) (fun b hb => HBW.out.block b (HS.out b hb)) (fun _ _ _ h => h) hrx;subst hfa;clear hSb hc q0 hrx hxv;have HTK := Lib.hid (rulesTo_succ rules hlt2);have HLK : Hid ((rulesTo rules k).length ≤ 1000) := by show _ ≤ _; rw [rulesTo_len]; omega
    have HK1 : Hid ((0 : Int) ≤ (k : Int)) := Int.natCast_nonneg k;have HK2 : Hid ((k : Int) < (rules.length : Int)) := by show _ < _; omega
    have HKL : Hid (k < 6 ∧ k < rules.length) := ⟨hlt1, hlt2⟩;have HKI : Hid (I64 (k : Int)) := ⟨by omega, by omega⟩;generalize rules[k] = x at *;clear hlt1 hlt2;have HWL : Hid (rb < wr.heap.size) := Nat.lt_of_lt_of_le HRB.out HBW.out.size;go_wp2_with fail
    refine wp_region_factsP (by rfl) 52 (by rfl) (by kernel_rfl) 9 (fun q => q == 0 || q == 1 || q == 2 || q == 3 || q == 4 || q == 5 || q == 6 || q == 7 || q == 8) (by kernel_rfl) (FB [.e (.pointer (some ⟨kq, 2, none⟩)), .e lv, .e (.slice (some ⟨rb, ro, none⟩) rules.length fc), .e (.int .i64 (k : Int)), .e (.pointer (some ⟨rb, ro + k, none⟩)), .e (.slice xa x.length xc), .e (.int .i64 (k : Int)), .p (RuAt wr.heap.size (ruleZ x (k : Int))), .p (RowRu wr.heap.size (ruleZ x (k : Int))), .t (fun wz vz => ∃ a cap, vz = .slice a ((rulesTo rules k).length + 1) cap ∧ MineK kdRu wz w3.heap.size (rulesTo rules k ++ [ruleZ x (k : Int)]) vz), .e (.pointer (some ⟨kq, 2, none⟩))]) (fun ph w' => if ph = true then Aft wr w3.heap.size lv w' else Below wr.heap.size wr w') (Below.drew (Below.refl _ _)) ⟨?s0, ?s1, ?s2, ?s3, ?s4, ?s5, ?s6, ?s7, ?s8, ?s9, ?s10, trivial⟩ (by rfl) ?last
    case s0 =>
     intro a w' hoff hg hdep K hK;replace hg : Below wr.heap.size wr w' := hg;have h5 := off_at hoff 5 (v := .pointer (some ⟨kq, 0, none⟩)) (by kernel_rfl) rfl;rw [if_pos (by rfl)];go_simp;exact hK.out _ _ hg rfl (fun _ _ h => h)
    case s1 =>
     intro a w' hoff hg hdep K hK;replace hg : Below wr.heap.size wr w' := hg;obtain ⟨_, e0, rfl⟩ := hdep 0 _ 20 (by kernel_rfl) rfl rfl;rw [if_pos (by rfl)];obtain ⟨o0, o1, o2⟩ := (OR.out.on hg).cells; have q0 := (hg.cell (p := ⟨rb, ro + k, none⟩) HWL.out).trans Q0.out
     go_simp;exact hK.out _ _ hg rfl (fun _ _ h => h)
    case s2 =>
     intro a w' hoff hg hdep K hK;replace hg : Below wr.heap.size wr w' := hg;have h0 := off_at hoff 0 (v := .slice (some ⟨rb, ro, none⟩) rules.length fc) (by kernel_rfl) rfl;rw [if_pos (by rfl)];go_simp;exact hK.out _ _ hg rfl (fun _ _ h => h)
    case s3 =>
     intro a w' hoff hg hdep K hK;replace hg : Below wr.heap.size wr w' := hg;have h6 := off_at hoff 6 (v := .int .i64 (k : Int)) (by kernel_rfl) rfl;rw [if_pos (by rfl)];go_simp;exact hK.out _ _ hg rfl (fun _ _ h => h)
    case s4 =>
     intro a w' hoff hg hdep K hK;replace hg : Below wr.heap.size wr w' := hg;obtain ⟨_, e2, rfl⟩ := hdep 2 _ 22 (by kernel_rfl) rfl rfl;obtain ⟨_, e3, rfl⟩ := hdep 3 _ 23 (by kernel_rfl) rfl rfl;rw [if_pos (by rfl)];have hk1 := HK1.out; have hk2 := HK2.out
     go_simp;exact hK.out _ _ hg rfl (fun _ _ h => h)
    case s5 =>
     intro a w' hoff hg hdep K hK;replace hg : Below wr.heap.size wr w' := hg;obtain ⟨_, e4, rfl⟩ := hdep 4 _ 24 (by kernel_rfl) rfl rfl;rw [if_pos (by rfl)];obtain ⟨o0, o1, o2⟩ := (OR.out.on hg).cells; have q0 := (hg.cell (p := ⟨rb, ro + k, none⟩) HWL.out).trans Q0.out
     go_simp;exact hK.out _ _ hg rfl (fun _ _ h => h)
    case s6 =>
     intro a w' hoff hg hdep K hK;replace hg : Below wr.heap.size wr w' := hg;have h6 := off_at hoff 6 (v := .int .i64 (k : Int)) (by kernel_rfl) rfl;rw [if_pos (by rfl)];go_simp;exact hK.out _ _ hg rfl (fun _ _ h => h)
    case s7 =>
     intro a w' hoff hg hdep K hK;replace hg : Below wr.heap.size wr w' := hg;obtain ⟨_, e5, rfl⟩ := hdep 5 _ 25 (by kernel_rfl) rfl rfl;obtain ⟨_, e6, rfl⟩ := hdep 6 _ 26 (by kernel_rfl) rfl rfl;rw [if_pos (by rfl)];go_simp;refine (rule_any x (k : Int) (fun b => b < w'.heap.size) w' _ _ (fun _ h => h) (SlG.on (fun b hb => Nat.lt_of_lt_of_le (HSW.out b hb) hg.size) (fun b hb => hg.block b (HSW.out b hb)) (fun _ _ _ h => h) GX.out) HKI.out).mono ?_;intro e w2' hm;obtain ⟨u, rfl, hp, hb⟩ := RuAt.of (B := wr.heap.size) hg.size hm;exact hK.out _ _ (Below.step hg hb) (fun _ => hp) (fStP ⟨fun _ h => RuAt.stay hb h, fun _ h => RowRu.stay hb h, trivial⟩)
    case s8 =>
     intro a w' hoff hg hdep K hK;replace hg : Below wr.heap.size wr w' := hg;obtain ⟨v7, e7, f7⟩ := hdep 7 _ 27 (by kernel_rfl) rfl rfl;have g7 : RuAt wr.heap.size (ruleZ x (k : Int)) w' v7 := f7 rfl;obtain ⟨c2, c5, rfl, kv⟩ := g7;rw [if_pos (by rfl)];go_simp;have hb := below_alloc w' (.cells #[.string (ruleZ x (k : Int)).label, .string (ruleZ x (k : Int)).head, c2, .string (ruleZ x (k : Int)).agg, .int .i64 (ruleZ x (k : Int)).at', c5] 47);have hp := RowRu.new kv;exact hK.out _ _ (Below.step hg hb) (fun _ => hp) (fStP ⟨fun _ h => RuAt.stay hb h, fun _ h => RowRu.stay hb h, trivial⟩)
    case s9 =>
     intro a w' hoff hg hdep K hK;replace hg : Below wr.heap.size wr w' := hg;obtain ⟨v1, e1, f1⟩ := hdep 1 _ 21 (by kernel_rfl) rfl rfl;obtain rfl : lv = v1 := Eq.symm f1;obtain ⟨v8, e8, f8⟩ := hdep 8 _ 28 (by kernel_rfl) rfl rfl;have g8 : RowRu wr.heap.size (ruleZ x (k : Int)) w' v8 := f8 rfl;obtain ⟨b, c2, c5, rfl, hbk, hrep⟩ := g8;obtain ⟨va, vcap, w6, hrun, hm6, hgr⟩ := own_append (K := kdRu) (y := ruleZ x (k : Int)) (c := at6v (.string (ruleZ x (k : Int)).label) (.string (ruleZ x (k : Int)).head) (c2) (.string (ruleZ x (k : Int)).agg) (.int .i64 (ruleZ x (k : Int)).at') (c5)) (HO.out.stands hg) (Nat.le_trans HWS.out hg.size) HLK.out hbk rfl (fun j hj => match j, hj with | 0, _ => rfl | 1, _ => rfl | 2, _ => rfl | 3, _ => rfl | 4, _ => rfl | 5, _ => rfl) (RepRu.on (fun b' hb' => ⟨Nat.le_trans HWS.out hb'.1, hb'.2, fun e => by have := (OwnK.lies HO.out b' e).2; omega⟩) (fun _ _ => rfl) hrep) 26;refine step_append_by rfl (.tmp 21) (.tmp 28) 26 rfl (by simp [Act.eval, e1]) (by simp [Act.eval, e8]) hrun ?_;have hp : ∃ a cap, (.slice va ((rulesTo rules k).length + 1) vcap : Value) = .slice a ((rulesTo rules k).length + 1) cap ∧ MineK kdRu w6 w3.heap.size (rulesTo rules k ++ [ruleZ x (k : Int)]) (.slice va ((rulesTo rules k).length + 1) vcap) := ⟨_, _, rfl, hm6⟩;have hG2 := Aft.of HO.out HWS.out hg hgr;exact hK.out _ _ hG2 (fun _ => hp) (fPass rfl)
    case s10 =>
     intro ph a w' hoff hg hdep K hK;have h5 := off_at hoff 5 (v := .pointer (some ⟨kq, 0, none⟩)) (by kernel_rfl) rfl;rw [if_pos (by rfl)];go_simp;exact hK.out _ _ hg rfl (fun _ _ h => h)
    case last =>
     intro a w' hoff hg hf;replace hg : Aft wr w3.heap.size lv w' := hg;obtain ⟨_, e0, rfl⟩ := hf 0 _ 20 (by decide) rfl rfl;obtain ⟨v1, e1, f1⟩ := hf 1 _ 21 (by decide) rfl rfl;obtain rfl : lv = v1 := Eq.symm f1;obtain ⟨_, e2, rfl⟩ := hf 2 _ 22 (by decide) rfl rfl;obtain ⟨_, e3, rfl⟩ := hf 3 _ 23 (by decide) rfl rfl;obtain ⟨_, e4, rfl⟩ := hf 4 _ 24 (by decide) rfl rfl;obtain ⟨_, e5, rfl⟩ := hf 5 _ 25 (by decide) rfl rfl;obtain ⟨_, e6, rfl⟩ := hf 6 _ 26 (by decide) rfl rfl;obtain ⟨v7, e7, f7⟩ := hf 7 _ 27 (by decide) rfl rfl;obtain ⟨v8, e8, f8⟩ := hf 8 _ 28 (by decide) rfl rfl;obtain ⟨v9, e9, f9⟩ := hf 9 _ 29 (by decide) rfl rfl;have g9 : ∃ a cap, v9 = .slice a ((rulesTo rules k).length + 1) cap ∧ MineK kdRu w' w3.heap.size (rulesTo rules k ++ [ruleZ x (k : Int)]) v9 := f9 rfl;obtain ⟨_, e10, rfl⟩ := hf 10 _ 30 (by decide) rfl rfl;obtain ⟨va, vcap, rfl, hm6⟩ := g9;have OR6 : Hid (BoxPr w' kq (.slice (some ⟨w.heap.size + 1, 0, none⟩) 6 6) (.slice none 0 0) (lv)) := (hg.below.block _ HKW.out).trans OR.out;obtain ⟨o0, o1, o2⟩ := OR6.out.cells;have zz := frozen_of_row w' kq 2 _ _ OR6.out;rw [if_pos (by rfl)];rw [hoff.sets [(20, .pointer (some ⟨kq, 2, none⟩)), (21, lv), (22, .slice (some ⟨rb, ro, none⟩) rules.length fc), (23, .int .i64 (k : Int)), (24, .pointer (some ⟨rb, ro + k, none⟩)), (25, .slice xa x.length xc), (26, .int .i64 (k : Int)), (27, v7), (28, v8), (29, .slice va ((rulesTo rules k).length + 1) vcap), (30, .pointer (some ⟨kq, 2, none⟩))] (by kernel_rfl) (by intro p hp; simp only [List.mem_cons, List.not_mem_nil, or_false] at hp; rcases hp with rfl | rfl | rfl | rfl | rfl | rfl | rfl | rfl | rfl | rfl | rfl <;> assumption)];clear hoff hf e0 e1 e2 e3 e4 e5 e6 e7 f7 e8 f8 e9 f9 e10;simp only [List.foldl_cons, List.foldl_nil, List.setIfInBounds_toArray, List.set_cons_zero, List.set_cons_succ]
     go_simp;have HM6 := Lib.hid (hm6.far (p := ⟨kq, 2, none⟩) HKW.out (.slice va ((rulesTo rules k).length + 1) vcap));have OB6 : Hid (BoxPr (w'.setCell ⟨kq, 2, none⟩ (.slice va ((rulesTo rules k).length + 1) vcap)) kq (.slice (some ⟨w.heap.size + 1, 0, none⟩) 6 6) (.slice none 0 0) (.slice va ((rulesTo rules k).length + 1) vcap)) := heap_setCell_same _ _ _ _ _ _ OR6.out;have HB6 := Lib.hid ((HBUT.out.step (Nat.le_refl _) hg.below).set 2 (.slice va ((rulesTo rules k).length + 1) vcap));clear hg hm6 o0 o1 o2 zz;go_wp2_with fail
     go_roundw
     case rel => exact ⟨k + 1, .slice va ((rulesTo rules k).length + 1) vcap, HKL.out.1, HKL.out.2, (by have := HKL.out.1; rw [show wrap64 ((k : Int) + 1) = ((k + 1 : Nat) : Int) by unfold wrap64; omega]), by rw [HTK.out]; exact HM6.out, OB6.out, HB6.out⟩
     case measure => exact measure_up HKL.out.1 (by decide)
   ·rw [decide_eq_false hlt]
    have HFIN : Hid (k = min rules.length 6) := by show _ = _; have := HKB.out; omega
    rw [HFIN.out] at HO;have T4 : Hid (BoxPr wr w.heap.size (.slice none 0 0) (.slice none 0 0) (.slice none 0 0)) := (HBUT.out.block _ (by have := HKQ.out; have := S3.out; omega) (by have := HKQ.out; omega)).trans T3.out;have D4 : Hid (RepDes (fun b => w.heap.size + 1 ≤ b ∧ b < kq) wr decls6 (.slice (some ⟨w.heap.size + 1, 0, none⟩) 6 6)) := RepDes.on (fun b hb => hb) (fun b hb => HBUT.out.block b (by have := S3.out; omega) (by omega)) D3.out;have K4 := OR; have R4 := HO; have B4 := HBW
    have S4 : Hid (kq + 1 ≤ wr.heap.size) := by show _ ≤ _; have := HWS.out; have := S3.out; omega
    have S34 : Hid (kq + 1 ≤ w3.heap.size) := by show _ ≤ _; have := S3.out; omega
    clear hlt HFIN HKB HO OR HBUT HWS HBW HKW T3 B3 D3 K3 S3;generalize lv = rv at *;generalize wr = w4 at *;go_wp2_with fail
    go_loopw [7] (fun iv wr => ∃ (k : Nat) (lv : Value), k ≤ 12 ∧ k ≤ facts.length ∧ iv = .int .i64 (k : Int) ∧ MineK kdFa wr w4.heap.size (factsTo facts k) lv ∧ BoxPr wr kq (.slice (some ⟨w.heap.size + 1, 0, none⟩) 6 6) lv rv ∧ But kq w4.heap.size w4 wr) (fun iv _ => 12 - (intOf iv).toNat)
    case atStart => exact ⟨0, .slice none 0 0, by omega, Nat.zero_le _, rfl, MineK.nil _ _, K4.out, But.refl _ _ _⟩
    case round =>
     obtain ⟨k, lv, hk5, hkl, rfl, hmine, hbox, hbut⟩ := hrel;have HKB : Hid (k ≤ 12 ∧ k ≤ facts.length) := ⟨hk5, hkl⟩;have HO := Lib.hid hmine; have OR := Lib.hid hbox; have HBUT := Lib.hid hbut
     have HWS : Hid (w4.heap.size ≤ wr.heap.size) := hbut.size;have HBW : Hid (Below w.heap.size w wr) := Below.trans B4.out (hbut.below (by have := S4.out; have := HKQ.out; omega) (by have := HKQ.out; omega));have hlen := HLN.out.2;clear hmine hbox hbut;have HKW : Hid (kq < w4.heap.size) := by show _ < _; have := S4.out; omega
     go_upto_region 7 with fail
     go_cut [38] from 31 to 50 (fun s wx => s = .bool (decide (k < 12 ∧ k < facts.length)) ∧ wr = wx)
     case first =>
      by_cases c1 : k < facts.length
      ·have i1 : decide ((k : Int) < (facts.length : Int)) = true := decide_eq_true (by omega)
       by_cases c2 : k < 12
       ·have i2 : decide ((k : Int) < 12) = true := decide_eq_true (by omega)
        have HZ : Hid (decide (k < 12 ∧ k < facts.length) = true) := decide_eq_true ⟨c2, c1⟩;clear hk5 hkl;go_wp2_with fail
        go_meet
        exact ⟨by rw [HZ.out], rfl⟩
       ·have i2 : decide ((k : Int) < 12) = false := decide_eq_false (by omega)
        have HZ : Hid (decide (k < 12 ∧ k < facts.length) = false) := decide_eq_false (by omega);clear hk5 hkl;go_wp2_with fail
        go_meet
        exact ⟨by rw [HZ.out], rfl⟩
      ·have i1 : decide ((k : Int) < (facts.length : Int)) = false := decide_eq_false (by omega)
       have HZ : Hid (decide (k < 12 ∧ k < facts.length) = false) := decide_eq_false (by omega);clear hk5 hkl;go_wp2_with fail
       go_meet
       exact ⟨by rw [HZ.out], rfl⟩
     case rest =>
      obtain ⟨rfl, rfl⟩ := hcut;clear hlen hk5 hkl
      by_cases hlt : k < 12 ∧ k < facts.length
      ·rw [decide_eq_true hlt]
       obtain ⟨hlt1, hlt2⟩ := hlt;obtain ⟨rb, ro, hfa, hSb, q0, q1, q2, q3, q4, q5⟩ := rws_at HY.out k hlt2;have HRB : Hid (rb < w.heap.size) := HS.out rb hSb;have Q0 := Lib.hid ((HBW.out.cell (p := ⟨rb, ro + k * 6, none⟩) HRB.out).trans q0); have Q1 := Lib.hid ((HBW.out.cell (p := ⟨rb, ro + k * 6 + 1, none⟩) HRB.out).trans q1); have Q2 := Lib.hid ((HBW.out.cell (p := ⟨rb, ro + k * 6 + 2, none⟩) HRB.out).trans q2)
       have Q3 := Lib.hid ((HBW.out.cell (p := ⟨rb, ro + k * 6 + 3, none⟩) HRB.out).trans q3); have Q4 := Lib.hid ((HBW.out.cell (p := ⟨rb, ro + k * 6 + 4, none⟩) HRB.out).trans q4); have Q5 := Lib.hid ((HBW.out.cell (p := ⟨rb, ro + k * 6 + 5, none⟩) HRB.out).trans q5)
       subst hfa;clear hSb q0 q1 q2 q3 q4 q5;have HXK : Hid (RwOk facts[k]) := rws_ok HY.out _ (List.getElem_mem hlt2);have HTK := Lib.hid (factsTo_succ facts hlt2);have HLK : Hid ((factsTo facts k).length ≤ 1000) := by show _ ≤ _; have := factsTo_len facts k; have := HKB.out.1; omega
       have HK1 : Hid ((0 : Int) ≤ (k : Int)) := Int.natCast_nonneg k;have HK2 : Hid ((k : Int) < (facts.length : Int)) := by show _ < _; omega
       have HKL : Hid (k < 12 ∧ k < facts.length) := ⟨hlt1, hlt2⟩;generalize facts[k] = x at *;clear hlt1 hlt2;have HWL : Hid (rb < wr.heap.size) := Nat.lt_of_lt_of_le HRB.out HBW.out.size;go_wp2_with fail
       refine wp_region_factsP (by rfl) 52 (by rfl) (by kernel_rfl) 8 (fun q => q == 0 || q == 1 || q == 2 || q == 3 || q == 4 || q == 5 || q == 6 || q == 7) (by kernel_rfl) (FB [.e (.pointer (some ⟨kq, 1, none⟩)), .e lv, .e (.slice (some ⟨rb, ro, none⟩) facts.length gc), .e (.int .i64 (k : Int)), .e (.pointer (some ⟨rb, ro + k * 6, none⟩)), .e (.agg #[.int .i64 x.kind, .int .i64 x.name, .int .i64 x.n0, .int .i64 x.n1, .int .i64 x.n2, .int .i64 x.n3]), .p (FaAt wr.heap.size (factZ x)), .p (RowFa wr.heap.size (factZ x)), .t (fun wz vz => ∃ a cap, vz = .slice a ((factsTo facts k).length + 1) cap ∧ MineK kdFa wz w4.heap.size (factsTo facts k ++ [factZ x]) vz), .e (.pointer (some ⟨kq, 1, none⟩))]) (fun ph w' => if ph = true then Aft wr w4.heap.size lv w' else Below wr.heap.size wr w') (Below.drew (Below.refl _ _)) ⟨?s0, ?s1, ?s2, ?s3, ?s4, ?s5, ?s6, ?s7, ?s8, ?s9, trivial⟩ (by rfl) ?last
       case s0 =>
        intro a w' hoff hg hdep K hK;replace hg : Below wr.heap.size wr w' := hg;have h5 := off_at hoff 5 (v := .pointer (some ⟨kq, 0, none⟩)) (by kernel_rfl) rfl;rw [if_pos (by rfl)];go_simp;exact hK.out _ _ hg rfl (fun _ _ h => h)
       case s1 =>
        intro a w' hoff hg hdep K hK;replace hg : Below wr.heap.size wr w' := hg;obtain ⟨_, e0, rfl⟩ := hdep 0 _ 41 (by kernel_rfl) rfl rfl;rw [if_pos (by rfl)];obtain ⟨o0, o1, o2⟩ := (OR.out.on hg).cells; have q0 := (hg.cell (p := ⟨rb, ro + k * 6, none⟩) HWL.out).trans Q0.out; have q1 := (hg.cell (p := ⟨rb, ro + k * 6 + 1, none⟩) HWL.out).trans Q1.out; have q2 := (hg.cell (p := ⟨rb, ro + k * 6 + 2, none⟩) HWL.out).trans Q2.out; have q3 := (hg.cell (p := ⟨rb, ro + k * 6 + 3, none⟩) HWL.out).trans Q3.out; have q4 := (hg.cell (p := ⟨rb, ro + k * 6 + 4, none⟩) HWL.out).trans Q4.out; have q5 := (hg.cell (p := ⟨rb, ro + k * 6 + 5, none⟩) HWL.out).trans Q5.out
        go_simp;exact hK.out _ _ hg rfl (fun _ _ h => h)
       case s2 =>
        intro a w' hoff hg hdep K hK;replace hg : Below wr.heap.size wr w' := hg;have h1 := off_at hoff 1 (v := .slice (some ⟨rb, ro, none⟩) facts.length gc) (by kernel_rfl) rfl;rw [if_pos (by rfl)];go_simp;exact hK.out _ _ hg rfl (fun _ _ h => h)
       case s3 =>
        intro a w' hoff hg hdep K hK;replace hg : Below wr.heap.size wr w' := hg;have h7 := off_at hoff 7 (v := .int .i64 (k : Int)) (by kernel_rfl) rfl;rw [if_pos (by rfl)];go_simp;exact hK.out _ _ hg rfl (fun _ _ h => h)
       case s4 =>
        intro a w' hoff hg hdep K hK;replace hg : Below wr.heap.size wr w' := hg;obtain ⟨_, e2, rfl⟩ := hdep 2 _ 43 (by kernel_rfl) rfl rfl;obtain ⟨_, e3, rfl⟩ := hdep 3 _ 44 (by kernel_rfl) rfl rfl;rw [if_pos (by rfl)];have hk1 := HK1.out; have hk2 := HK2.out
        go_simp;exact hK.out _ _ hg rfl (fun _ _ h => h)
       case s5 =>
        intro a w' hoff hg hdep K hK;replace hg : Below wr.heap.size wr w' := hg;obtain ⟨_, e4, rfl⟩ := hdep 4 _ 45 (by kernel_rfl) rfl rfl;rw [if_pos (by rfl)];obtain ⟨o0, o1, o2⟩ := (OR.out.on hg).cells; have q0 := (hg.cell (p := ⟨rb, ro + k * 6, none⟩) HWL.out).trans Q0.out; have q1 := (hg.cell (p := ⟨rb, ro + k * 6 + 1, none⟩) HWL.out).trans Q1.out; have q2 := (hg.cell (p := ⟨rb, ro + k * 6 + 2, none⟩) HWL.out).trans Q2.out; have q3 := (hg.cell (p := ⟨rb, ro + k * 6 + 3, none⟩) HWL.out).trans Q3.out; have q4 := (hg.cell (p := ⟨rb, ro + k * 6 + 4, none⟩) HWL.out).trans Q4.out; have q5 := (hg.cell (p := ⟨rb, ro + k * 6 + 5, none⟩) HWL.out).trans Q5.out
        go_simp;exact hK.out _ _ hg rfl (fun _ _ h => h)
       case s6 =>
        intro a w' hoff hg hdep K hK;replace hg : Below wr.heap.size wr w' := hg;obtain ⟨_, e5, rfl⟩ := hdep 5 _ 46 (by kernel_rfl) rfl rfl;rw [if_pos (by rfl)];go_simp;refine (fact_any x w' HXK.out).mono ?_;intro e w2' hm;obtain ⟨u, rfl, hp, hb⟩ := FaAt.of (B := wr.heap.size) hg.size hm;exact hK.out _ _ (Below.step hg hb) (fun _ => hp) (fStP ⟨fun _ h => FaAt.stay hb h, fun _ h => RowFa.stay hb h, trivial⟩)
       case s7 =>
        intro a w' hoff hg hdep K hK;replace hg : Below wr.heap.size wr w' := hg;obtain ⟨v6, e6, f6⟩ := hdep 6 _ 47 (by kernel_rfl) rfl rfl;have g6 : FaAt wr.heap.size (factZ x) w' v6 := f6 rfl;obtain ⟨sl, rfl, kv⟩ := g6;rw [if_pos (by rfl)];go_simp;have hb := below_alloc w' (.cells #[.string (factZ x).name, sl] 73);have hp := RowFa.new kv;exact hK.out _ _ (Below.step hg hb) (fun _ => hp) (fStP ⟨fun _ h => FaAt.stay hb h, fun _ h => RowFa.stay hb h, trivial⟩)
       case s8 =>
        intro a w' hoff hg hdep K hK;replace hg : Below wr.heap.size wr w' := hg;obtain ⟨v1, e1, f1⟩ := hdep 1 _ 42 (by kernel_rfl) rfl rfl;obtain rfl : lv = v1 := Eq.symm f1;obtain ⟨v7, e7, f7⟩ := hdep 7 _ 48 (by kernel_rfl) rfl rfl;have g7 : RowFa wr.heap.size (factZ x) w' v7 := f7 rfl;obtain ⟨b, sl, rfl, hbk, hrep⟩ := g7;obtain ⟨va, vcap, w6, hrun, hm6, hgr⟩ := own_append (K := kdFa) (y := factZ x) (c := at2v (.string (factZ x).name) (sl)) (HO.out.stands hg) (Nat.le_trans HWS.out hg.size) HLK.out hbk rfl (fun j hj => match j, hj with | 0, _ => rfl | 1, _ => rfl) (RepFa.on (fun b' hb' => ⟨Nat.le_trans HWS.out hb'.1, hb'.2, fun e => by have := (OwnK.lies HO.out b' e).2; omega⟩) (fun _ _ => rfl) hrep) 25;refine step_append_by rfl (.tmp 42) (.tmp 48) 25 rfl (by simp [Act.eval, e1]) (by simp [Act.eval, e7]) hrun ?_;have hp : ∃ a cap, (.slice va ((factsTo facts k).length + 1) vcap : Value) = .slice a ((factsTo facts k).length + 1) cap ∧ MineK kdFa w6 w4.heap.size (factsTo facts k ++ [factZ x]) (.slice va ((factsTo facts k).length + 1) vcap) := ⟨_, _, rfl, hm6⟩;have hG2 := Aft.of HO.out HWS.out hg hgr;exact hK.out _ _ hG2 (fun _ => hp) (fPass rfl)
       case s9 =>
        intro ph a w' hoff hg hdep K hK;have h5 := off_at hoff 5 (v := .pointer (some ⟨kq, 0, none⟩)) (by kernel_rfl) rfl;rw [if_pos (by rfl)];go_simp;exact hK.out _ _ hg rfl (fun _ _ h => h)
       case last =>
        intro a w' hoff hg hf;replace hg : Aft wr w4.heap.size lv w' := hg;obtain ⟨_, e0, rfl⟩ := hf 0 _ 41 (by decide) rfl rfl;obtain ⟨v1, e1, f1⟩ := hf 1 _ 42 (by decide) rfl rfl;obtain rfl : lv = v1 := Eq.symm f1;obtain ⟨_, e2, rfl⟩ := hf 2 _ 43 (by decide) rfl rfl;obtain ⟨_, e3, rfl⟩ := hf 3 _ 44 (by decide) rfl rfl;obtain ⟨_, e4, rfl⟩ := hf 4 _ 45 (by decide) rfl rfl;obtain ⟨_, e5, rfl⟩ := hf 5 _ 46 (by decide) rfl rfl;obtain ⟨v6, e6, f6⟩ := hf 6 _ 47 (by decide) rfl rfl;obtain ⟨v7, e7, f7⟩ := hf 7 _ 48 (by decide) rfl rfl;obtain ⟨v8, e8, f8⟩ := hf 8 _ 49 (by decide) rfl rfl;have g8 : ∃ a cap, v8 = .slice a ((factsTo facts k).length + 1) cap ∧ MineK kdFa w' w4.heap.size (factsTo facts k ++ [factZ x]) v8 := f8 rfl;obtain ⟨_, e9, rfl⟩ := hf 9 _ 50 (by decide) rfl rfl;obtain ⟨va, vcap, rfl, hm6⟩ := g8;have OR6 : Hid (BoxPr w' kq (.slice (some ⟨w.heap.size + 1, 0, none⟩) 6 6) (lv) (rv)) := (hg.below.block _ HKW.out).trans OR.out;obtain ⟨o0, o1, o2⟩ := OR6.out.cells;have zz := frozen_of_row w' kq 1 _ _ OR6.out;rw [if_pos (by rfl)];rw [hoff.sets [(41, .pointer (some ⟨kq, 1, none⟩)), (42, lv), (43, .slice (some ⟨rb, ro, none⟩) facts.length gc), (44, .int .i64 (k : Int)), (45, .pointer (some ⟨rb, ro + k * 6, none⟩)), (46, .agg #[.int .i64 x.kind, .int .i64 x.name, .int .i64 x.n0, .int .i64 x.n1, .int .i64 x.n2, .int .i64 x.n3]), (47, v6), (48, v7), (49, .slice va ((factsTo facts k).length + 1) vcap), (50, .pointer (some ⟨kq, 1, none⟩))] (by kernel_rfl) (by intro p hp; simp only [List.mem_cons, List.not_mem_nil, or_false] at hp; rcases hp with rfl | rfl | rfl | rfl | rfl | rfl | rfl | rfl | rfl | rfl <;> assumption)];clear hoff hf e0 e1 e2 e3 e4 e5 e6 f6 e7 f7 e8 f8 e9;simp only [List.foldl_cons, List.foldl_nil, List.setIfInBounds_toArray, List.set_cons_zero, List.set_cons_succ]
        go_simp;have HM6 := Lib.hid (hm6.far (p := ⟨kq, 1, none⟩) HKW.out (.slice va ((factsTo facts k).length + 1) vcap));have OB6 : Hid (BoxPr (w'.setCell ⟨kq, 1, none⟩ (.slice va ((factsTo facts k).length + 1) vcap)) kq (.slice (some ⟨w.heap.size + 1, 0, none⟩) 6 6) (.slice va ((factsTo facts k).length + 1) vcap) (rv)) := heap_setCell_same _ _ _ _ _ _ OR6.out;have HB6 := Lib.hid ((HBUT.out.step (Nat.le_refl _) hg.below).set 1 (.slice va ((factsTo facts k).length + 1) vcap));clear hg hm6 o0 o1 o2 zz;go_wp2_with fail
        go_roundw
        case rel => exact ⟨k + 1, .slice va ((factsTo facts k).length + 1) vcap, HKL.out.1, HKL.out.2, (by have := HKL.out.1; rw [show wrap64 ((k : Int) + 1) = ((k + 1 : Nat) : Int) by unfold wrap64; omega]), by rw [HTK.out]; exact HM6.out, OB6.out, HB6.out⟩
        case measure => exact measure_up HKL.out.1 (by decide)
      ·rw [decide_eq_false hlt]
       have HFIN := Lib.hid (factsTo_end facts hlt HKB.out.1);have HFL : Hid ((factsTo facts k).length ≤ 100000) := by show _ ≤ _; have := factsTo_len facts k; have := HKB.out.1; omega
       have HRL : Hid ((rulesTo rules (min rules.length 6)).length ≤ 100000) := by show _ ≤ _; rw [rulesTo_len]; omega
       have T9 : Hid (BoxPr wr w.heap.size (.slice none 0 0) (.slice none 0 0) (.slice none 0 0)) := (HBUT.out.block _ (by have := HKQ.out; have := S4.out; omega) (by have := HKQ.out; omega)).trans T4.out;have D9 : Hid (RepDes (fun b => w.heap.size + 1 ≤ b ∧ b < kq) wr decls6 (.slice (some ⟨w.heap.size + 1, 0, none⟩) 6 6)) := RepDes.on (fun b hb => hb) (fun b hb => HBUT.out.block b (by have := S4.out; omega) (by omega)) D4.out;have R9 := Lib.hid (R4.out.but HBUT.out (by have := S34.out; omega));have SW : Hid (kq < wr.heap.size) := by show _ < _; have := HWS.out; have := S4.out; omega
       obtain ⟨xa, xc, rfl⟩ := OwnK.form HO.out;obtain ⟨ya, yc, rfl⟩ := OwnK.form R9.out;obtain ⟨o0, o1, o2⟩ := OR.out.cells;have z0 := frozen_of_row wr w.heap.size 0 _ _ T9.out; have z1 := frozen_of_row wr w.heap.size 1 _ _ T9.out; have z2 := frozen_of_row wr w.heap.size 2 _ _ T9.out
       obtain ⟨y0, y1, y2⟩ := T9.out.cells;have hq := HKQ.out;have T10 : Hid (BoxPr (((wr.setCell ⟨w.heap.size, 0, none⟩ (.slice (some ⟨w.heap.size + 1, 0, none⟩) 6 6)).setCell ⟨w.heap.size, 1, none⟩ (.slice xa (factsTo facts k).length xc)).setCell ⟨w.heap.size, 2, none⟩ (.slice ya (rulesTo rules (min rules.length 6)).length yc)) w.heap.size (.slice (some ⟨w.heap.size + 1, 0, none⟩) 6 6) (.slice xa (factsTo facts k).length xc) (.slice ya (rulesTo rules (min rules.length 6)).length yc)) := heap_setCell_same _ _ _ _ _ _ (heap_setCell_same _ _ _ _ _ _ (heap_setCell_same _ _ _ _ _ _ T9.out));have F10 := Lib.hid (((HO.out.far (p := ⟨w.heap.size, 0, none⟩) (show w.heap.size < w4.heap.size by have := S4.out; omega) (.slice (some ⟨w.heap.size + 1, 0, none⟩) 6 6)).far (p := ⟨w.heap.size, 1, none⟩) (show w.heap.size < w4.heap.size by have := S4.out; omega) (.slice xa (factsTo facts k).length xc)).far (p := ⟨w.heap.size, 2, none⟩) (show w.heap.size < w4.heap.size by have := S4.out; omega) (.slice ya (rulesTo rules (min rules.length 6)).length yc));have R10 := Lib.hid (((R9.out.far (p := ⟨w.heap.size, 0, none⟩) (show w.heap.size < w3.heap.size by have := S34.out; omega) (.slice (some ⟨w.heap.size + 1, 0, none⟩) 6 6)).far (p := ⟨w.heap.size, 1, none⟩) (show w.heap.size < w3.heap.size by have := S34.out; omega) (.slice xa (factsTo facts k).length xc)).far (p := ⟨w.heap.size, 2, none⟩) (show w.heap.size < w3.heap.size by have := S34.out; omega) (.slice ya (rulesTo rules (min rules.length 6)).length yc));have B10 := Lib.hid (((HBW.out.setCell (p := ⟨w.heap.size, 0, none⟩) (Nat.le_refl _) (.slice (some ⟨w.heap.size + 1, 0, none⟩) 6 6)).setCell (p := ⟨w.heap.size, 1, none⟩) (Nat.le_refl _) (.slice xa (factsTo facts k).length xc)).setCell (p := ⟨w.heap.size, 2, none⟩) (Nat.le_refl _) (.slice ya (rulesTo rules (min rules.length 6)).length yc));have hs10 : (((wr.setCell ⟨w.heap.size, 0, none⟩ (.slice (some ⟨w.heap.size + 1, 0, none⟩) 6 6)).setCell ⟨w.heap.size, 1, none⟩ (.slice xa (factsTo facts k).length xc)).setCell ⟨w.heap.size, 2, none⟩ (.slice ya (rulesTo rules (min rules.length 6)).length yc)).heap.size = wr.heap.size := by simp
       have D10 : Hid (RepDes (fun b => w.heap.size ≤ b ∧ b < (((wr.setCell ⟨w.heap.size, 0, none⟩ (.slice (some ⟨w.heap.size + 1, 0, none⟩) 6 6)).setCell ⟨w.heap.size, 1, none⟩ (.slice xa (factsTo facts k).length xc)).setCell ⟨w.heap.size, 2, none⟩ (.slice ya (rulesTo rules (min rules.length 6)).length yc)).heap.size) (((wr.setCell ⟨w.heap.size, 0, none⟩ (.slice (some ⟨w.heap.size + 1, 0, none⟩) 6 6)).setCell ⟨w.heap.size, 1, none⟩ (.slice xa (factsTo facts k).length xc)).setCell ⟨w.heap.size, 2, none⟩ (.slice ya (rulesTo rules (min rules.length 6)).length yc)) decls6 (.slice (some ⟨w.heap.size + 1, 0, none⟩) 6 6)) := RepDes.on (fun b hb => ⟨by omega, by rw [hs10]; have := SW.out; omega⟩) (fun b hb => by
        have hne : b ≠ w.heap.size := by omega
        rw [Below.heap_setCell _ _ _ _ hne, Below.heap_setCell _ _ _ _ hne, Below.heap_setCell _ _ _ _ hne]) D9.out
       clear hs10 hq hlt;go_wp2_with fail
       clear o0 o1 o2 z0 z1 z2 y0 y1 y2;generalize ((wr.setCell ⟨w.heap.size, 0, none⟩ (.slice (some ⟨w.heap.size + 1, 0, none⟩) 6 6)).setCell ⟨w.heap.size, 1, none⟩ (.slice xa (factsTo facts k).length xc)).setCell ⟨w.heap.size, 2, none⟩ (.slice ya (rulesTo rules (min rules.length 6)).length yc) = w10 at *;obtain ⟨o0, o1, o2⟩ := T10.out.cells
       exact bodyPost_ret (v := .agg #[.slice (some ⟨w.heap.size + 1, 0, none⟩) 6 6, .slice xa (factsTo facts k).length xc, .slice ya (rulesTo rules (min rules.length 6)).length yc]) (by simp [results, Tryz.results10, go_sem, o0, o1, o2]) rfl ⟨_, _, _, rfl,
        ⟨D10.out, by rw [show (progZ rules facts).facts = factsTo facts k from HFIN.out.symm]; exact MineK.slg F10.out (fun m h1 h2 => ⟨by have := HKQ.out; have := S4.out; omega, h2⟩) HFL.out, MineK.slg R10.out (fun m h1 h2 => ⟨by have := HKQ.out; have := S34.out; omega, h2⟩) HRL.out⟩, B10.out⟩
end Go.Proofs.YtjmnnjikmmglpaaGreat
