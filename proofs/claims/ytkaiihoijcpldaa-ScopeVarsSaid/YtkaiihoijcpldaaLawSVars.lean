/-
  ScopeVars, the walk: for any two raw terms the law returns true.
-/
import Derived.Test.YtkaiihoijcpldaaW16
import Derived.Test.YtkaiihoijcpldaaSixVars
import Derived.Test.YtkaiihoijcpldaaFitTerm
namespace Go.Proofs.Ytkaiihoijcpldaa.scopeVars
open Go.RowKit

theorem measure_upZ {n k : Nat} (h : k < n) (hn : n ≤ 140737488355328) : n - (intOf (.int .i64 (wrap64 ((k : Int) + 1)))).toNat < n - (intOf (.int .i64 (k : Int))).toNat := by
  rw [show wrap64 ((k : Int) + 1) = ((k + 1 : Nat) : Int) by unfold wrap64; omega]
  simp only [intOf]
  omega
theorem vars_num : (ddN (namesL [numZ 3])).length = 0 := by simp [namesL, varsL, numZ, varsM, ddN]

set_option maxRecDepth 100000 in
set_option maxHeartbeats 8000000 in
theorem walk (a b : Tm) (W : World) (a0 a1 a2 a3 a4 a5 a6 b0 b1 b2 b3 b4 b5 b6 : Value) (ga : RepM (fun k => k < W.heap.size) W a a0 a1 a2 a3 a4 a5 a6) (gb : RepM (fun k => k < W.heap.size) W b b0 b1 b2 b3 b4 b5 b6) :
    Calls Try.prog 5 #[.agg #[a0, a1, a2, a3, a4, a5, a6], .agg #[b0, b1, b2, b3, b4, b5, b6]] W fun e W' => e = .returned (.bool true) ∧ Below W.heap.size W W' := by
  have GA := Lib.hid ga; have GB := Lib.hid gb
  obtain ⟨afa, afc, aga, agc, rfl, rfl, rfl, rfl, rfl, rfl, rfl⟩ := ga.form
  obtain ⟨bfa, bfc, bga, bgc, rfl, rfl, rfl, rfl, rfl, rfl, rfl⟩ := gb.form
  clear ga gb
  go_enter Try.func5, Try.ntmps5
  go_wp2_with fail
  have mk1 := boxM_new W (.int .i64 a.kind) (.string a.name) (.int .i64 a.val.kind) (.int .i64 a.val.num) (.string a.val.text) (.slice afa a.val.list.length afc) (.slice aga a.args.length agc)
  have da1 := below_alloc W (.cells #[.int .i64 a.kind, .string a.name, .int .i64 a.val.kind, .int .i64 a.val.num, .string a.val.text, .slice afa a.val.list.length afc, .slice aga a.args.length agc] 48)
  have sa1 := World.size_alloc W (.cells #[.int .i64 a.kind, .string a.name, .int .i64 a.val.kind, .int .i64 a.val.num, .string a.val.text, .slice afa a.val.list.length afc, .slice aga a.args.length agc] 48)
  have mk2 := boxM_new (W.alloc (.cells #[.int .i64 a.kind, .string a.name, .int .i64 a.val.kind, .int .i64 a.val.num, .string a.val.text, .slice afa a.val.list.length afc, .slice aga a.args.length agc] 48)) (.int .i64 b.kind) (.string b.name) (.int .i64 b.val.kind) (.int .i64 b.val.num) (.string b.val.text) (.slice bfa b.val.list.length bfc) (.slice bga b.args.length bgc)
  have da2 := below_alloc (W.alloc (.cells #[.int .i64 a.kind, .string a.name, .int .i64 a.val.kind, .int .i64 a.val.num, .string a.val.text, .slice afa a.val.list.length afc, .slice aga a.args.length agc] 48)) (.cells #[.int .i64 b.kind, .string b.name, .int .i64 b.val.kind, .int .i64 b.val.num, .string b.val.text, .slice bfa b.val.list.length bfc, .slice bga b.args.length bgc] 48)
  have XA0 := mk1.on da2
  have hbw := Below.step da1 da2
  have sa2 := World.size_alloc (W.alloc (.cells #[.int .i64 a.kind, .string a.name, .int .i64 a.val.kind, .int .i64 a.val.num, .string a.val.text, .slice afa a.val.list.length afc, .slice aga a.args.length agc] 48)) (.cells #[.int .i64 b.kind, .string b.name, .int .i64 b.val.kind, .int .i64 b.val.num, .string b.val.text, .slice bfa b.val.list.length bfc, .slice bga b.args.length bgc] 48)
  rw [sa1] at mk2 sa2
  generalize (W.alloc (.cells #[.int .i64 a.kind, .string a.name, .int .i64 a.val.kind, .int .i64 a.val.num, .string a.val.text, .slice afa a.val.list.length afc, .slice aga a.args.length agc] 48)).alloc (.cells #[.int .i64 b.kind, .string b.name, .int .i64 b.val.kind, .int .i64 b.val.num, .string b.val.text, .slice bfa b.val.list.length bfc, .slice bga b.args.length bgc] 48) = w0 at *
  have XA : Hid (BoxM w0 W.heap.size (.int .i64 a.kind) (.string a.name) (.int .i64 a.val.kind) (.int .i64 a.val.num) (.string a.val.text) (.slice afa a.val.list.length afc) (.slice aga a.args.length agc)) := XA0
  have XB : Hid (BoxM w0 (W.heap.size + 1) (.int .i64 b.kind) (.string b.name) (.int .i64 b.val.kind) (.int .i64 b.val.num) (.string b.val.text) (.slice bfa b.val.list.length bfc) (.slice bga b.args.length bgc)) := mk2
  have BW : Hid (Below W.heap.size W w0) := hbw
  have KK : Hid (W.heap.size + 1 < w0.heap.size) := by show _ < _; omega
  clear mk1 mk2 da1 da2 sa1 sa2 hbw XA0
  refine (awake6_any w0).mono ?_
  rintro e w1 ⟨rfl, hb⟩
  replace XA := Lib.hid (XA.out.on hb)
  replace XB := Lib.hid (XB.out.on hb)
  replace BW := Lib.hid (Below.step BW.out hb)
  replace KK : Hid (W.heap.size + 1 < w1.heap.size) := Nat.lt_of_lt_of_le KK.out hb.size
  clear hb
  obtain ⟨p0, p1, p2, p3, p4, p5, p6⟩ := XA.out.cells
  go_wp2_with fail
  refine (term_any 6 (by omega) a (fun k => k < W.heap.size) w1 _ _ _ _ _ _ _ (fun k (hk : k < W.heap.size) => (by have := KK.out; omega : k < w1.heap.size)) (RepM.on (fun _ h => h) (fun k hk => BW.out.block k hk) a GA.out)).mono ?_
  rintro e w2 ⟨x0, x1, x2, x3, x4, x5, x6, rfl, hrep, hb⟩
  have HXR := Lib.hid (fitTm_right 6 a)
  change RepM _ w2 (fitTm 7 a) _ _ _ _ _ _ _ at hrep
  change Hid (rightM 7 (fitTm 7 a) = true) at HXR
  generalize fitTm 7 a = x at *
  obtain ⟨xfa, xfc, xga, xgc, rfl, rfl, rfl, rfl, rfl, rfl, rfl⟩ := hrep.form
  have RX : Hid (RepM (fun b => b < w2.heap.size) w2 x (.int .i64 x.kind) (.string x.name) (.int .i64 x.val.kind) (.int .i64 x.val.num) (.string x.val.text) (.slice xfa x.val.list.length xfc) (.slice xga x.args.length xgc)) := RepM.on (fun k hk => hk.2) (fun _ _ => rfl) x hrep
  replace XB := Lib.hid (XB.out.on hb)
  replace KK : Hid (W.heap.size + 1 < w2.heap.size) := Nat.lt_of_lt_of_le KK.out hb.size
  replace BW := Lib.hid (Below.step BW.out hb)
  clear hrep hb p0 p1 p2 p3 p4 p5 p6 XA GA
  go_upto_region 3 with fail
  have mk := boxM_new w2 (.int .i64 x.kind) (.string x.name) (.int .i64 x.val.kind) (.int .i64 x.val.num) (.string x.val.text) (.slice xfa x.val.list.length xfc) (.slice xga x.args.length xgc)
  have da := below_alloc w2 (.cells #[.int .i64 x.kind, .string x.name, .int .i64 x.val.kind, .int .i64 x.val.num, .string x.val.text, .slice xfa x.val.list.length xfc, .slice xga x.args.length xgc] 48)
  have sa := World.size_alloc w2 (.cells #[.int .i64 x.kind, .string x.name, .int .i64 x.val.kind, .int .i64 x.val.num, .string x.val.text, .slice xfa x.val.list.length xfc, .slice xga x.args.length xgc] 48)
  generalize w2.alloc (.cells #[.int .i64 x.kind, .string x.name, .int .i64 x.val.kind, .int .i64 x.val.num, .string x.val.text, .slice xfa x.val.list.length xfc, .slice xga x.args.length xgc] 48) = w3 at *
  replace RX : Hid (RepM (fun b => b < w2.heap.size) w3 x (.int .i64 x.kind) (.string x.name) (.int .i64 x.val.kind) (.int .i64 x.val.num) (.string x.val.text) (.slice xfa x.val.list.length xfc) (.slice xga x.args.length xgc)) := RepM.on (fun _ h => h) (fun k hk => da.block k hk) x RX.out
  replace XB := Lib.hid (XB.out.on da)
  replace BW := Lib.hid (Below.step BW.out da)
  obtain ⟨k6, hk6⟩ : ∃ k, w2.heap.size = k := ⟨_, rfl⟩
  rw [hk6] at mk RX sa KK ⊢
  have X6 := Lib.hid mk
  have K6 : Hid (W.heap.size + 1 < k6 ∧ k6 < w3.heap.size) := by have := KK.out; show _ ∧ _; omega
  clear mk da sa hk6 KK
  obtain ⟨p0, p1, p2, p3, p4, p5, p6⟩ := XB.out.cells
  go_wp2_with fail
  refine (term_any 6 (by omega) b (fun k => k < W.heap.size) w3 _ _ _ _ _ _ _ (fun k (hk : k < W.heap.size) => (by have := K6.out; omega : k < w3.heap.size)) (RepM.on (fun _ h => h) (fun k hk => BW.out.block k hk) b GB.out)).mono ?_
  rintro e w4 ⟨x0, x1, x2, x3, x4, x5, x6, rfl, hrep, hb⟩
  have HYR := Lib.hid (fitTm_right 6 b)
  change RepM _ w4 (fitTm 7 b) _ _ _ _ _ _ _ at hrep
  change Hid (rightM 7 (fitTm 7 b) = true) at HYR
  generalize fitTm 7 b = y at *
  obtain ⟨yfa, yfc, yga, ygc, rfl, rfl, rfl, rfl, rfl, rfl, rfl⟩ := hrep.form
  have RY : Hid (RepM (fun b => b < w4.heap.size) w4 y (.int .i64 y.kind) (.string y.name) (.int .i64 y.val.kind) (.int .i64 y.val.num) (.string y.val.text) (.slice yfa y.val.list.length yfc) (.slice yga y.args.length ygc)) := RepM.on (fun k hk => hk.2) (fun _ _ => rfl) y hrep
  have hs4 := hb.size
  replace X6 := Lib.hid (X6.out.on hb)
  replace RX : Hid (RepM (fun b => b < k6) w4 x (.int .i64 x.kind) (.string x.name) (.int .i64 x.val.kind) (.int .i64 x.val.num) (.string x.val.text) (.slice xfa x.val.list.length xfc) (.slice xga x.args.length xgc)) := RepM.on (fun _ h => h) (fun k (hk : k < k6) => hb.block k (by have := K6.out; omega)) x RX.out
  replace BW := Lib.hid (Below.step BW.out hb)
  clear hrep hb p0 p1 p2 p3 p4 p5 p6 XB GB
  go_upto_region 4 with fail
  have mk := boxM_new w4 (.int .i64 y.kind) (.string y.name) (.int .i64 y.val.kind) (.int .i64 y.val.num) (.string y.val.text) (.slice yfa y.val.list.length yfc) (.slice yga y.args.length ygc)
  have da := below_alloc w4 (.cells #[.int .i64 y.kind, .string y.name, .int .i64 y.val.kind, .int .i64 y.val.num, .string y.val.text, .slice yfa y.val.list.length yfc, .slice yga y.args.length ygc] 48)
  have sa := World.size_alloc w4 (.cells #[.int .i64 y.kind, .string y.name, .int .i64 y.val.kind, .int .i64 y.val.num, .string y.val.text, .slice yfa y.val.list.length yfc, .slice yga y.args.length ygc] 48)
  generalize w4.alloc (.cells #[.int .i64 y.kind, .string y.name, .int .i64 y.val.kind, .int .i64 y.val.num, .string y.val.text, .slice yfa y.val.list.length yfc, .slice yga y.args.length ygc] 48) = w5 at *
  replace RY : Hid (RepM (fun b => b < w4.heap.size) w5 y (.int .i64 y.kind) (.string y.name) (.int .i64 y.val.kind) (.int .i64 y.val.num) (.string y.val.text) (.slice yfa y.val.list.length yfc) (.slice yga y.args.length ygc)) := RepM.on (fun _ h => h) (fun k hk => da.block k hk) y RY.out
  replace RX : Hid (RepM (fun b => b < k6) w5 x (.int .i64 x.kind) (.string x.name) (.int .i64 x.val.kind) (.int .i64 x.val.num) (.string x.val.text) (.slice xfa x.val.list.length xfc) (.slice xga x.args.length xgc)) := RepM.on (fun _ h => h) (fun k (hk : k < k6) => da.block k (by have := K6.out; omega)) x RX.out
  replace X6 := Lib.hid (X6.out.on da)
  replace BW := Lib.hid (Below.step BW.out da)
  obtain ⟨k7, hk7⟩ : ∃ k, w4.heap.size = k := ⟨_, rfl⟩
  rw [hk7] at mk RY sa hs4 ⊢
  have X7 := Lib.hid mk
  have KK : Hid (W.heap.size + 1 < k6 ∧ k6 < k7 ∧ k7 < w5.heap.size) := by have := K6.out; show _ ∧ _ ∧ _; omega
  clear mk da sa hk7 K6 hs4
  obtain ⟨vx1, vx2⟩ := vars_few 7 x HXR.out
  obtain ⟨vy1, vy2⟩ := vars_few 7 y HYR.out
  have HVX : Hid ((varsM x).length ≤ 128 ∧ ∀ s ∈ varsM x, s.size ≤ 16) := ⟨vx1, vx2⟩
  have HVY : Hid ((varsM y).length ≤ 128 ∧ ∀ s ∈ varsM y, s.size ≤ 16) := ⟨vy1, vy2⟩
  have nmx : (ddN (namesL [x])).map (·.1) = ddF [] (varsM x) := by rw [ddN_map, names_map (by simpa [varsL] using vx2)]; simp [varsL]
  have nmy : (ddN (namesL [y])).map (·.1) = ddF [] (varsM y) := by rw [ddN_map, names_map (by simpa [varsL] using vy2)]; simp [varsL]
  have HNX := Lib.hid nmx; have HNY := Lib.hid nmy
  clear vx1 vx2 vy1 vy2 nmx nmy
  obtain ⟨p0, p1, p2, p3, p4, p5, p6⟩ := X6.out.cells
  go_wp2_with fail
  refine (vars_any x (fun k => k < k6) w5 _ _ _ _ _ _ _ (fun k (hk : k < k6) => (by have := KK.out; omega : k < w5.heap.size)) RX.out (by have := HVX.out.1; omega)).mono ?_
  rintro e w6 ⟨v6, rfl, hrow, hb⟩
  rw [show (ddN (namesL [x])).map (fun z => Value.string z.1) = (ddF [] (varsM x)).map Value.string by rw [← HNX.out, List.map_map]; rfl] at hrow
  have hlx : (ddF [] (varsM x)).length ≤ 128 := by have := ddF_le (varsM x) []; have := HVX.out.1; simp at *; omega
  obtain ⟨ht, -⟩ := txAt_of_row (S := fun k => w5.heap.size ≤ k ∧ k < w6.heap.size) hrow (fun k h1 h2 => ⟨by omega, h2⟩) (by omega)
  have TX := Lib.hid ht; have HLX := Lib.hid hlx
  have hs6 := hb.size
  replace X6 := Lib.hid (X6.out.on hb)
  replace X7 := Lib.hid (X7.out.on hb)
  replace RX : Hid (RepM (fun b => b < k6) w6 x (.int .i64 x.kind) (.string x.name) (.int .i64 x.val.kind) (.int .i64 x.val.num) (.string x.val.text) (.slice xfa x.val.list.length xfc) (.slice xga x.args.length xgc)) := RepM.on (fun _ h => h) (fun k (hk : k < k6) => hb.block k (by have := KK.out; omega)) x RX.out
  replace RY : Hid (RepM (fun b => b < k7) w6 y (.int .i64 y.kind) (.string y.name) (.int .i64 y.val.kind) (.int .i64 y.val.num) (.string y.val.text) (.slice yfa y.val.list.length yfc) (.slice yga y.args.length ygc)) := RepM.on (fun _ h => h) (fun k (hk : k < k7) => hb.block k (by have := KK.out; omega)) y RY.out
  replace BW := Lib.hid (Below.step BW.out hb)
  have KK6 : Hid (W.heap.size + 1 < k6 ∧ k6 < k7 ∧ k7 < w5.heap.size ∧ w5.heap.size ≤ w6.heap.size) := by have := KK.out; show _ ∧ _ ∧ _ ∧ _; omega
  clear hrow ht hlx hb p0 p1 p2 p3 p4 p5 p6 KK hs6
  obtain ⟨p0, p1, p2, p3, p4, p5, p6⟩ := X7.out.cells
  go_wp2_with fail
  refine (vars_any y (fun k => k < k7) w6 _ _ _ _ _ _ _ (fun k (hk : k < k7) => (by have := KK6.out; omega : k < w6.heap.size)) RY.out (by have := HVY.out.1; omega)).mono ?_
  rintro e w7 ⟨v7, rfl, hrow, hb⟩
  rw [show (ddN (namesL [y])).map (fun z => Value.string z.1) = (ddF [] (varsM y)).map Value.string by rw [← HNY.out, List.map_map]; rfl] at hrow
  have hly : (ddF [] (varsM y)).length ≤ 128 := by have := ddF_le (varsM y) []; have := HVY.out.1; simp at *; omega
  obtain ⟨ht, -⟩ := txAt_of_row (S := fun k => w5.heap.size ≤ k ∧ k < w7.heap.size) hrow (fun k h1 h2 => ⟨by have := KK6.out; omega, h2⟩) (by omega)
  have TY := Lib.hid ht; have HLY := Lib.hid hly
  have hs7 := hb.size
  replace TX : Hid (TxAt (fun k => w5.heap.size ≤ k ∧ k < w7.heap.size) w7 (ddF [] (varsM x)) v6) := SlG.on (fun k hk => ⟨hk.1, Nat.lt_of_lt_of_le hk.2 hs7⟩) (fun k hk => hb.block k hk.2) (fun _ _ _ h => h) TX.out
  replace X6 := Lib.hid (X6.out.on hb)
  replace X7 := Lib.hid (X7.out.on hb)
  replace RX : Hid (RepM (fun b => b < k6) w7 x (.int .i64 x.kind) (.string x.name) (.int .i64 x.val.kind) (.int .i64 x.val.num) (.string x.val.text) (.slice xfa x.val.list.length xfc) (.slice xga x.args.length xgc)) := RepM.on (fun _ h => h) (fun k (hk : k < k6) => hb.block k (by have := KK6.out; omega)) x RX.out
  replace RY : Hid (RepM (fun b => b < k7) w7 y (.int .i64 y.kind) (.string y.name) (.int .i64 y.val.kind) (.int .i64 y.val.num) (.string y.val.text) (.slice yfa y.val.list.length yfc) (.slice yga y.args.length ygc)) := RepM.on (fun _ h => h) (fun k (hk : k < k7) => hb.block k (by have := KK6.out; omega)) y RY.out
  replace BW := Lib.hid (Below.step BW.out hb)
  have KK : Hid (W.heap.size + 1 < k6 ∧ k6 < k7 ∧ k7 < w7.heap.size) := by have := KK6.out; show _ ∧ _ ∧ _; omega
  clear hrow ht hly hb p0 p1 p2 p3 p4 p5 p6 KK6 hs7
  obtain ⟨va8, w8, hrun8, hown8, hgr8⟩ := own_manyS (K := kdS) (S := fun _ => False) (L := []) (lv := .slice none 0 0) (OwnK.nil _ w7 w7.heap.size) TX.out (fun b hb => hb.elim) (Nat.le_refl _) (by have := HLX.out; simp; omega) 50
  rw [List.nil_append] at hown8
  have hb8 : Below w7.heap.size w7 w8 := ⟨hgr8.os, hgr8.tape, hgr8.output, hgr8.size, fun j hj => hgr8.block j hj (by simp [Value.ownBlock])⟩
  have ty8 : TxAt (fun k => w5.heap.size ≤ k ∧ k < w7.heap.size) w8 (ddF [] (varsM y)) v7 := SlG.on (fun _ h => h) (fun k hk => hb8.block k hk.2) (fun _ _ _ h => h) TY.out
  obtain ⟨va9, w9, hrun9, hown9, hgr9⟩ := own_manyS (K := kdS) (lv := va8) hown8 ty8 (fun b hb => hb.elim) hb8.size (by have := HLX.out; have := HLY.out; omega) 50
  have hb9 : Below w7.heap.size w7 w9 := ⟨hgr9.os.trans hb8.os, hgr9.tape.trans hb8.tape, hgr9.output.trans hb8.output, Nat.le_trans hb8.size hgr9.size, fun j hj => (hgr9.block j (Nat.lt_of_lt_of_le hj hb8.size) (fun e => by have := (OwnK.lies hown8 j e.symm).1; omega)).trans (hb8.block j hj)⟩
  obtain ⟨wl, hwl⟩ : ∃ wl, ddF [] (varsM x) ++ ddF [] (varsM y) = wl := ⟨_, rfl⟩
  have HWL := Lib.hid hwl
  rw [hwl] at hown9
  have hlw : wl.length ≤ 256 := by rw [← hwl, List.length_append]; have := HLX.out; have := HLY.out; omega
  have HLW := Lib.hid hlw
  obtain ⟨xa8, xc8, hv6⟩ := SlG.form TX.out
  obtain ⟨ya8, yc8, hv7⟩ := SlG.form TY.out
  rw [hv6] at hrun8 ⊢
  rw [hv7] at hrun9 ⊢
  obtain ⟨ga8, gc8, rfl⟩ := OwnK.form hown8
  have T9 : Hid (TxAt (fun k => w7.heap.size ≤ k ∧ k < w9.heap.size) w9 wl va9) := OwnK.slg' hown9 (fun _ h => h.elim) (fun k h1 h2 => ⟨h1, h2⟩) (by omega)
  obtain ⟨ga9, gc9, rfl⟩ := OwnK.form hown9
  have HR8 := Lib.hid hrun8; have HR9 := Lib.hid hrun9
  replace X6 := Lib.hid (X6.out.on hb9)
  replace X7 := Lib.hid (X7.out.on hb9)
  replace RX : Hid (RepM (fun b => b < k6) w9 x (.int .i64 x.kind) (.string x.name) (.int .i64 x.val.kind) (.int .i64 x.val.num) (.string x.val.text) (.slice xfa x.val.list.length xfc) (.slice xga x.args.length xgc)) := RepM.on (fun _ h => h) (fun k (hk : k < k6) => hb9.block k (by have := KK.out; omega)) x RX.out
  replace RY : Hid (RepM (fun b => b < k7) w9 y (.int .i64 y.kind) (.string y.name) (.int .i64 y.val.kind) (.int .i64 y.val.num) (.string y.val.text) (.slice yfa y.val.list.length yfc) (.slice yga y.args.length ygc)) := RepM.on (fun _ h => h) (fun k (hk : k < k7) => hb9.block k (by have := KK.out; omega)) y RY.out
  replace BW := Lib.hid (Below.step BW.out hb9)
  have KK9 : Hid (W.heap.size + 1 < k6 ∧ k6 < k7 ∧ k7 < w9.heap.size) := by have := KK.out; have := hb9.size; show _ ∧ _ ∧ _; omega
  clear hrun8 hrun9 hown8 hown9 hgr8 hgr9 hb8 hb9 ty8 hwl hlw hv6 hv7 TX TY KK
  go_wp2_with (at_builtin; first | (refine wpList_append_by rfl _ _ _ rfl rfl rfl HR8.out ?_) | (refine wpList_append_by rfl _ _ _ rfl rfl rfl HR9.out ?_))
  clear HR8 HR9
  go_loopw [10, 30] (fun wv iv wr => ∃ k : Nat, k ≤ wl.length ∧ iv = .int .i64 (k : Int) ∧ OwnK kdS (fun _ => False) wr w9.heap.size (ddF [] (wl.take k)) wv ∧ Below w9.heap.size w9 wr) (fun _ iv _ => wl.length - (intOf iv).toNat)
  case atStart => exact ⟨0, Nat.zero_le _, rfl, OwnK.nil _ _ _, Below.refl _ _⟩
  case round =>
    obtain ⟨k, hk, rfl, hown, hb⟩ := hrel
    have HBR := Lib.hid hb; have HO := Lib.hid hown
    clear hb hown
    by_cases hlt : k < wl.length
    · have i1 : decide ((k : Int) < (wl.length : Int)) = true := decide_eq_true (by omega)
      have i3 : decide (k < wl.length) = true := decide_eq_true hlt
      obtain ⟨-, -, gb, go, hga, hgb, c, hc, hx⟩ := SlG.at T9.out k hlt
      have q0 := hc 0 (by omega)
      rw [Nat.mul_one, Nat.add_zero, hx] at q0
      replace q0 := (HBR.out.cell (p := ⟨gb, go + k, none⟩) hgb.2).trans q0
      have hk1 : (0 : Int) ≤ (k : Int) := Int.natCast_nonneg k
      have hk2 : (k : Int) < (wl.length : Int) := by omega
      have HTK : Hid (ddF [] (wl.take (k + 1)) = stepB (ddF [] (wl.take k)) wl[k]) := by show _ = _; rw [List.take_succ_eq_append_getElem hlt, ddF_snoc]
      have HKL := Lib.hid hlt
      have HDL : Hid ((ddF [] (wl.take k)).length ≤ 256) := by have h := ddF_le (wl.take k) []; rw [List.length_take] at h; have := HLW.out; show _ ≤ _; simp at h; omega
      rw [hga]
      clear hga hgb hc hx
      generalize wl[k] = sx at *
      obtain ⟨wn, hwn⟩ : ∃ wn, ddF [] (wl.take k) = wn := ⟨_, rfl⟩
      rw [hwn] at HTK HDL HO
      obtain ⟨oa, oc, hov⟩ := OwnK.form HO.out
      rw [hov] at HO ⊢
      clear hov hwn hk hlt
      go_wp2_with fail
      clear q0 hk1 hk2 i1 i3
      generalize wr = wq at *
      go_loopw [13, 14] (fun sv jv w2 => ∃ j : Nat, j ≤ wn.length ∧ jv = .int .i64 (j : Int) ∧ sv = .bool (inB (wn.take j) sx) ∧ Below wq.heap.size wq w2) (fun _ jv _ => wn.length - (intOf jv).toNat)
      case atStart => exact ⟨0, Nat.zero_le _, rfl, rfl, Below.refl _ _⟩
      case round =>
        obtain ⟨j, hj, rfl, rfl, hb⟩ := hrel
        generalize wr = w2 at *
        have HB2 := Lib.hid hb
        clear hb
        have HLZ : Hid (wn.length ≤ 140737488355328) := by have := HDL.out; show _ ≤ _; omega
        have HTO : Hid (SlG (fun b => w9.heap.size ≤ b ∧ b < wq.heap.size) wq 1 16 (fun x c => c 0 = .string x) wn (.slice oa wn.length oc)) := OwnK.slg' HO.out (fun _ h => h.elim) (fun b h1 h2 => ⟨h1, h2⟩) (by have := HDL.out; omega)
        by_cases hjl : j < wn.length
        · have i2 : decide ((j : Int) < (wn.length : Int)) = true := decide_eq_true (by omega)
          have i4 : decide (j < wn.length) = true := decide_eq_true hjl
          obtain ⟨-, -, ab, ao, hoa, hab, c, hc, hcx⟩ := SlG.at HTO.out j hjl
          have m0 := hc 0 (by omega)
          rw [Nat.mul_one, Nat.add_zero, hcx] at m0
          replace m0 := (HB2.out.cell (p := ⟨ab, ao + j, none⟩) hab.2).trans m0
          have HPA : Hid (inB (wn.take (j + 1)) sx = (inB (wn.take j) sx || (wn[j].toList == sx.toList))) := by
            show _ = _
            rw [List.take_succ_eq_append_getElem hjl, inB, List.any_append, inB]
            simp [Lib.toList_data]
          have HJL := Lib.hid hjl
          have hk1 : (0 : Int) ≤ (j : Int) := Int.natCast_nonneg j
          have hk2 : (j : Int) < (wn.length : Int) := by omega
          generalize wn[j] = t at *
          subst hoa
          clear hj hjl hab hc hcx
          cases hp : inB (wn.take j) sx
          case true =>
            have HP := Lib.hid hp
            clear hp
            go_wp2_with fail
            go_roundw
            case rel => exact ⟨j + 1, HJL.out, (by have := HJL.out; have := HLZ.out; rw [show wrap64 ((j : Int) + 1) = ((j + 1 : Nat) : Int) by unfold wrap64; omega]), by rw [HPA.out, HP.out]; rfl, HB2.out⟩
            case measure => exact measure_upZ HJL.out HLZ.out
          case false =>
            have HP := Lib.hid hp
            clear hp
            cases ht : (t.toList == sx.toList)
            all_goals
              have HTK := Lib.hid ht
              go_wp2_with fail
              go_roundw
              case rel => exact ⟨j + 1, HJL.out, (by have := HJL.out; have := HLZ.out; rw [show wrap64 ((j : Int) + 1) = ((j + 1 : Nat) : Int) by unfold wrap64; omega]), by rw [HPA.out, HP.out, HTK.out]; rfl, HB2.out⟩
              case measure => exact measure_upZ HJL.out HLZ.out
        · have i2 : decide ((j : Int) < (wn.length : Int)) = false := decide_eq_false (by omega)
          have i4 : decide (j < wn.length) = false := decide_eq_false hjl
          have hPL : inB (wn.take j) sx = inB wn sx := by rw [List.take_of_length_le (by omega)]
          rw [hPL]
          clear hj hjl hPL
          have HB9 : Hid (Below w9.heap.size w9 w2) := Below.step HBR.out HB2.out
          have HO2 : Hid (OwnK kdS (fun _ => False) w2 w9.heap.size wn (.slice oa wn.length oc)) := OwnK.on HO.out (fun _ h => h) (fun b hb => hb.elim) (fun b _ hb _ => HB2.out.block b hb)
          cases hin : inB wn sx
          case true =>
            have HIN := Lib.hid hin
            clear hin
            go_wp2_with fail
            go_roundw
            case rel => exact ⟨k + 1, HKL.out, (by have := HKL.out; have := HLW.out; rw [show wrap64 ((k : Int) + 1) = ((k + 1 : Nat) : Int) by unfold wrap64; omega]), by rw [HTK.out, stepB, if_pos HIN.out]; exact HO2.out, HB9.out⟩
            case measure => exact measure_up HKL.out (by have := HLW.out; omega)
          case false =>
            have HIN := Lib.hid hin
            clear hin
            have ba := below_alloc w2 (.cells #[.string sx] 9)
            have ho3 : OwnK kdS (fun _ => False) (w2.alloc (.cells #[.string sx] 9)) w9.heap.size wn (.slice oa wn.length oc) := OwnK.on HO2.out (fun _ h => h) (fun b hb => hb.elim) (fun b _ hb _ => ba.block b hb)
            obtain ⟨vn, w6, hrun, hown, hgr⟩ := own_manyS (K := kdS) (S1 := fun _ => True) (m := [sx]) ho3 (one_row (c := fun _ => .string sx) (alloc_new' w2 (.cells #[.string sx] 9)) trivial (fun j hj => match j, hj with | 0, _ => rfl) rfl) (fun b hb => hb.elim) (Nat.le_trans HB9.out.size ba.size) (by have := HDL.out; simp; omega) 50
            have hb6 : Below w9.heap.size w9 w6 := ⟨hgr.os.trans (ba.os.trans HB9.out.os), hgr.tape.trans (ba.tape.trans HB9.out.tape), hgr.output.trans (ba.output.trans HB9.out.output), Nat.le_trans (Nat.le_trans HB9.out.size ba.size) hgr.size, fun b hb => (hgr.block b (Nat.lt_of_lt_of_le hb (Nat.le_trans HB9.out.size ba.size)) (fun e => by have := (OwnK.lies ho3 b e.symm).1; omega)).trans ((ba.block b (Nat.lt_of_lt_of_le hb HB9.out.size)).trans (HB9.out.block b hb))⟩
            have HRUN := Lib.hid hrun; have HOW := Lib.hid hown; have HB6 := Lib.hid hb6
            clear ba ho3 hrun hown hgr hb6
            go_wp2_with (at_builtin; refine wpList_append_by rfl _ _ _ rfl rfl rfl HRUN.out ?_)
            go_roundw
            case rel => exact ⟨k + 1, HKL.out, (by have := HKL.out; have := HLW.out; rw [show wrap64 ((k : Int) + 1) = ((k + 1 : Nat) : Int) by unfold wrap64; omega]), by rw [HTK.out, stepB, if_neg (by rw [HIN.out]; exact Bool.false_ne_true)]; exact HOW.out, HB6.out⟩
            case measure => exact measure_up HKL.out (by have := HLW.out; omega)
    · have i1 : decide ((k : Int) < (wl.length : Int)) = false := decide_eq_false (by omega)
      have i3 : decide (k < wl.length) = false := decide_eq_false hlt
      have hkk : wl.take k = wl := List.take_of_length_le (by omega)
      rw [hkk] at HO
      clear hkk hk hlt
      have hbr := HBR.out
      have hsr := hbr.size
      have x6 := X6.out.on hbr
      have x7 := X7.out.on hbr
      have rx : RepM (fun b => b < k6) wr x (.int .i64 x.kind) (.string x.name) (.int .i64 x.val.kind) (.int .i64 x.val.num) (.string x.val.text) (.slice xfa x.val.list.length xfc) (.slice xga x.args.length xgc) := RepM.on (fun _ h => h) (fun b (hb : b < k6) => hbr.block b (by have := KK9.out; omega)) x RX.out
      have ry : RepM (fun b => b < k7) wr y (.int .i64 y.kind) (.string y.name) (.int .i64 y.val.kind) (.int .i64 y.val.num) (.string y.val.text) (.slice yfa y.val.list.length yfc) (.slice yga y.args.length ygc) := RepM.on (fun _ h => h) (fun b (hb : b < k7) => hbr.block b (by have := KK9.out; omega)) y RY.out
      obtain ⟨p0, p1, p2, p3, p4, p5, p6⟩ := x6.cells
      obtain ⟨q0, q1, q2, q3, q4, q5, q6⟩ := x7.cells
      have hlo : (ddF [] wl).length ≤ 256 := by have h := ddF_le wl []; have := HLW.out; simp at h; omega
      have HLO := Lib.hid hlo
      go_upto_region 19 with fail
      clear p0 p1 p2 p3 p4 p5 p6 q0 q1 q2 q3 q4 q5 q6 i1 i3
      have mk := alloc_new' wr (.cells #[.int .i64 x.kind, .string x.name, .int .i64 x.val.kind, .int .i64 x.val.num, .string x.val.text, .slice xfa x.val.list.length xfc, .slice xga x.args.length xgc, .int .i64 y.kind, .string y.name, .int .i64 y.val.kind, .int .i64 y.val.num, .string y.val.text, .slice yfa y.val.list.length yfc, .slice yga y.args.length ygc] 48)
      have da := below_alloc wr (.cells #[.int .i64 x.kind, .string x.name, .int .i64 x.val.kind, .int .i64 x.val.num, .string x.val.text, .slice xfa x.val.list.length xfc, .slice xga x.args.length xgc, .int .i64 y.kind, .string y.name, .int .i64 y.val.kind, .int .i64 y.val.num, .string y.val.text, .slice yfa y.val.list.length yfc, .slice yga y.args.length ygc] 48)
      have sa := World.size_alloc wr (.cells #[.int .i64 x.kind, .string x.name, .int .i64 x.val.kind, .int .i64 x.val.num, .string x.val.text, .slice xfa x.val.list.length xfc, .slice xga x.args.length xgc, .int .i64 y.kind, .string y.name, .int .i64 y.val.kind, .int .i64 y.val.num, .string y.val.text, .slice yfa y.val.list.length yfc, .slice yga y.args.length ygc] 48)
      generalize wr.alloc (.cells #[.int .i64 x.kind, .string x.name, .int .i64 x.val.kind, .int .i64 x.val.num, .string x.val.text, .slice xfa x.val.list.length xfc, .slice xga x.args.length xgc, .int .i64 y.kind, .string y.name, .int .i64 y.val.kind, .int .i64 y.val.num, .string y.val.text, .slice yfa y.val.list.length yfc, .slice yga y.args.length ygc] 48) = wa at *
      obtain ⟨kz, hkz⟩ : ∃ kz, wr.heap.size = kz := ⟨_, rfl⟩
      rw [hkz] at mk da sa ⊢
      have rx2 : RepM (fun b => b < k6) wa x (.int .i64 x.kind) (.string x.name) (.int .i64 x.val.kind) (.int .i64 x.val.num) (.string x.val.text) (.slice xfa x.val.list.length xfc) (.slice xga x.args.length xgc) := RepM.on (fun _ h => h) (fun b (hb : b < k6) => da.block b (by have := KK9.out; omega)) x rx
      have ry2 : RepM (fun b => b < k7) wa y (.int .i64 y.kind) (.string y.name) (.int .i64 y.val.kind) (.int .i64 y.val.num) (.string y.val.text) (.slice yfa y.val.list.length yfc) (.slice yga y.args.length ygc) := RepM.on (fun _ h => h) (fun b (hb : b < k7) => da.block b (by have := KK9.out; omega)) y ry
      have hz : RepMs (fun b => b < kz + 1) wa [x, y] (.slice (some ⟨kz, 0, none⟩) 2 2) := slg_row (n := 7) (bytes := 104) (l := [x, y]) mk (by omega) rfl (by simp) (fun i h => match i, h with
        | 0, _ => RepM.on (fun b (hb : b < k6) => (by have := KK9.out; omega : b < kz + 1)) (fun _ _ => rfl) x rx2
        | 1, _ => RepM.on (fun b (hb : b < k7) => (by have := KK9.out; omega : b < kz + 1)) (fun _ _ => rfl) y ry2)
      have hzr : RepM (fun b => b < kz + 1) wa (.mk 4 ⟨#[43]⟩ zV [x, y]) (.int .i64 4) (.string ⟨#[43]⟩) (.int .i64 0) (.int .i64 0) (.string ⟨#[]⟩) (.slice none 0 0) (.slice (some ⟨kz, 0, none⟩) 2 2) := repM_mk.2 ⟨rfl, rfl, small64 (by omega), by decide, zV_rep _ _, hz⟩
      have mz := boxM_new wa (.int .i64 4) (.string ⟨#[43]⟩) (.int .i64 0) (.int .i64 0) (.string ⟨#[]⟩) (.slice none 0 0) (.slice (some ⟨kz, 0, none⟩) 2 2)
      have dz := below_alloc wa (.cells #[.int .i64 4, .string ⟨#[43]⟩, .int .i64 0, .int .i64 0, .string ⟨#[]⟩, .slice none 0 0, .slice (some ⟨kz, 0, none⟩) 2 2] 48)
      rw [sa] at mz
      generalize wa.alloc (.cells #[.int .i64 4, .string ⟨#[43]⟩, .int .i64 0, .int .i64 0, .string ⟨#[]⟩, .slice none 0 0, .slice (some ⟨kz, 0, none⟩) 2 2] 48) = wz at *
      have HZR : Hid (RepM (fun b => b < kz + 1) wz (.mk 4 ⟨#[43]⟩ zV [x, y]) (.int .i64 4) (.string ⟨#[43]⟩) (.int .i64 0) (.int .i64 0) (.string ⟨#[]⟩) (.slice none 0 0) (.slice (some ⟨kz, 0, none⟩) 2 2)) := RepM.on (fun _ h => h) (fun b (hb : b < kz + 1) => dz.block b (by omega)) _ hzr
      have MZ := Lib.hid mz
      have hz2 := dz.size
      have HKZ : Hid (kz + 1 ≤ wz.heap.size) := by show _ ≤ _; omega
      have HOZ : Hid (OwnK kdS (fun _ => False) wz w9.heap.size (ddF [] wl) u10) := OwnK.on HO.out (fun _ h => h) (fun b hb => hb.elim) (fun b _ hb _ => (dz.block b (by omega)).trans (da.block b (by omega)))
      have BZ : Hid (Below W.heap.size W wz) := Below.trans (Below.trans (Below.trans BW.out (hbr.mono (by have := KK9.out; omega))) (da.mono (by have := KK9.out; omega))) (dz.mono (by have := KK9.out; omega))
      clear mk da sa rx ry rx2 ry2 hz hzr mz dz hbr hsr x6 x7 hz2 HO HBR X6 X7 RX RY BW T9
      obtain ⟨p0, p1, p2, p3, p4, p5, p6⟩ := MZ.out.cells
      have hvz : varsM (.mk 4 ⟨#[43]⟩ zV [x, y]) = varsM x ++ varsM y := by rw [varsM, if_neg (by decide), varsL, varsL, varsL]; simp
      have hsz : ∀ s ∈ varsM x ++ varsM y, s.size ≤ 16 := fun s hs => by rcases List.mem_append.1 hs with hs | hs; exact HVX.out.2 s hs; exact HVY.out.2 s hs
      have hnz : (ddN (namesL [.mk 4 ⟨#[43]⟩ zV [x, y]])).map (·.1) = ddF [] wl := by
        rw [ddN_map, names_map (by simpa [varsL, hvz] using hsz), ← HWL.out, dd_both]
        simp [varsL, hvz]
      have HNZ := Lib.hid hnz
      clear hnz hsz
      go_wp2_with fail
      refine (vars_any (.mk 4 ⟨#[43]⟩ zV [x, y]) (fun b => b < kz + 1) wz _ _ _ _ _ _ _ (fun b (hb : b < kz + 1) => Nat.lt_of_lt_of_le hb HKZ.out) HZR.out (by rw [hvz, List.length_append]; have := HVX.out.1; have := HVY.out.1; omega)).mono ?_
      rintro e wv ⟨vv, rfl, hrow, hb⟩
      rw [show (ddN (namesL [.mk 4 ⟨#[43]⟩ zV [x, y]])).map (fun z => Value.string z.1) = (ddF [] wl).map Value.string by rw [← HNZ.out, List.map_map]; rfl] at hrow
      obtain ⟨ht, -⟩ := txAt_of_row (S := fun b => b < wv.heap.size) hrow (fun k h1 h2 => h2) (by have := HLO.out; omega)
      have hw : TxAt (fun b => b < wv.heap.size) wv (ddF [] wl) u10 := OwnK.slg' (OwnK.on HOZ.out (fun _ h => h) (fun b hb => hb.elim) (fun b _ hb' _ => hb.block b hb')) (fun _ h => h.elim) (fun b h1 h2 => h2) (by have := HLO.out; omega)
      have HTT := Lib.hid ht; have HTW := Lib.hid hw
      have BV := Lib.hid (Below.step BZ.out hb)
      clear hb hrow ht hw hvz p0 p1 p2 p3 p4 p5 p6 MZ HZR HOZ BZ
      go_wp2_with fail
      refine (texts_any (ddF [] wl) (ddF [] wl) (fun b => b < wv.heap.size) wv _ _ (fun _ h => h) HTT.out HTW.out).mono ?_
      rw [decide_eq_true rfl]
      rintro e wt ⟨rfl, hb⟩
      have BT := Lib.hid (Below.step BV.out hb)
      clear hb HTT HTW BV
      go_wp2_with fail
      refine (num_any 3 wt).mono ?_
      rintro e wn ⟨rfl, hb⟩
      have BN := Lib.hid (Below.step BT.out hb)
      clear hb BT
      rw [show numVal 3 = .agg #[.int .i64 2, .string ⟨#[]⟩, .int .i64 1, .int .i64 3, .string ⟨#[]⟩, .slice none 0 0, .slice none 0 0] from rfl]
      go_wp2_with fail
      refine (vars_any (numZ 3) (fun _ => False) wn _ _ _ _ _ _ _ (fun _ h => h.elim) (repM_mk.2 ⟨rfl, rfl, small64 (by omega), by decide, flat_rep _ _ 1 3 ⟨#[]⟩ (small64 (by omega)) (small64 (by omega)) (by decide), slg_nil⟩) (by simp [numZ, varsM, varsL])).mono ?_
      rintro e wf ⟨vf, rfl, hrow, hb⟩
      have BF := Lib.hid (Below.step BN.out hb)
      rw [vars_num] at hrow
      obtain ⟨-, ho⟩ := hrow
      have hform : ∃ a c, vf = .slice a 0 c := by rcases ho with ⟨rfl, -⟩ | ⟨g, cap, cur, rfl, -⟩; exact ⟨_, _, rfl⟩; exact ⟨_, _, rfl⟩
      obtain ⟨fa9, fc9, rfl⟩ := hform
      clear hb ho BN
      go_wp2_with fail
      go_ret
      exact ⟨rfl, BF.out⟩

end Go.Proofs.Ytkaiihoijcpldaa.scopeVars
