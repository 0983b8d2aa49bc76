/-
  RfRuSome, RfRuText, RefNumber
-/
import Derived.Test.YtgjemmdhamkngaaGreatDoorKG07
import Derived.Test.YtgjemmdhamkngaaGreatDoorKG08
import Derived.Test.YtgjemmdhamkngaaGreatDoorK05
import Derived.Test.YtgjemmdhamkngaaGreatDoorK02
namespace Go.Proofs.YtgjemmdhamkngaaGreatDoor
open Go.RowKit
set_option maxRecDepth 100000 in
set_option maxHeartbeats 16000000 in
theorem refRuText_some (x : Ru) (S : Nat → Prop) (w : World) (c0 c1 c2 c3 c4 c5 : Value) (hS : ∀ k, S k → k < w.heap.size) (hx : RepRu S w x c0 c1 c2 c3 c4 c5) (hb : ruB x = true) (hsl : (showRu x).length ≤ 140737488355328) (h0 : x.agg.toList.isEmpty = false) :
  Calls Tryz.prog 17 #[.agg #[c0, c1, c2, c3, c4, c5]] w fun e w' => e = .returned (.string ⟨(showRu x).toArray⟩) ∧ Below w.heap.size w w' := by
 have HX := Lib.hid hx; have HB := Lib.hid hb
 have HL := Lib.hid hx.2.2.2.2.2.2.2.2.1; have HBO := Lib.hid hx.2.2.2.2.2.2.2.2.2
 obtain ⟨fa, fc, ga, gc, rfl, rfl, rfl, rfl, rfl, rfl⟩ := hx.form
 clear hx
 have hr := hb
 clear hb
 rw [ruB, atomB] at hr
 simp only [Bool.and_eq_true] at hr
 obtain ⟨-, ⟨-, hr2, -⟩, hagg, hr4⟩ := hr
 obtain ⟨g1, g2, g3⟩ := listB_bounds hr2
 obtain ⟨g4, g5, g6⟩ := listB_bounds hr4
 have hn : x.args.length ≤ 8 := by omega
 have hn2 : x.body.length ≤ 8 := by omega
 have HRA := Lib.hid g3; have HRB := Lib.hid g6
 have hsh : showRu x = x.label.data.toList ++ (32 :: ((x.head.data.toList ++ (40 :: 64 :: (sepL [44] ((x.args.map showM).mapIdx fun i t => aggAt x i t) ++ [41]))) ++ ([32, 58, 45, 32] ++ (sepL [44, 32] (x.body.map showLi) ++ [46])))) := rfl
 rw [hsh] at hsl
 simp only [List.length_append, List.length_cons, List.length_nil] at hsl
 have hmi : ∀ i (h : i < x.args.length), (aggAt x i (showM x.args[i])).length ≤ (sepL [44] ((x.args.map showM).mapIdx fun i t => aggAt x i t)).length := by
  intro i h
  refine sepL_mem_le [44] _ _ ?_
  have h2 : i < ((x.args.map showM).mapIdx fun i t => aggAt x i t).length := by simpa using h
  have := List.getElem_mem h2
  simpa using this
 have HSA : Hid (∀ y ∈ x.args, (showM y).length ≤ 140737488355328) := by
  show ∀ _, _
  intro y hy
  obtain ⟨i, hi, rfl⟩ := List.getElem_of_mem hy
  have h1 := hmi i hi
  have h2 := aggAt_le x i (showM x.args[i])
  omega
 have HSL : Hid (∀ y ∈ x.body, (showLi y).length ≤ 140737488355328) := by
  show ∀ _, _
  intro y hy
  have := sepL_mem_le [44, 32] (x.body.map showLi) (showLi y) (List.mem_map_of_mem hy)
  omega
 have HJ1L : Hid ((sepL (⟨#[44]⟩ : ByteArray).data.toList ((headRow x).map fun x => x.data.toList)).length ≤ 140737488355328) := by show (sepL [44] _).length ≤ _; rw [headRow_data]; omega
 have HJ2L : Hid ((sepL (⟨#[44, 32]⟩ : ByteArray).data.toList ((x.body.map showLB).map fun x => x.data.toList)).length ≤ 140737488355328) := by show (sepL [44, 32] _).length ≤ _; rw [showLB_list]; omega
 obtain ⟨J1, hJ1⟩ : ∃ J : ByteArray, (⟨(sepL (⟨#[44]⟩ : ByteArray).data.toList ((headRow x).map fun x => x.data.toList)).toArray⟩ : ByteArray) = J := ⟨_, rfl⟩
 have HJ1 := Lib.hid hJ1
 rw [headRow_data] at hJ1
 obtain ⟨J2, hJ2⟩ : ∃ J : ByteArray, (⟨(sepL (⟨#[44, 32]⟩ : ByteArray).data.toList ((x.body.map showLB).map fun x => x.data.toList)).toArray⟩ : ByteArray) = J := ⟨_, rfl⟩
 have HJ2 := Lib.hid hJ2
 rw [showLB_list] at hJ2
 have hz2 : (sepL [44] ((x.args.map showM).mapIdx fun i t => aggAt x i t)).length = J1.size := by rw [← hJ1, size_mk]
 have hz3 : (sepL [44, 32] (x.body.map showLi)).length = J2.size := by rw [← hJ2, size_mk]
 have hz1 : x.label.data.toList.length = x.label.size := by rw [Array.length_toList]; rfl
 have hz4 : x.head.data.toList.length = x.head.size := by rw [Array.length_toList]; rfl
 have Z := Lib.hid (And.intro (strAdd x.label ⟨#[32]⟩ (by show x.label.size + 1 ≤ _; omega)) (And.intro (strAdd (x.label ++ ⟨#[32]⟩) x.head (by rw [ByteArray.size_append]; show x.label.size + 1 + x.head.size ≤ _; omega)) (And.intro (strAdd (x.label ++ ⟨#[32]⟩ ++ x.head) ⟨#[40, 64]⟩ (by rw [ByteArray.size_append, ByteArray.size_append]; show x.label.size + 1 + x.head.size + 2 ≤ _; omega)) (And.intro (strAdd (x.label ++ ⟨#[32]⟩ ++ x.head ++ ⟨#[40, 64]⟩) J1 (by rw [ByteArray.size_append, ByteArray.size_append, ByteArray.size_append]; show x.label.size + 1 + x.head.size + 2 + J1.size ≤ _; omega)) (And.intro (strAdd (x.label ++ ⟨#[32]⟩ ++ x.head ++ ⟨#[40, 64]⟩ ++ J1) ⟨#[41, 32, 58, 45, 32]⟩ (by rw [ByteArray.size_append, ByteArray.size_append, ByteArray.size_append, ByteArray.size_append]; show x.label.size + 1 + x.head.size + 2 + J1.size + 5 ≤ _; omega)) (And.intro (strAdd (x.label ++ ⟨#[32]⟩ ++ x.head ++ ⟨#[40, 64]⟩ ++ J1 ++ ⟨#[41, 32, 58, 45, 32]⟩) J2 (by rw [ByteArray.size_append, ByteArray.size_append, ByteArray.size_append, ByteArray.size_append, ByteArray.size_append]; show x.label.size + 1 + x.head.size + 2 + J1.size + 5 + J2.size ≤ _; omega)) (strAdd (x.label ++ ⟨#[32]⟩ ++ x.head ++ ⟨#[40, 64]⟩ ++ J1 ++ ⟨#[41, 32, 58, 45, 32]⟩ ++ J2) ⟨#[46]⟩ (by rw [ByteArray.size_append, ByteArray.size_append, ByteArray.size_append, ByteArray.size_append, ByteArray.size_append, ByteArray.size_append]; show x.label.size + 1 + x.head.size + 2 + J1.size + 5 + J2.size + 1 ≤ _; omega))))))))
 have HF : Hid ((⟨(showRu x).toArray⟩ : ByteArray) = x.label ++ ⟨#[32]⟩ ++ x.head ++ ⟨#[40, 64]⟩ ++ J1 ++ ⟨#[41, 32, 58, 45, 32]⟩ ++ J2 ++ ⟨#[46]⟩) := by
  show _ = _
  rw [hsh, ← hJ1, ← hJ2]
  apply ByteArray.ext
  simp only [ByteArray.data_append]
  simp
 rw [aggB, if_neg (by rw [h0]; decide)] at hagg
 simp only [Bool.and_eq_true, decide_eq_true_eq] at hagg
 obtain ⟨-, a1, a2, -⟩ := hagg
 obtain ⟨k, hk⟩ := Int.eq_ofNat_of_zero_le (show 0 ≤ x.at' by omega)
 have hkl : k < x.args.length := by omega
 have HHR := Lib.hid (headRow_some h0 hk hkl)
 have hga := hmi k hkl
 rw [aggAt, if_neg (by rw [h0, hk]; simp)] at hga
 simp only [List.length_append, List.length_cons, List.length_nil] at hga
 have hz5 : x.agg.data.toList.length = x.agg.size := by rw [Array.length_toList]; rfl
 obtain ⟨T0, hT0⟩ : ∃ T, showB x.args[k] = T := ⟨_, rfl⟩
 have hz6 : (showM x.args[k]).length = T0.size := by rw [← hT0, showB, size_mk]
 have y1 := strAdd x.agg ⟨#[60]⟩ (by show x.agg.size + 1 ≤ _; omega)
 have y2 := strAdd (x.agg ++ ⟨#[60]⟩) T0 (by rw [ByteArray.size_append]; show x.agg.size + 1 + T0.size ≤ _; omega)
 have y3 := strAdd (x.agg ++ ⟨#[60]⟩ ++ T0) ⟨#[62]⟩ (by rw [ByteArray.size_append, ByteArray.size_append]; show x.agg.size + 1 + T0.size + 1 ≤ _; omega)
 have Y := Lib.hid (And.intro y1 (And.intro y2 y3))
 have HT0 := Lib.hid hT0
 rw [hT0] at HHR
 have HKA := Lib.hid hk
 clear g1 g2 g3 g4 g5 g6 hr2 hr4 hsl hsh hz1 hz2 hz3 hz4 hz5 hz6 hJ1 hJ2 hmi hga a1 a2 y1 y2 y3 hT0 hk
 go_enter Tryz.func17, Tryz.ntmps17
 go_wp2_with fail
 have x1 := boxRu_new w (.string x.label) (.string x.head) (.slice fa x.args.length fc) (.string x.agg) (.int .i64 x.at') (.slice ga x.body.length gc)
 have b1 := below_alloc w (.cells #[.string x.label, .string x.head, .slice fa x.args.length fc, .string x.agg, .int .i64 x.at', .slice ga x.body.length gc] 37)
 generalize w.alloc (.cells #[.string x.label, .string x.head, .slice fa x.args.length fc, .string x.agg, .int .i64 x.at', .slice ga x.body.length gc] 37) = w1 at *
 have X1 := Lib.hid x1; have B1 := Lib.hid b1
 clear x1 b1
 obtain ⟨p0, p1, p2, p3, p4, p5⟩ := X1.out.cells
 refine (refRule_any x S _ _ _ _ _ _ _ (fun k hk => Nat.lt_of_lt_of_le (hS k hk) B1.out.size) (RepRu.on (fun _ h => h) (fun k hk => B1.out.block k (hS k hk)) HX.out)).mono ?_
 rw [HB.out]
 rintro e w2 ⟨rfl, hb⟩
 have X2 := Lib.hid (X1.out.on hb)
 have B2 := Lib.hid (Below.step B1.out hb)
 clear hb
 clear p0 p1 p2 p3 p4 p5
 obtain ⟨p0, p1, p2, p3, p4, p5⟩ := X2.out.cells
 go_wp2_with fail
 refine (printed_any x.args (fun y _ => shown_any y) 8 S _ _ (fun k hk => Nat.lt_of_lt_of_le (hS k hk) B2.out.size) (RepMs.on (fun _ h => h) (fun k hk => B2.out.block k (hS k hk)) HL.out) HRA.out HSA.out (by omega)).mono ?_
 rintro e w3 ⟨v, rfl, hov, hb⟩
 have X3 := Lib.hid (X2.out.on hb)
 have B3 := Lib.hid (Below.step B2.out hb)
 have OV := Lib.hid hov
 clear hb hov p0 p1 p2 p3 p4 p5
 obtain ⟨p0, p1, p2, p3, p4, p5⟩ := X3.out.cells
 rw [HKA.out] at p4
 have hovr := OV.out
 obtain ⟨hlen0, hown0⟩ := OV.out
 rcases hown0 with ⟨-, hn0⟩ | ⟨vb, vc, cur, rfl, hbg, hh, hnc, hcm, hcs, htk⟩
 ·rw [List.length_map] at hn0; omega
 have hq : w3.cell? ⟨vb, k, none⟩ = some (.string T0) := by
  have hv : (strCells (x.args.map showB))[k]? = some (.string T0) := by simp [strCells, hkl, HT0.out]
  rw [← htk, List.getElem?_take, if_pos (by rw [List.length_map]; omega)] at hv
  exact cell_of_block' hh _ (by rw [← Array.getElem?_toList]; exact hv)
 have HQ := Lib.hid hq
 have HVB : Hid (w.heap.size < vb) := by show _ < _; have := X2.out.lt; omega
 have HVL : Hid (vb < w3.heap.size) := (Array.getElem?_eq_some_iff.1 hh).1
 have HBLK := Lib.hid hh
 rw [List.length_map] at hnc ⊢
 have OVB := Lib.hid OV.out
 rw [List.length_map] at OVB
 have HK1 : Hid ((0 : Int) ≤ (k : Int)) := Int.natCast_nonneg k
 have HK2 : Hid ((k : Int) < (x.args.length : Int)) := by show _ < _; omega
 have HKL := Lib.hid hkl
 clear hovr hlen0 hh hcs htk hcm hq hnc
 go_wp2_with fail
 generalize hbt : w.heap.size = bt at X3 ⊢
 have HBT := Lib.hid hbt
 clear hbt p0 p1 p2 p3 p4 p5
 refine wp_region_factsL (by rfl) 62 (by rfl) (by kernel_rfl) (fun _ iz vz => (iz = 0 → vz = .slice (some ⟨vb, 0, none⟩) x.args.length vc) ∧ (iz = 1 → vz = .pointer (some ⟨bt, 4, none⟩)) ∧ (iz = 2 → vz = .int .i64 (k : Int)) ∧ (iz = 3 → vz = .pointer (some ⟨bt, 3, none⟩)) ∧ (iz = 4 → vz = .string x.agg) ∧ (iz = 5 → vz = .string (x.agg ++ ⟨#[60]⟩)) ∧ (iz = 6 → vz = .slice (some ⟨vb, 0, none⟩) x.args.length vc) ∧ (iz = 7 → vz = .pointer (some ⟨bt, 4, none⟩)) ∧ (iz = 8 → vz = .int .i64 (k : Int)) ∧ (iz = 9 → vz = .pointer (some ⟨vb, k, none⟩)) ∧ (iz = 10 → vz = .string T0) ∧ (iz = 11 → vz = .string (x.agg ++ ⟨#[60]⟩ ++ T0)) ∧ (iz = 12 → vz = .string (x.agg ++ ⟨#[60]⟩ ++ T0 ++ ⟨#[62]⟩)) ∧ (iz = 13 → vz = .pointer (some ⟨vb, k, none⟩))) (fun w' => Below w3.heap.size w3 w') (Below.drew (Below.refl _ _)) ⟨?s0, ?s1, ?s2, ?s3, ?s4, ?s5, ?s6, ?s7, ?s8, ?s9, ?s10, ?s11, ?s12, ?s13, trivial⟩ (by rfl) ?last (by decide)
 case s0 =>
  intro a w' hoff hg hdep K hK
  have h4 := off_at hoff 4 (v := .slice (some ⟨vb, 0, none⟩) x.args.length vc) (by kernel_rfl) rfl
  rw [if_pos (by rfl)]
  go_simp
  exact hK.out _ _ hg ⟨fun _ => rfl, nn,nn,nn,nn,nn,nn,nn,nn,nn,nn,nn,nn,nn⟩ (fun _ _ h => h)
 case s1 =>
  intro a w' hoff hg hdep K hK
  have h1 := off_at hoff 1 (v := .pointer (some ⟨bt, 0, none⟩)) (by kernel_rfl) rfl
  rw [if_pos (by rfl)]
  go_simp
  exact hK.out _ _ hg ⟨nn, fun _ => rfl, nn,nn,nn,nn,nn,nn,nn,nn,nn,nn,nn,nn⟩ (fun _ _ h => h)
 case s2 =>
  intro a w' hoff hg hdep K hK
  obtain ⟨v1, e1, f1⟩ := hdep 1 _ 18 (by kernel_rfl) rfl rfl
  obtain rfl := (f1.2.1 rfl).symm
  rw [if_pos (by rfl)]
  obtain ⟨p0, p1, p2, p3, p4, p5⟩ := (X3.out.on hg).cells; rw [HKA.out] at p4; have q0 := (hg.cell (p := ⟨vb, k, none⟩) HVL.out).trans HQ.out
  go_simp
  exact hK.out _ _ hg ⟨nn,nn, fun _ => rfl, nn,nn,nn,nn,nn,nn,nn,nn,nn,nn,nn⟩ (fun _ _ h => h)
 case s3 =>
  intro a w' hoff hg hdep K hK
  have h1 := off_at hoff 1 (v := .pointer (some ⟨bt, 0, none⟩)) (by kernel_rfl) rfl
  rw [if_pos (by rfl)]
  go_simp
  exact hK.out _ _ hg ⟨nn,nn,nn, fun _ => rfl, nn,nn,nn,nn,nn,nn,nn,nn,nn,nn⟩ (fun _ _ h => h)
 case s4 =>
  intro a w' hoff hg hdep K hK
  obtain ⟨v3, e3, f3⟩ := hdep 3 _ 20 (by kernel_rfl) rfl rfl
  obtain rfl := (f3.2.2.2.1 rfl).symm
  rw [if_pos (by rfl)]
  obtain ⟨p0, p1, p2, p3, p4, p5⟩ := (X3.out.on hg).cells; rw [HKA.out] at p4; have q0 := (hg.cell (p := ⟨vb, k, none⟩) HVL.out).trans HQ.out
  go_simp
  exact hK.out _ _ hg ⟨nn,nn,nn,nn, fun _ => rfl, nn,nn,nn,nn,nn,nn,nn,nn,nn⟩ (fun _ _ h => h)
 case s5 =>
  intro a w' hoff hg hdep K hK
  obtain ⟨v4, e4, f4⟩ := hdep 4 _ 21 (by kernel_rfl) rfl rfl
  obtain rfl := (f4.2.2.2.2.1 rfl).symm
  rw [if_pos (by rfl)]
  have y1 := Y.out.1
  go_simp
  exact hK.out _ _ hg ⟨nn,nn,nn,nn,nn, fun _ => rfl, nn,nn,nn,nn,nn,nn,nn,nn⟩ (fun _ _ h => h)
 case s6 =>
  intro a w' hoff hg hdep K hK
  have h4 := off_at hoff 4 (v := .slice (some ⟨vb, 0, none⟩) x.args.length vc) (by kernel_rfl) rfl
  rw [if_pos (by rfl)]
  go_simp
  exact hK.out _ _ hg ⟨nn,nn,nn,nn,nn,nn, fun _ => rfl, nn,nn,nn,nn,nn,nn,nn⟩ (fun _ _ h => h)
 case s7 =>
  intro a w' hoff hg hdep K hK
  have h1 := off_at hoff 1 (v := .pointer (some ⟨bt, 0, none⟩)) (by kernel_rfl) rfl
  rw [if_pos (by rfl)]
  go_simp
  exact hK.out _ _ hg ⟨nn,nn,nn,nn,nn,nn,nn, fun _ => rfl, nn,nn,nn,nn,nn,nn⟩ (fun _ _ h => h)
 case s8 =>
  intro a w' hoff hg hdep K hK
  obtain ⟨v7, e7, f7⟩ := hdep 7 _ 24 (by kernel_rfl) rfl rfl
  obtain rfl := (f7.2.2.2.2.2.2.2.1 rfl).symm
  rw [if_pos (by rfl)]
  obtain ⟨p0, p1, p2, p3, p4, p5⟩ := (X3.out.on hg).cells; rw [HKA.out] at p4; have q0 := (hg.cell (p := ⟨vb, k, none⟩) HVL.out).trans HQ.out
  go_simp
  exact hK.out _ _ hg ⟨nn,nn,nn,nn,nn,nn,nn,nn, fun _ => rfl, nn,nn,nn,nn,nn⟩ (fun _ _ h => h)
 case s9 =>
  intro a w' hoff hg hdep K hK
  obtain ⟨v6, e6, f6⟩ := hdep 6 _ 23 (by kernel_rfl) rfl rfl
  obtain rfl := (f6.2.2.2.2.2.2.1 rfl).symm
  obtain ⟨v8, e8, f8⟩ := hdep 8 _ 25 (by kernel_rfl) rfl rfl
  obtain rfl := (f8.2.2.2.2.2.2.2.2.1 rfl).symm
  rw [if_pos (by rfl)]
  have hk1 := HK1.out; have hk2 := HK2.out
  go_simp
  exact hK.out _ _ hg ⟨nn,nn,nn,nn,nn,nn,nn,nn,nn, fun _ => rfl, nn,nn,nn,nn⟩ (fun _ _ h => h)
 case s10 =>
  intro a w' hoff hg hdep K hK
  obtain ⟨v9, e9, f9⟩ := hdep 9 _ 26 (by kernel_rfl) rfl rfl
  obtain rfl := (f9.2.2.2.2.2.2.2.2.2.1 rfl).symm
  rw [if_pos (by rfl)]
  obtain ⟨p0, p1, p2, p3, p4, p5⟩ := (X3.out.on hg).cells; rw [HKA.out] at p4; have q0 := (hg.cell (p := ⟨vb, k, none⟩) HVL.out).trans HQ.out
  go_simp
  exact hK.out _ _ hg ⟨nn,nn,nn,nn,nn,nn,nn,nn,nn,nn, fun _ => rfl, nn,nn,nn⟩ (fun _ _ h => h)
 case s11 =>
  intro a w' hoff hg hdep K hK
  obtain ⟨v5, e5, f5⟩ := hdep 5 _ 22 (by kernel_rfl) rfl rfl
  obtain rfl := (f5.2.2.2.2.2.1 rfl).symm
  obtain ⟨v10, e10, f10⟩ := hdep 10 _ 27 (by kernel_rfl) rfl rfl
  obtain rfl := (f10.2.2.2.2.2.2.2.2.2.2.1 rfl).symm
  rw [if_pos (by rfl)]
  have y2 := Y.out.2.1
  go_simp
  exact hK.out _ _ hg ⟨nn,nn,nn,nn,nn,nn,nn,nn,nn,nn,nn, fun _ => rfl, nn,nn⟩ (fun _ _ h => h)
 case s12 =>
  intro a w' hoff hg hdep K hK
  obtain ⟨v11, e11, f11⟩ := hdep 11 _ 28 (by kernel_rfl) rfl rfl
  obtain rfl := (f11.2.2.2.2.2.2.2.2.2.2.2.1 rfl).symm
  rw [if_pos (by rfl)]
  have y3 := Y.out.2.2
  go_simp
  exact hK.out _ _ hg ⟨nn,nn,nn,nn,nn,nn,nn,nn,nn,nn,nn,nn, fun _ => rfl, nn⟩ (fun _ _ h => h)
 case s13 =>
  intro a w' hoff hg hdep K hK
  obtain ⟨v0, e0, f0⟩ := hdep 0 _ 17 (by kernel_rfl) rfl rfl
  obtain rfl := (f0.1 rfl).symm
  obtain ⟨v2, e2, f2⟩ := hdep 2 _ 19 (by kernel_rfl) rfl rfl
  obtain rfl := (f2.2.2.1 rfl).symm
  rw [if_pos (by rfl)]
  have hk1 := HK1.out; have hk2 := HK2.out
  go_simp
  exact hK.out _ _ hg ⟨nn,nn,nn,nn,nn,nn,nn,nn,nn,nn,nn,nn,nn, fun _ => rfl⟩ (fun _ _ h => h)
 case last =>
  intro a w' hoff hg hf
  obtain ⟨v0, e0, f0⟩ := hf 0 _ 17 (by decide) rfl rfl
  obtain rfl := (f0.1 rfl).symm
  obtain ⟨v1, e1, f1⟩ := hf 1 _ 18 (by decide) rfl rfl
  obtain rfl := (f1.2.1 rfl).symm
  obtain ⟨v2, e2, f2⟩ := hf 2 _ 19 (by decide) rfl rfl
  obtain rfl := (f2.2.2.1 rfl).symm
  obtain ⟨v3, e3, f3⟩ := hf 3 _ 20 (by decide) rfl rfl
  obtain rfl := (f3.2.2.2.1 rfl).symm
  obtain ⟨v4, e4, f4⟩ := hf 4 _ 21 (by decide) rfl rfl
  obtain rfl := (f4.2.2.2.2.1 rfl).symm
  obtain ⟨v5, e5, f5⟩ := hf 5 _ 22 (by decide) rfl rfl
  obtain rfl := (f5.2.2.2.2.2.1 rfl).symm
  obtain ⟨v6, e6, f6⟩ := hf 6 _ 23 (by decide) rfl rfl
  obtain rfl := (f6.2.2.2.2.2.2.1 rfl).symm
  obtain ⟨v7, e7, f7⟩ := hf 7 _ 24 (by decide) rfl rfl
  obtain rfl := (f7.2.2.2.2.2.2.2.1 rfl).symm
  obtain ⟨v8, e8, f8⟩ := hf 8 _ 25 (by decide) rfl rfl
  obtain rfl := (f8.2.2.2.2.2.2.2.2.1 rfl).symm
  obtain ⟨v9, e9, f9⟩ := hf 9 _ 26 (by decide) rfl rfl
  obtain rfl := (f9.2.2.2.2.2.2.2.2.2.1 rfl).symm
  obtain ⟨v10, e10, f10⟩ := hf 10 _ 27 (by decide) rfl rfl
  obtain rfl := (f10.2.2.2.2.2.2.2.2.2.2.1 rfl).symm
  obtain ⟨v11, e11, f11⟩ := hf 11 _ 28 (by decide) rfl rfl
  obtain rfl := (f11.2.2.2.2.2.2.2.2.2.2.2.1 rfl).symm
  obtain ⟨v12, e12, f12⟩ := hf 12 _ 29 (by decide) rfl rfl
  obtain rfl := (f12.2.2.2.2.2.2.2.2.2.2.2.2.1 rfl).symm
  obtain ⟨v13, e13, f13⟩ := hf 13 _ 30 (by decide) rfl rfl
  obtain rfl := (f13.2.2.2.2.2.2.2.2.2.2.2.2.2 rfl).symm
  have hh2 := (hg.block vb HVL.out).trans HBLK.out
  have hzf := frozen_of_row w' vb k _ _ hh2
  have q0 := (hg.cell (p := ⟨vb, k, none⟩) HVL.out).trans HQ.out
  have X4 : Hid (BoxRu (w'.setCell ⟨vb, k, none⟩ (.string (x.agg ++ ⟨#[60]⟩ ++ T0 ++ ⟨#[62]⟩))) bt (.string x.label) (.string x.head) (.slice fa x.args.length fc) (.string x.agg) (.int .i64 x.at') (.slice ga x.body.length gc)) := (Below.heap_setCell _ _ _ _ (by have := HVB.out; have := HBT.out; simp; omega)).trans (X3.out.on hg)
  have B4 := Lib.hid ((Below.step B3.out hg).setCell (p := ⟨vb, k, none⟩) (by have := HVB.out; simp; omega) (.string (x.agg ++ ⟨#[60]⟩ ++ T0 ++ ⟨#[62]⟩)))
  have OS := Lib.hid (OwnS.set (l := x.args.map showB) (k := k) (by have := OVB.out.stands hg; rw [List.length_map]; exact this) (by rw [List.length_map]; exact HKL.out) (x.agg ++ ⟨#[60]⟩ ++ T0 ++ ⟨#[62]⟩))
  rw [List.length_map] at OS
  rw [← HHR.out] at OS
  have OVH := Lib.hid OS.out
  rw [if_pos (by rfl)]
  rw [hoff.sets [(17, .slice (some ⟨vb, 0, none⟩) x.args.length vc), (18, .pointer (some ⟨bt, 4, none⟩)), (19, .int .i64 (k : Int)), (20, .pointer (some ⟨bt, 3, none⟩)), (21, .string x.agg), (22, .string (x.agg ++ ⟨#[60]⟩)), (23, .slice (some ⟨vb, 0, none⟩) x.args.length vc), (24, .pointer (some ⟨bt, 4, none⟩)), (25, .int .i64 (k : Int)), (26, .pointer (some ⟨vb, k, none⟩)), (27, .string T0), (28, .string (x.agg ++ ⟨#[60]⟩ ++ T0)), (29, .string (x.agg ++ ⟨#[60]⟩ ++ T0 ++ ⟨#[62]⟩)), (30, .pointer (some ⟨vb, k, none⟩))] (by kernel_rfl) (by intro p hp; simp only [List.mem_cons, List.not_mem_nil, or_false] at hp; rcases hp with rfl | rfl | rfl | rfl | rfl | rfl | rfl | rfl | rfl | rfl | rfl | rfl | rfl | rfl <;> assumption)]
  clear hoff hf e0 f0 e1 f1 e2 f2 e3 f3 e4 f4 e5 f5 e6 f6 e7 f7 e8 f8 e9 f9 e10 f10 e11 f11 e12 f12 e13 f13
  simp only [List.foldl_cons, List.foldl_nil, List.setIfInBounds_toArray, List.set_cons_zero, List.set_cons_succ]
  go_simp
  clear hzf hh2 q0 hg
  generalize w'.setCell ⟨vb, k, none⟩ (.string (x.agg ++ ⟨#[60]⟩ ++ T0 ++ ⟨#[62]⟩)) = w4 at *
  obtain ⟨p0, p1, p2, p3, p4, p5⟩ := X4.out.cells
  go_wp2_with fail
  have HSZ := Lib.hid (fun k (hk : S k) => Nat.lt_of_lt_of_le (hS k hk) B4.out.size)
  have HLS := Lib.hid (RepLis.on (fun _ h => h) (fun k hk => B4.out.block k (hS k hk)) HBO.out : RepLis S w4 x.body (.slice ga x.body.length gc))
  clear p0 p1 p2 p3 p4 p5
  go_loopw [5, 6] (fun v i wr => ∃ k : Nat, k ≤ x.body.length ∧ i = .int .i64 k ∧ OwnS wr w4.heap.size v ((x.body.take k).map showLB) ∧ Below w4.heap.size w4 wr) (fun _ i _ => x.body.length - (intOf i).toNat)
  case atStart => exact ⟨0, Nat.zero_le _, rfl, OwnS.nil _ _, Below.refl _ _⟩
  case round =>
   obtain ⟨k, hk, rfl, hown, hbel⟩ := hrel
   have XR := Lib.hid (X4.out.on hbel); have HBEL := Lib.hid hbel
   have HO := Lib.hid hown
   obtain ⟨oa, oc, rfl⟩ := hown.form
   clear hown
   have hol : ((x.body.take k).map showLB).length = k := by rw [List.length_map, List.length_take]; omega
   rw [hol] at HO ⊢
   obtain ⟨p0, p1, p2, p3, p4, p5⟩ := XR.out.cells
   by_cases hl : k < x.body.length
   ·have hA := (RepLis.on (fun _ h => h) (fun j hj => hbel.block j (HSZ.out j hj)) HLS.out : RepLis S wr x.body (.slice ga x.body.length gc))
    obtain ⟨-, hcap2, lb2, lo2, fa2, fc2, hga2, -, g0, g1, g2, g⟩ := RepLis.at hA k hl
    rw [hga2] at p5
    have G := Lib.hid g; have HGA2 := Lib.hid hga2
    have HTK : Hid ((x.body.take (k + 1)).map showLB = (x.body.take k).map showLB ++ [showLB x.body[k]]) := by
     show _ = _
     rw [List.take_succ_eq_append_getElem hl, List.map_append]; rfl
    have HY1 := Lib.hid (HRB.out x.body[k] (List.getElem_mem hl)); have HY2 := Lib.hid (HSL.out x.body[k] (List.getElem_mem hl))
    clear hA g hga2 hbel hol
    generalize x.body[k] = y at *
    go_wp2_with fail
    refine (refLiText_any y S wr _ _ _ (fun j hj => Nat.lt_of_lt_of_le (HSZ.out j hj) HBEL.out.size) G.out (fun _ => HY2.out)).mono ?_
    rw [HY1.out]
    rintro e w5 ⟨rfl, hb⟩
    have HB3 := Lib.hid (Below.step HBEL.out hb)
    have HO3 := Lib.hid (HO.out.stands hb)
    clear hb p0 p1 p2 p3 p4 p5 g0 g1 g2
    have hlk : ((x.body.take k).map showLB).length ≤ 1000000 := by rw [List.length_map, List.length_take]; omega
    obtain ⟨sb, hsb⟩ : ∃ sb, showLB y = sb := ⟨_, rfl⟩
    rw [show (⟨(told true (showLi y)).toArray⟩ : ByteArray) = sb from hsb]
    rw [hsb] at HTK
    clear hsb
    obtain ⟨a6, n6, c6, w6, hrun, ho6, hb6⟩ := str_append HO3.out HB3.out.size hlk sb 74
    have HRUN := Lib.hid hrun; have HO6 := Lib.hid ho6; have HB6 := Lib.hid (HB3.out.trans hb6)
    clear hrun ho6 hb6 hlk
    go_wp2_with (at_builtin; refine wpList_append_byS rfl _ _ _ rfl rfl rfl HRUN.out ?_)
    go_roundw
    case rel => exact ⟨k + 1, by omega, by go_num, by rw [HTK.out]; exact HO6.out, HB6.out⟩
    case measure => simp [intOf]; omega
   ·have HT : Hid ((x.body.take k).map showLB = x.body.map showLB) := by show _ = _; rw [List.take_of_length_le (by omega)]
    have OB := Lib.hid HO.out
    rw [HT.out] at OB
    have OH := Lib.hid (OVH.out.stands hbel)
    have HL1 : Hid ((headRow x).length ≤ 100) := by show _ ≤ _; rw [headRow_length]; omega
    have HL2 : Hid ((x.body.map showLB).length ≤ 100) := by show _ ≤ _; rw [List.length_map]; omega
    have B9 := Lib.hid (Below.step B4.out hbel)
    clear hbel
    go_wp2_with fail
    clear p0 p1 p2 p3 p4 p5
    refine wp_region_factsG (by rfl) 62 (by rfl) (by kernel_rfl) (fun _ iz vz => (iz = 0 → vz = .pointer (some ⟨bt, 0, none⟩)) ∧ (iz = 1 → vz = .string x.label) ∧ (iz = 2 → vz = .string (x.label ++ ⟨#[32]⟩)) ∧ (iz = 3 → vz = .pointer (some ⟨bt, 1, none⟩)) ∧ (iz = 4 → vz = .string x.head) ∧ (iz = 5 → vz = .string (x.label ++ ⟨#[32]⟩ ++ x.head)) ∧ (iz = 6 → vz = .string (x.label ++ ⟨#[32]⟩ ++ x.head ++ ⟨#[40, 64]⟩)) ∧ (iz = 7 → vz = .slice (some ⟨vb, 0, none⟩) x.args.length vc) ∧ (iz = 8 → vz = .string J1) ∧ (iz = 9 → vz = .string (x.label ++ ⟨#[32]⟩ ++ x.head ++ ⟨#[40, 64]⟩ ++ J1)) ∧ (iz = 10 → vz = .string (x.label ++ ⟨#[32]⟩ ++ x.head ++ ⟨#[40, 64]⟩ ++ J1 ++ ⟨#[41, 32, 58, 45, 32]⟩)) ∧ (iz = 11 → vz = .slice oa k oc) ∧ (iz = 12 → vz = .string J2) ∧ (iz = 13 → vz = .string (x.label ++ ⟨#[32]⟩ ++ x.head ++ ⟨#[40, 64]⟩ ++ J1 ++ ⟨#[41, 32, 58, 45, 32]⟩ ++ J2)) ∧ (iz = 14 → vz = .string (x.label ++ ⟨#[32]⟩ ++ x.head ++ ⟨#[40, 64]⟩ ++ J1 ++ ⟨#[41, 32, 58, 45, 32]⟩ ++ J2 ++ ⟨#[46]⟩)) ∧ (iz = 15 → vz = .string (x.label ++ ⟨#[32]⟩ ++ x.head ++ ⟨#[40, 64]⟩ ++ J1 ++ ⟨#[41, 32, 58, 45, 32]⟩ ++ J2 ++ ⟨#[46]⟩))) (fun w' => Below wr.heap.size wr w') (Below.drew (Below.refl _ _)) ⟨?s0, ?s1, ?s2, ?s3, ?s4, ?s5, ?s6, ?s7, ?s8, ?s9, ?s10, ?s11, ?s12, ?s13, ?s14, ?s15, trivial⟩ ?fin
    case s0 =>
     intro a w' hoff hg hdep K hK
     have h1 := off_at hoff 1 (v := .pointer (some ⟨bt, 0, none⟩)) (by kernel_rfl) rfl
     rw [if_pos (by rfl)]
     go_simp
     exact hK.out _ _ hg ⟨fun _ => rfl, nn,nn,nn,nn,nn,nn,nn,nn,nn,nn,nn,nn,nn,nn,nn⟩ (fun _ _ h => h)
    case s1 =>
     intro a w' hoff hg hdep K hK
     obtain ⟨v0, e0, f0⟩ := hdep 0 _ 47 (by kernel_rfl) rfl rfl
     obtain rfl := (f0.1 rfl).symm
     rw [if_pos (by rfl)]
     obtain ⟨p0, p1, p2, p3, p4, p5⟩ := (XR.out.on hg).cells
     go_simp
     exact hK.out _ _ hg ⟨nn, fun _ => rfl, nn,nn,nn,nn,nn,nn,nn,nn,nn,nn,nn,nn,nn,nn⟩ (fun _ _ h => h)
    case s2 =>
     intro a w' hoff hg hdep K hK
     obtain ⟨v1, e1, f1⟩ := hdep 1 _ 48 (by kernel_rfl) rfl rfl
     obtain rfl := (f1.2.1 rfl).symm
     rw [if_pos (by rfl)]
     have z1 := Z.out.1
     go_simp
     exact hK.out _ _ hg ⟨nn,nn, fun _ => rfl, nn,nn,nn,nn,nn,nn,nn,nn,nn,nn,nn,nn,nn⟩ (fun _ _ h => h)
    case s3 =>
     intro a w' hoff hg hdep K hK
     have h1 := off_at hoff 1 (v := .pointer (some ⟨bt, 0, none⟩)) (by kernel_rfl) rfl
     rw [if_pos (by rfl)]
     go_simp
     exact hK.out _ _ hg ⟨nn,nn,nn, fun _ => rfl, nn,nn,nn,nn,nn,nn,nn,nn,nn,nn,nn,nn⟩ (fun _ _ h => h)
    case s4 =>
     intro a w' hoff hg hdep K hK
     obtain ⟨v3, e3, f3⟩ := hdep 3 _ 50 (by kernel_rfl) rfl rfl
     obtain rfl := (f3.2.2.2.1 rfl).symm
     rw [if_pos (by rfl)]
     obtain ⟨p0, p1, p2, p3, p4, p5⟩ := (XR.out.on hg).cells
     go_simp
     exact hK.out _ _ hg ⟨nn,nn,nn,nn, fun _ => rfl, nn,nn,nn,nn,nn,nn,nn,nn,nn,nn,nn⟩ (fun _ _ h => h)
    case s5 =>
     intro a w' hoff hg hdep K hK
     obtain ⟨v2, e2, f2⟩ := hdep 2 _ 49 (by kernel_rfl) rfl rfl
     obtain rfl := (f2.2.2.1 rfl).symm
     obtain ⟨v4, e4, f4⟩ := hdep 4 _ 51 (by kernel_rfl) rfl rfl
     obtain rfl := (f4.2.2.2.2.1 rfl).symm
     rw [if_pos (by rfl)]
     have z2 := Z.out.2.1
     go_simp
     exact hK.out _ _ hg ⟨nn,nn,nn,nn,nn, fun _ => rfl, nn,nn,nn,nn,nn,nn,nn,nn,nn,nn⟩ (fun _ _ h => h)
    case s6 =>
     intro a w' hoff hg hdep K hK
     obtain ⟨v5, e5, f5⟩ := hdep 5 _ 52 (by kernel_rfl) rfl rfl
     obtain rfl := (f5.2.2.2.2.2.1 rfl).symm
     rw [if_pos (by rfl)]
     have z3 := Z.out.2.2.1
     go_simp
     exact hK.out _ _ hg ⟨nn,nn,nn,nn,nn,nn, fun _ => rfl, nn,nn,nn,nn,nn,nn,nn,nn,nn⟩ (fun _ _ h => h)
    case s7 =>
     intro a w' hoff hg hdep K hK
     have h4 := off_at hoff 4 (v := .slice (some ⟨vb, 0, none⟩) x.args.length vc) (by kernel_rfl) rfl
     rw [if_pos (by rfl)]
     go_simp
     exact hK.out _ _ hg ⟨nn,nn,nn,nn,nn,nn,nn, fun _ => rfl, nn,nn,nn,nn,nn,nn,nn,nn⟩ (fun _ _ h => h)
    case s8 =>
     intro a w' hoff hg hdep K hK
     obtain ⟨v7, e7, f7⟩ := hdep 7 _ 54 (by kernel_rfl) rfl rfl
     obtain rfl := (f7.2.2.2.2.2.2.2.1 rfl).symm
     rw [if_pos (by rfl)]
     go_simp
     refine (joinedRow_any (headRow x) ⟨#[44]⟩ J1 _ _ _ (OH.out.stands hg) HL1.out HJ1L.out HJ1.out).mono ?_
     rintro e w2 ⟨rfl, rfl⟩
     exact hK.out _ _ (hg) ⟨nn,nn,nn,nn,nn,nn,nn,nn, fun _ => rfl, nn,nn,nn,nn,nn,nn,nn⟩ (fun _ _ h => h)
    case s9 =>
     intro a w' hoff hg hdep K hK
     obtain ⟨v6, e6, f6⟩ := hdep 6 _ 53 (by kernel_rfl) rfl rfl
     obtain rfl := (f6.2.2.2.2.2.2.1 rfl).symm
     obtain ⟨v8, e8, f8⟩ := hdep 8 _ 55 (by kernel_rfl) rfl rfl
     obtain rfl := (f8.2.2.2.2.2.2.2.2.1 rfl).symm
     rw [if_pos (by rfl)]
     have z4 := Z.out.2.2.2.1
     go_simp
     exact hK.out _ _ hg ⟨nn,nn,nn,nn,nn,nn,nn,nn,nn, fun _ => rfl, nn,nn,nn,nn,nn,nn⟩ (fun _ _ h => h)
    case s10 =>
     intro a w' hoff hg hdep K hK
     obtain ⟨v9, e9, f9⟩ := hdep 9 _ 56 (by kernel_rfl) rfl rfl
     obtain rfl := (f9.2.2.2.2.2.2.2.2.2.1 rfl).symm
     rw [if_pos (by rfl)]
     have z5 := Z.out.2.2.2.2.1
     go_simp
     exact hK.out _ _ hg ⟨nn,nn,nn,nn,nn,nn,nn,nn,nn,nn, fun _ => rfl, nn,nn,nn,nn,nn⟩ (fun _ _ h => h)
    case s11 =>
     intro a w' hoff hg hdep K hK
     have h5 := off_at hoff 5 (v := .slice oa k oc) (by kernel_rfl) rfl
     rw [if_pos (by rfl)]
     go_simp
     exact hK.out _ _ hg ⟨nn,nn,nn,nn,nn,nn,nn,nn,nn,nn,nn, fun _ => rfl, nn,nn,nn,nn⟩ (fun _ _ h => h)
    case s12 =>
     intro a w' hoff hg hdep K hK
     obtain ⟨v11, e11, f11⟩ := hdep 11 _ 58 (by kernel_rfl) rfl rfl
     obtain rfl := (f11.2.2.2.2.2.2.2.2.2.2.2.1 rfl).symm
     rw [if_pos (by rfl)]
     go_simp
     refine (joinedRow_any (x.body.map showLB) ⟨#[44, 32]⟩ J2 _ _ _ (OB.out.stands hg) HL2.out HJ2L.out HJ2.out).mono ?_
     rintro e w2 ⟨rfl, rfl⟩
     exact hK.out _ _ (hg) ⟨nn,nn,nn,nn,nn,nn,nn,nn,nn,nn,nn,nn, fun _ => rfl, nn,nn,nn⟩ (fun _ _ h => h)
    case s13 =>
     intro a w' hoff hg hdep K hK
     obtain ⟨v10, e10, f10⟩ := hdep 10 _ 57 (by kernel_rfl) rfl rfl
     obtain rfl := (f10.2.2.2.2.2.2.2.2.2.2.1 rfl).symm
     obtain ⟨v12, e12, f12⟩ := hdep 12 _ 59 (by kernel_rfl) rfl rfl
     obtain rfl := (f12.2.2.2.2.2.2.2.2.2.2.2.2.1 rfl).symm
     rw [if_pos (by rfl)]
     have z6 := Z.out.2.2.2.2.2.1
     go_simp
     exact hK.out _ _ hg ⟨nn,nn,nn,nn,nn,nn,nn,nn,nn,nn,nn,nn,nn, fun _ => rfl, nn,nn⟩ (fun _ _ h => h)
    case s14 =>
     intro a w' hoff hg hdep K hK
     obtain ⟨v13, e13, f13⟩ := hdep 13 _ 60 (by kernel_rfl) rfl rfl
     obtain rfl := (f13.2.2.2.2.2.2.2.2.2.2.2.2.2.1 rfl).symm
     rw [if_pos (by rfl)]
     have z7 := Z.out.2.2.2.2.2.2
     go_simp
     exact hK.out _ _ hg ⟨nn,nn,nn,nn,nn,nn,nn,nn,nn,nn,nn,nn,nn,nn, fun _ => rfl, nn⟩ (fun _ _ h => h)
    case s15 =>
     intro a w' hoff hg hdep K hK
     obtain ⟨v14, e14, f14⟩ := hdep 14 _ 61 (by kernel_rfl) rfl rfl
     obtain rfl := (f14.2.2.2.2.2.2.2.2.2.2.2.2.2.2.1 rfl).symm
     rw [if_pos (by rfl)]
     go_simp
     exact hK.out _ _ hg ⟨nn,nn,nn,nn,nn,nn,nn,nn,nn,nn,nn,nn,nn,nn,nn, fun _ => rfl⟩ (fun _ _ h => h)
    case fin =>
     intro a w9 hoff hg hf
     obtain ⟨v0, e0, f0⟩ := hf 0 _ 47 rfl rfl
     obtain rfl := (f0.1 rfl).symm
     obtain ⟨v1, e1, f1⟩ := hf 1 _ 48 rfl rfl
     obtain rfl := (f1.2.1 rfl).symm
     obtain ⟨v2, e2, f2⟩ := hf 2 _ 49 rfl rfl
     obtain rfl := (f2.2.2.1 rfl).symm
     obtain ⟨v3, e3, f3⟩ := hf 3 _ 50 rfl rfl
     obtain rfl := (f3.2.2.2.1 rfl).symm
     obtain ⟨v4, e4, f4⟩ := hf 4 _ 51 rfl rfl
     obtain rfl := (f4.2.2.2.2.1 rfl).symm
     obtain ⟨v5, e5, f5⟩ := hf 5 _ 52 rfl rfl
     obtain rfl := (f5.2.2.2.2.2.1 rfl).symm
     obtain ⟨v6, e6, f6⟩ := hf 6 _ 53 rfl rfl
     obtain rfl := (f6.2.2.2.2.2.2.1 rfl).symm
     obtain ⟨v7, e7, f7⟩ := hf 7 _ 54 rfl rfl
     obtain rfl := (f7.2.2.2.2.2.2.2.1 rfl).symm
     obtain ⟨v8, e8, f8⟩ := hf 8 _ 55 rfl rfl
     obtain rfl := (f8.2.2.2.2.2.2.2.2.1 rfl).symm
     obtain ⟨v9, e9, f9⟩ := hf 9 _ 56 rfl rfl
     obtain rfl := (f9.2.2.2.2.2.2.2.2.2.1 rfl).symm
     obtain ⟨v10, e10, f10⟩ := hf 10 _ 57 rfl rfl
     obtain rfl := (f10.2.2.2.2.2.2.2.2.2.2.1 rfl).symm
     obtain ⟨v11, e11, f11⟩ := hf 11 _ 58 rfl rfl
     obtain rfl := (f11.2.2.2.2.2.2.2.2.2.2.2.1 rfl).symm
     obtain ⟨v12, e12, f12⟩ := hf 12 _ 59 rfl rfl
     obtain rfl := (f12.2.2.2.2.2.2.2.2.2.2.2.2.1 rfl).symm
     obtain ⟨v13, e13, f13⟩ := hf 13 _ 60 rfl rfl
     obtain rfl := (f13.2.2.2.2.2.2.2.2.2.2.2.2.2.1 rfl).symm
     obtain ⟨v14, e14, f14⟩ := hf 14 _ 61 rfl rfl
     obtain rfl := (f14.2.2.2.2.2.2.2.2.2.2.2.2.2.2.1 rfl).symm
     obtain ⟨v15, e15, f15⟩ := hf 15 _ 2 rfl rfl
     obtain rfl := (f15.2.2.2.2.2.2.2.2.2.2.2.2.2.2.2 rfl).symm
     rw [hoff.sets [(47, .pointer (some ⟨bt, 0, none⟩)), (48, .string x.label), (49, .string (x.label ++ ⟨#[32]⟩)), (50, .pointer (some ⟨bt, 1, none⟩)), (51, .string x.head), (52, .string (x.label ++ ⟨#[32]⟩ ++ x.head)), (53, .string (x.label ++ ⟨#[32]⟩ ++ x.head ++ ⟨#[40, 64]⟩)), (54, .slice (some ⟨vb, 0, none⟩) x.args.length vc), (55, .string J1), (56, .string (x.label ++ ⟨#[32]⟩ ++ x.head ++ ⟨#[40, 64]⟩ ++ J1)), (57, .string (x.label ++ ⟨#[32]⟩ ++ x.head ++ ⟨#[40, 64]⟩ ++ J1 ++ ⟨#[41, 32, 58, 45, 32]⟩)), (58, .slice oa k oc), (59, .string J2), (60, .string (x.label ++ ⟨#[32]⟩ ++ x.head ++ ⟨#[40, 64]⟩ ++ J1 ++ ⟨#[41, 32, 58, 45, 32]⟩ ++ J2)), (61, .string (x.label ++ ⟨#[32]⟩ ++ x.head ++ ⟨#[40, 64]⟩ ++ J1 ++ ⟨#[41, 32, 58, 45, 32]⟩ ++ J2 ++ ⟨#[46]⟩)), (2, .string (x.label ++ ⟨#[32]⟩ ++ x.head ++ ⟨#[40, 64]⟩ ++ J1 ++ ⟨#[41, 32, 58, 45, 32]⟩ ++ J2 ++ ⟨#[46]⟩))] (by kernel_rfl) (by intro p hp; simp only [List.mem_cons, List.not_mem_nil, or_false] at hp; rcases hp with rfl | rfl | rfl | rfl | rfl | rfl | rfl | rfl | rfl | rfl | rfl | rfl | rfl | rfl | rfl | rfl <;> assumption)]
     clear hoff hf e0 f0 e1 f1 e2 f2 e3 f3 e4 f4 e5 f5 e6 f6 e7 f7 e8 f8 e9 f9 e10 f10 e11 f11 e12 f12 e13 f13 e14 f14 e15 f15
     simp only [List.foldl_cons, List.foldl_nil, List.setIfInBounds_toArray, List.set_cons_zero, List.set_cons_succ]
     go_wp2_with fail
     go_ret
     exact ⟨ret_ba HF.out.symm, Below.step B9.out hg⟩
end Go.Proofs.YtgjemmdhamkngaaGreatDoor
namespace Go.Proofs.YtgjemmdhamkngaaGreatDoor
open Go.RowKit
set_option maxRecDepth 100000 in
set_option maxHeartbeats 16000000 in
theorem refRuText_any (x : Ru) (S : Nat → Prop) (w : World) (c0 c1 c2 c3 c4 c5 : Value) (hS : ∀ k, S k → k < w.heap.size) (hx : RepRu S w x c0 c1 c2 c3 c4 c5) :
  Calls Tryz.prog 17 #[.agg #[c0, c1, c2, c3, c4, c5]] w fun e w' => e = .returned (.string ⟨(told (ruB x) (showRu x)).toArray⟩) ∧ Below w.heap.size w w' := by
 cases hb : ruB x with
 | true =>
  cases h0 : x.agg.toList.isEmpty with
  | true => exact refRuText_none x S w c0 c1 c2 c3 c4 c5 hS hx hb (showRu_fits hb) h0
  | false => exact refRuText_some x S w c0 c1 c2 c3 c4 c5 hS hx hb (showRu_fits hb) h0
 | false =>
  have HX := Lib.hid hx
  obtain ⟨fa, fc, ga, gc, rfl, rfl, rfl, rfl, rfl, rfl⟩ := hx.form
  clear hx
  have HB := Lib.hid hb
  clear hb
  go_enter Tryz.func17, Tryz.ntmps17
  go_wp2_with fail
  have x1 := boxRu_new w (.string x.label) (.string x.head) (.slice fa x.args.length fc) (.string x.agg) (.int .i64 x.at') (.slice ga x.body.length gc)
  have b1 := below_alloc w (.cells #[.string x.label, .string x.head, .slice fa x.args.length fc, .string x.agg, .int .i64 x.at', .slice ga x.body.length gc] 37)
  generalize w.alloc (.cells #[.string x.label, .string x.head, .slice fa x.args.length fc, .string x.agg, .int .i64 x.at', .slice ga x.body.length gc] 37) = w1 at *
  have X1 := Lib.hid x1; have B1 := Lib.hid b1
  clear x1 b1
  obtain ⟨p0, p1, p2, p3, p4, p5⟩ := X1.out.cells
  refine (refRule_any x S _ _ _ _ _ _ _ (fun k hk => Nat.lt_of_lt_of_le (hS k hk) B1.out.size) (RepRu.on (fun _ h => h) (fun k hk => B1.out.block k (hS k hk)) HX.out)).mono ?_
  rw [HB.out]
  rintro e w2 ⟨rfl, hb⟩
  have X2 := Lib.hid (X1.out.on hb)
  have B2 := Lib.hid (Below.step B1.out hb)
  clear hb
  clear p0 p1 p2 p3 p4 p5
  obtain ⟨p0, p1, p2, p3, p4, p5⟩ := X2.out.cells
  go_wp2_with fail
  go_ret
  exact ⟨rfl, B2.out⟩
end Go.Proofs.YtgjemmdhamkngaaGreatDoor
namespace Go.Proofs.YtgjemmdhamkngaaGreatDoor
open Go.RowKit
theorem refNumber_any (n : Int) (w : World) : Calls Tryz.prog 41 #[.int .i64 n] w fun e w' => e = .returned (.agg #[.int .i64 1, .int .i64 n, .string ⟨#[]⟩, .slice none 0 0]) ∧ Below w.heap.size w w' := by
 go_enter Tryz.func41, Tryz.ntmps41
 go_wp2
 exact bodyPost_ret (v := .agg #[.int .i64 1, .int .i64 n, .string ⟨#[]⟩, .slice none 0 0]) (by simp [results, Tryz.results41, go_sem]) rfl ⟨rfl, (Below.refl _ _).alloc (Nat.le_refl _) _⟩
end Go.Proofs.YtgjemmdhamkngaaGreatDoor
