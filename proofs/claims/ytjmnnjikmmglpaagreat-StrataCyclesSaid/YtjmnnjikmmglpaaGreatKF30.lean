/-
  EightAwake, EightPure, EightIndex
-/
import Derived.Test.YtjmnnjikmmglpaaGreatKF28
import Derived.Test.YtjmnnjikmmglpaaGreatKF29
import Derived.Test.YtjmnnjikmmglpaaGreatKF20
import Derived.Test.YtjmnnjikmmglpaaGreatKF06
namespace Go.Proofs.YtjmnnjikmmglpaaGreat
open Go.RowKit
def ru8 : Ru := ⟨⟨#[114]⟩, ⟨#[112]⟩, [vTm 0, vTm 2], ⟨#[]⟩, 0, [⟨1, ⟨#[113]⟩, [vTm 0, vTm 2]⟩, ⟨2, ⟨#[116]⟩, [vTm 0, vTm 2]⟩]⟩
def ru8b : Ru := ⟨⟨#[115]⟩, ⟨#[116]⟩, [vTm 0, vTm 2], ⟨#[]⟩, 0, [⟨1, ⟨#[112]⟩, [vTm 0, vTm 2]⟩]⟩
def pr8 : Pr := ⟨decls6, [], [ru8]⟩
def pr8b : Pr := ⟨decls6, [], [ru8, ru8b]⟩
theorem pr8_check : checkZ pr8 = (0, -1) := by kernel_rfl
theorem pr8b_check : checkZ pr8b = (0, -1) := by kernel_rfl
theorem pr8_steps : prSteps pr8 = [⟨1, 2, 0⟩, ⟨1, 5, 1⟩] := by kernel_rfl
theorem pr8b_steps : prSteps pr8b = [⟨1, 2, 0⟩, ⟨1, 5, 1⟩, ⟨5, 1, 0⟩] := by kernel_rfl
theorem pr8_least : LeastN 6 (prSteps pr8) (fun i => if i = 1 then 1 else 0) := by
 rw [pr8_steps]
 constructor
 ·intro s hs
  simp only [List.mem_cons, List.not_mem_nil, or_false] at hs
  rcases hs with rfl | rfl <;> decide
 ·intro g hg i _
  have h := hg ⟨1, 5, 1⟩ (by simp);simp only at h
  by_cases h1 : i = 1
  ·subst h1; simp only [if_true]; omega
  ·simp only [if_neg h1]; omega
theorem pr8_only {f : Nat → Nat} (h : LeastN 6 (prSteps pr8) f) : numL f 6 = [0, 1, 0, 0, 0, 0] := by
 rw [numL_congr (LeastN.same (fun _ => Iff.rfl) h pr8_least)]; decide
theorem pr8b_none : ¬ ∃ g, Sol (prSteps pr8b) g := by
 rw [pr8b_steps];rintro ⟨g, hg⟩;have h1 := hg ⟨1, 5, 1⟩ (by simp);have h2 := hg ⟨5, 1, 0⟩ (by simp);simp only at h1 h2
 omega
theorem pr8_at : atN decls6 ⟨#[112]⟩ = 1 := by kernel_rfl
theorem pr8_rules {f : Nat → Nat} (h : LeastN 6 (prSteps pr8) f) : (rulesAt pr8 f 1).length = 1 := by
 have h1 := LeastN.same (fun _ => Iff.rfl) h pr8_least 1 (by omega);have h2 : (f (atN decls6 ru8.head) : Int) = 1 := by rw [show ru8.head = ⟨#[112]⟩ from rfl, pr8_at, h1]; rfl
 show ([ru8].filter fun r => decide ((f (atN decls6 r.head) : Int) = 1)).length = 1
 rw [List.filter_cons_of_pos (by simpa using h2)]; rfl
set_option maxRecDepth 100000 in
set_option maxHeartbeats 4000000 in
theorem awake8_any (w : World) : Calls Tryz.prog 9 #[] w fun e w' => e = .returned (.bool true) ∧ Below w.heap.size w w' := by
 go_enter Tryz.func9, Tryz.ntmps9
 go_upto_region 2 with fail
 have m1 := alloc_new' w (.cells #[.int .i64 1, .string ⟨#[83]⟩, .int .i64 0, .int .i64 0, .string ⟨#[]⟩, .slice none 0 0, .slice none 0 0] 68);have d1 := below_alloc w (.cells #[.int .i64 1, .string ⟨#[83]⟩, .int .i64 0, .int .i64 0, .string ⟨#[]⟩, .slice none 0 0, .slice none 0 0] 68);have s1 := World.size_alloc w (.cells #[.int .i64 1, .string ⟨#[83]⟩, .int .i64 0, .int .i64 0, .string ⟨#[]⟩, .slice none 0 0, .slice none 0 0] 68);generalize w.alloc (.cells #[.int .i64 1, .string ⟨#[83]⟩, .int .i64 0, .int .i64 0, .string ⟨#[]⟩, .slice none 0 0, .slice none 0 0] 68) = w1 at *;obtain ⟨ks, hks⟩ : ∃ k, w.heap.size = k := ⟨_, rfl⟩;have HKS := Lib.hid hks;rw [hks] at m1 ⊢;have M1 := Lib.hid m1; have B := Lib.hid d1
 clear m1 d1 s1 hks;go_upto_region 3 with fail
 have m2 := alloc_new' w1 (.cells #[.int .i64 1, .string ⟨#[88]⟩, .int .i64 0, .int .i64 0, .string ⟨#[]⟩, .slice none 0 0, .slice none 0 0] 68);have d2 := below_alloc w1 (.cells #[.int .i64 1, .string ⟨#[88]⟩, .int .i64 0, .int .i64 0, .string ⟨#[]⟩, .slice none 0 0, .slice none 0 0] 68);have s2 := World.size_alloc w1 (.cells #[.int .i64 1, .string ⟨#[88]⟩, .int .i64 0, .int .i64 0, .string ⟨#[]⟩, .slice none 0 0, .slice none 0 0] 68);generalize w1.alloc (.cells #[.int .i64 1, .string ⟨#[88]⟩, .int .i64 0, .int .i64 0, .string ⟨#[]⟩, .slice none 0 0, .slice none 0 0] 68) = w2 at *;obtain ⟨kx, hkx⟩ : ∃ k, w1.heap.size = k := ⟨_, rfl⟩;rw [hkx] at m2 ⊢;have M2 := Lib.hid m2;replace M1 := Lib.hid ((d2.block _ (Array.getElem?_eq_some_iff.1 M1.out).1).trans M1.out);replace B := Lib.hid (Below.step B.out d2);clear m2 d2 s2 hkx;have p0 := cell_of_block' (i := 0) M1.out _ rfl;have q0 := cell_of_block' (i := 0) M2.out _ rfl;have p1 := cell_of_block' (i := 1) M1.out _ rfl;have q1 := cell_of_block' (i := 1) M2.out _ rfl;have p2 := cell_of_block' (i := 2) M1.out _ rfl;have q2 := cell_of_block' (i := 2) M2.out _ rfl;have p3 := cell_of_block' (i := 3) M1.out _ rfl;have q3 := cell_of_block' (i := 3) M2.out _ rfl;have p4 := cell_of_block' (i := 4) M1.out _ rfl;have q4 := cell_of_block' (i := 4) M2.out _ rfl;have p5 := cell_of_block' (i := 5) M1.out _ rfl;have q5 := cell_of_block' (i := 5) M2.out _ rfl;have p6 := cell_of_block' (i := 6) M1.out _ rfl;have q6 := cell_of_block' (i := 6) M2.out _ rfl;go_upto_region 4 with fail
 have m3 := alloc_new' w2 (.cells #[.int .i64 1, .string ⟨#[83]⟩, .int .i64 0, .int .i64 0, .string ⟨#[]⟩, .slice none 0 0, .slice none 0 0, .int .i64 1, .string ⟨#[88]⟩, .int .i64 0, .int .i64 0, .string ⟨#[]⟩, .slice none 0 0, .slice none 0 0] 68);have d3 := below_alloc w2 (.cells #[.int .i64 1, .string ⟨#[83]⟩, .int .i64 0, .int .i64 0, .string ⟨#[]⟩, .slice none 0 0, .slice none 0 0, .int .i64 1, .string ⟨#[88]⟩, .int .i64 0, .int .i64 0, .string ⟨#[]⟩, .slice none 0 0, .slice none 0 0] 68);have s3 := World.size_alloc w2 (.cells #[.int .i64 1, .string ⟨#[83]⟩, .int .i64 0, .int .i64 0, .string ⟨#[]⟩, .slice none 0 0, .slice none 0 0, .int .i64 1, .string ⟨#[88]⟩, .int .i64 0, .int .i64 0, .string ⟨#[]⟩, .slice none 0 0, .slice none 0 0] 68)
 have RL : Hid (RepMs (fun b => w.heap.size ≤ b ∧ b < (w2.alloc (.cells #[.int .i64 1, .string ⟨#[83]⟩, .int .i64 0, .int .i64 0, .string ⟨#[]⟩, .slice none 0 0, .slice none 0 0, .int .i64 1, .string ⟨#[88]⟩, .int .i64 0, .int .i64 0, .string ⟨#[]⟩, .slice none 0 0, .slice none 0 0] 68)).heap.size) (w2.alloc (.cells #[.int .i64 1, .string ⟨#[83]⟩, .int .i64 0, .int .i64 0, .string ⟨#[]⟩, .slice none 0 0, .slice none 0 0, .int .i64 1, .string ⟨#[88]⟩, .int .i64 0, .int .i64 0, .string ⟨#[]⟩, .slice none 0 0, .slice none 0 0] 68)) [vTm 0, vTm 2] (.slice (some ⟨w2.heap.size, 0, none⟩) 2 2)) := by
  show RepMs _ _ _ _
  exact
  slg_row m3 ⟨B.out.size, by omega⟩ rfl (by simp) (fun i h => match i, h with
   | 0, _ => vTm_rep _ _ 0
   | 1, _ => vTm_rep _ _ 2)
 clear M1 M2 p0 q0 p1 q1 p2 q2 p3 q3 p4 q4 p5 q5 p6 q6;generalize w2.alloc (.cells #[.int .i64 1, .string ⟨#[83]⟩, .int .i64 0, .int .i64 0, .string ⟨#[]⟩, .slice none 0 0, .slice none 0 0, .int .i64 1, .string ⟨#[88]⟩, .int .i64 0, .int .i64 0, .string ⟨#[]⟩, .slice none 0 0, .slice none 0 0] 68) = w3 at *;obtain ⟨kl, hkl⟩ : ∃ k, w2.heap.size = k := ⟨_, rfl⟩;rw [hkl] at RL ⊢;replace B := Lib.hid (Below.step B.out d3);clear m3 d3 s3 hkl;go_wp2_with fail
 refine (relations_any w3).mono ?_;rintro e w4 ⟨rfl, hdec, hb⟩;obtain ⟨kd, hkd⟩ : ∃ k, w3.heap.size = k := ⟨_, rfl⟩;have DE : Hid (RepDes (fun b => w.heap.size ≤ b ∧ b < w4.heap.size) w4 decls6 (.slice (some ⟨kd, 0, none⟩) 6 6)) := by rw [← hkd]; exact RepDes.on (fun b hb => ⟨Nat.le_trans B.out.size hb.1, hb.2⟩) (fun _ _ => rfl) hdec
 replace RL : Hid (RepMs (fun b => w.heap.size ≤ b ∧ b < w4.heap.size) w4 [vTm 0, vTm 2] (.slice (some ⟨kl, 0, none⟩) 2 2)) := RepMs.on (fun b hb' => ⟨hb'.1, Nat.lt_of_lt_of_le hb'.2 hb.size⟩) (fun b hb' => hb.block b hb'.2) RL.out;rw [hkd];replace B := Lib.hid (Below.step B.out hb);have HB4 : Hid (w.heap.size ≤ w4.heap.size) := B.out.size;clear hdec hb hkd;go_upto_region 5 with fail
 have m5 := alloc_new' w4 (.cells #[.int .i64 1, .string ⟨#[113]⟩, .slice (some ⟨kl, 0, none⟩) 2 2, .int .i64 2, .string ⟨#[116]⟩, .slice (some ⟨kl, 0, none⟩) 2 2] 60);have d5 := below_alloc w4 (.cells #[.int .i64 1, .string ⟨#[113]⟩, .slice (some ⟨kl, 0, none⟩) 2 2, .int .i64 2, .string ⟨#[116]⟩, .slice (some ⟨kl, 0, none⟩) 2 2] 60);have s5 := World.size_alloc w4 (.cells #[.int .i64 1, .string ⟨#[113]⟩, .slice (some ⟨kl, 0, none⟩) 2 2, .int .i64 2, .string ⟨#[116]⟩, .slice (some ⟨kl, 0, none⟩) 2 2] 60);generalize w4.alloc (.cells #[.int .i64 1, .string ⟨#[113]⟩, .slice (some ⟨kl, 0, none⟩) 2 2, .int .i64 2, .string ⟨#[116]⟩, .slice (some ⟨kl, 0, none⟩) 2 2] 60) = w5 at *;replace RL : Hid (RepMs (fun b => w.heap.size ≤ b ∧ b < w5.heap.size) w5 [vTm 0, vTm 2] (.slice (some ⟨kl, 0, none⟩) 2 2)) := RepMs.on (fun b hb => ⟨hb.1, Nat.lt_of_lt_of_le hb.2 d5.size⟩) (fun b hb => d5.block b hb.2) RL.out;replace DE : Hid (RepDes (fun b => w.heap.size ≤ b ∧ b < w5.heap.size) w5 decls6 (.slice (some ⟨kd, 0, none⟩) 6 6)) := RepDes.on (fun b hb => ⟨hb.1, Nat.lt_of_lt_of_le hb.2 d5.size⟩) (fun b hb => d5.block b hb.2) DE.out;replace B := Lib.hid (Below.step B.out d5);obtain ⟨kb, hkb⟩ : ∃ k, w4.heap.size = k := ⟨_, rfl⟩;rw [hkb] at m5 s5 ⊢
 have LI : Hid (RepLis (fun b => w.heap.size ≤ b ∧ b < w5.heap.size) w5 ru8.body (.slice (some ⟨kb, 0, none⟩) 2 2)) := by
  have hB := B.out.size
  show RepLis _ _ _ _
  exact slg_row m5 ⟨by rw [← hkb]; have := HB4.out; omega, by omega⟩ rfl (by simp [ru8]) (fun i h => match i, h with
   | 0, _ => ⟨rfl, rfl, small64 (by show (0 : Int) ≤ 1 ∧ (1 : Int) ≤ 100; decide), (show (⟨#[113]⟩ : ByteArray).size ≤ maxLen by decide), RL.out⟩
   | 1, _ => ⟨rfl, rfl, small64 (by show (0 : Int) ≤ 2 ∧ (2 : Int) ≤ 100; decide), (show (⟨#[116]⟩ : ByteArray).size ≤ maxLen by decide), RL.out⟩)
 clear m5 d5;have m6 := alloc_new' w5 (.cells #[.string ⟨#[114]⟩, .string ⟨#[112]⟩, .slice (some ⟨kl, 0, none⟩) 2 2, .string ⟨#[]⟩, .int .i64 0, .slice (some ⟨kb, 0, none⟩) 2 2] 47);have d6 := below_alloc w5 (.cells #[.string ⟨#[114]⟩, .string ⟨#[112]⟩, .slice (some ⟨kl, 0, none⟩) 2 2, .string ⟨#[]⟩, .int .i64 0, .slice (some ⟨kb, 0, none⟩) 2 2] 47);have s6 := World.size_alloc w5 (.cells #[.string ⟨#[114]⟩, .string ⟨#[112]⟩, .slice (some ⟨kl, 0, none⟩) 2 2, .string ⟨#[]⟩, .int .i64 0, .slice (some ⟨kb, 0, none⟩) 2 2] 47);generalize w5.alloc (.cells #[.string ⟨#[114]⟩, .string ⟨#[112]⟩, .slice (some ⟨kl, 0, none⟩) 2 2, .string ⟨#[]⟩, .int .i64 0, .slice (some ⟨kb, 0, none⟩) 2 2] 47) = w6 at *;replace RL : Hid (RepMs (fun b => w.heap.size ≤ b ∧ b < w6.heap.size) w6 [vTm 0, vTm 2] (.slice (some ⟨kl, 0, none⟩) 2 2)) := RepMs.on (fun b hb => ⟨hb.1, Nat.lt_of_lt_of_le hb.2 d6.size⟩) (fun b hb => d6.block b hb.2) RL.out;replace DE : Hid (RepDes (fun b => w.heap.size ≤ b ∧ b < w6.heap.size) w6 decls6 (.slice (some ⟨kd, 0, none⟩) 6 6)) := RepDes.on (fun b hb => ⟨hb.1, Nat.lt_of_lt_of_le hb.2 d6.size⟩) (fun b hb => d6.block b hb.2) DE.out;replace B := Lib.hid (Below.step B.out d6);rw [s5] at m6 s6;obtain ⟨kr, hkr⟩ : ∃ k, kb + 1 = k := ⟨_, rfl⟩;rw [hkr] at m6 s6 ⊢
 have RU : Hid (RepRus (fun b => w.heap.size ≤ b ∧ b < w6.heap.size) w6 [ru8] (.slice (some ⟨kr, 0, none⟩) 1 1)) := by
  show RepRus _ _ _ _
  exact slg_row m6 ⟨by have := HB4.out; omega, by omega⟩ rfl (by simp) (fun i h => match i, h with
   | 0, _ => ⟨rfl, rfl, rfl, rfl, (show (⟨#[114]⟩ : ByteArray).size ≤ maxLen by decide), (show (⟨#[112]⟩ : ByteArray).size ≤ maxLen by decide), (show (⟨#[]⟩ : ByteArray).size ≤ maxLen by decide), small64 (by show (0 : Int) ≤ 0 ∧ (0 : Int) ≤ 100; decide), RL.out, RepLis.on (fun b hb => ⟨hb.1, Nat.lt_of_lt_of_le hb.2 d6.size⟩) (fun b hb => d6.block b hb.2) LI.out⟩)
 clear m6 d6 LI;have m7 := alloc_new' w6 (.cells #[.slice (some ⟨kd, 0, none⟩) 6 6, .slice none 0 0, .slice (some ⟨kr, 0, none⟩) 1 1] 28);have d7 := below_alloc w6 (.cells #[.slice (some ⟨kd, 0, none⟩) 6 6, .slice none 0 0, .slice (some ⟨kr, 0, none⟩) 1 1] 28);have s7 := World.size_alloc w6 (.cells #[.slice (some ⟨kd, 0, none⟩) 6 6, .slice none 0 0, .slice (some ⟨kr, 0, none⟩) 1 1] 28);generalize w6.alloc (.cells #[.slice (some ⟨kd, 0, none⟩) 6 6, .slice none 0 0, .slice (some ⟨kr, 0, none⟩) 1 1] 28) = w7 at *;replace RL : Hid (RepMs (fun b => w.heap.size ≤ b ∧ b < w7.heap.size) w7 [vTm 0, vTm 2] (.slice (some ⟨kl, 0, none⟩) 2 2)) := RepMs.on (fun b hb => ⟨hb.1, Nat.lt_of_lt_of_le hb.2 d7.size⟩) (fun b hb => d7.block b hb.2) RL.out;replace DE : Hid (RepDes (fun b => w.heap.size ≤ b ∧ b < w7.heap.size) w7 decls6 (.slice (some ⟨kd, 0, none⟩) 6 6)) := RepDes.on (fun b hb => ⟨hb.1, Nat.lt_of_lt_of_le hb.2 d7.size⟩) (fun b hb => d7.block b hb.2) DE.out;replace B := Lib.hid (Below.step B.out d7);rw [s6] at m7 s7;obtain ⟨kp, hkp⟩ : ∃ k, kr + 1 = k := ⟨_, rfl⟩;rw [hkp] at m7 s7 ⊢;have PP : Hid (RepPr (fun b => w.heap.size ≤ b ∧ b < w7.heap.size) w7 pr8 (.slice (some ⟨kd, 0, none⟩) 6 6) (.slice none 0 0) (.slice (some ⟨kr, 0, none⟩) 1 1)) := ⟨DE.out, slg_nil, RepRus.on (fun b hb => ⟨hb.1, Nat.lt_of_lt_of_le hb.2 d7.size⟩) (fun b hb => d7.block b hb.2) RU.out⟩;have XP : Hid (BoxPr w7 kp (.slice (some ⟨kd, 0, none⟩) 6 6) (.slice none 0 0) (.slice (some ⟨kr, 0, none⟩) 1 1)) := m7;clear m7 d7 s5 s6 s7 hkb hkr hkp RU DE HB4;obtain ⟨p0, p1, p2⟩ := XP.out.cells;go_wp2_with fail
 refine (strata_any pr8 _ w7 _ _ _ (fun b hb => hb.2) PP.out).mono ?_;rintro e w8 ⟨hb, hcase⟩;rcases hcase with ⟨hc, -⟩ | ⟨-, hno, -⟩ | ⟨-, v, rfl, nb, f, rfl, hnb, hnum, hleast⟩
 ·exact absurd (by rw [pr8_check]) hc
 ·exact absurd ⟨_, pr8_least.1⟩ hno
 have HNM := Lib.hid hnum; have HLE := Lib.hid (show LeastN 6 (prSteps pr8) f from hleast)
 have HNB : Hid (w.heap.size ≤ nb) := Nat.le_trans B.out.size hnb;replace XP := Lib.hid (XP.out.on hb);replace PP : Hid (RepPr (fun b => w.heap.size ≤ b ∧ b < w8.heap.size) w8 pr8 (.slice (some ⟨kd, 0, none⟩) 6 6) (.slice none 0 0) (.slice (some ⟨kr, 0, none⟩) 1 1)) := RepPr.on (fun b hb' => ⟨hb'.1, Nat.lt_of_lt_of_le hb'.2 hb.size⟩) (fun b hb' => hb.block b hb'.2) PP.out;replace RL : Hid (RepMs (fun b => w.heap.size ≤ b ∧ b < w8.heap.size) w8 [vTm 0, vTm 2] (.slice (some ⟨kl, 0, none⟩) 2 2)) := RepMs.on (fun b hb' => ⟨hb'.1, Nat.lt_of_lt_of_le hb'.2 hb.size⟩) (fun b hb' => hb.block b hb'.2) RL.out;replace B := Lib.hid (Below.step B.out hb);clear hnum hleast hnb hb p0 p1 p2;obtain ⟨p0, p1, p2⟩ := XP.out.cells;go_upto_region 7 with fail
 have m9 := alloc_new' w8 (.cells #[.slice (some ⟨kd, 0, none⟩) 6 6, .slice none 0 0, .slice (some ⟨kr, 0, none⟩) 1 1] 28);have d9 := below_alloc w8 (.cells #[.slice (some ⟨kd, 0, none⟩) 6 6, .slice none 0 0, .slice (some ⟨kr, 0, none⟩) 1 1] 28);have s9 := World.size_alloc w8 (.cells #[.slice (some ⟨kd, 0, none⟩) 6 6, .slice none 0 0, .slice (some ⟨kr, 0, none⟩) 1 1] 28);generalize w8.alloc (.cells #[.slice (some ⟨kd, 0, none⟩) 6 6, .slice none 0 0, .slice (some ⟨kr, 0, none⟩) 1 1] 28) = w9 at *;obtain ⟨kq, hkq⟩ : ∃ k, w8.heap.size = k := ⟨_, rfl⟩;have HNQ : Hid (nb < kq) := by show _ < _; rw [← hkq]; exact HNM.out.lt
 rw [hkq] at m9 s9 ⊢;have XQ : Hid (BoxPr w9 kq (.slice (some ⟨kd, 0, none⟩) 6 6) (.slice none 0 0) (.slice (some ⟨kr, 0, none⟩) 1 1)) := m9;have HKP : Hid (kp < kq) := by show _ < _; rw [← hkq]; exact XP.out.lt
 replace XP := Lib.hid (XP.out.on d9);have PQ : Hid (RepPr (fun b => w.heap.size ≤ b ∧ b < kq) w9 pr8 (.slice (some ⟨kd, 0, none⟩) 6 6) (.slice none 0 0) (.slice (some ⟨kr, 0, none⟩) 1 1)) := RepPr.on (fun b hb' => ⟨hb'.1, by rw [← hkq]; exact hb'.2⟩) (fun b hb' => d9.block b hb'.2) PP.out;replace RL : Hid (RepMs (fun b => w.heap.size ≤ b ∧ b < kq) w9 [vTm 0, vTm 2] (.slice (some ⟨kl, 0, none⟩) 2 2)) := RepMs.on (fun b hb' => ⟨hb'.1, by rw [← hkq]; exact hb'.2⟩) (fun b hb' => d9.block b hb'.2) RL.out;replace HNM := Lib.hid (HNM.out.on d9);have HBQ : Hid (w.heap.size ≤ kq) := by show _ ≤ _; rw [← hkq]; exact B.out.size
 replace B := Lib.hid (Below.step B.out d9);have K9 : Hid (w9.heap.size = kq + 1) := s9;clear m9 d9 s9 hkq PP p0 p1 p2;have k0 := K9.out;obtain ⟨v1, w10, hrun1, hown1, hgr1⟩ := own_many (K := kdRu) (S := fun b => b < kq) (L := []) (m := [ru8]) (lv := .slice none 0 0) (OwnK.nil _ w9 w9.heap.size) (SlG.on (fun _ h => h.2) (fun _ _ => rfl) (fun _ _ _ h => RepRu.on (fun _ h => h.2) (fun _ _ => rfl) h) PQ.out.2.2) (fun b hb => ⟨by omega, by simp [Value.ownBlock]⟩) (Nat.le_refl _) (by simp) 26;have HRUN1 : Hid ((Builtin.append_ #[26, 26] 26 #[.slice none 0 0, .slice (some ⟨kr, 0, none⟩) 1 1]).run Tryz.prog w9 = .ok v1 w10) := hrun1;have hb10 : Below w9.heap.size w9 w10 := ⟨hgr1.os, hgr1.tape, hgr1.output, hgr1.size, fun b hb => hgr1.block b hb (by simp [Value.ownBlock])⟩;have hl1 := fun b (h : v1.ownBlock = some b) => OwnK.lies hown1 b h
 have da := below_alloc w10 (.cells #[.int .i64 1, .string ⟨#[112]⟩, .slice (some ⟨kl, 0, none⟩) 2 2] 60);have sa := World.size_alloc w10 (.cells #[.int .i64 1, .string ⟨#[112]⟩, .slice (some ⟨kl, 0, none⟩) 2 2] 60);have ma := alloc_new' w10 (.cells #[.int .i64 1, .string ⟨#[112]⟩, .slice (some ⟨kl, 0, none⟩) 2 2] 60);generalize hwa : w10.alloc (.cells #[.int .i64 1, .string ⟨#[112]⟩, .slice (some ⟨kl, 0, none⟩) 2 2] 60) = wa at *;have db := below_alloc wa (.cells #[.string ⟨#[115]⟩, .string ⟨#[116]⟩, .slice (some ⟨kl, 0, none⟩) 2 2, .string ⟨#[]⟩, .int .i64 0, .slice (some ⟨w10.heap.size, 0, none⟩) 1 1] 47);have sb := World.size_alloc wa (.cells #[.string ⟨#[115]⟩, .string ⟨#[116]⟩, .slice (some ⟨kl, 0, none⟩) 2 2, .string ⟨#[]⟩, .int .i64 0, .slice (some ⟨w10.heap.size, 0, none⟩) 1 1] 47);have mb := alloc_new' wa (.cells #[.string ⟨#[115]⟩, .string ⟨#[116]⟩, .slice (some ⟨kl, 0, none⟩) 2 2, .string ⟨#[]⟩, .int .i64 0, .slice (some ⟨w10.heap.size, 0, none⟩) 1 1] 47);generalize hwb : wa.alloc (.cells #[.string ⟨#[115]⟩, .string ⟨#[116]⟩, .slice (some ⟨kl, 0, none⟩) 2 2, .string ⟨#[]⟩, .int .i64 0, .slice (some ⟨w10.heap.size, 0, none⟩) 1 1] 47) = wb at *;have hbb : Below w9.heap.size w9 wb := Below.step (Below.step hb10 da) db;have hs10 := hb10.size;have hrl : RepMs (fun b => b ≠ kq ∧ b < wb.heap.size ∧ v1.ownBlock ≠ some b) wb [vTm 0, vTm 2] (.slice (some ⟨kl, 0, none⟩) 2 2) := RepMs.on (fun b hb => ⟨by have := hb.2; omega, by have := hb.2; omega, fun e => by have := (hl1 b e).1; have := hb.2; omega⟩) (fun b hb => hbb.block b (by have := hb.2; omega)) RL.out
 have hli : RepLis (fun b => b ≠ kq ∧ b < wb.heap.size ∧ v1.ownBlock ≠ some b) wb ru8b.body (.slice (some ⟨w10.heap.size, 0, none⟩) 1 1) :=
  slg_row ((db.block _ (by omega)).trans ma) ⟨by omega, by omega, fun e => by have := (hl1 _ e).2; omega⟩ rfl (by simp [ru8b]) (fun i h => match i, h with
   | 0, _ => ⟨rfl, rfl, small64 (by show (0 : Int) ≤ 1 ∧ (1 : Int) ≤ 100; decide), (show (⟨#[112]⟩ : ByteArray).size ≤ maxLen by decide), hrl⟩)
 have hru : RepRus (fun b => b ≠ kq ∧ b < wb.heap.size ∧ v1.ownBlock ≠ some b) wb [ru8b] (.slice (some ⟨wa.heap.size, 0, none⟩) 1 1) :=
  slg_row mb ⟨by omega, by omega, fun e => by have := (hl1 _ e).2; omega⟩ rfl (by simp) (fun i h => match i, h with
   | 0, _ => ⟨rfl, rfl, rfl, rfl, (show (⟨#[115]⟩ : ByteArray).size ≤ maxLen by decide), (show (⟨#[116]⟩ : ByteArray).size ≤ maxLen by decide), (show (⟨#[]⟩ : ByteArray).size ≤ maxLen by decide), small64 (by show (0 : Int) ≤ 0 ∧ (0 : Int) ≤ 100; decide), hrl, hli⟩)
 have hown2 : OwnK kdRu (fun b => b ≠ kq ∧ b < wb.heap.size ∧ v1.ownBlock ≠ some b) wb w9.heap.size [ru8] v1 :=
  OwnK.on hown1 (fun b hb => ⟨by omega, by omega, fun e => by have := (hl1 b e).1; omega⟩) (fun b hb => (db.block b (by omega)).trans (da.block b (by omega))) (fun b h1 h2 _ => (db.block b (by omega)).trans (da.block b h2))
 obtain ⟨v2, w12, hrun2, hown3, hgr2⟩ := own_many (K := kdRu) (L := [ru8]) (m := [ru8b]) hown2 hru (fun b hb => ⟨hb.2.1, hb.2.2⟩) hbb.size (by simp) 26;obtain ⟨va, vc, rfl⟩ := OwnK.form hown3;rw [sa] at hrun2;have HRUN2 : Hid ((Builtin.append_ #[26, 26] 26 #[v1, .slice (some ⟨w10.heap.size + 1, 0, none⟩) 1 1]).run Tryz.prog wb = .ok (.slice va 2 vc) w12) := hrun2;have XQ12 : Hid (BoxPr w12 kq (.slice (some ⟨kd, 0, none⟩) 6 6) (.slice none 0 0) (.slice (some ⟨kr, 0, none⟩) 1 1)) := (hgr2.block kq (by omega) (fun e => by have := (hl1 kq e.symm).1; omega)).trans ((hbb.block kq (by omega)).trans XQ.out)
 have XP12 : Hid (BoxPr w12 kp (.slice (some ⟨kd, 0, none⟩) 6 6) (.slice none 0 0) (.slice (some ⟨kr, 0, none⟩) 1 1)) := by
  have hl := XP.out.lt;exact (hgr2.block kp (by have := hbb.size; omega) (fun e => by have := (hl1 kp e.symm).1; omega)).trans ((hbb.block kp hl).trans XP.out)
 have hkeep : ∀ b, b < w9.heap.size → w12.heap[b]? = w9.heap[b]? := fun b hb => (hgr2.block b (by have := hbb.size; omega) (fun e => by have := (hl1 b e.symm).1; omega)).trans (hbb.block b hb)
 have B12 : Hid (Below w.heap.size w w12) := by
  have h := B.out;have h2 := hbb;exact ⟨hgr2.os.trans (h2.os.trans h.os), hgr2.tape.trans (h2.tape.trans h.tape), hgr2.output.trans (h2.output.trans h.output), Nat.le_trans h.size (Nat.le_trans h2.size hgr2.size), fun b hb => (hkeep b (Nat.lt_of_lt_of_le hb h.size)).trans (h.block b hb)⟩
 have HKEEP := Lib.hid hkeep;have HOWN : Hid (OwnK kdRu (fun b => b ≠ kq ∧ b < wb.heap.size ∧ v1.ownBlock ≠ some b) w12 w9.heap.size [ru8, ru8b] (.slice va 2 vc)) := hown3;have HS12 : Hid (wb.heap.size ≤ w12.heap.size) := hgr2.size;have HSA : Hid (wa.heap.size = w10.heap.size + 1) := sa;obtain ⟨p0, p1, p2⟩ := XP.out.cells;obtain ⟨q0, q1, q2⟩ := XQ12.out.cells;have zq := frozen_of_row w12 kq 2 _ _ XQ12.out;obtain ⟨wbs, hwbs⟩ : ∃ n, wb.heap.size = n := ⟨_, rfl⟩;have HWBS : Hid (wbs = wb.heap.size) := hwbs.symm;have HB912 : Hid (w9.heap.size ≤ wb.heap.size) := hbb.size;have KPQ : Hid (kp ≠ kq) := by have := HKP.out; show _ ≠ _; omega
 subst hwb hwa;clear hwbs hrun1 hown1 hgr1 hb10 hl1 da sa ma db sb mb hbb hs10 hrl hli hru hown2 hrun2 hown3 hgr2 hkeep k0
 go_wp2_with (first
  | (at_builtin; refine wpList_append_by rfl _ _ _ rfl rfl rfl HRUN1.out ?_; clear HRUN1)
  | (at_builtin; refine wpList_append_by rfl _ _ _ rfl rfl rfl HRUN2.out ?_; clear HRUN2)
  | fail)
 have hk9 := K9.out; have hs12 := HS12.out; have hsa := HSA.out; have hwb2 := HWBS.out
 have hsz13 : (w12.setCell ⟨kq, 2, none⟩ (.slice va 2 vc)).heap.size = w12.heap.size := by simp [World.setCell]
 have hbs : w9.heap.size ≤ w12.heap.size := by have := (OwnK.lies HOWN.out); have h1 := HS12.out; have h2 := HB912.out; omega
 have hk13 : ∀ b, b < kq → (w12.setCell ⟨kq, 2, none⟩ (.slice va 2 vc)).heap[b]? = w9.heap[b]? := fun b hb => (Below.heap_setCell _ _ _ _ (by simp; omega)).trans (HKEEP.out b (by omega))
 have GQ : Hid (RepPr (fun b => b ≠ kq ∧ b < (w12.setCell ⟨kq, 2, none⟩ (.slice va 2 vc)).heap.size) (w12.setCell ⟨kq, 2, none⟩ (.slice va 2 vc)) pr8b (.slice (some ⟨kd, 0, none⟩) 6 6) (.slice none 0 0) (.slice va 2 vc)) := by
  refine ⟨RepDes.on (fun b hb => ⟨by omega, by omega⟩) (fun b hb => hk13 b hb.2) PQ.out.1, slg_nil, ?_⟩;exact OwnK.slg' (S := fun b => b ≠ kq ∧ b < wbs) (OwnK.on HOWN.out (fun b hb => ⟨hb.1, by rw [HWBS.out]; exact hb.2.1⟩) (fun b hb => Below.heap_setCell _ _ _ _ (by simpa using hb.1)) (fun b h1 _ _ => Below.heap_setCell _ _ _ _ (by simp; omega))) (fun b hb => ⟨hb.1, by omega⟩) (fun b h1 h2 => ⟨by omega, h2⟩) (by simp)
 have B13 : Hid (Below w.heap.size w (w12.setCell ⟨kq, 2, none⟩ (.slice va 2 vc))) := Below.setCell (p := ⟨kq, 2, none⟩) B12.out HBQ.out _;have XP13 : Hid (BoxPr (w12.setCell ⟨kq, 2, none⟩ (.slice va 2 vc)) kp (.slice (some ⟨kd, 0, none⟩) 6 6) (.slice none 0 0) (.slice (some ⟨kr, 0, none⟩) 1 1)) := (Below.heap_setCell _ _ _ _ (by have := KPQ.out; simp; omega)).trans XP12.out
 have HN13 : Hid (NumAt (w12.setCell ⟨kq, 2, none⟩ (.slice va 2 vc)) nb 6 f) := by
  obtain ⟨arr, h1, h2, h3⟩ := HNM.out;exact ⟨arr, (hk13 nb HNQ.out).trans h1, h2, h3⟩
 have P13 : Hid (RepPr (fun b => w.heap.size ≤ b ∧ b < kq) (w12.setCell ⟨kq, 2, none⟩ (.slice va 2 vc)) pr8 (.slice (some ⟨kd, 0, none⟩) 6 6) (.slice none 0 0) (.slice (some ⟨kr, 0, none⟩) 1 1)) := RepPr.on (fun _ h => h) (fun b hb => hk13 b hb.2) PQ.out;have HK13 : Hid (kq < (w12.setCell ⟨kq, 2, none⟩ (.slice va 2 vc)).heap.size) := by show _ < _; omega
 clear hk13 hsz13 hbs hk9 hs12 hsa hwb2 p0 p1 p2 q0 q1 q2 zq HOWN HKEEP XP12 XQ12 B12 HNM PQ RL XP XQ B K9 HS12 HSA HWBS HB912;generalize (w12.setCell ⟨kq, 2, none⟩ (.slice va 2 vc)) = w13 at *;refine (strata_any pr8b _ w13 _ _ _ (fun b hb => hb.2) GQ.out).mono ?_;rintro e w14 ⟨hb, hcase⟩;rcases hcase with ⟨hc, -⟩ | ⟨-, -, rfl⟩ | ⟨-, v, -, nb', f', -, -, -, hl⟩
 ·exact absurd (by rw [pr8b_check]) hc
 rotate_left
 ·exact absurd ⟨_, hl.1⟩ pr8b_none
 replace HN13 := Lib.hid (HN13.out.on hb); replace XP13 := Lib.hid (XP13.out.on hb)
 replace P13 : Hid (RepPr (fun b => w.heap.size ≤ b ∧ b < kq) w14 pr8 (.slice (some ⟨kd, 0, none⟩) 6 6) (.slice none 0 0) (.slice (some ⟨kr, 0, none⟩) 1 1)) := RepPr.on (fun _ h => h) (fun b hb' => hb.block b (Nat.lt_trans hb'.2 HK13.out)) P13.out;replace B13 := Lib.hid (Below.step B13.out hb);replace HK13 : Hid (kq < w14.heap.size) := Nat.lt_of_lt_of_le HK13.out hb.size;clear hb GQ;go_wp2_with fail
 have m15 := alloc_new' w14 (.cells #[.int .i64 0, .int .i64 1, .int .i64 0, .int .i64 0, .int .i64 0, .int .i64 0] 3);have d15 := below_alloc w14 (.cells #[.int .i64 0, .int .i64 1, .int .i64 0, .int .i64 0, .int .i64 0, .int .i64 0] 3);have s15 := World.size_alloc w14 (.cells #[.int .i64 0, .int .i64 1, .int .i64 0, .int .i64 0, .int .i64 0, .int .i64 0] 3)
 have hlit : RepIs (fun b => b ≤ w14.heap.size) (w14.alloc (.cells #[.int .i64 0, .int .i64 1, .int .i64 0, .int .i64 0, .int .i64 0, .int .i64 0] 3)) [0, 1, 0, 0, 0, 0] (.slice (some ⟨w14.heap.size, 0, none⟩) 6 6) :=
  slg_row m15 (Nat.le_refl _) rfl (by simp) (fun i h => match i, h with
   | 0, _ => rfl | 1, _ => rfl | 2, _ => rfl | 3, _ => rfl | 4, _ => rfl | 5, _ => rfl)
 have hnum : RepIs (fun b => b ≤ w14.heap.size) (w14.alloc (.cells #[.int .i64 0, .int .i64 1, .int .i64 0, .int .i64 0, .int .i64 0, .int .i64 0] 3)) (numL f 6) (.slice (some ⟨nb, 0, none⟩) 6 6) := SlG.on (fun b hb => by have := HN13.out.lt; omega) (fun _ _ => rfl) (fun _ _ _ h => h) ((HN13.out.on d15).rep (by omega));refine (ints_any (numL f 6) [0, 1, 0, 0, 0, 0] (fun b => b ≤ w14.heap.size) _ _ _ (fun b hb => by omega) hnum hlit).mono ?_;rintro e w16 ⟨rfl, hb⟩;rw [pr8_only HLE.out];have hb2 := Below.step d15 hb;replace XP13 := Lib.hid (XP13.out.on hb2);replace P13 : Hid (RepPr (fun b => w.heap.size ≤ b ∧ b < kq) w16 pr8 (.slice (some ⟨kd, 0, none⟩) 6 6) (.slice none 0 0) (.slice (some ⟨kr, 0, none⟩) 1 1)) := RepPr.on (fun _ h => h) (fun b hb' => hb2.block b (Nat.lt_trans hb'.2 HK13.out)) P13.out;replace B13 := Lib.hid (Below.step B13.out hb2);replace HK13 : Hid (kq < w16.heap.size) := Nat.lt_of_lt_of_le HK13.out hb2.size;clear hlit hnum m15 d15 s15 hb hb2 HN13;obtain ⟨p0, p1, p2⟩ := XP13.out.cells;go_wp2_with fail
 refine (strataRules_any pr8 1 _ w16 _ _ _ (fun b (hb : w.heap.size ≤ b ∧ b < kq) => Nat.lt_trans hb.2 HK13.out) P13.out).mono ?_;rintro e w17 ⟨hb, ⟨hno, -⟩ | ⟨-, f2, v, hl, rfl, hrep⟩⟩
 ·rcases hno with h | h
  ·exact absurd (by rw [pr8_check]) h
  ·exact absurd ⟨_, pr8_least.1⟩ h
 obtain ⟨xa, xc, rfl⟩ := SlG.form hrep;rw [pr8_rules hl];have B17 := Lib.hid (Below.step B13.out hb);clear hrep hb p0 p1 p2;go_wp2_with fail
 go_ret
 exact ⟨rfl, B17.out⟩
end Go.Proofs.YtjmnnjikmmglpaaGreat
namespace Go.Proofs.YtjmnnjikmmglpaaGreat
open Go.RowKit
def StrataR (p : Pr) (L : List Int) (c : Int) : Prop :=
 ((checkZ p).1 ≠ 0 ∧ L = [] ∧ c = (checkZ p).1) ∨ ((checkZ p).1 = 0 ∧ (¬ ∃ g, Sol (prSteps p) g) ∧ L = [] ∧ c = 80) ∨
  ((checkZ p).1 = 0 ∧ ∃ f, LeastN p.decls.length (prSteps p) f ∧ L = numL f p.decls.length ∧ c = 0)
theorem decls_few {p : Pr} (h : (checkZ p).1 = 0) : p.decls.length ≤ 64 := by
 have h1 := (check_zero h).1;rw [prB] at h1;simp only [Bool.and_eq_true] at h1
 have a := (listB_bounds h1.1).2.1;omega
theorem strata_rep {p : Pr} {w w' : World} {e : Ending} (h : StrataPost p w e w') :
  ∃ L c v, e = .returned (.tuple #[v, .int .i64 c]) ∧ RepIs (fun b => w.heap.size ≤ b ∧ b < w'.heap.size) w' L v ∧ StrataR p L c ∧ Below w.heap.size w w' := by
 obtain ⟨hb, ⟨hc, rfl⟩ | ⟨hc, hno, rfl⟩ | ⟨hc, v, rfl, b, f, rfl, h1, h2, h3⟩⟩ := h
 ·exact ⟨[], _, _, rfl, RepIs.nil _ _, .inl ⟨hc, rfl, rfl⟩, hb⟩
 ·exact ⟨[], _, _, rfl, RepIs.nil _ _, .inr (.inl ⟨hc, hno, rfl, rfl⟩), hb⟩
 ·refine ⟨numL f p.decls.length, 0, _, rfl, ?_, .inr (.inr ⟨hc, f, h3, rfl, rfl⟩), hb⟩
  exact SlG.on (fun k hk => by subst hk; exact ⟨h1, h2.lt⟩) (fun _ _ => rfl) (fun _ _ _ h => h) (h2.rep (by have := decls_few hc; omega))
theorem rules_few {p : Pr} (h : prB p = true) : p.rules.length ≤ 64 := by
 rw [prB] at h;simp only [Bool.and_eq_true] at h
 have a := (listB_bounds h.2.2).2.1;omega
end Go.Proofs.YtjmnnjikmmglpaaGreat
namespace Go.Proofs.YtjmnnjikmmglpaaGreat
open Go.RowKit
theorem at6 : ∀ i, (h : i < decls6.length) → atN decls6 decls6[i].name = i := by
 intro i h
 match i, h with
 | 0, _ => show atN decls6 (decl6 0).name = 0; kernel_rfl
 | 1, _ => show atN decls6 (decl6 1).name = 1; kernel_rfl
 | 2, _ => show atN decls6 (decl6 2).name = 2; kernel_rfl
 | 3, _ => show atN decls6 (decl6 3).name = 3; kernel_rfl
 | 4, _ => show atN decls6 (decl6 4).name = 4; kernel_rfl
 | 5, _ => show atN decls6 (decl6 5).name = 5; kernel_rfl
theorem atO_none {s : ByteArray} : ∀ (l : List De) (i : Nat), (∀ d ∈ l, eqS d.name s = false) → atO l i s = none
 | [], _, _ => rfl
 | d :: l, i, h => by rw [atO, atO_none l (i + 1) fun x hx => h x (by simp [hx]), if_neg (by rw [h d (by simp)]; decide)]
theorem atN_six (s : ByteArray) : atN decls6 s < 6 := by
 by_cases h : ∃ k, atO decls6 0 s = some k
 ·obtain ⟨k, hk⟩ := h
  have := atO_lt s decls6 0 k hk;rw [atN, hk]
  show k < 6
  have e : decls6.length = 6 := rfl;omega
 ·cases hk : atO decls6 0 s with
  | none => rw [atN, hk]; decide
  | some k => exact absurd ⟨k, hk⟩ h
set_option maxRecDepth 100000 in
set_option maxHeartbeats 2000000 in
theorem index8_any (s : ByteArray) (w : World) : Calls Tryz.prog 37 #[.string s] w fun e w' => e = .returned (.int .i64 (atN decls6 s : Int)) ∧ Below w.heap.size w w' := by
 go_enter Tryz.func37, Tryz.ntmps37
 go_wp2_with fail
 refine (relations_any w).mono ?_;rintro e w1 ⟨rfl, hdec, hb⟩;obtain ⟨kd, hkd⟩ : ∃ k, w.heap.size = k := ⟨_, rfl⟩;have HD : Hid (RepDes (fun b => b < w1.heap.size) w1 decls6 (.slice (some ⟨kd, 0, none⟩) 6 6)) := by rw [← hkd]; exact RepDes.on (fun b hb => hb.2) (fun _ _ => rfl) hdec
 have HB := Lib.hid hb;rw [hkd];clear hdec hb hkd;go_wp2_with fail
 go_loopw [4] (fun iv wr => ∃ i : Nat, i ≤ 6 ∧ iv = .int .i64 (i : Int) ∧ Hid (∀ j, (h : j < decls6.length) → j < i → eqS decls6[j].name s = false) ∧ wr = w1) (fun iv _ => 6 - (intOf iv).toNat)
 case atStart => exact ⟨0, by omega, rfl, Lib.hid fun j _ h => absurd h (Nat.not_lt_zero _), rfl⟩
 case round =>
  obtain ⟨i, hi, rfl, hno, rfl⟩ := hrel
  by_cases hil : i < 6
  ·have hil' : i < decls6.length := hil
   obtain ⟨-, -, b, o, hbo, -, g0, g1, -⟩ := RepDes.at HD.out i hil'
   cases hbo
   rw [Nat.zero_add] at g0 g1;have HAT := Lib.hid (at6 i hil')
   have HNX : Hid (eqS decls6[i].name s = false → ∀ j, (h : j < decls6.length) → j < i + 1 → eqS decls6[j].name s = false) := fun h j hj hji => by
    by_cases he : j = i
    ·subst he; exact h
    ·exact hno.out j hj (by omega)
   have i1 : (0 : Int) ≤ (i : Int) := Int.natCast_nonneg _;have i2 : (i : Int) < 6 := by omega
   generalize decls6[i].name = nm at *
   cases hc : (nm.toList == s.toList) with
   | true =>
    have he : nm = s := eqS_iff.1 hc;have HF : Hid (atN decls6 s = i) := by show _ = _; rw [← he]; exact HAT.out
    clear he;go_wp2_with fail
    go_ret
    exact ⟨by rw [HF.out]; rfl, HB.out⟩
   | false =>
    have HK := Lib.hid (HNX.out hc);go_wp2_with fail
    go_roundw
    case rel => exact ⟨i + 1, hil, by go_num, HK, by first | rfl | trivial⟩
    case measure => simp [intOf]; omega
  ·have hi6 : i = 6 := by omega
   subst hi6
   have HF : Hid (atN decls6 s = 0) := by
    show _ = _
    rw [atN, atO_none decls6 0 fun d hd => by
     obtain ⟨j, hj, rfl⟩ := List.getElem_of_mem hd
     exact hno.out j hj (by have e : decls6.length = 6 := rfl; omega)]
    rfl
   go_wp2_with fail
   go_ret
   exact ⟨by rw [HF.out]; rfl, HB.out⟩
end Go.Proofs.YtjmnnjikmmglpaaGreat
