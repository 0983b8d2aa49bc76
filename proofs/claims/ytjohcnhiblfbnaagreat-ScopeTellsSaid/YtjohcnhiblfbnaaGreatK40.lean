/-
  FitLi
-/
import Derived.Test.YtjohcnhiblfbnaaGreatK01
import Derived.Test.YtjohcnhiblfbnaaGreatK39
namespace Go.Proofs.YtjohcnhiblfbnaaGreat
open Go.RowKit
def MadeLiF (y : Li) (w : World) (e : Ending) (w' : World) : Prop := ∃ c0 c1 c2, e = .returned (.agg #[c0, c1, c2]) ∧ RepLi (fun b => w.heap.size ≤ b ∧ b < w'.heap.size) w' y c0 c1 c2 ∧ Below w.heap.size w w'
def set3 (w : World) (b : Nat) (c0 c1 c2 : Value) : World := ((w.setCell ⟨b, 0, none⟩ c0).setCell ⟨b, 1, none⟩ c1).setCell ⟨b, 2, none⟩ c2
theorem set3_size (w : World) (b : Nat) (c0 c1 c2 : Value) : (set3 w b c0 c1 c2).heap.size = w.heap.size := by simp [set3, World.setCell]
theorem set3_other (w : World) (b : Nat) (c0 c1 c2 : Value) (k : Nat) (h : k ≠ b) : (set3 w b c0 c1 c2).heap[k]? = w.heap[k]? := by
 unfold set3;rw [Below.heap_setCell _ _ _ _ h, Below.heap_setCell _ _ _ _ h, Below.heap_setCell _ _ _ _ h]
theorem set3_below {w0 w : World} {B b : Nat} (h : Below B w0 w) (hb : B ≤ b) (c0 c1 c2 : Value) : Below B w0 (set3 w b c0 c1 c2) :=
 ((h.setCell hb c0).setCell hb c1).setCell hb c2
theorem RowAt.of {B : Nat} {l : List Tm} {w w' : World} {v : Value} (hB : B ≤ w.heap.size) (h : MineK kdTm w' w.heap.size l v) (hl : l.length ≤ 100000) : RowAt B l w' v := by
 obtain ⟨a, cap, rfl⟩ := OwnK.form h;exact ⟨_, _, _, rfl, MineK.slg h (fun k h1 h2 => ⟨by omega, h2⟩) hl⟩
theorem row1_at {B : Nat} {y : Tm} {w : World} {c0 c1 c2 c3 c4 c5 c6 : Value} (hB : B ≤ w.heap.size) (h1 : RepM (fun b => B ≤ b ∧ b < w.heap.size) w y c0 c1 c2 c3 c4 c5 c6) :
  RowAt B [y] (w.alloc (.cells #[c0, c1, c2, c3, c4, c5, c6] 34)) (.slice (some ⟨w.heap.size, 0, none⟩) 1 1) := by
 refine ⟨_, _, _, rfl, slg_row (alloc_new' w _) ⟨hB, by simp⟩ rfl (by simp) (fun i h => match i, h with
  | 0, _ => RepM.on (fun k hk => ⟨hk.1, by simp; omega⟩) (fun k hk => Below.heap_alloc _ _ _ hk.2) _ h1)⟩
theorem fitCmp_size (j : Nat) : (fitCmp j).size ≤ 2 := by
 match j with
 | 0 => decide
 | 1 => decide
 | 2 => decide
 | 3 => decide
 | 4 => decide
 | 5 => decide
 | _ + 6 => exact Nat.zero_le _
theorem term0_any (l : List Tm) (S : Nat → Prop) (w : World) (a : Value) (hS : ∀ k, S k → k < w.heap.size) (hl : RepMs S w l a) :
  Calls Tryz.prog 54 #[a, .int .i64 0] w (MadeM (fitAt l 0) w) := termAt_any l 0 (by omega) S w a hS hl
theorem term1_any (l : List Tm) (S : Nat → Prop) (w : World) (a : Value) (hS : ∀ k, S k → k < w.heap.size) (hl : RepMs S w l a) :
  Calls Tryz.prog 54 #[a, .int .i64 1] w (MadeM (fitAt l 1) w) := termAt_any l 1 (by omega) S w a hS hl
set_option maxRecDepth 100000 in
set_option maxHeartbeats 3000000 in
theorem fitLi_0 (x : Li) (S : Nat → Prop) (w : World) (c0 c1 c2 : Value) (hS : ∀ k, S k → k < w.heap.size) (hx : RepLi S w x c0 c1 c2) (hp : pickZ x.kind 4 = 0) :
  Calls Tryz.prog 34 #[.agg #[c0, c1, c2]] w (MadeLiF (fitLi x) w) := by
 have HS := hS;have HN := Lib.hid hx.2.2.2.1; have HK1 := Lib.hid hx.2.2.1
 have HL := Lib.hid hx.2.2.2.2;obtain ⟨ga, gc, rfl, rfl, rfl⟩ := hx.form
 have HE : Hid (fitLi x = ⟨1, relOf x.name, fitArgs x.args⟩) := by
  show _ = _
  rw [fitLi, if_pos hp]
 have HP := Lib.hid hp;clear hx hp;go_enter Tryz.func34, Tryz.ntmps34
 go_wp2_with fail
 refine (pick4_any x.kind 4 _ HK1.out (by omega) (by omega)).mono ?_;rintro e w' ⟨rfl, rfl⟩;rw [HP.out];have x0 := boxLi_new w (.int .i64 x.kind) (.string x.name) (.slice ga x.args.length gc);have b0 := below_alloc w (.cells #[.int .i64 x.kind, .string x.name, .slice ga x.args.length gc] 63);have s0 := World.size_alloc w (.cells #[.int .i64 x.kind, .string x.name, .slice ga x.args.length gc] 63);generalize w.alloc (.cells #[.int .i64 x.kind, .string x.name, .slice ga x.args.length gc] 63) = w0 at *;have x1 := boxLi_new w0 (.int .i64 0) (.string ⟨#[]⟩) (.slice none 0 0);have b1 := below_alloc w0 (.cells #[.int .i64 0, .string ⟨#[]⟩, .slice none 0 0] 63);have s1 := World.size_alloc w0 (.cells #[.int .i64 0, .string ⟨#[]⟩, .slice none 0 0] 63);generalize w0.alloc (.cells #[.int .i64 0, .string ⟨#[]⟩, .slice none 0 0] 63) = w1 at *;rw [s0] at x1 s1;have X1 := Lib.hid (x0.on b1); have R1 := Lib.hid x1; have B1 := Lib.hid (Below.step b0 b1); have HSZ1 : Hid (w.heap.size + 2 ≤ w1.heap.size) := by show _ ≤ _; omega
 clear x0 b0 x1 b1 s0 s1;obtain ⟨p0, p1, p2⟩ := X1.out.cells;go_wp2_with fail
 clear p0 p1 p2;refine wp_region_factsL (by rfl) 51 (by rfl) (by kernel_rfl) (FA [.e (.pointer (some ⟨w.heap.size, 1, none⟩)), .e (.string x.name), .e (.string (relOf x.name)), .e (.pointer (some ⟨w.heap.size, 2, none⟩)), .e (.slice ga x.args.length gc), .p (RowAt (w.heap.size + 2) (fitArgs x.args)), .p fun wz vz => ∃ sl, vz = .agg #[.int .i64 1, .string (relOf x.name), sl] ∧ RowAt (w.heap.size + 2) (fitArgs x.args) wz sl]) (fun w' => Below w1.heap.size w1 w') (Below.drew (Below.refl _ _)) ⟨?s0, ?s1, ?s2, ?s3, ?s4, ?s5, ?s6, trivial⟩ (by rfl) ?last (by decide)
 case s0 =>
  intro a w' hoff hg hdep K hK;have h1 := off_at hoff 1 (v := .pointer (some ⟨w.heap.size, 0, none⟩)) (by kernel_rfl) rfl;rw [if_pos (by rfl)];go_simp;exact hK.out _ _ hg rfl (fun _ _ h => h)
 case s1 =>
  intro a w' hoff hg hdep K hK;obtain ⟨_, e0, rfl⟩ := hdep 0 _ 9 (by kernel_rfl) rfl rfl;rw [if_pos (by rfl)];obtain ⟨p0, p1, p2⟩ := (X1.out.on hg).cells;go_simp;exact hK.out _ _ hg rfl (fun _ _ h => h)
 case s2 =>
  intro a w' hoff hg hdep K hK;obtain ⟨_, e1, rfl⟩ := hdep 1 _ 10 (by kernel_rfl) rfl rfl;rw [if_pos (by rfl)];go_simp;refine (Relation_any x.name _ HN.out).mono ?_;rintro e w2' ⟨rfl, hb⟩;exact hK.out _ _ (Below.step hg hb) rfl (fSt ⟨fun _ h => RowAt.stay hb h, fun _ h => h.elim fun sl hs => ⟨sl, hs.1, RowAt.stay hb hs.2⟩, trivial⟩)
 case s3 =>
  intro a w' hoff hg hdep K hK;have h1 := off_at hoff 1 (v := .pointer (some ⟨w.heap.size, 0, none⟩)) (by kernel_rfl) rfl;rw [if_pos (by rfl)];go_simp;exact hK.out _ _ hg rfl (fun _ _ h => h)
 case s4 =>
  intro a w' hoff hg hdep K hK;obtain ⟨_, e3, rfl⟩ := hdep 3 _ 12 (by kernel_rfl) rfl rfl;rw [if_pos (by rfl)];obtain ⟨p0, p1, p2⟩ := (X1.out.on hg).cells;go_simp;exact hK.out _ _ hg rfl (fun _ _ h => h)
 case s5 =>
  intro a w' hoff hg hdep K hK;obtain ⟨_, e4, rfl⟩ := hdep 4 _ 13 (by kernel_rfl) rfl rfl;rw [if_pos (by rfl)];go_simp;refine (fitArgs_any x.args S w' _ (fun k hk => Nat.lt_of_lt_of_le (Nat.lt_of_lt_of_le (HS k hk) B1.out.size) hg.size) (RepMs.on (fun _ h => h) (fun k hk => (Below.step B1.out hg).block k (HS k hk)) HL.out)).mono ?_;rintro e w2' ⟨u, rfl, hm, hb⟩;have hp := RowAt.of (B := (w.heap.size + 2)) (Nat.le_trans HSZ1.out hg.size) hm (by have := fitArgs_len x.args; omega);exact hK.out _ _ (Below.step hg hb) hp (fSt ⟨fun _ h => RowAt.stay hb h, fun _ h => h.elim fun sl hs => ⟨sl, hs.1, RowAt.stay hb hs.2⟩, trivial⟩)
 case s6 =>
  intro a w' hoff hg hdep K hK;obtain ⟨_, e2, rfl⟩ := hdep 2 _ 11 (by kernel_rfl) rfl rfl;obtain ⟨v5, e5, (g5 : RowAt (w.heap.size + 2) (fitArgs x.args) w' v5)⟩ := hdep 5 _ 14 (by kernel_rfl) rfl rfl;obtain ⟨ra, rn, rc, rfl, k5⟩ := g5;have hp : ∃ sl, (.agg #[.int .i64 1, .string (relOf x.name), .slice ra rn rc] : Value) = .agg #[.int .i64 1, .string (relOf x.name), sl] ∧ RowAt (w.heap.size + 2) (fitArgs x.args) w' sl := ⟨_, rfl, _, _, _, rfl, k5⟩;rw [if_pos (by rfl)];go_simp;exact hK.out _ _ hg hp (fun _ _ h => h)
 case last =>
  intro a w' hoff hg hf;obtain ⟨_, e0, rfl⟩ := hf 0 _ 9 (by decide) rfl rfl;obtain ⟨_, e1, rfl⟩ := hf 1 _ 10 (by decide) rfl rfl;obtain ⟨_, e2, rfl⟩ := hf 2 _ 11 (by decide) rfl rfl;obtain ⟨_, e3, rfl⟩ := hf 3 _ 12 (by decide) rfl rfl;obtain ⟨_, e4, rfl⟩ := hf 4 _ 13 (by decide) rfl rfl;obtain ⟨v5, e5, (g5 : RowAt (w.heap.size + 2) (fitArgs x.args) w' v5)⟩ := hf 5 _ 14 (by decide) rfl rfl;obtain ⟨v6, e6, (g6 : ∃ sl, v6 = .agg #[.int .i64 1, .string (relOf x.name), sl] ∧ RowAt (w.heap.size + 2) (fitArgs x.args) w' sl)⟩ := hf 6 _ 15 (by decide) rfl rfl;obtain ⟨sl, rfl, ra, rn, rc, rfl, k9⟩ := g6;have R3 := Lib.hid (R1.out.on hg); have B3 := Lib.hid (Below.step B1.out hg)
  obtain ⟨r0, r1, r2⟩ := R3.out.cells;have z0 := frozen_of_row w' (w.heap.size + 1) 0 _ _ R3.out; have z1 := frozen_of_row w' (w.heap.size + 1) 1 _ _ R3.out; have z2 := frozen_of_row w' (w.heap.size + 1) 2 _ _ R3.out
  rw [if_pos (by rfl)];rw [hoff.sets [(9, .pointer (some ⟨w.heap.size, 1, none⟩)), (10, .string x.name), (11, .string (relOf x.name)), (12, .pointer (some ⟨w.heap.size, 2, none⟩)), (13, .slice ga x.args.length gc), (14, v5), (15, .agg #[.int .i64 1, .string (relOf x.name), .slice ra rn rc])] (by kernel_rfl) (by intro p hp; simp only [List.mem_cons, List.not_mem_nil, or_false] at hp; rcases hp with rfl | rfl | rfl | rfl | rfl | rfl | rfl <;> assumption)];clear hoff hf e0 e1 e2 e3 e4 e5 e6;simp only [List.foldl_cons, List.foldl_nil, List.setIfInBounds_toArray, List.set_cons_zero, List.set_cons_succ]
  go_simp;go_wp2_with fail
  refine bodyPost_ret (v := .agg #[.int .i64 1, .string (relOf x.name), .slice ra rn rc]) (by simp [results, Tryz.results34, go_sem, r0, r1, r2]) rfl ?_;rw [HE.out];refine ⟨_, _, _, rfl, ⟨rfl, rfl, small64 (n := 1) (by omega), Nat.le_trans (relOf_size _) (by decide), RepMs.on (fun k hk => ⟨by omega, ?sz⟩) (fun k hk => ?eq) k9⟩, set3_below (b := w.heap.size + 1) B3.out (by omega) _ _ _⟩
  case sz =>
   show k < (set3 w' (w.heap.size + 1) _ _ _).heap.size
   rw [set3_size]; exact hk.2
  case eq =>
   exact set3_other w' (w.heap.size + 1) _ _ _ _ (by omega)
set_option maxRecDepth 100000 in
set_option maxHeartbeats 3000000 in
theorem fitLi_1 (x : Li) (S : Nat → Prop) (w : World) (c0 c1 c2 : Value) (hS : ∀ k, S k → k < w.heap.size) (hx : RepLi S w x c0 c1 c2) (hp : pickZ x.kind 4 = 1) :
  Calls Tryz.prog 34 #[.agg #[c0, c1, c2]] w (MadeLiF (fitLi x) w) := by
 have HS := hS;have HN := Lib.hid hx.2.2.2.1; have HK1 := Lib.hid hx.2.2.1
 have HL := Lib.hid hx.2.2.2.2;obtain ⟨ga, gc, rfl, rfl, rfl⟩ := hx.form
 have HE : Hid (fitLi x = ⟨2, relOf x.name, fitArgs x.args⟩) := by
  show _ = _
  rw [fitLi, if_neg (by omega), if_pos hp]
 have HP := Lib.hid hp;clear hx hp;go_enter Tryz.func34, Tryz.ntmps34
 go_wp2_with fail
 refine (pick4_any x.kind 4 _ HK1.out (by omega) (by omega)).mono ?_;rintro e w' ⟨rfl, rfl⟩;rw [HP.out];have x0 := boxLi_new w (.int .i64 x.kind) (.string x.name) (.slice ga x.args.length gc);have b0 := below_alloc w (.cells #[.int .i64 x.kind, .string x.name, .slice ga x.args.length gc] 63);have s0 := World.size_alloc w (.cells #[.int .i64 x.kind, .string x.name, .slice ga x.args.length gc] 63);generalize w.alloc (.cells #[.int .i64 x.kind, .string x.name, .slice ga x.args.length gc] 63) = w0 at *;have x1 := boxLi_new w0 (.int .i64 0) (.string ⟨#[]⟩) (.slice none 0 0);have b1 := below_alloc w0 (.cells #[.int .i64 0, .string ⟨#[]⟩, .slice none 0 0] 63);have s1 := World.size_alloc w0 (.cells #[.int .i64 0, .string ⟨#[]⟩, .slice none 0 0] 63);generalize w0.alloc (.cells #[.int .i64 0, .string ⟨#[]⟩, .slice none 0 0] 63) = w1 at *;rw [s0] at x1 s1;have X1 := Lib.hid (x0.on b1); have R1 := Lib.hid x1; have B1 := Lib.hid (Below.step b0 b1); have HSZ1 : Hid (w.heap.size + 2 ≤ w1.heap.size) := by show _ ≤ _; omega
 clear x0 b0 x1 b1 s0 s1;obtain ⟨p0, p1, p2⟩ := X1.out.cells;go_wp2_with fail
 clear p0 p1 p2;refine wp_region_factsL (by rfl) 51 (by rfl) (by kernel_rfl) (FA [.e (.pointer (some ⟨w.heap.size, 1, none⟩)), .e (.string x.name), .e (.string (relOf x.name)), .e (.pointer (some ⟨w.heap.size, 2, none⟩)), .e (.slice ga x.args.length gc), .p (RowAt (w.heap.size + 2) (fitArgs x.args)), .p fun wz vz => ∃ sl, vz = .agg #[.int .i64 2, .string (relOf x.name), sl] ∧ RowAt (w.heap.size + 2) (fitArgs x.args) wz sl]) (fun w' => Below w1.heap.size w1 w') (Below.drew (Below.refl _ _)) ⟨?s0, ?s1, ?s2, ?s3, ?s4, ?s5, ?s6, trivial⟩ (by rfl) ?last (by decide)
 case s0 =>
  intro a w' hoff hg hdep K hK;have h1 := off_at hoff 1 (v := .pointer (some ⟨w.heap.size, 0, none⟩)) (by kernel_rfl) rfl;rw [if_pos (by rfl)];go_simp;exact hK.out _ _ hg rfl (fun _ _ h => h)
 case s1 =>
  intro a w' hoff hg hdep K hK;obtain ⟨_, e0, rfl⟩ := hdep 0 _ 18 (by kernel_rfl) rfl rfl;rw [if_pos (by rfl)];obtain ⟨p0, p1, p2⟩ := (X1.out.on hg).cells;go_simp;exact hK.out _ _ hg rfl (fun _ _ h => h)
 case s2 =>
  intro a w' hoff hg hdep K hK;obtain ⟨_, e1, rfl⟩ := hdep 1 _ 19 (by kernel_rfl) rfl rfl;rw [if_pos (by rfl)];go_simp;refine (Relation_any x.name _ HN.out).mono ?_;rintro e w2' ⟨rfl, hb⟩;exact hK.out _ _ (Below.step hg hb) rfl (fSt ⟨fun _ h => RowAt.stay hb h, fun _ h => h.elim fun sl hs => ⟨sl, hs.1, RowAt.stay hb hs.2⟩, trivial⟩)
 case s3 =>
  intro a w' hoff hg hdep K hK;have h1 := off_at hoff 1 (v := .pointer (some ⟨w.heap.size, 0, none⟩)) (by kernel_rfl) rfl;rw [if_pos (by rfl)];go_simp;exact hK.out _ _ hg rfl (fun _ _ h => h)
 case s4 =>
  intro a w' hoff hg hdep K hK;obtain ⟨_, e3, rfl⟩ := hdep 3 _ 21 (by kernel_rfl) rfl rfl;rw [if_pos (by rfl)];obtain ⟨p0, p1, p2⟩ := (X1.out.on hg).cells;go_simp;exact hK.out _ _ hg rfl (fun _ _ h => h)
 case s5 =>
  intro a w' hoff hg hdep K hK;obtain ⟨_, e4, rfl⟩ := hdep 4 _ 22 (by kernel_rfl) rfl rfl;rw [if_pos (by rfl)];go_simp;refine (fitArgs_any x.args S w' _ (fun k hk => Nat.lt_of_lt_of_le (Nat.lt_of_lt_of_le (HS k hk) B1.out.size) hg.size) (RepMs.on (fun _ h => h) (fun k hk => (Below.step B1.out hg).block k (HS k hk)) HL.out)).mono ?_;rintro e w2' ⟨u, rfl, hm, hb⟩;have hp := RowAt.of (B := (w.heap.size + 2)) (Nat.le_trans HSZ1.out hg.size) hm (by have := fitArgs_len x.args; omega);exact hK.out _ _ (Below.step hg hb) hp (fSt ⟨fun _ h => RowAt.stay hb h, fun _ h => h.elim fun sl hs => ⟨sl, hs.1, RowAt.stay hb hs.2⟩, trivial⟩)
 case s6 =>
  intro a w' hoff hg hdep K hK;obtain ⟨_, e2, rfl⟩ := hdep 2 _ 20 (by kernel_rfl) rfl rfl;obtain ⟨v5, e5, (g5 : RowAt (w.heap.size + 2) (fitArgs x.args) w' v5)⟩ := hdep 5 _ 23 (by kernel_rfl) rfl rfl;obtain ⟨ra, rn, rc, rfl, k5⟩ := g5;have hp : ∃ sl, (.agg #[.int .i64 2, .string (relOf x.name), .slice ra rn rc] : Value) = .agg #[.int .i64 2, .string (relOf x.name), sl] ∧ RowAt (w.heap.size + 2) (fitArgs x.args) w' sl := ⟨_, rfl, _, _, _, rfl, k5⟩;rw [if_pos (by rfl)];go_simp;exact hK.out _ _ hg hp (fun _ _ h => h)
 case last =>
  intro a w' hoff hg hf;obtain ⟨_, e0, rfl⟩ := hf 0 _ 18 (by decide) rfl rfl;obtain ⟨_, e1, rfl⟩ := hf 1 _ 19 (by decide) rfl rfl;obtain ⟨_, e2, rfl⟩ := hf 2 _ 20 (by decide) rfl rfl;obtain ⟨_, e3, rfl⟩ := hf 3 _ 21 (by decide) rfl rfl;obtain ⟨_, e4, rfl⟩ := hf 4 _ 22 (by decide) rfl rfl;obtain ⟨v5, e5, (g5 : RowAt (w.heap.size + 2) (fitArgs x.args) w' v5)⟩ := hf 5 _ 23 (by decide) rfl rfl;obtain ⟨v6, e6, (g6 : ∃ sl, v6 = .agg #[.int .i64 2, .string (relOf x.name), sl] ∧ RowAt (w.heap.size + 2) (fitArgs x.args) w' sl)⟩ := hf 6 _ 24 (by decide) rfl rfl;obtain ⟨sl, rfl, ra, rn, rc, rfl, k9⟩ := g6;have R3 := Lib.hid (R1.out.on hg); have B3 := Lib.hid (Below.step B1.out hg)
  obtain ⟨r0, r1, r2⟩ := R3.out.cells;have z0 := frozen_of_row w' (w.heap.size + 1) 0 _ _ R3.out; have z1 := frozen_of_row w' (w.heap.size + 1) 1 _ _ R3.out; have z2 := frozen_of_row w' (w.heap.size + 1) 2 _ _ R3.out
  rw [if_pos (by rfl)];rw [hoff.sets [(18, .pointer (some ⟨w.heap.size, 1, none⟩)), (19, .string x.name), (20, .string (relOf x.name)), (21, .pointer (some ⟨w.heap.size, 2, none⟩)), (22, .slice ga x.args.length gc), (23, v5), (24, .agg #[.int .i64 2, .string (relOf x.name), .slice ra rn rc])] (by kernel_rfl) (by intro p hp; simp only [List.mem_cons, List.not_mem_nil, or_false] at hp; rcases hp with rfl | rfl | rfl | rfl | rfl | rfl | rfl <;> assumption)];clear hoff hf e0 e1 e2 e3 e4 e5 e6;simp only [List.foldl_cons, List.foldl_nil, List.setIfInBounds_toArray, List.set_cons_zero, List.set_cons_succ]
  go_simp;go_wp2_with fail
  refine bodyPost_ret (v := .agg #[.int .i64 2, .string (relOf x.name), .slice ra rn rc]) (by simp [results, Tryz.results34, go_sem, r0, r1, r2]) rfl ?_;rw [HE.out];refine ⟨_, _, _, rfl, ⟨rfl, rfl, small64 (n := 2) (by omega), Nat.le_trans (relOf_size _) (by decide), RepMs.on (fun k hk => ⟨by omega, ?sz⟩) (fun k hk => ?eq) k9⟩, set3_below (b := w.heap.size + 1) B3.out (by omega) _ _ _⟩
  case sz =>
   show k < (set3 w' (w.heap.size + 1) _ _ _).heap.size
   rw [set3_size]; exact hk.2
  case eq =>
   exact set3_other w' (w.heap.size + 1) _ _ _ _ (by omega)
set_option maxRecDepth 100000 in
set_option maxHeartbeats 3000000 in
theorem fitLi_2 (x : Li) (S : Nat → Prop) (w : World) (c0 c1 c2 : Value) (hS : ∀ k, S k → k < w.heap.size) (hx : RepLi S w x c0 c1 c2) (hp : pickZ x.kind 4 = 2) :
  Calls Tryz.prog 34 #[.agg #[c0, c1, c2]] w (MadeLiF (fitLi x) w) := by
 have HS := hS;have HN := Lib.hid hx.2.2.2.1; have HK1 := Lib.hid hx.2.2.1
 have HL := Lib.hid hx.2.2.2.2;obtain ⟨ga, gc, rfl, rfl, rfl⟩ := hx.form
 have HE : Hid (fitLi x = ⟨3, fitCmp (pickZ (x.name.size : Int) 6).toNat, [fitAt x.args 0, fitAt x.args 1]⟩) := by
  show _ = _
  rw [fitLi, if_neg (by omega), if_neg (by omega), if_pos hp]
 have HP := Lib.hid hp;have hns := HN.out;unfold maxLen at hns;clear hx hp;go_enter Tryz.func34, Tryz.ntmps34
 go_wp2_with fail
 refine (pick4_any x.kind 4 _ HK1.out (by omega) (by omega)).mono ?_;rintro e w' ⟨rfl, rfl⟩;rw [HP.out];have x0 := boxLi_new w (.int .i64 x.kind) (.string x.name) (.slice ga x.args.length gc);have b0 := below_alloc w (.cells #[.int .i64 x.kind, .string x.name, .slice ga x.args.length gc] 63);have s0 := World.size_alloc w (.cells #[.int .i64 x.kind, .string x.name, .slice ga x.args.length gc] 63);generalize w.alloc (.cells #[.int .i64 x.kind, .string x.name, .slice ga x.args.length gc] 63) = w0 at *;have x1 := boxLi_new w0 (.int .i64 0) (.string ⟨#[]⟩) (.slice none 0 0);have b1 := below_alloc w0 (.cells #[.int .i64 0, .string ⟨#[]⟩, .slice none 0 0] 63);have s1 := World.size_alloc w0 (.cells #[.int .i64 0, .string ⟨#[]⟩, .slice none 0 0] 63);generalize w0.alloc (.cells #[.int .i64 0, .string ⟨#[]⟩, .slice none 0 0] 63) = w1 at *;rw [s0] at x1 s1;have X1 := Lib.hid (x0.on b1); have R1 := Lib.hid x1; have B1 := Lib.hid (Below.step b0 b1); have HSZ1 : Hid (w.heap.size + 2 ≤ w1.heap.size) := by show _ ≤ _; omega
 clear x0 b0 x1 b1 s0 s1;obtain ⟨p0, p1, p2⟩ := X1.out.cells;obtain ⟨t0, t1, t2⟩ := (X1.out.on (below_alloc w1 (.cells #[.string ⟨#[61, 61]⟩, .string ⟨#[33, 61]⟩, .string ⟨#[60]⟩, .string ⟨#[60, 61]⟩, .string ⟨#[62]⟩, .string ⟨#[62, 61]⟩] 9))).cells;go_wp2_with fail
 have b2 := below_alloc w1 (.cells #[.string ⟨#[61, 61]⟩, .string ⟨#[33, 61]⟩, .string ⟨#[60]⟩, .string ⟨#[60, 61]⟩, .string ⟨#[62]⟩, .string ⟨#[62, 61]⟩] 9);have n2 := alloc_new' w1 (.cells #[.string ⟨#[61, 61]⟩, .string ⟨#[33, 61]⟩, .string ⟨#[60]⟩, .string ⟨#[60, 61]⟩, .string ⟨#[62]⟩, .string ⟨#[62, 61]⟩] 9);generalize w1.alloc (.cells #[.string ⟨#[61, 61]⟩, .string ⟨#[33, 61]⟩, .string ⟨#[60]⟩, .string ⟨#[60, 61]⟩, .string ⟨#[62]⟩, .string ⟨#[62, 61]⟩] 9) = w2 at *;generalize hbs : w1.heap.size = bs at n2 ⊢;refine (pick4_any (x.name.size : Int) 6 _ ⟨by omega, by omega⟩ (by omega) (by omega)).mono ?_;rintro e w' ⟨rfl, rfl⟩;have hpb := pickZ_bd (x.name.size : Int) 6 (by omega);obtain ⟨j, hj⟩ := Int.eq_ofNat_of_zero_le hpb.1;rw [hj] at hpb HE ⊢;rw [Int.toNat_natCast] at HE;have hj6 : j < 6 := by omega
 have hcj : w2.cell? ⟨bs, j, none⟩ = some (.string (fitCmp j)) := by
  match j, hj6 with
  | 0, _ => exact cell_of_block' n2 _ rfl
  | 1, _ => exact cell_of_block' n2 _ rfl
  | 2, _ => exact cell_of_block' n2 _ rfl
  | 3, _ => exact cell_of_block' n2 _ rfl
  | 4, _ => exact cell_of_block' n2 _ rfl
  | 5, _ => exact cell_of_block' n2 _ rfl
 have hj0 : (0 : Int) ≤ (j : Int) := Int.natCast_nonneg j;have hj4 : (j : Int) < 6 := by omega
 have X2 := Lib.hid (X1.out.on b2); have R2 := Lib.hid (R1.out.on b2); have B2 := Lib.hid (Below.step B1.out b2)
 have HSZ2 : Hid (w.heap.size + 2 ≤ w2.heap.size) := by show _ ≤ _; have := HSZ1.out; have := b2.size; omega
 clear n2 b2 hj hpb p0 p1 p2 hbs t0 t1 t2;obtain ⟨p0, p1, p2⟩ := X2.out.cells;go_wp2_with fail
 clear hcj hj0 hj4 p0 p1 p2;refine wp_region_factsL (by rfl) 51 (by rfl) (by kernel_rfl) (FA [.e (.string (fitCmp j)), .e (.pointer (some ⟨w.heap.size, 2, none⟩)), .e (.slice ga x.args.length gc), .p (MadeAt (w.heap.size + 2) (fitAt x.args 0)), .e (.pointer (some ⟨w.heap.size, 2, none⟩)), .e (.slice ga x.args.length gc), .p (MadeAt (w.heap.size + 2) (fitAt x.args 1)), .p (RowAt (w.heap.size + 2) [fitAt x.args 0, fitAt x.args 1]), .p fun wz vz => ∃ sl, vz = .agg #[.int .i64 3, .string (fitCmp j), sl] ∧ RowAt (w.heap.size + 2) [fitAt x.args 0, fitAt x.args 1] wz sl]) (fun w' => Below w2.heap.size w2 w') (Below.drew (Below.refl _ _)) ⟨?s0, ?s1, ?s2, ?s3, ?s4, ?s5, ?s6, ?s7, ?s8, trivial⟩ (by rfl) ?last (by decide)
 case s0 =>
  intro a w' hoff hg hdep K hK;have h3 := off_at hoff 3 (v := .string (fitCmp j)) (by kernel_rfl) rfl;rw [if_pos (by rfl)];go_simp;exact hK.out _ _ hg rfl (fun _ _ h => h)
 case s1 =>
  intro a w' hoff hg hdep K hK;have h1 := off_at hoff 1 (v := .pointer (some ⟨w.heap.size, 0, none⟩)) (by kernel_rfl) rfl;rw [if_pos (by rfl)];go_simp;exact hK.out _ _ hg rfl (fun _ _ h => h)
 case s2 =>
  intro a w' hoff hg hdep K hK;obtain ⟨_, e1, rfl⟩ := hdep 1 _ 35 (by kernel_rfl) rfl rfl;rw [if_pos (by rfl)];obtain ⟨p0, p1, p2⟩ := (X2.out.on hg).cells;go_simp;exact hK.out _ _ hg rfl (fun _ _ h => h)
 case s3 =>
  intro a w' hoff hg hdep K hK;obtain ⟨_, e2, rfl⟩ := hdep 2 _ 36 (by kernel_rfl) rfl rfl;rw [if_pos (by rfl)];go_simp;refine (term0_any x.args S w' _ (fun k hk => Nat.lt_of_lt_of_le (Nat.lt_of_lt_of_le (HS k hk) B2.out.size) hg.size) (RepMs.on (fun _ h => h) (fun k hk => (Below.step B2.out hg).block k (HS k hk)) HL.out)).mono ?_;intro e w2' hm;obtain ⟨u, rfl, hp, hb⟩ := MadeAt.of (B := (w.heap.size + 2)) (Nat.le_trans HSZ2.out hg.size) hm;exact hK.out _ _ (Below.step hg hb) hp (fSt ⟨fun _ h => MadeAt.stay hb h, fun _ h => MadeAt.stay hb h, fun _ h => RowAt.stay hb h, fun _ h => h.elim fun sl hs => ⟨sl, hs.1, RowAt.stay hb hs.2⟩, trivial⟩)
 case s4 =>
  intro a w' hoff hg hdep K hK;have h1 := off_at hoff 1 (v := .pointer (some ⟨w.heap.size, 0, none⟩)) (by kernel_rfl) rfl;rw [if_pos (by rfl)];go_simp;exact hK.out _ _ hg rfl (fun _ _ h => h)
 case s5 =>
  intro a w' hoff hg hdep K hK;obtain ⟨_, e4, rfl⟩ := hdep 4 _ 38 (by kernel_rfl) rfl rfl;rw [if_pos (by rfl)];obtain ⟨p0, p1, p2⟩ := (X2.out.on hg).cells;go_simp;exact hK.out _ _ hg rfl (fun _ _ h => h)
 case s6 =>
  intro a w' hoff hg hdep K hK;obtain ⟨_, e5, rfl⟩ := hdep 5 _ 39 (by kernel_rfl) rfl rfl;rw [if_pos (by rfl)];go_simp;refine (term1_any x.args S w' _ (fun k hk => Nat.lt_of_lt_of_le (Nat.lt_of_lt_of_le (HS k hk) B2.out.size) hg.size) (RepMs.on (fun _ h => h) (fun k hk => (Below.step B2.out hg).block k (HS k hk)) HL.out)).mono ?_;intro e w2' hm;obtain ⟨u, rfl, hp, hb⟩ := MadeAt.of (B := (w.heap.size + 2)) (Nat.le_trans HSZ2.out hg.size) hm;exact hK.out _ _ (Below.step hg hb) hp (fSt ⟨fun _ h => MadeAt.stay hb h, fun _ h => MadeAt.stay hb h, fun _ h => RowAt.stay hb h, fun _ h => h.elim fun sl hs => ⟨sl, hs.1, RowAt.stay hb hs.2⟩, trivial⟩)
 case s7 =>
  intro a w' hoff hg hdep K hK;obtain ⟨v3, e3, (g3 : MadeAt (w.heap.size + 2) (fitAt x.args 0) w' v3)⟩ := hdep 3 _ 37 (by kernel_rfl) rfl rfl;obtain ⟨v6, e6, (g6 : MadeAt (w.heap.size + 2) (fitAt x.args 1) w' v6)⟩ := hdep 6 _ 40 (by kernel_rfl) rfl rfl;obtain ⟨c0, c1, c2, c3, c4, c5, c6, rfl, k3⟩ := g3;obtain ⟨d0, d1, d2, d3, d4, d5, d6, rfl, k6⟩ := g6;rw [if_pos (by rfl)];go_simp;have hb := below_alloc w' (.cells #[c0, c1, c2, c3, c4, c5, c6, d0, d1, d2, d3, d4, d5, d6] 34);have hp := row2_new (B := (w.heap.size + 2)) (Nat.le_trans HSZ2.out hg.size) k3 k6;exact hK.out _ _ (Below.step hg hb) hp (fSt ⟨fun _ h => MadeAt.stay hb h, fun _ h => MadeAt.stay hb h, fun _ h => RowAt.stay hb h, fun _ h => h.elim fun sl hs => ⟨sl, hs.1, RowAt.stay hb hs.2⟩, trivial⟩)
 case s8 =>
  intro a w' hoff hg hdep K hK;obtain ⟨_, e0, rfl⟩ := hdep 0 _ 34 (by kernel_rfl) rfl rfl;obtain ⟨v7, e7, (g7 : RowAt (w.heap.size + 2) [fitAt x.args 0, fitAt x.args 1] w' v7)⟩ := hdep 7 _ 41 (by kernel_rfl) rfl rfl;obtain ⟨ra, rn, rc, rfl, k7⟩ := g7;have hp : ∃ sl, (.agg #[.int .i64 3, .string (fitCmp j), .slice ra rn rc] : Value) = .agg #[.int .i64 3, .string (fitCmp j), sl] ∧ RowAt (w.heap.size + 2) [fitAt x.args 0, fitAt x.args 1] w' sl := ⟨_, rfl, _, _, _, rfl, k7⟩;rw [if_pos (by rfl)];go_simp;exact hK.out _ _ hg hp (fun _ _ h => h)
 case last =>
  intro a w' hoff hg hf;obtain ⟨_, e0, rfl⟩ := hf 0 _ 34 (by decide) rfl rfl;obtain ⟨_, e1, rfl⟩ := hf 1 _ 35 (by decide) rfl rfl;obtain ⟨_, e2, rfl⟩ := hf 2 _ 36 (by decide) rfl rfl;obtain ⟨v3, e3, (g3 : MadeAt (w.heap.size + 2) (fitAt x.args 0) w' v3)⟩ := hf 3 _ 37 (by decide) rfl rfl;obtain ⟨_, e4, rfl⟩ := hf 4 _ 38 (by decide) rfl rfl;obtain ⟨_, e5, rfl⟩ := hf 5 _ 39 (by decide) rfl rfl;obtain ⟨v6, e6, (g6 : MadeAt (w.heap.size + 2) (fitAt x.args 1) w' v6)⟩ := hf 6 _ 40 (by decide) rfl rfl;obtain ⟨v7, e7, (g7 : RowAt (w.heap.size + 2) [fitAt x.args 0, fitAt x.args 1] w' v7)⟩ := hf 7 _ 41 (by decide) rfl rfl;obtain ⟨v8, e8, (g8 : ∃ sl, v8 = .agg #[.int .i64 3, .string (fitCmp j), sl] ∧ RowAt (w.heap.size + 2) [fitAt x.args 0, fitAt x.args 1] w' sl)⟩ := hf 8 _ 42 (by decide) rfl rfl;obtain ⟨sl, rfl, ra, rn, rc, rfl, k9⟩ := g8;have R3 := Lib.hid (R2.out.on hg); have B3 := Lib.hid (Below.step B2.out hg)
  obtain ⟨r0, r1, r2⟩ := R3.out.cells;have z0 := frozen_of_row w' (w.heap.size + 1) 0 _ _ R3.out; have z1 := frozen_of_row w' (w.heap.size + 1) 1 _ _ R3.out; have z2 := frozen_of_row w' (w.heap.size + 1) 2 _ _ R3.out
  rw [if_pos (by rfl)];rw [hoff.sets [(34, .string (fitCmp j)), (35, .pointer (some ⟨w.heap.size, 2, none⟩)), (36, .slice ga x.args.length gc), (37, v3), (38, .pointer (some ⟨w.heap.size, 2, none⟩)), (39, .slice ga x.args.length gc), (40, v6), (41, v7), (42, .agg #[.int .i64 3, .string (fitCmp j), .slice ra rn rc])] (by kernel_rfl) (by intro p hp; simp only [List.mem_cons, List.not_mem_nil, or_false] at hp; rcases hp with rfl | rfl | rfl | rfl | rfl | rfl | rfl | rfl | rfl <;> assumption)];clear hoff hf e0 e1 e2 e3 e4 e5 e6 e7 e8;simp only [List.foldl_cons, List.foldl_nil, List.setIfInBounds_toArray, List.set_cons_zero, List.set_cons_succ]
  go_simp;go_wp2_with fail
  refine bodyPost_ret (v := .agg #[.int .i64 3, .string (fitCmp j), .slice ra rn rc]) (by simp [results, Tryz.results34, go_sem, r0, r1, r2]) rfl ?_;rw [HE.out];refine ⟨_, _, _, rfl, ⟨rfl, rfl, small64 (n := 3) (by omega), Nat.le_trans (fitCmp_size _) (by decide), RepMs.on (fun k hk => ⟨by omega, ?sz⟩) (fun k hk => ?eq) k9⟩, set3_below (b := w.heap.size + 1) B3.out (by omega) _ _ _⟩
  case sz =>
   show k < (set3 w' (w.heap.size + 1) _ _ _).heap.size
   rw [set3_size]; exact hk.2
  case eq =>
   exact set3_other w' (w.heap.size + 1) _ _ _ _ (by omega)
set_option maxRecDepth 100000 in
set_option maxHeartbeats 3000000 in
theorem fitLi_3 (x : Li) (S : Nat → Prop) (w : World) (c0 c1 c2 : Value) (hS : ∀ k, S k → k < w.heap.size) (hx : RepLi S w x c0 c1 c2) (hp : pickZ x.kind 4 = 3) :
  Calls Tryz.prog 34 #[.agg #[c0, c1, c2]] w (MadeLiF (fitLi x) w) := by
 have HS := hS;have HN := Lib.hid hx.2.2.2.1; have HK1 := Lib.hid hx.2.2.1
 have HL := Lib.hid hx.2.2.2.2;obtain ⟨ga, gc, rfl, rfl, rfl⟩ := hx.form
 have HE : Hid (fitLi x = ⟨4, varOf x.name, [fitAt x.args 0]⟩) := by
  show _ = _
  rw [fitLi, if_neg (by omega), if_neg (by omega), if_neg (by omega)]
 have HP := Lib.hid hp;clear hx hp;go_enter Tryz.func34, Tryz.ntmps34
 go_wp2_with fail
 refine (pick4_any x.kind 4 _ HK1.out (by omega) (by omega)).mono ?_;rintro e w' ⟨rfl, rfl⟩;rw [HP.out];have x0 := boxLi_new w (.int .i64 x.kind) (.string x.name) (.slice ga x.args.length gc);have b0 := below_alloc w (.cells #[.int .i64 x.kind, .string x.name, .slice ga x.args.length gc] 63);have s0 := World.size_alloc w (.cells #[.int .i64 x.kind, .string x.name, .slice ga x.args.length gc] 63);generalize w.alloc (.cells #[.int .i64 x.kind, .string x.name, .slice ga x.args.length gc] 63) = w0 at *;have x1 := boxLi_new w0 (.int .i64 0) (.string ⟨#[]⟩) (.slice none 0 0);have b1 := below_alloc w0 (.cells #[.int .i64 0, .string ⟨#[]⟩, .slice none 0 0] 63);have s1 := World.size_alloc w0 (.cells #[.int .i64 0, .string ⟨#[]⟩, .slice none 0 0] 63);generalize w0.alloc (.cells #[.int .i64 0, .string ⟨#[]⟩, .slice none 0 0] 63) = w1 at *;rw [s0] at x1 s1;have X1 := Lib.hid (x0.on b1); have R1 := Lib.hid x1; have B1 := Lib.hid (Below.step b0 b1); have HSZ1 : Hid (w.heap.size + 2 ≤ w1.heap.size) := by show _ ≤ _; omega
 clear x0 b0 x1 b1 s0 s1;obtain ⟨p0, p1, p2⟩ := X1.out.cells;go_wp2_with fail
 clear p0 p1 p2;refine wp_region_factsL (by rfl) 51 (by rfl) (by kernel_rfl) (FA [.e (.pointer (some ⟨w.heap.size, 1, none⟩)), .e (.string x.name), .e (.string (varOf x.name)), .e (.pointer (some ⟨w.heap.size, 2, none⟩)), .e (.slice ga x.args.length gc), .p (MadeAt (w.heap.size + 2) (fitAt x.args 0)), .p (RowAt (w.heap.size + 2) [fitAt x.args 0]), .p fun wz vz => ∃ sl, vz = .agg #[.int .i64 4, .string (varOf x.name), sl] ∧ RowAt (w.heap.size + 2) [fitAt x.args 0] wz sl]) (fun w' => Below w1.heap.size w1 w') (Below.drew (Below.refl _ _)) ⟨?s0, ?s1, ?s2, ?s3, ?s4, ?s5, ?s6, ?s7, trivial⟩ (by rfl) ?last (by decide)
 case s0 =>
  intro a w' hoff hg hdep K hK;have h1 := off_at hoff 1 (v := .pointer (some ⟨w.heap.size, 0, none⟩)) (by kernel_rfl) rfl;rw [if_pos (by rfl)];go_simp;exact hK.out _ _ hg rfl (fun _ _ h => h)
 case s1 =>
  intro a w' hoff hg hdep K hK;obtain ⟨_, e0, rfl⟩ := hdep 0 _ 43 (by kernel_rfl) rfl rfl;rw [if_pos (by rfl)];obtain ⟨p0, p1, p2⟩ := (X1.out.on hg).cells;go_simp;exact hK.out _ _ hg rfl (fun _ _ h => h)
 case s2 =>
  intro a w' hoff hg hdep K hK;obtain ⟨_, e1, rfl⟩ := hdep 1 _ 44 (by kernel_rfl) rfl rfl;rw [if_pos (by rfl)];go_simp;refine (Variable_any x.name _ HN.out).mono ?_;rintro e w2' ⟨rfl, hb⟩;exact hK.out _ _ (Below.step hg hb) rfl (fSt ⟨fun _ h => MadeAt.stay hb h, fun _ h => RowAt.stay hb h, fun _ h => h.elim fun sl hs => ⟨sl, hs.1, RowAt.stay hb hs.2⟩, trivial⟩)
 case s3 =>
  intro a w' hoff hg hdep K hK;have h1 := off_at hoff 1 (v := .pointer (some ⟨w.heap.size, 0, none⟩)) (by kernel_rfl) rfl;rw [if_pos (by rfl)];go_simp;exact hK.out _ _ hg rfl (fun _ _ h => h)
 case s4 =>
  intro a w' hoff hg hdep K hK;obtain ⟨_, e3, rfl⟩ := hdep 3 _ 46 (by kernel_rfl) rfl rfl;rw [if_pos (by rfl)];obtain ⟨p0, p1, p2⟩ := (X1.out.on hg).cells;go_simp;exact hK.out _ _ hg rfl (fun _ _ h => h)
 case s5 =>
  intro a w' hoff hg hdep K hK;obtain ⟨_, e4, rfl⟩ := hdep 4 _ 47 (by kernel_rfl) rfl rfl;rw [if_pos (by rfl)];go_simp;refine (term0_any x.args S w' _ (fun k hk => Nat.lt_of_lt_of_le (Nat.lt_of_lt_of_le (HS k hk) B1.out.size) hg.size) (RepMs.on (fun _ h => h) (fun k hk => (Below.step B1.out hg).block k (HS k hk)) HL.out)).mono ?_;intro e w2' hm;obtain ⟨u, rfl, hp, hb⟩ := MadeAt.of (B := (w.heap.size + 2)) (Nat.le_trans HSZ1.out hg.size) hm;exact hK.out _ _ (Below.step hg hb) hp (fSt ⟨fun _ h => MadeAt.stay hb h, fun _ h => RowAt.stay hb h, fun _ h => h.elim fun sl hs => ⟨sl, hs.1, RowAt.stay hb hs.2⟩, trivial⟩)
 case s6 =>
  intro a w' hoff hg hdep K hK;obtain ⟨v5, e5, (g5 : MadeAt (w.heap.size + 2) (fitAt x.args 0) w' v5)⟩ := hdep 5 _ 48 (by kernel_rfl) rfl rfl;obtain ⟨c0, c1, c2, c3, c4, c5, c6, rfl, k5⟩ := g5;rw [if_pos (by rfl)];go_simp;have hb := below_alloc w' (.cells #[c0, c1, c2, c3, c4, c5, c6] 34);have hp := row1_at (B := (w.heap.size + 2)) (Nat.le_trans HSZ1.out hg.size) k5;exact hK.out _ _ (Below.step hg hb) hp (fSt ⟨fun _ h => MadeAt.stay hb h, fun _ h => RowAt.stay hb h, fun _ h => h.elim fun sl hs => ⟨sl, hs.1, RowAt.stay hb hs.2⟩, trivial⟩)
 case s7 =>
  intro a w' hoff hg hdep K hK;obtain ⟨_, e2, rfl⟩ := hdep 2 _ 45 (by kernel_rfl) rfl rfl;obtain ⟨v6, e6, (g6 : RowAt (w.heap.size + 2) [fitAt x.args 0] w' v6)⟩ := hdep 6 _ 49 (by kernel_rfl) rfl rfl;obtain ⟨ra, rn, rc, rfl, k6⟩ := g6;have hp : ∃ sl, (.agg #[.int .i64 4, .string (varOf x.name), .slice ra rn rc] : Value) = .agg #[.int .i64 4, .string (varOf x.name), sl] ∧ RowAt (w.heap.size + 2) [fitAt x.args 0] w' sl := ⟨_, rfl, _, _, _, rfl, k6⟩;rw [if_pos (by rfl)];go_simp;exact hK.out _ _ hg hp (fun _ _ h => h)
 case last =>
  intro a w' hoff hg hf;obtain ⟨_, e0, rfl⟩ := hf 0 _ 43 (by decide) rfl rfl;obtain ⟨_, e1, rfl⟩ := hf 1 _ 44 (by decide) rfl rfl;obtain ⟨_, e2, rfl⟩ := hf 2 _ 45 (by decide) rfl rfl;obtain ⟨_, e3, rfl⟩ := hf 3 _ 46 (by decide) rfl rfl;obtain ⟨_, e4, rfl⟩ := hf 4 _ 47 (by decide) rfl rfl;obtain ⟨v5, e5, (g5 : MadeAt (w.heap.size + 2) (fitAt x.args 0) w' v5)⟩ := hf 5 _ 48 (by decide) rfl rfl;obtain ⟨v6, e6, (g6 : RowAt (w.heap.size + 2) [fitAt x.args 0] w' v6)⟩ := hf 6 _ 49 (by decide) rfl rfl;obtain ⟨v7, e7, (g7 : ∃ sl, v7 = .agg #[.int .i64 4, .string (varOf x.name), sl] ∧ RowAt (w.heap.size + 2) [fitAt x.args 0] w' sl)⟩ := hf 7 _ 50 (by decide) rfl rfl;obtain ⟨sl, rfl, ra, rn, rc, rfl, k9⟩ := g7;have R3 := Lib.hid (R1.out.on hg); have B3 := Lib.hid (Below.step B1.out hg)
  obtain ⟨r0, r1, r2⟩ := R3.out.cells;have z0 := frozen_of_row w' (w.heap.size + 1) 0 _ _ R3.out; have z1 := frozen_of_row w' (w.heap.size + 1) 1 _ _ R3.out; have z2 := frozen_of_row w' (w.heap.size + 1) 2 _ _ R3.out
  rw [if_pos (by rfl)];rw [hoff.sets [(43, .pointer (some ⟨w.heap.size, 1, none⟩)), (44, .string x.name), (45, .string (varOf x.name)), (46, .pointer (some ⟨w.heap.size, 2, none⟩)), (47, .slice ga x.args.length gc), (48, v5), (49, v6), (50, .agg #[.int .i64 4, .string (varOf x.name), .slice ra rn rc])] (by kernel_rfl) (by intro p hp; simp only [List.mem_cons, List.not_mem_nil, or_false] at hp; rcases hp with rfl | rfl | rfl | rfl | rfl | rfl | rfl | rfl <;> assumption)];clear hoff hf e0 e1 e2 e3 e4 e5 e6 e7;simp only [List.foldl_cons, List.foldl_nil, List.setIfInBounds_toArray, List.set_cons_zero, List.set_cons_succ]
  go_simp;go_wp2_with fail
  refine bodyPost_ret (v := .agg #[.int .i64 4, .string (varOf x.name), .slice ra rn rc]) (by simp [results, Tryz.results34, go_sem, r0, r1, r2]) rfl ?_;rw [HE.out];refine ⟨_, _, _, rfl, ⟨rfl, rfl, small64 (n := 4) (by omega), Nat.le_trans (varOf_size _) (by decide), RepMs.on (fun k hk => ⟨by omega, ?sz⟩) (fun k hk => ?eq) k9⟩, set3_below (b := w.heap.size + 1) B3.out (by omega) _ _ _⟩
  case sz =>
   show k < (set3 w' (w.heap.size + 1) _ _ _).heap.size
   rw [set3_size]; exact hk.2
  case eq =>
   exact set3_other w' (w.heap.size + 1) _ _ _ _ (by omega)
theorem fitLi_any (x : Li) (S : Nat → Prop) (w : World) (c0 c1 c2 : Value) (hS : ∀ k, S k → k < w.heap.size) (hx : RepLi S w x c0 c1 c2) :
  Calls Tryz.prog 34 #[.agg #[c0, c1, c2]] w (MadeLiF (fitLi x) w) := by
 have hb := pickZ_bd x.kind 4 (by omega)
 by_cases h0 : pickZ x.kind 4 = 0
 ·exact fitLi_0 x S w c0 c1 c2 hS hx h0
 by_cases h1 : pickZ x.kind 4 = 1
 ·exact fitLi_1 x S w c0 c1 c2 hS hx h1
 by_cases h2 : pickZ x.kind 4 = 2
 ·exact fitLi_2 x S w c0 c1 c2 hS hx h2
 ·exact fitLi_3 x S w c0 c1 c2 hS hx (by omega)
end Go.Proofs.YtjohcnhiblfbnaaGreat
