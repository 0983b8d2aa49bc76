/-
  Strata, CopyKit
-/
import Derived.Test.YtjmnnjikmmglpaaGreatKF23
import Derived.Test.YtjmnnjikmmglpaaGreatKF21
import Derived.Test.YtjmnnjikmmglpaaGreatKF22
import Derived.Test.YtjmnnjikmmglpaaGreatKF06
namespace Go.Proofs.YtjmnnjikmmglpaaGreat
open Go.RowKit Go.Maps
def NumV (B n : Nat) (l : List Stp) (w : World) (v : Value) : Prop := ∃ b f, v = .slice (some ⟨b, 0, none⟩) n n ∧ B ≤ b ∧ NumAt w b n f ∧ LeastN n l f
theorem NumV.on {B n : Nat} {l : List Stp} {w w' : World} {v : Value} (h : NumV B n l w v) (hb : Below w.heap.size w w') : NumV B n l w' v := by
 obtain ⟨b, f, e, h1, h2, h3⟩ := h;exact ⟨b, f, e, h1, h2.on hb, h3⟩
def NumT (B n : Nat) (l : List Stp) (w : World) (v : Value) : Prop := ∃ x, v = .tuple #[x, .bool true] ∧ NumV B n l w x
theorem NumT.on {B n : Nat} {l : List Stp} {w w' : World} {v : Value} (h : NumT B n l w v) (hb : Below w.heap.size w w') : NumT B n l w' v := by
 obtain ⟨x, e, h⟩ := h;exact ⟨x, e, h.on hb⟩
def StrataPost (p : Pr) (w : World) (e : Ending) (w' : World) : Prop :=
 Below w.heap.size w w' ∧ (((checkZ p).1 ≠ 0 ∧ e = .returned (.tuple #[.slice none 0 0, .int .i64 (checkZ p).1])) ∨
  ((checkZ p).1 = 0 ∧ (¬ ∃ g, Sol (prSteps p) g) ∧ e = .returned (.tuple #[.slice none 0 0, .int .i64 80])) ∨
  ((checkZ p).1 = 0 ∧ ∃ v, e = .returned (.tuple #[v, .int .i64 0]) ∧ NumV w.heap.size p.decls.length (prSteps p) w' v))
set_option maxRecDepth 100000 in
set_option maxHeartbeats 4000000 in
theorem strata_any (p : Pr) (S : Nat → Prop) (w : World) (c0 c1 c2 : Value) (hS : ∀ k, S k → k < w.heap.size) (hp : RepPr S w p c0 c1 c2) :
  Calls Tryz.prog 12 #[.agg #[c0, c1, c2]] w (StrataPost p w) := by
 have HP := Lib.hid hp; have HS := Lib.hid hS
 obtain ⟨f0, f1, rfl⟩ := SlG.form hp.1;obtain ⟨f2, f3, rfl⟩ := SlG.form hp.2.1;obtain ⟨f4, f5, rfl⟩ := SlG.form hp.2.2;clear hp hS;go_enter Tryz.func12, Tryz.ntmps12
 go_upto_region 1 with fail
 have x0 := boxPr_new w (.slice f0 p.decls.length f1) (.slice f2 p.facts.length f3) (.slice f4 p.rules.length f5);have d0 := below_alloc w (.cells #[.slice f0 p.decls.length f1, .slice f2 p.facts.length f3, .slice f4 p.rules.length f5] 28);generalize w.alloc (.cells #[.slice f0 p.decls.length f1, .slice f2 p.facts.length f3, .slice f4 p.rules.length f5] 28) = w1 at *;have X1 := Lib.hid x0; have B1 := Lib.hid d0
 have P1 := Lib.hid (RepPr.on (S' := fun k => k < w.heap.size) HS.out (fun k hk => d0.block k (HS.out k hk)) HP.out);clear x0 d0 HP HS;obtain ⟨p0, p1, p2⟩ := X1.out.cells;go_wp2_with fail
 refine (check_any p (fun k => k < w.heap.size) w1 _ _ _ (fun k hk => Nat.lt_of_lt_of_le hk B1.out.size) P1.out).mono ?_;rintro e w2 ⟨rfl, hb⟩;have X2 := Lib.hid (X1.out.on hb); have B2 := Lib.hid (Below.step B1.out hb)
 have P2 := Lib.hid (RepPr.on (fun _ h => h) (fun k (hk : k < w.heap.size) => hb.block k (Nat.lt_of_lt_of_le hk B1.out.size)) P1.out);clear hb p0 p1 p2 X1 B1 P1
 cases hc : ((checkZ p).1 == 0) with
 | false =>
  have HC : Hid ((checkZ p).1 ≠ 0) := by show _ ≠ _; simpa using hc
  go_wp2_with fail
  go_ret2
  exact ⟨B2.out, .inl ⟨HC.out, rfl⟩⟩
 | true =>
  have HC : Hid ((checkZ p).1 = 0) := by show _ = _; simpa using hc
  have HDN : Hid (p.decls.length ≤ 64) := by
   have h1 := (check_zero HC.out).1;rw [prB] at h1;simp only [Bool.and_eq_true] at h1
   have a := (listB_bounds h1.1).2.1
   show _ ≤ _; omega
  have HPL := Lib.hid (prSteps_le (check_zero HC.out).1);go_wp2_with fail
  clear hc
  by_cases hsol : ∃ g, Sol (prSteps p) g
  ·
   have HSOL := Lib.hid hsol;clear hsol;refine wp_region_factsU (by rfl) 28 (by rfl) (by kernel_rfl) (FA [.e (.pointer (some ⟨w.heap.size, 0, none⟩)), .e (.slice f0 p.decls.length f1), .e (.int .i64 (p.decls.length : Int)), .e (.agg #[.slice f0 p.decls.length f1, .slice f2 p.facts.length f3, .slice f4 p.rules.length f5]), .p (fun wz vz => StOwn wz w2.heap.size (prSteps p) vz), .p (fun wz vz => NumT w2.heap.size p.decls.length (prSteps p) wz vz), .p (fun wz vz => NumT w2.heap.size p.decls.length (prSteps p) wz vz), .p (fun wz vz => NumV w2.heap.size p.decls.length (prSteps p) wz vz), .e (.bool true), .p (fun wz vz => NumV w2.heap.size p.decls.length (prSteps p) wz vz), .e (.bool true)]) (fun w' => Below w2.heap.size w2 w') (Below.drew (Below.refl _ _)) ⟨?s0, ?s1, ?s2, ?s3, ?s4, ?s5, ?s6, ?s7, ?s8, ?s9, ?s10, trivial⟩ ?fin
   case s0 =>
    intro a w' hoff hg hdep K hK;have h1 := off_at hoff 1 (v := .pointer (some ⟨w.heap.size, 0, none⟩)) (by kernel_rfl) rfl;rw [if_pos (by rfl)];go_simp;exact hK.out _ _ hg rfl (fun _ _ h => h)
   case s1 =>
    intro a w' hoff hg hdep K hK;obtain ⟨_, e0, rfl⟩ := hdep 0 _ 17 (by kernel_rfl) rfl rfl;rw [if_pos (by rfl)];obtain ⟨p0, p1, p2⟩ := (X2.out.on hg).cells;go_simp;exact hK.out _ _ hg rfl (fun _ _ h => h)
   case s2 =>
    intro a w' hoff hg hdep K hK;obtain ⟨_, e1, rfl⟩ := hdep 1 _ 18 (by kernel_rfl) rfl rfl;rw [if_pos (by rfl)];go_simp;exact hK.out _ _ hg rfl (fun _ _ h => h)
   case s3 =>
    intro a w' hoff hg hdep K hK;have h1 := off_at hoff 1 (v := .pointer (some ⟨w.heap.size, 0, none⟩)) (by kernel_rfl) rfl;rw [if_pos (by rfl)];obtain ⟨p0, p1, p2⟩ := (X2.out.on hg).cells;go_simp;exact hK.out _ _ hg rfl (fun _ _ h => h)
   case s4 =>
    intro a w' hoff hg hdep K hK;obtain ⟨_, e3, rfl⟩ := hdep 3 _ 20 (by kernel_rfl) rfl rfl;rw [if_pos (by rfl)];go_simp;refine (steps_any p (fun k => k < w.heap.size) w' _ _ _ (fun k hk => Nat.lt_of_lt_of_le hk (Nat.le_trans B2.out.size hg.size)) (RepPr.on (fun _ h => h) (fun k (hk : k < w.heap.size) => hg.block k (Nat.lt_of_lt_of_le hk B2.out.size)) P2.out) HC.out).mono ?_;rintro e w3 ⟨v, rfl, hown, hb⟩;exact hK.out _ _ (Below.step hg hb) (hown.down hg.size) (fSt ⟨fun _ h => StOwn.on h hb, fun _ h => NumT.on h hb, fun _ h => NumT.on h hb, fun _ h => NumV.on h hb, fun _ h => NumV.on h hb, trivial⟩)
   case s5 =>
    intro a w' hoff hg hdep K hK;obtain ⟨_, e2, rfl⟩ := hdep 2 _ 19 (by kernel_rfl) rfl rfl;obtain ⟨v4, e4, (g4 : StOwn w' w2.heap.size (prSteps p) v4)⟩ := hdep 4 _ 21 (by kernel_rfl) rfl rfl;rw [if_pos (by rfl)];go_simp;refine (least_any (prSteps p) p.decls.length (fun k => k < w'.heap.size) w' _ (fun _ h => h) (SlG.on (fun _ h => h.2) (fun _ _ => rfl) (fun _ _ _ h => h) (g4.at (Nat.le_trans HPL.out (by omega)))) (steps_inside HC.out) (Nat.le_trans HDN.out (by omega)) (Nat.le_trans HPL.out (by omega))).mono ?_;rintro e w3 ⟨hb, ⟨b, f, rfl, h1, h2, h3⟩ | ⟨rfl, hno⟩⟩
    ·exact hK.out _ _ (Below.step hg hb) ⟨_, rfl, b, f, rfl, Nat.le_trans hg.size h1, h2, h3⟩ (fSt ⟨fun _ h => StOwn.on h hb, fun _ h => NumT.on h hb, fun _ h => NumT.on h hb, fun _ h => NumV.on h hb, fun _ h => NumV.on h hb, trivial⟩)
    ·exact absurd HSOL.out hno
   case s6 =>
    intro a w' hoff hg hdep K hK;obtain ⟨v5, e5, (g5 : NumT w2.heap.size p.decls.length (prSteps p) w' v5)⟩ := hdep 5 _ 22 (by kernel_rfl) rfl rfl;rw [if_pos (by rfl)];go_simp;exact hK.out _ _ hg g5 (fun _ _ h => h)
   case s7 =>
    intro a w' hoff hg hdep K hK;obtain ⟨v6, e6, (g6 : NumT w2.heap.size p.decls.length (prSteps p) w' v6)⟩ := hdep 6 _ 16 (by kernel_rfl) rfl rfl;rw [if_pos (by rfl)];obtain ⟨x, rfl, hx⟩ := g6;go_simp;exact hK.out _ _ hg hx (fun _ _ h => h)
   case s8 =>
    intro a w' hoff hg hdep K hK;obtain ⟨v6, e6, (g6 : NumT w2.heap.size p.decls.length (prSteps p) w' v6)⟩ := hdep 6 _ 16 (by kernel_rfl) rfl rfl;rw [if_pos (by rfl)];obtain ⟨x, rfl, hx⟩ := g6;go_simp;exact hK.out _ _ hg rfl (fun _ _ h => h)
   case s9 =>
    intro a w' hoff hg hdep K hK;obtain ⟨v7, e7, (g7 : NumV w2.heap.size p.decls.length (prSteps p) w' v7)⟩ := hdep 7 _ 23 (by kernel_rfl) rfl rfl;rw [if_pos (by rfl)];go_simp;exact hK.out _ _ hg g7 (fun _ _ h => h)
   case s10 =>
    intro a w' hoff hg hdep K hK;obtain ⟨_, e8, rfl⟩ := hdep 8 _ 24 (by kernel_rfl) rfl rfl;rw [if_pos (by rfl)];go_simp;exact hK.out _ _ hg rfl (fun _ _ h => h)
   case fin =>
    intro a w' hoff hg hf hn;obtain ⟨_, e0, rfl⟩ := hf 0 _ 17 rfl rfl;obtain ⟨_, e1, rfl⟩ := hf 1 _ 18 rfl rfl;obtain ⟨_, e2, rfl⟩ := hf 2 _ 19 rfl rfl;obtain ⟨_, e3, rfl⟩ := hf 3 _ 20 rfl rfl;obtain ⟨v4, e4, (g4 : StOwn w' w2.heap.size (prSteps p) v4)⟩ := hf 4 _ 21 rfl rfl;obtain ⟨v5, e5, (g5 : NumT w2.heap.size p.decls.length (prSteps p) w' v5)⟩ := hf 5 _ 22 rfl rfl;obtain ⟨v6, e6, (g6 : NumT w2.heap.size p.decls.length (prSteps p) w' v6)⟩ := hf 6 _ 16 rfl rfl;obtain ⟨v7, e7, (g7 : NumV w2.heap.size p.decls.length (prSteps p) w' v7)⟩ := hf 7 _ 23 rfl rfl;obtain ⟨_, e8, rfl⟩ := hf 8 _ 24 rfl rfl;obtain ⟨v9, e9, (g9 : NumV w2.heap.size p.decls.length (prSteps p) w' v9)⟩ := hf 9 _ 6 rfl rfl;obtain ⟨_, e10, rfl⟩ := hf 10 _ 7 rfl rfl;rw [hoff.sets [(17, .pointer (some ⟨w.heap.size, 0, none⟩)), (18, .slice f0 p.decls.length f1), (19, .int .i64 (p.decls.length : Int)), (20, .agg #[.slice f0 p.decls.length f1, .slice f2 p.facts.length f3, .slice f4 p.rules.length f5]), (21, v4), (22, v5), (16, v6), (23, v7), (24, .bool true), (6, v9), (7, .bool true)] (by kernel_rfl) (by intro p hp; simp only [List.mem_cons, List.not_mem_nil, or_false] at hp; rcases hp with rfl | rfl | rfl | rfl | rfl | rfl | rfl | rfl | rfl | rfl | rfl <;> assumption)];clear hoff hf hn e0 e1 e2 e3 e4 e5 e6 e7 e8 e9 e10;simp only [List.foldl_cons, List.foldl_nil, List.setIfInBounds_toArray, List.set_cons_zero, List.set_cons_succ]
    have HN : Hid (NumV w2.heap.size p.decls.length (prSteps p) w' v9) := Lib.hid g9;have HB := Lib.hid (Below.step B2.out hg);clear g4 g5 g6 g7 g9 hg;go_wp2_with fail
    go_ret2
    obtain ⟨b, f, e, h1, h2, h3⟩ := HN.out;exact ⟨HB.out, .inr (.inr ⟨HC.out, _, rfl, b, f, e, Nat.le_trans B2.out.size h1, h2, h3⟩)⟩
  ·
   have HSOL := Lib.hid hsol;clear hsol;refine wp_region_factsU (by rfl) 28 (by rfl) (by kernel_rfl) (FA [.e (.pointer (some ⟨w.heap.size, 0, none⟩)), .e (.slice f0 p.decls.length f1), .e (.int .i64 (p.decls.length : Int)), .e (.agg #[.slice f0 p.decls.length f1, .slice f2 p.facts.length f3, .slice f4 p.rules.length f5]), .p (fun wz vz => StOwn wz w2.heap.size (prSteps p) vz), .e (.tuple #[.slice none 0 0, .bool false]), .e (.tuple #[.slice none 0 0, .bool false]), .e (.slice none 0 0), .e (.bool false), .e (.slice none 0 0), .e (.bool false)]) (fun w' => Below w2.heap.size w2 w') (Below.drew (Below.refl _ _)) ⟨?t0, ?t1, ?t2, ?t3, ?t4, ?t5, ?t6, ?t7, ?t8, ?t9, ?t10, trivial⟩ ?fin2
   case t0 =>
    intro a w' hoff hg hdep K hK;have h1 := off_at hoff 1 (v := .pointer (some ⟨w.heap.size, 0, none⟩)) (by kernel_rfl) rfl;rw [if_pos (by rfl)];go_simp;exact hK.out _ _ hg rfl (fun _ _ h => h)
   case t1 =>
    intro a w' hoff hg hdep K hK;obtain ⟨_, e0, rfl⟩ := hdep 0 _ 17 (by kernel_rfl) rfl rfl;rw [if_pos (by rfl)];obtain ⟨p0, p1, p2⟩ := (X2.out.on hg).cells;go_simp;exact hK.out _ _ hg rfl (fun _ _ h => h)
   case t2 =>
    intro a w' hoff hg hdep K hK;obtain ⟨_, e1, rfl⟩ := hdep 1 _ 18 (by kernel_rfl) rfl rfl;rw [if_pos (by rfl)];go_simp;exact hK.out _ _ hg rfl (fun _ _ h => h)
   case t3 =>
    intro a w' hoff hg hdep K hK;have h1 := off_at hoff 1 (v := .pointer (some ⟨w.heap.size, 0, none⟩)) (by kernel_rfl) rfl;rw [if_pos (by rfl)];obtain ⟨p0, p1, p2⟩ := (X2.out.on hg).cells;go_simp;exact hK.out _ _ hg rfl (fun _ _ h => h)
   case t4 =>
    intro a w' hoff hg hdep K hK;obtain ⟨_, e3, rfl⟩ := hdep 3 _ 20 (by kernel_rfl) rfl rfl;rw [if_pos (by rfl)];go_simp;refine (steps_any p (fun k => k < w.heap.size) w' _ _ _ (fun k hk => Nat.lt_of_lt_of_le hk (Nat.le_trans B2.out.size hg.size)) (RepPr.on (fun _ h => h) (fun k (hk : k < w.heap.size) => hg.block k (Nat.lt_of_lt_of_le hk B2.out.size)) P2.out) HC.out).mono ?_;rintro e w3 ⟨v, rfl, hown, hb⟩;exact hK.out _ _ (Below.step hg hb) (hown.down hg.size) (fSt ⟨fun _ h => StOwn.on h hb, trivial⟩)
   case t5 =>
    intro a w' hoff hg hdep K hK;obtain ⟨_, e2, rfl⟩ := hdep 2 _ 19 (by kernel_rfl) rfl rfl;obtain ⟨v4, e4, (g4 : StOwn w' w2.heap.size (prSteps p) v4)⟩ := hdep 4 _ 21 (by kernel_rfl) rfl rfl;rw [if_pos (by rfl)];go_simp;refine (least_any (prSteps p) p.decls.length (fun k => k < w'.heap.size) w' _ (fun _ h => h) (SlG.on (fun _ h => h.2) (fun _ _ => rfl) (fun _ _ _ h => h) (g4.at (Nat.le_trans HPL.out (by omega)))) (steps_inside HC.out) (Nat.le_trans HDN.out (by omega)) (Nat.le_trans HPL.out (by omega))).mono ?_;rintro e w3 ⟨hb, ⟨b, f, rfl, h1, h2, h3⟩ | ⟨rfl, hno⟩⟩
    ·exact absurd ⟨f, h3.1⟩ HSOL.out
    ·exact hK.out _ _ (Below.step hg hb) rfl (fSt ⟨fun _ h => StOwn.on h hb, trivial⟩)
   case t6 =>
    intro a w' hoff hg hdep K hK;obtain ⟨_, e5, rfl⟩ := hdep 5 _ 22 (by kernel_rfl) rfl rfl;rw [if_pos (by rfl)];go_simp;exact hK.out _ _ hg rfl (fun _ _ h => h)
   case t7 =>
    intro a w' hoff hg hdep K hK;obtain ⟨_, e6, rfl⟩ := hdep 6 _ 16 (by kernel_rfl) rfl rfl;rw [if_pos (by rfl)];go_simp;exact hK.out _ _ hg rfl (fun _ _ h => h)
   case t8 =>
    intro a w' hoff hg hdep K hK;obtain ⟨_, e6, rfl⟩ := hdep 6 _ 16 (by kernel_rfl) rfl rfl;rw [if_pos (by rfl)];go_simp;exact hK.out _ _ hg rfl (fun _ _ h => h)
   case t9 =>
    intro a w' hoff hg hdep K hK;obtain ⟨_, e7, rfl⟩ := hdep 7 _ 23 (by kernel_rfl) rfl rfl;rw [if_pos (by rfl)];go_simp;exact hK.out _ _ hg rfl (fun _ _ h => h)
   case t10 =>
    intro a w' hoff hg hdep K hK;obtain ⟨_, e8, rfl⟩ := hdep 8 _ 24 (by kernel_rfl) rfl rfl;rw [if_pos (by rfl)];go_simp;exact hK.out _ _ hg rfl (fun _ _ h => h)
   case fin2 =>
    intro a w' hoff hg hf hn;obtain ⟨_, e0, rfl⟩ := hf 0 _ 17 rfl rfl;obtain ⟨_, e1, rfl⟩ := hf 1 _ 18 rfl rfl;obtain ⟨_, e2, rfl⟩ := hf 2 _ 19 rfl rfl;obtain ⟨_, e3, rfl⟩ := hf 3 _ 20 rfl rfl;obtain ⟨v4, e4, (g4 : StOwn w' w2.heap.size (prSteps p) v4)⟩ := hf 4 _ 21 rfl rfl;obtain ⟨_, e5, rfl⟩ := hf 5 _ 22 rfl rfl;obtain ⟨_, e6, rfl⟩ := hf 6 _ 16 rfl rfl;obtain ⟨_, e7, rfl⟩ := hf 7 _ 23 rfl rfl;obtain ⟨_, e8, rfl⟩ := hf 8 _ 24 rfl rfl;obtain ⟨_, e9, rfl⟩ := hf 9 _ 6 rfl rfl;obtain ⟨_, e10, rfl⟩ := hf 10 _ 7 rfl rfl;rw [hoff.sets [(17, .pointer (some ⟨w.heap.size, 0, none⟩)), (18, .slice f0 p.decls.length f1), (19, .int .i64 (p.decls.length : Int)), (20, .agg #[.slice f0 p.decls.length f1, .slice f2 p.facts.length f3, .slice f4 p.rules.length f5]), (21, v4), (22, .tuple #[.slice none 0 0, .bool false]), (16, .tuple #[.slice none 0 0, .bool false]), (23, .slice none 0 0), (24, .bool false), (6, .slice none 0 0), (7, .bool false)] (by kernel_rfl) (by intro p hp; simp only [List.mem_cons, List.not_mem_nil, or_false] at hp; rcases hp with rfl | rfl | rfl | rfl | rfl | rfl | rfl | rfl | rfl | rfl | rfl <;> assumption)];clear hoff hf hn e0 e1 e2 e3 e4 e5 e6 e7 e8 e9 e10;simp only [List.foldl_cons, List.foldl_nil, List.setIfInBounds_toArray, List.set_cons_zero, List.set_cons_succ]
    have HB := Lib.hid (Below.step B2.out hg);clear g4 hg;go_wp2_with fail
    go_ret2
    exact ⟨HB.out, .inr (.inl ⟨HC.out, HSOL.out, rfl⟩)⟩
end Go.Proofs.YtjmnnjikmmglpaaGreat
namespace Go.Proofs.YtjmnnjikmmglpaaGreat
open Go.RowKit
def putCells (w : World) (g : Nat) : Nat → List Value → World
 | _, [] => w
 | o, v :: l => putCells (w.setCell ⟨g, o, none⟩ v) g (o + 1) l
theorem putCells_other (g : Nat) (b : Nat) (h : b ≠ g) : ∀ (l : List Value) (w : World) (o : Nat), (putCells w g o l).heap[b]? = w.heap[b]?
 | [], _, _ => rfl
 | v :: l, w, o => by rw [putCells, putCells_other g b h l]; exact Below.heap_setCell _ _ _ _ (by simpa using h)
theorem putCells_size (g : Nat) : ∀ (l : List Value) (w : World) (o : Nat), (putCells w g o l).heap.size = w.heap.size
 | [], _, _ => rfl
 | v :: l, w, o => by rw [putCells, putCells_size g l]; simp [World.setCell]
theorem putCells_below (B g : Nat) (hB : B ≤ g) {w0 : World} : ∀ (l : List Value) (w : World) (o : Nat), Below B w0 w → Below B w0 (putCells w g o l)
 | [], _, _, h => h
 | v :: l, _w, o, h => putCells_below B g hB l _ _ (Below.setCell (p := ⟨g, o, none⟩) h hB v)
theorem putCells_same (g : Nat) (t : TypeId) : ∀ (l : List Value) (w : World) (o : Nat) (cs : Array Value), w.heap[g]? = some (.cells cs t (0, 0)) → o + l.length ≤ cs.size →
  ∃ cs' : Array Value, (putCells w g o l).heap[g]? = some (.cells cs' t (0, 0)) ∧ cs'.size = cs.size ∧ (∀ j, j < l.length → cs'[o + j]? = l[j]?) ∧ ∀ j, (j < o ∨ o + l.length ≤ j) → cs'[j]? = cs[j]?
 | [], w, o, cs, h, _ => ⟨cs, h, rfl, fun j hj => by simp at hj, fun _ _ => rfl⟩
 | v :: l, w, o, cs, h, hl => by
  simp only [List.length_cons] at hl
  obtain ⟨cs', h1, h2, h3, h4⟩ := putCells_same g t l (w.setCell ⟨g, o, none⟩ v) (o + 1) (cs.setIfInBounds o v) (heap_setCell_same _ _ _ _ _ _ h) (by rw [Array.size_setIfInBounds]; omega);refine ⟨cs', h1, by rw [h2, Array.size_setIfInBounds], fun j hj => ?_, fun j hj => ?_⟩
  ·cases j with
   | zero => rw [Nat.add_zero, h4 o (.inl (by omega)), Array.getElem?_setIfInBounds, if_pos rfl, if_pos (by omega)]; rfl
   | succ j =>
    simp only [List.length_cons] at hj
    rw [show o + (j + 1) = o + 1 + j by omega, h3 j (by omega)]; rfl
  ·simp only [List.length_cons] at hj
   rw [h4 j (by omega), Array.getElem?_setIfInBounds, if_neg (by omega)]
theorem putCells_all {w : World} {g : Nat} {cs : Array Value} {t : TypeId} {vs : List Value} (h : w.heap[g]? = some (.cells cs t (0, 0))) (hn : cs.size = vs.length) : (putCells w g 0 vs).heap[g]? = some (.cells vs.toArray t (0, 0)) := by
 obtain ⟨cs', e1, e2, e3, -⟩ := putCells_same g t vs w 0 cs h (by omega);rw [e1]
 have : cs' = vs.toArray := by
  apply Array.ext_getElem?
  intro i
  by_cases hi : i < vs.length
  ·have := e3 i hi
   rw [Nat.zero_add] at this;rw [this]; simp
  ·rw [Array.getElem?_eq_none (by omega)]; simp; omega
 rw [this]
section
variable {α : Type} {K : Kd α}
def EachAt (K : Kd α) (S : Nat → Prop) (B g : Nat) (l : List α) (i : Nat) (w : World) : Prop :=
 ∃ cs : Array Value, w.heap[g]? = some (.cells cs K.T (0, 0)) ∧ l.length * K.n ≤ cs.size ∧
  ∀ j (h : j < l.length), ∃ c : Nat → Value, (∀ t, t < K.n → cs[j * K.n + t]? = some (c t)) ∧ K.R (fun b => if j < i then B ≤ b ∧ b < w.heap.size ∧ b ≠ g else S b) w l[j] c
theorem EachAt.lt {S : Nat → Prop} {B g : Nat} {l : List α} {i : Nat} {w : World} (h : EachAt K S B g l i w) : g < w.heap.size := by
 obtain ⟨cs, h, -⟩ := h;exact (Array.getElem?_eq_some_iff.1 h).1
theorem EachAt.on {S : Nat → Prop} {B g : Nat} {l : List α} {i : Nat} {w w' : World} (h : EachAt K S B g l i w) (hS : ∀ b, S b → b < w.heap.size) (hb : Below w.heap.size w w') : EachAt K S B g l i w' := by
 have hl := h.lt;obtain ⟨cs, h1, h2, h3⟩ := h;refine ⟨cs, (hb.block g hl).trans h1, h2, fun j hj => ?_⟩;obtain ⟨c, h4, h5⟩ := h3 j hj;refine ⟨c, h4, K.on (fun b hb' => ?_) (fun b hb' => hb.block b ?_) h5⟩
 ·split at hb'
  ·next hji => rw [if_pos hji]; exact ⟨hb'.1, Nat.lt_of_lt_of_le hb'.2.1 hb.size, hb'.2.2⟩
  ·next hji => rw [if_neg hji]; exact hb'
 ·split at hb'
  ·exact hb'.2.1
  ·exact hS b hb'
theorem EachAt.load {S : Nat → Prop} {B g : Nat} {l : List α} {i : Nat} {w : World} (h : EachAt K S B g l i w) (hi : i < l.length) :
  ∃ c : Nat → Value, (∀ t, t < K.n → w.cell? ⟨g, i * K.n + t, none⟩ = some (c t)) ∧ K.R S w l[i] c := by
 obtain ⟨cs, h1, h2, h3⟩ := h;obtain ⟨c, h4, h5⟩ := h3 i hi;exact ⟨c, fun t ht => cell_of_block' h1 _ (h4 t ht), K.on (fun b hb => by rw [if_neg (Nat.lt_irrefl _)] at hb; exact hb) (fun _ _ => rfl) h5⟩
theorem EachAt.frozen {S : Nat → Prop} {B g : Nat} {l : List α} {i : Nat} {w : World} (h : EachAt K S B g l i w) (k : Nat) : w.frozen? ⟨g, k, none⟩ = false := by
 obtain ⟨cs, h1, -⟩ := h;exact frozen_of_row w g k _ _ h1
theorem EachAt.put {S : Nat → Prop} {B g : Nat} {l : List α} {i : Nat} {w : World} (h : EachAt K S B g l i w) (hi : i < l.length) (hS : ∀ b, S b → b ≠ g) {c' : Nat → Value} (hR : K.R (fun b => B ≤ b ∧ b < w.heap.size ∧ b ≠ g) w l[i] c') {vs : List Value} (hn : vs.length = K.n) (hv : ∀ t, t < K.n → vs[t]? = some (c' t)) :
  EachAt K S B g l (i + 1) (putCells w g (i * K.n) vs) := by
 obtain ⟨cs, h1, h2, h3⟩ := h;have hm : (i + 1) * K.n ≤ l.length * K.n := Nat.mul_le_mul_right _ hi;rw [Nat.succ_mul] at hm;obtain ⟨cs', e1, e2, e3, e4⟩ := putCells_same g K.T vs w (i * K.n) cs h1 (by omega);have hsz := putCells_size g vs w (i * K.n);refine ⟨cs', e1, by omega, fun j hj => ?_⟩
 by_cases he : j = i
 ·subst he
  refine ⟨c', fun t ht => by rw [e3 t (by omega)]; exact hv t ht, K.on (fun b hb => ?_) (fun b hb => putCells_other g b hb.2.2 _ _ _) hR⟩;rw [if_pos (by omega), hsz]; exact hb
 ·obtain ⟨c, h4, h5⟩ := h3 j hj
  refine ⟨c, fun t ht => ?_, K.on (fun b hb => ?_) (fun b hb => putCells_other g b ?_ _ _ _) h5⟩
  ·rw [e4 (j * K.n + t) ?_]
   ·exact h4 t ht
   ·rcases Nat.lt_or_gt_of_ne he with hlt | hgt
    ·have : (j + 1) * K.n ≤ i * K.n := Nat.mul_le_mul_right _ hlt
     rw [Nat.succ_mul] at this; omega
    ·have : (i + 1) * K.n ≤ j * K.n := Nat.mul_le_mul_right _ hgt
     rw [Nat.succ_mul] at this; omega
  ·by_cases hji : j < i
   ·rw [if_pos (by omega), hsz]; rw [if_pos hji] at hb; exact hb
   ·rw [if_neg (by omega)]; rw [if_neg hji] at hb; exact hb
  ·split at hb
   ·exact hb.2.2
   ·exact hS b hb
theorem EachAt.done {S : Nat → Prop} {B g cap : Nat} {l : List α} {w : World} (h : EachAt K S B g l l.length w) (hB : B ≤ g) (hcap : l.length ≤ cap) (hby : l.length * K.bytes ≤ 140737488355328) : SlG (fun b => B ≤ b ∧ b < w.heap.size) w K.n K.bytes (K.R (fun b => B ≤ b ∧ b < w.heap.size) w) l (.slice (some ⟨g, 0, none⟩) l.length cap) := by
 have hl := h.lt;obtain ⟨cs, h1, h2, h3⟩ := h;refine ⟨_, g, 0, cap, rfl, hcap, hby, fun _ => rfl, fun _ => ⟨hB, hl⟩, fun i hi => ?_⟩;obtain ⟨c, h4, h5⟩ := h3 i hi;exact ⟨c, fun t ht => by rw [Nat.zero_add]; exact cell_of_block' h1 _ (h4 t ht), K.on (fun b hb => by rw [if_pos hi] at hb; exact ⟨hb.1, hb.2.1⟩) (fun _ _ => rfl) h5⟩
def CloneR (K : Kd α) (S : Nat → Prop) (l : List α) (w : World) (e : Ending) (w' : World) : Prop :=
 Below w.heap.size w w' ∧ ((l = [] ∧ ∃ a c, e = .returned (.slice a 0 c) ∧ (0 < c → ∃ g, a = some ⟨g, 0, none⟩)) ∨ ∃ g c, e = .returned (.slice (some ⟨g, 0, none⟩) l.length c) ∧ l.length ≤ c ∧ w.heap.size ≤ g ∧ EachAt K S w.heap.size g l 0 w')
theorem clone_each {S : Nat → Prop} {l : List α} {w w' : World} {v : Value} (h : OwnK K S w' w.heap.size l v) (hb : Below w.heap.size w w') : CloneR K S l w (.returned v) w' := by
 obtain ⟨xs, ⟨hlen, hown⟩, hr⟩ := h;refine ⟨hb, ?_⟩;rcases hown with ⟨rfl, hn⟩ | ⟨g, cap, cur, rfl, hbg, hh, hnc, hcm, hcs, htk⟩
 ·exact .inl ⟨List.length_eq_zero_iff.1 hn, none, 0, rfl, fun h => by omega⟩
 ·refine .inr ⟨g, cap, rfl, hnc, hbg, cur, hh, ?_, fun j hj => ?_⟩
  ·rw [hcs]; exact Nat.mul_le_mul_right _ hnc
  ·obtain ⟨c, hc, hR⟩ := hr j hj
   refine ⟨c, fun t ht => ?_, K.on (fun b hb => by rw [if_neg (Nat.not_lt_zero _)]; exact hb) (fun _ _ => rfl) hR⟩;have h1 := hc t ht;rw [← htk, List.getElem?_take] at h1
   have hlt : j * K.n + t < l.length * K.n := by
    have : (j + 1) * K.n ≤ l.length * K.n := Nat.mul_le_mul_right _ hj;rw [Nat.succ_mul] at this; omega
   rw [if_pos hlt] at h1;rw [← Array.getElem?_toList]; exact h1
def CopyL (K : Kd α) (l : List α) (w : World) (e : Ending) (w' : World) : Prop :=
 ∃ v, e = .returned v ∧ SlG (fun b => w.heap.size ≤ b ∧ b < w'.heap.size) w' K.n K.bytes (K.R (fun b => w.heap.size ≤ b ∧ b < w'.heap.size) w') l v ∧ Below w.heap.size w w'
def CopyE (K : Kd α) (x : α) (w : World) (e : Ending) (w' : World) : Prop :=
 ∃ vs : List Value, e = .returned (.agg vs.toArray) ∧ vs.length = K.n ∧ K.R (fun b => w.heap.size ≤ b ∧ b < w'.heap.size) w' x (fun t => vs.getD t undef) ∧ Below w.heap.size w w'
end
end Go.Proofs.YtjmnnjikmmglpaaGreat
