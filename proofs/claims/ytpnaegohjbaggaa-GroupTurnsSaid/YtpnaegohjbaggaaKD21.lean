/-
  GrAwake, TermBoxM, RowKit, RawSix, PickSix
-/
import Derived.Test.YtpnaegohjbaggaaKD20
import Derived.Test.YtpnaegohjbaggaaKD18
import Derived.Test.YtpnaegohjbaggaaKD01
import Derived.Test.YtpnaegohjbaggaaKD19
namespace Go.Proofs.Ytpnaegohjbaggaa
open Go.RowKit
def Str3 (w : World) (v : Value) : Prop := ∃ b, v = .slice (some ⟨b, 0, none⟩) 3 3 ∧ w.heap[b]? = some (.cells #[.string sMin, .string sMax, .string sCount] 9 (0, 0))
theorem aggs11_any (w : World) : Calls Try.prog 18 #[] w fun e w' => ∃ v, e = .returned v ∧ Str3 w' v ∧ Below w.heap.size w w' := by
 go_enter Try.func18, Try.ntmps18
 go_wp2_with fail
 go_ret
 exact ⟨_, rfl, ⟨_, rfl, alloc_new' _ _⟩, below_alloc _ _⟩
theorem addr11_any (s : ByteArray) (w : World) : Calls Try.prog 31 #[.string s] w fun e w' => e = .returned (.agg #[.int .i64 3, .int .i64 0, .string s, .slice none 0 0]) ∧ Below w.heap.size w w' := by
 go_enter Try.func31, Try.ntmps31
 go_wp2
 exact bodyPost_ret (v := .agg #[.int .i64 3, .int .i64 0, .string s, .slice none 0 0]) (by simp [results, Try.results31, go_sem]) rfl ⟨rfl, (Below.refl _ _).alloc (Nat.le_refl _) _⟩
def ArgsP (l : List V) (w : World) (v : Value) : Prop := ∃ a c, v = .slice a l.length c ∧ RepLG (fun k => k < w.heap.size) w l (.slice a l.length c)
theorem ArgsP.on {l : List V} {w w' : World} {v : Value} (h : ArgsP l w v) (hb : Below w.heap.size w w') : ArgsP l w' v := by
 obtain ⟨a, c, e, h⟩ := h;exact ⟨a, c, e, RepLG.on (fun k hk => Nat.lt_of_lt_of_le hk hb.size) (fun k hk => hb.block k hk) h⟩
def RowP (n s : Int) (w : World) (v : Value) : Prop := ∃ a c, v = .agg #[.string ⟨#[112]⟩, .slice a 2 c, .int .i64 s] ∧ RepRo (fun k => k < w.heap.size) w (xRo n s) (.string ⟨#[112]⟩) (.slice a 2 c) (.int .i64 s)
theorem RowP.on {n s : Int} {w w' : World} {v : Value} (h : RowP n s w v) (hb : Below w.heap.size w w') : RowP n s w' v := by
 obtain ⟨a, c, e, h⟩ := h;exact ⟨a, c, e, RepRo.on (fun k hk => Nat.lt_of_lt_of_le hk hb.size) (fun k hk => hb.block k hk) h⟩
def RosP (l : List Ro) (w : World) (v : Value) : Prop := SlG (fun k => k < w.heap.size) w kdRo.n kdRo.bytes (kdRo.R (fun k => k < w.heap.size) w) l v
theorem RosP.on {l : List Ro} {w w' : World} {v : Value} (h : RosP l w v) (hb : Below w.heap.size w w') : RosP l w' v :=
 SlG.on (fun _k hk => Nat.lt_of_lt_of_le hk hb.size) (fun k hk => hb.block k hk) (fun _ _ _ h => kdRo.on (fun _k hk => Nat.lt_of_lt_of_le hk hb.size) (fun k hk => hb.block k hk) h) h
theorem RosP.of {l : List Ro} {S : Nat → Prop} {w : World} {v : Value} (h : SlG S w kdRo.n kdRo.bytes (kdRo.R S w) l v) (hS : ∀ k, S k → k < w.heap.size) : RosP l w v :=
 SlG.on hS (fun _ _ => rfl) (fun _ _ _ h => kdRo.on hS (fun _ _ => rfl) h) h
theorem rowVs11 {S : Nat → Prop} {w : World} {b : Nat} {cs : Array Value} {t : TypeId} {fz : Nat × Nat} {l : List V} {n : Nat} (hb : w.heap[b]? = some (.cells cs t fz)) (hS : S b) (hn : n = l.length) (hl : l.length * 56 ≤ 140737488355328)
  (h : ∀ i (hi : i < l.length), ∃ c : Nat → Value, (∀ j, j < 4 → cs[i * 4 + j]? = some (c j)) ∧ RepG S w l[i] (c 0) (c 1) (c 2) (c 3)) : RepLG S w l (.slice (some ⟨b, 0, none⟩) n n) := by
 subst hn;refine lg_of_slg ⟨_, b, 0, l.length, rfl, Nat.le_refl _, hl, fun _ => rfl, fun _ => hS, fun i hi => ?_⟩;obtain ⟨c, h1, h2⟩ := h i hi;exact ⟨c, fun j hj => by rw [Nat.zero_add]; exact cell_of_block' hb _ (h1 j hj), h2⟩
theorem rowRos {S : Nat → Prop} {w : World} {b : Nat} {cs : Array Value} {t : TypeId} {fz : Nat × Nat} {l : List Ro} {n : Nat} (hb : w.heap[b]? = some (.cells cs t fz)) (hS : S b) (hn : n = l.length) (hl : l.length * 48 ≤ 140737488355328)
  (h : ∀ i (hi : i < l.length), ∃ c : Nat → Value, (∀ j, j < 3 → cs[i * 3 + j]? = some (c j)) ∧ RepRo S w l[i] (c 0) (c 1) (c 2)) : SlG S w kdRo.n kdRo.bytes (kdRo.R S w) l (.slice (some ⟨b, 0, none⟩) n n) := by
 subst hn;refine ⟨_, b, 0, l.length, rfl, Nat.le_refl _, hl, fun _ => rfl, fun _ => hS, fun i hi => ?_⟩;obtain ⟨c, h1, h2⟩ := h i hi;exact ⟨c, fun j hj => by rw [Nat.zero_add]; exact cell_of_block' hb _ (h1 j hj), h2⟩
def at4x (c0 c1 c2 c3 : Value) : Nat → Value
 | 0 => c0 | 1 => c1 | 2 => c2 | _ => c3
def at3x (c0 c1 c2 : Value) : Nat → Value
 | 0 => c0 | 1 => c1 | _ => c2
theorem vA_rep (S : Nat → Prop) (w : World) : RepG S w vA (.int .i64 3) (.int .i64 0) (.string ⟨#[97]⟩) (.slice none 0 0) :=
 repG_mk.2 ⟨rfl, rfl, rfl, by unfold I64; omega, by unfold I64; omega, by decide, lg_of_slg ⟨none, 0, 0, 0, rfl, Nat.le_refl _, by simp, fun h => by omega, fun h => by simp at h, fun i hi => by simp at hi⟩⟩
theorem argsP (w : World) (n : Int) (hn : I64 n) : ArgsP [vA, numN n] (w.alloc (.cells #[.int .i64 3, .int .i64 0, .string ⟨#[97]⟩, .slice none 0 0, .int .i64 1, .int .i64 n, .string ⟨#[]⟩, .slice none 0 0] 27)) (.slice (some ⟨w.heap.size, 0, none⟩) 2 2) :=
 ⟨_, _, rfl, rowVs11 (alloc_new' _ _) (by rw [World.size_alloc]; exact Nat.lt_succ_self _) rfl (by simp) fun i hi => match i, hi with
  | 0, _ => ⟨at4x _ _ _ _, fun j hj => match j, hj with | 0, _ => rfl | 1, _ => rfl | 2, _ => rfl | 3, _ => rfl, vA_rep _ _⟩
  | 1, _ => ⟨at4x _ _ _ _, fun j hj => match j, hj with | 0, _ => rfl | 1, _ => rfl | 2, _ => rfl | 3, _ => rfl, numN_rep _ _ n hn⟩⟩
theorem roP {w : World} {n s : Int} {a : Option Addr} {c : Nat} (h : RepLG (fun k => k < w.heap.size) w [vA, numN n] (.slice a 2 c)) (hs : I64 s) : RepRo (fun k => k < w.heap.size) w (xRo n s) (.string ⟨#[112]⟩) (.slice a 2 c) (.int .i64 s) :=
 ⟨rfl, (show (1 : Nat) ≤ maxLen by decide), h, rfl, hs⟩
theorem rosP1 {w : World} {n s : Int} {a : Option Addr} {c : Nat} (h : RepRo (fun k => k < w.heap.size) w (xRo n s) (.string ⟨#[112]⟩) (.slice a 2 c) (.int .i64 s)) :
  RosP [xRo n s] (w.alloc (.cells #[.string ⟨#[112]⟩, .slice a 2 c, .int .i64 s] 47)) (.slice (some ⟨w.heap.size, 0, none⟩) 1 1) := by
 have hb := below_alloc w (.cells #[.string ⟨#[112]⟩, .slice a 2 c, .int .i64 s] 47);refine rowRos (alloc_new' _ _) (by rw [World.size_alloc]; exact Nat.lt_succ_self _) rfl (by simp) fun i hi => ?_
 obtain rfl : i = 0 := by simpa using hi
 exact ⟨at3x _ _ _, fun j hj => (match j, hj with | 0, _ => rfl | 1, _ => rfl | 2, _ => rfl), RepRo.on (fun k hk => Nat.lt_of_lt_of_le hk hb.size) (fun k hk => hb.block k hk) h⟩
theorem rosP2 {w : World} {n s m t : Int} {a b : Option Addr} {c d : Nat} (h : RepRo (fun k => k < w.heap.size) w (xRo n s) (.string ⟨#[112]⟩) (.slice a 2 c) (.int .i64 s)) (g : RepRo (fun k => k < w.heap.size) w (xRo m t) (.string ⟨#[112]⟩) (.slice b 2 d) (.int .i64 t)) :
  RosP [xRo n s, xRo m t] (w.alloc (.cells #[.string ⟨#[112]⟩, .slice a 2 c, .int .i64 s, .string ⟨#[112]⟩, .slice b 2 d, .int .i64 t] 47)) (.slice (some ⟨w.heap.size, 0, none⟩) 2 2) := by
 have hb := below_alloc w (.cells #[.string ⟨#[112]⟩, .slice a 2 c, .int .i64 s, .string ⟨#[112]⟩, .slice b 2 d, .int .i64 t] 47)
 exact rowRos (alloc_new' _ _) (by rw [World.size_alloc]; exact Nat.lt_succ_self _) rfl (by simp) fun i hi => match i, hi with
  | 0, _ => ⟨at3x _ _ _, fun j hj => (match j, hj with | 0, _ => rfl | 1, _ => rfl | 2, _ => rfl), RepRo.on (fun k hk => Nat.lt_of_lt_of_le hk hb.size) (fun k hk => hb.block k hk) h⟩
  | 1, _ => ⟨at3x _ _ _, fun j hj => (match j, hj with | 0, _ => rfl | 1, _ => rfl | 2, _ => rfl), RepRo.on (fun k hk => Nat.lt_of_lt_of_le hk hb.size) (fun k hk => hb.block k hk) g⟩
set_option maxRecDepth 100000 in
set_option maxHeartbeats 4000000 in
theorem awake11_any (w : World) : Calls Try.prog 14 #[] w fun e w' => e = .returned (.bool true) ∧ Below w.heap.size w w' := by
 go_enter Try.func14, Try.ntmps14
 go_wp2_with fail
 refine (addr11_any ⟨#[97]⟩ w).mono ?_;rintro e w1 ⟨rfl, hb1⟩;have m0 := alloc_new' w1 (.cells #[.int .i64 3, .int .i64 0, .string ⟨#[97]⟩, .slice none 0 0] 27);have d0 := below_alloc w1 (.cells #[.int .i64 3, .int .i64 0, .string ⟨#[97]⟩, .slice none 0 0] 27);have s0 := World.size_alloc w1 (.cells #[.int .i64 3, .int .i64 0, .string ⟨#[97]⟩, .slice none 0 0] 27);go_upto_region 2 with fail
 obtain ⟨k0, hk0⟩ : ∃ k, w1.heap.size = k := ⟨_, rfl⟩;have HB2 := Lib.hid (Below.step hb1 d0);rw [hk0] at m0 s0
 try rw [hk0]
 clear hk0 hb1 d0;generalize w1.alloc (.cells #[.int .i64 3, .int .i64 0, .string ⟨#[97]⟩, .slice none 0 0] 27) = w2 at *;have M0 := Lib.hid m0;have HK0 : Hid (k0 < w2.heap.size) := by show _ < _; omega
 clear m0 s0;refine wp_region_factsG (by rfl) 41 (by rfl) (by kernel_rfl) (FA [.e (.agg #[.int .i64 3, .int .i64 0, .string ⟨#[97]⟩, .slice none 0 0]), .e (.agg #[.int .i64 1, .int .i64 3, .string ⟨#[]⟩, .slice none 0 0]), .p (fun wz vz => ArgsP [vA, numN 3] wz vz), .p (fun wz vz => RowP 3 4 wz vz), .e (.agg #[.int .i64 3, .int .i64 0, .string ⟨#[97]⟩, .slice none 0 0]), .e (.agg #[.int .i64 1, .int .i64 5, .string ⟨#[]⟩, .slice none 0 0]), .p (fun wz vz => ArgsP [vA, numN 5] wz vz), .p (fun wz vz => RowP 5 2 wz vz), .p (fun wz vz => RosP [xRo 3 4, xRo 5 2] wz vz), .p (fun wz vz => RosP [xRo 3 4, xRo 5 2] wz vz)]) (fun w' => Below w2.heap.size w2 w') (Below.drew (Below.refl _ _)) ⟨?a0, ?a1, ?a2, ?a3, ?a4, ?a5, ?a6, ?a7, ?a8, ?a9, trivial⟩ ?afin
 case a0 =>
  intro a w' hoff hg hdep K hK;have h1 := off_at hoff 1 (v := .pointer (some ⟨k0, 0, none⟩)) (by kernel_rfl) rfl;rw [if_pos (by rfl)];have z := (hg.block k0 HK0.out).trans M0.out;have q0 := cell_of_block' (i := 0) z _ rfl;have q1 := cell_of_block' (i := 1) z _ rfl;have q2 := cell_of_block' (i := 2) z _ rfl;have q3 := cell_of_block' (i := 3) z _ rfl;clear z;go_simp;exact hK.out _ _ hg rfl (fun _ _ h => h)
 case a1 =>
  intro a w' hoff hg hdep K hK;rw [if_pos (by rfl)];go_simp;refine (number_any 3 w').mono ?_;rintro e w6 ⟨rfl, hb⟩;exact hK.out _ _ (Below.step hg hb) rfl (fSt ⟨fun _ h => h.on hb, fun _ h => h.on hb, fun _ h => h.on hb, fun _ h => h.on hb, fun _ h => h.on hb, fun _ h => h.on hb, trivial⟩)
 case a2 =>
  intro a w' hoff hg hdep K hK;obtain ⟨_, e0, rfl⟩ := hdep 0 _ 6 (by kernel_rfl) rfl rfl;obtain ⟨_, e1, rfl⟩ := hdep 1 _ 7 (by kernel_rfl) rfl rfl;rw [if_pos (by rfl)];go_simp;have hb := below_alloc w' (.cells #[.int .i64 3, .int .i64 0, .string ⟨#[97]⟩, .slice none 0 0, .int .i64 1, .int .i64 3, .string ⟨#[]⟩, .slice none 0 0] 27);have hp : ArgsP [vA, numN 3] (w'.alloc (.cells #[.int .i64 3, .int .i64 0, .string ⟨#[97]⟩, .slice none 0 0, .int .i64 1, .int .i64 3, .string ⟨#[]⟩, .slice none 0 0] 27)) (.slice (some ⟨w'.heap.size, 0, none⟩) 2 2) := argsP w' 3 (by unfold I64; omega);exact hK.out _ _ (Below.step hg hb) hp (fSt ⟨fun _ h => h.on hb, fun _ h => h.on hb, fun _ h => h.on hb, fun _ h => h.on hb, fun _ h => h.on hb, fun _ h => h.on hb, trivial⟩)
 case a3 =>
  intro a w' hoff hg hdep K hK;obtain ⟨v2, e2, (g2 : ArgsP [vA, numN 3] w' v2)⟩ := hdep 2 _ 8 (by kernel_rfl) rfl rfl;rw [if_pos (by rfl)];obtain ⟨a0, c0, rfl, h0⟩ := g2;go_simp;exact hK.out _ _ hg ⟨_, _, rfl, roP h0 (by unfold I64; omega)⟩ (fun _ _ h => h)
 case a4 =>
  intro a w' hoff hg hdep K hK;have h1 := off_at hoff 1 (v := .pointer (some ⟨k0, 0, none⟩)) (by kernel_rfl) rfl;rw [if_pos (by rfl)];have z := (hg.block k0 HK0.out).trans M0.out;have q0 := cell_of_block' (i := 0) z _ rfl;have q1 := cell_of_block' (i := 1) z _ rfl;have q2 := cell_of_block' (i := 2) z _ rfl;have q3 := cell_of_block' (i := 3) z _ rfl;clear z;go_simp;exact hK.out _ _ hg rfl (fun _ _ h => h)
 case a5 =>
  intro a w' hoff hg hdep K hK;rw [if_pos (by rfl)];go_simp;refine (number_any 5 w').mono ?_;rintro e w6 ⟨rfl, hb⟩;exact hK.out _ _ (Below.step hg hb) rfl (fSt ⟨fun _ h => h.on hb, fun _ h => h.on hb, fun _ h => h.on hb, fun _ h => h.on hb, fun _ h => h.on hb, fun _ h => h.on hb, trivial⟩)
 case a6 =>
  intro a w' hoff hg hdep K hK;obtain ⟨_, e4, rfl⟩ := hdep 4 _ 10 (by kernel_rfl) rfl rfl;obtain ⟨_, e5, rfl⟩ := hdep 5 _ 11 (by kernel_rfl) rfl rfl;rw [if_pos (by rfl)];go_simp;have hb := below_alloc w' (.cells #[.int .i64 3, .int .i64 0, .string ⟨#[97]⟩, .slice none 0 0, .int .i64 1, .int .i64 5, .string ⟨#[]⟩, .slice none 0 0] 27);have hp : ArgsP [vA, numN 5] (w'.alloc (.cells #[.int .i64 3, .int .i64 0, .string ⟨#[97]⟩, .slice none 0 0, .int .i64 1, .int .i64 5, .string ⟨#[]⟩, .slice none 0 0] 27)) (.slice (some ⟨w'.heap.size, 0, none⟩) 2 2) := argsP w' 5 (by unfold I64; omega);exact hK.out _ _ (Below.step hg hb) hp (fSt ⟨fun _ h => h.on hb, fun _ h => h.on hb, fun _ h => h.on hb, fun _ h => h.on hb, fun _ h => h.on hb, fun _ h => h.on hb, trivial⟩)
 case a7 =>
  intro a w' hoff hg hdep K hK;obtain ⟨v6, e6, (g6 : ArgsP [vA, numN 5] w' v6)⟩ := hdep 6 _ 12 (by kernel_rfl) rfl rfl;rw [if_pos (by rfl)];obtain ⟨a0, c0, rfl, h0⟩ := g6;go_simp;exact hK.out _ _ hg ⟨_, _, rfl, roP h0 (by unfold I64; omega)⟩ (fun _ _ h => h)
 case a8 =>
  intro a w' hoff hg hdep K hK;obtain ⟨v3, e3, (g3 : RowP 3 4 w' v3)⟩ := hdep 3 _ 9 (by kernel_rfl) rfl rfl;obtain ⟨v7, e7, (g7 : RowP 5 2 w' v7)⟩ := hdep 7 _ 13 (by kernel_rfl) rfl rfl;rw [if_pos (by rfl)];obtain ⟨a0, c0, rfl, h0⟩ := g3;obtain ⟨a1, c1, rfl, h1⟩ := g7;go_simp;have hb := below_alloc w' (.cells #[.string ⟨#[112]⟩, .slice a0 2 c0, .int .i64 4, .string ⟨#[112]⟩, .slice a1 2 c1, .int .i64 2] 47);have hp : RosP [xRo 3 4, xRo 5 2] (w'.alloc (.cells #[.string ⟨#[112]⟩, .slice a0 2 c0, .int .i64 4, .string ⟨#[112]⟩, .slice a1 2 c1, .int .i64 2] 47)) (.slice (some ⟨w'.heap.size, 0, none⟩) 2 2) := rosP2 h0 h1;exact hK.out _ _ (Below.step hg hb) hp (fSt ⟨fun _ h => h.on hb, fun _ h => h.on hb, fun _ h => h.on hb, fun _ h => h.on hb, fun _ h => h.on hb, fun _ h => h.on hb, trivial⟩)
 case a9 =>
  intro a w' hoff hg hdep K hK;obtain ⟨v8, e8, (g8 : RosP [xRo 3 4, xRo 5 2] w' v8)⟩ := hdep 8 _ 14 (by kernel_rfl) rfl rfl;rw [if_pos (by rfl)];obtain ⟨a2, c2, n2, rfl⟩ := g8.form;go_simp;exact hK.out _ _ hg g8 (fun _ _ h => h)
 case afin =>
  intro a w' hoff hg hf;obtain ⟨_, e0, rfl⟩ := hf 0 _ 6 rfl rfl;obtain ⟨_, e1, rfl⟩ := hf 1 _ 7 rfl rfl;obtain ⟨v2, e2, (g2 : ArgsP [vA, numN 3] w' v2)⟩ := hf 2 _ 8 rfl rfl;obtain ⟨v3, e3, (g3 : RowP 3 4 w' v3)⟩ := hf 3 _ 9 rfl rfl;obtain ⟨_, e4, rfl⟩ := hf 4 _ 10 rfl rfl;obtain ⟨_, e5, rfl⟩ := hf 5 _ 11 rfl rfl;obtain ⟨v6, e6, (g6 : ArgsP [vA, numN 5] w' v6)⟩ := hf 6 _ 12 rfl rfl;obtain ⟨v7, e7, (g7 : RowP 5 2 w' v7)⟩ := hf 7 _ 13 rfl rfl;obtain ⟨v8, e8, (g8 : RosP [xRo 3 4, xRo 5 2] w' v8)⟩ := hf 8 _ 14 rfl rfl;obtain ⟨v9, e9, (g9 : RosP [xRo 3 4, xRo 5 2] w' v9)⟩ := hf 9 _ 2 rfl rfl;rw [hoff.sets [(6, .agg #[.int .i64 3, .int .i64 0, .string ⟨#[97]⟩, .slice none 0 0]), (7, .agg #[.int .i64 1, .int .i64 3, .string ⟨#[]⟩, .slice none 0 0]), (8, v2), (9, v3), (10, .agg #[.int .i64 3, .int .i64 0, .string ⟨#[97]⟩, .slice none 0 0]), (11, .agg #[.int .i64 1, .int .i64 5, .string ⟨#[]⟩, .slice none 0 0]), (12, v6), (13, v7), (14, v8), (2, v9)] (by kernel_rfl) (by intro p hp; simp only [List.mem_cons, List.not_mem_nil, or_false] at hp; rcases hp with rfl | rfl | rfl | rfl | rfl | rfl | rfl | rfl | rfl | rfl <;> assumption)];clear hoff hf e0 e1 e2 e3 e4 e5 e6 e7 e8 e9;simp only [List.foldl_cons, List.foldl_nil, List.setIfInBounds_toArray, List.set_cons_zero, List.set_cons_succ]
  have HX := Lib.hid g9;have HB3 := Lib.hid (Below.step HB2.out hg);have M3 := Lib.hid ((hg.block k0 HK0.out).trans M0.out);have HK3 := Lib.hid (Nat.lt_of_lt_of_le HK0.out hg.size);clear hg g2 g3 g6 g7 g8 g9 M0 HK0;obtain ⟨xa, xc, rfl⟩ := SlG.form HX.out;go_wp2_with fail
  refine (group_any sCount 1 [xRo 3 4, xRo 5 2] (fun k => k < w'.heap.size) w' _ (by unfold I64; omega) (fun _ h => h) HX.out).mono ?_;rintro e w4 ⟨hb, G, v, rfl, -, hgi, hv⟩;obtain rfl := ex_count (hgi agg_count (by omega));obtain ⟨ga, gc, rfl⟩ := SlG.form hv;have HG : Hid (RosP [xRo 2 4] w4 (.slice ga 1 gc)) := RosP.of hv (fun k hk => hk.2);replace HX : Hid (RosP [xRo 3 4, xRo 5 2] w4 (.slice xa 2 xc)) := HX.out.on hb;replace HB3 := Lib.hid (Below.step HB3.out hb);replace M3 := Lib.hid ((hb.block k0 HK3.out).trans M3.out);replace HK3 := Lib.hid (Nat.lt_of_lt_of_le HK3.out hb.size);clear hb hgi hv;go_wp2_with fail
  refine (group_any sMax 1 [xRo 3 4, xRo 5 2] (fun k => k < w4.heap.size) w4 _ (by unfold I64; omega) (fun _ h => h) HX.out).mono ?_;rintro e w5 ⟨hb, G, v, rfl, -, hgi, hv⟩;obtain rfl := ex_max (hgi agg_max (by omega));obtain ⟨ja, jc, rfl⟩ := SlG.form hv;have HJ : Hid (RosP [xRo 5 4] w5 (.slice ja 1 jc)) := RosP.of hv (fun k hk => hk.2);replace HG : Hid (RosP [xRo 2 4] w5 (.slice ga 1 gc)) := HG.out.on hb;replace HX : Hid (RosP [xRo 3 4, xRo 5 2] w5 (.slice xa 2 xc)) := HX.out.on hb;replace HB3 := Lib.hid (Below.step HB3.out hb);have M5 := Lib.hid ((hb.block k0 HK3.out).trans M3.out);have HK5 := Lib.hid (Nat.lt_of_lt_of_le HK3.out hb.size);clear hb hgi hv M3 HK3;go_upto_region 5 with fail
  refine wp_region_factsG (by rfl) 41 (by rfl) (by kernel_rfl) (FA [.e (.slice ga 1 gc), .e (.agg #[.int .i64 3, .int .i64 0, .string ⟨#[97]⟩, .slice none 0 0]), .e (.agg #[.int .i64 1, .int .i64 2, .string ⟨#[]⟩, .slice none 0 0]), .p (fun wz vz => ArgsP [vA, numN 2] wz vz), .p (fun wz vz => RowP 2 4 wz vz), .p (fun wz vz => RosP [xRo 2 4] wz vz), .e (.bool true), .e (.bool true), .e (.slice ja 1 jc), .e (.agg #[.int .i64 3, .int .i64 0, .string ⟨#[97]⟩, .slice none 0 0]), .e (.agg #[.int .i64 1, .int .i64 5, .string ⟨#[]⟩, .slice none 0 0]), .p (fun wz vz => ArgsP [vA, numN 5] wz vz), .p (fun wz vz => RowP 5 4 wz vz), .p (fun wz vz => RosP [xRo 5 4] wz vz), .e (.bool true), .e (.bool true), .e (.bool true), .e (.slice xa 2 xc), .p (fun _ vz => ∃ p c, vz = .slice p 0 c), .e (.int .i64 0), .e (.bool true), .e (.bool true), .e (.bool true)]) (fun w' => Below w5.heap.size w5 w') (Below.drew (Below.refl _ _)) ⟨?b0, ?b1, ?b2, ?b3, ?b4, ?b5, ?b6, ?b7, ?b8, ?b9, ?b10, ?b11, ?b12, ?b13, ?b14, ?b15, ?b16, ?b17, ?b18, ?b19, ?b20, ?b21, ?b22, trivial⟩ ?bfin
  case b0 =>
   intro a w' hoff hg hdep K hK;have h3 := off_at hoff 3 (v := .slice ga 1 gc) (by kernel_rfl) rfl;rw [if_pos (by rfl)];go_simp;exact hK.out _ _ hg rfl (fun _ _ h => h)
  case b1 =>
   intro a w' hoff hg hdep K hK;have h1 := off_at hoff 1 (v := .pointer (some ⟨k0, 0, none⟩)) (by kernel_rfl) rfl;rw [if_pos (by rfl)];have z := (hg.block k0 HK5.out).trans M5.out;have q0 := cell_of_block' (i := 0) z _ rfl;have q1 := cell_of_block' (i := 1) z _ rfl;have q2 := cell_of_block' (i := 2) z _ rfl;have q3 := cell_of_block' (i := 3) z _ rfl;clear z;go_simp;exact hK.out _ _ hg rfl (fun _ _ h => h)
  case b2 =>
   intro a w' hoff hg hdep K hK;rw [if_pos (by rfl)];go_simp;refine (number_any 2 w').mono ?_;rintro e w6 ⟨rfl, hb⟩;exact hK.out _ _ (Below.step hg hb) rfl (fSt ⟨fun _ h => h.on hb, fun _ h => h.on hb, fun _ h => h.on hb, fun _ h => h.on hb, fun _ h => h.on hb, fun _ h => h.on hb, fun _ h => h, trivial⟩)
  case b3 =>
   intro a w' hoff hg hdep K hK;obtain ⟨_, e1, rfl⟩ := hdep 1 _ 20 (by kernel_rfl) rfl rfl;obtain ⟨_, e2, rfl⟩ := hdep 2 _ 21 (by kernel_rfl) rfl rfl;rw [if_pos (by rfl)];go_simp;have hb := below_alloc w' (.cells #[.int .i64 3, .int .i64 0, .string ⟨#[97]⟩, .slice none 0 0, .int .i64 1, .int .i64 2, .string ⟨#[]⟩, .slice none 0 0] 27);have hp : ArgsP [vA, numN 2] (w'.alloc (.cells #[.int .i64 3, .int .i64 0, .string ⟨#[97]⟩, .slice none 0 0, .int .i64 1, .int .i64 2, .string ⟨#[]⟩, .slice none 0 0] 27)) (.slice (some ⟨w'.heap.size, 0, none⟩) 2 2) := argsP w' 2 (by unfold I64; omega);exact hK.out _ _ (Below.step hg hb) hp (fSt ⟨fun _ h => h.on hb, fun _ h => h.on hb, fun _ h => h.on hb, fun _ h => h.on hb, fun _ h => h.on hb, fun _ h => h.on hb, fun _ h => h, trivial⟩)
  case b4 =>
   intro a w' hoff hg hdep K hK;obtain ⟨v3, e3, (g3 : ArgsP [vA, numN 2] w' v3)⟩ := hdep 3 _ 22 (by kernel_rfl) rfl rfl;rw [if_pos (by rfl)];obtain ⟨a0, c0, rfl, h0⟩ := g3;go_simp;exact hK.out _ _ hg ⟨_, _, rfl, roP h0 (by unfold I64; omega)⟩ (fun _ _ h => h)
  case b5 =>
   intro a w' hoff hg hdep K hK;obtain ⟨v4, e4, (g4 : RowP 2 4 w' v4)⟩ := hdep 4 _ 23 (by kernel_rfl) rfl rfl;rw [if_pos (by rfl)];obtain ⟨a0, c0, rfl, h0⟩ := g4;go_simp;have hb := below_alloc w' (.cells #[.string ⟨#[112]⟩, .slice a0 2 c0, .int .i64 4] 47);have hp : RosP [xRo 2 4] (w'.alloc (.cells #[.string ⟨#[112]⟩, .slice a0 2 c0, .int .i64 4] 47)) (.slice (some ⟨w'.heap.size, 0, none⟩) 1 1) := rosP1 h0;exact hK.out _ _ (Below.step hg hb) hp (fSt ⟨fun _ h => h.on hb, fun _ h => h.on hb, fun _ h => h.on hb, fun _ h => h.on hb, fun _ h => h.on hb, fun _ h => h.on hb, fun _ h => h, trivial⟩)
  case b6 =>
   intro a w' hoff hg hdep K hK;obtain ⟨_, e0, rfl⟩ := hdep 0 _ 19 (by kernel_rfl) rfl rfl;obtain ⟨v5, e5, (g5 : RosP [xRo 2 4] w' v5)⟩ := hdep 5 _ 24 (by kernel_rfl) rfl rfl;rw [if_pos (by rfl)];go_simp;refine (same10_any [xRo 2 4] [xRo 2 4] (fun k => k < w'.heap.size) w' _ _ (fun _ h => h) (HG.out.on hg) g5).mono ?_;rintro e w6 ⟨rfl, hb⟩;rw [(sameRos_iff _ _).2 rfl];exact hK.out _ _ (Below.step hg hb) rfl (fSt ⟨fun _ h => h.on hb, fun _ h => h.on hb, fun _ h => h.on hb, fun _ h => h.on hb, fun _ h => h.on hb, fun _ h => h.on hb, fun _ h => h, trivial⟩)
  case b7 =>
   intro a w' hoff hg hdep K hK;obtain ⟨_, e6, rfl⟩ := hdep 6 _ 25 (by kernel_rfl) rfl rfl;rw [if_pos (by rfl)];go_simp;exact hK.out _ _ hg rfl (fun _ _ h => h)
  case b8 =>
   intro a w' hoff hg hdep K hK;have h4 := off_at hoff 4 (v := .slice ja 1 jc) (by kernel_rfl) rfl;obtain ⟨_, e7, rfl⟩ := hdep 7 _ 26 (by kernel_rfl) rfl rfl;rw [if_pos (by simp [Region.wanted, yielded, e7])];go_simp;exact hK.out _ _ hg rfl (fun _ _ h => h)
  case b9 =>
   intro a w' hoff hg hdep K hK;have h1 := off_at hoff 1 (v := .pointer (some ⟨k0, 0, none⟩)) (by kernel_rfl) rfl;obtain ⟨_, e7, rfl⟩ := hdep 7 _ 26 (by kernel_rfl) rfl rfl;rw [if_pos (by simp [Region.wanted, yielded, e7])];have z := (hg.block k0 HK5.out).trans M5.out;have q0 := cell_of_block' (i := 0) z _ rfl;have q1 := cell_of_block' (i := 1) z _ rfl;have q2 := cell_of_block' (i := 2) z _ rfl;have q3 := cell_of_block' (i := 3) z _ rfl;clear z;go_simp;exact hK.out _ _ hg rfl (fun _ _ h => h)
  case b10 =>
   intro a w' hoff hg hdep K hK;obtain ⟨_, e7, rfl⟩ := hdep 7 _ 26 (by kernel_rfl) rfl rfl;rw [if_pos (by simp [Region.wanted, yielded, e7])];go_simp;refine (number_any 5 w').mono ?_;rintro e w6 ⟨rfl, hb⟩;exact hK.out _ _ (Below.step hg hb) rfl (fSt ⟨fun _ h => h.on hb, fun _ h => h.on hb, fun _ h => h.on hb, fun _ h => h.on hb, fun _ h => h.on hb, fun _ h => h.on hb, fun _ h => h, trivial⟩)
  case b11 =>
   intro a w' hoff hg hdep K hK;obtain ⟨_, e9, rfl⟩ := hdep 9 _ 28 (by kernel_rfl) rfl rfl;obtain ⟨_, e10, rfl⟩ := hdep 10 _ 29 (by kernel_rfl) rfl rfl;obtain ⟨_, e7, rfl⟩ := hdep 7 _ 26 (by kernel_rfl) rfl rfl;rw [if_pos (by simp [Region.wanted, yielded, e7])];go_simp;have hb := below_alloc w' (.cells #[.int .i64 3, .int .i64 0, .string ⟨#[97]⟩, .slice none 0 0, .int .i64 1, .int .i64 5, .string ⟨#[]⟩, .slice none 0 0] 27);have hp : ArgsP [vA, numN 5] (w'.alloc (.cells #[.int .i64 3, .int .i64 0, .string ⟨#[97]⟩, .slice none 0 0, .int .i64 1, .int .i64 5, .string ⟨#[]⟩, .slice none 0 0] 27)) (.slice (some ⟨w'.heap.size, 0, none⟩) 2 2) := argsP w' 5 (by unfold I64; omega);exact hK.out _ _ (Below.step hg hb) hp (fSt ⟨fun _ h => h.on hb, fun _ h => h.on hb, fun _ h => h.on hb, fun _ h => h.on hb, fun _ h => h.on hb, fun _ h => h.on hb, fun _ h => h, trivial⟩)
  case b12 =>
   intro a w' hoff hg hdep K hK;obtain ⟨v11, e11, (g11 : ArgsP [vA, numN 5] w' v11)⟩ := hdep 11 _ 30 (by kernel_rfl) rfl rfl;obtain ⟨_, e7, rfl⟩ := hdep 7 _ 26 (by kernel_rfl) rfl rfl;rw [if_pos (by simp [Region.wanted, yielded, e7])];obtain ⟨a0, c0, rfl, h0⟩ := g11;go_simp;exact hK.out _ _ hg ⟨_, _, rfl, roP h0 (by unfold I64; omega)⟩ (fun _ _ h => h)
  case b13 =>
   intro a w' hoff hg hdep K hK;obtain ⟨v12, e12, (g12 : RowP 5 4 w' v12)⟩ := hdep 12 _ 31 (by kernel_rfl) rfl rfl;obtain ⟨_, e7, rfl⟩ := hdep 7 _ 26 (by kernel_rfl) rfl rfl;rw [if_pos (by simp [Region.wanted, yielded, e7])];obtain ⟨a0, c0, rfl, h0⟩ := g12;go_simp;have hb := below_alloc w' (.cells #[.string ⟨#[112]⟩, .slice a0 2 c0, .int .i64 4] 47);have hp : RosP [xRo 5 4] (w'.alloc (.cells #[.string ⟨#[112]⟩, .slice a0 2 c0, .int .i64 4] 47)) (.slice (some ⟨w'.heap.size, 0, none⟩) 1 1) := rosP1 h0;exact hK.out _ _ (Below.step hg hb) hp (fSt ⟨fun _ h => h.on hb, fun _ h => h.on hb, fun _ h => h.on hb, fun _ h => h.on hb, fun _ h => h.on hb, fun _ h => h.on hb, fun _ h => h, trivial⟩)
  case b14 =>
   intro a w' hoff hg hdep K hK;obtain ⟨_, e8, rfl⟩ := hdep 8 _ 27 (by kernel_rfl) rfl rfl;obtain ⟨v13, e13, (g13 : RosP [xRo 5 4] w' v13)⟩ := hdep 13 _ 32 (by kernel_rfl) rfl rfl;obtain ⟨_, e7, rfl⟩ := hdep 7 _ 26 (by kernel_rfl) rfl rfl;rw [if_pos (by simp [Region.wanted, yielded, e7])];go_simp;refine (same10_any [xRo 5 4] [xRo 5 4] (fun k => k < w'.heap.size) w' _ _ (fun _ h => h) (HJ.out.on hg) g13).mono ?_;rintro e w6 ⟨rfl, hb⟩;rw [(sameRos_iff _ _).2 rfl];exact hK.out _ _ (Below.step hg hb) rfl (fSt ⟨fun _ h => h.on hb, fun _ h => h.on hb, fun _ h => h.on hb, fun _ h => h.on hb, fun _ h => h.on hb, fun _ h => h.on hb, fun _ h => h, trivial⟩)
  case b15 =>
   intro a w' hoff hg hdep K hK;obtain ⟨_, e7, rfl⟩ := hdep 7 _ 26 (by kernel_rfl) rfl rfl;obtain ⟨_, e14, rfl⟩ := hdep 14 _ 33 (by kernel_rfl) rfl rfl;rw [if_pos (by rfl)];go_simp;exact hK.out _ _ hg rfl (fun _ _ h => h)
  case b16 =>
   intro a w' hoff hg hdep K hK;obtain ⟨_, e15, rfl⟩ := hdep 15 _ 34 (by kernel_rfl) rfl rfl;rw [if_pos (by rfl)];go_simp;exact hK.out _ _ hg rfl (fun _ _ h => h)
  case b17 =>
   intro a w' hoff hg hdep K hK;have h2 := off_at hoff 2 (v := .slice xa 2 xc) (by kernel_rfl) rfl;obtain ⟨_, e16, rfl⟩ := hdep 16 _ 35 (by kernel_rfl) rfl rfl;rw [if_pos (by simp [Region.wanted, yielded, e16])];go_simp;exact hK.out _ _ hg rfl (fun _ _ h => h)
  case b18 =>
   intro a w' hoff hg hdep K hK;obtain ⟨_, e17, rfl⟩ := hdep 17 _ 36 (by kernel_rfl) rfl rfl;obtain ⟨_, e16, rfl⟩ := hdep 16 _ 35 (by kernel_rfl) rfl rfl;rw [if_pos (by simp [Region.wanted, yielded, e16])];go_simp;refine (group_any sSum 1 [xRo 3 4, xRo 5 2] (fun k => k < w'.heap.size) w' _ (by unfold I64; omega) (fun _ h => h) (HX.out.on hg)).mono ?_;rintro e w6 ⟨hb, G, v, rfl, hnil, -, hv⟩;obtain rfl := hnil (.inl agg_sum);obtain ⟨ea, ec, rfl⟩ := SlG.form hv;exact hK.out _ _ (Below.step hg hb) ⟨ea, ec, rfl⟩ (fSt ⟨fun _ h => h.on hb, fun _ h => h.on hb, fun _ h => h.on hb, fun _ h => h.on hb, fun _ h => h.on hb, fun _ h => h.on hb, fun _ h => h, trivial⟩)
  case b19 =>
   intro a w' hoff hg hdep K hK;obtain ⟨v18, e18, (g18 : ∃ p c, v18 = .slice p 0 c)⟩ := hdep 18 _ 37 (by kernel_rfl) rfl rfl;obtain ⟨_, e16, rfl⟩ := hdep 16 _ 35 (by kernel_rfl) rfl rfl;rw [if_pos (by simp [Region.wanted, yielded, e16])];obtain ⟨p, c, rfl⟩ := g18;go_simp;exact hK.out _ _ hg rfl (fun _ _ h => h)
  case b20 =>
   intro a w' hoff hg hdep K hK;obtain ⟨_, e19, rfl⟩ := hdep 19 _ 38 (by kernel_rfl) rfl rfl;obtain ⟨_, e16, rfl⟩ := hdep 16 _ 35 (by kernel_rfl) rfl rfl;rw [if_pos (by simp [Region.wanted, yielded, e16])];go_simp;exact hK.out _ _ hg rfl (fun _ _ h => h)
  case b21 =>
   intro a w' hoff hg hdep K hK;obtain ⟨_, e16, rfl⟩ := hdep 16 _ 35 (by kernel_rfl) rfl rfl;obtain ⟨_, e20, rfl⟩ := hdep 20 _ 39 (by kernel_rfl) rfl rfl;rw [if_pos (by rfl)];go_simp;exact hK.out _ _ hg rfl (fun _ _ h => h)
  case b22 =>
   intro a w' hoff hg hdep K hK;obtain ⟨_, e21, rfl⟩ := hdep 21 _ 40 (by kernel_rfl) rfl rfl;rw [if_pos (by rfl)];go_simp;exact hK.out _ _ hg rfl (fun _ _ h => h)
  case bfin =>
   intro a w' hoff hg hf;obtain ⟨_, e0, rfl⟩ := hf 0 _ 19 rfl rfl;obtain ⟨_, e1, rfl⟩ := hf 1 _ 20 rfl rfl;obtain ⟨_, e2, rfl⟩ := hf 2 _ 21 rfl rfl;obtain ⟨v3, e3, (g3 : ArgsP [vA, numN 2] w' v3)⟩ := hf 3 _ 22 rfl rfl;obtain ⟨v4, e4, (g4 : RowP 2 4 w' v4)⟩ := hf 4 _ 23 rfl rfl;obtain ⟨v5, e5, (g5 : RosP [xRo 2 4] w' v5)⟩ := hf 5 _ 24 rfl rfl;obtain ⟨_, e6, rfl⟩ := hf 6 _ 25 rfl rfl;obtain ⟨_, e7, rfl⟩ := hf 7 _ 26 rfl rfl;obtain ⟨_, e8, rfl⟩ := hf 8 _ 27 rfl rfl;obtain ⟨_, e9, rfl⟩ := hf 9 _ 28 rfl rfl;obtain ⟨_, e10, rfl⟩ := hf 10 _ 29 rfl rfl;obtain ⟨v11, e11, (g11 : ArgsP [vA, numN 5] w' v11)⟩ := hf 11 _ 30 rfl rfl;obtain ⟨v12, e12, (g12 : RowP 5 4 w' v12)⟩ := hf 12 _ 31 rfl rfl;obtain ⟨v13, e13, (g13 : RosP [xRo 5 4] w' v13)⟩ := hf 13 _ 32 rfl rfl;obtain ⟨_, e14, rfl⟩ := hf 14 _ 33 rfl rfl;obtain ⟨_, e15, rfl⟩ := hf 15 _ 34 rfl rfl;obtain ⟨_, e16, rfl⟩ := hf 16 _ 35 rfl rfl;obtain ⟨_, e17, rfl⟩ := hf 17 _ 36 rfl rfl;obtain ⟨v18, e18, (g18 : ∃ p c, v18 = .slice p 0 c)⟩ := hf 18 _ 37 rfl rfl;obtain ⟨_, e19, rfl⟩ := hf 19 _ 38 rfl rfl;obtain ⟨_, e20, rfl⟩ := hf 20 _ 39 rfl rfl;obtain ⟨_, e21, rfl⟩ := hf 21 _ 40 rfl rfl;obtain ⟨_, e22, rfl⟩ := hf 22 _ 0 rfl rfl;rw [hoff.sets [(19, .slice ga 1 gc), (20, .agg #[.int .i64 3, .int .i64 0, .string ⟨#[97]⟩, .slice none 0 0]), (21, .agg #[.int .i64 1, .int .i64 2, .string ⟨#[]⟩, .slice none 0 0]), (22, v3), (23, v4), (24, v5), (25, .bool true), (26, .bool true), (27, .slice ja 1 jc), (28, .agg #[.int .i64 3, .int .i64 0, .string ⟨#[97]⟩, .slice none 0 0]), (29, .agg #[.int .i64 1, .int .i64 5, .string ⟨#[]⟩, .slice none 0 0]), (30, v11), (31, v12), (32, v13), (33, .bool true), (34, .bool true), (35, .bool true), (36, .slice xa 2 xc), (37, v18), (38, .int .i64 0), (39, .bool true), (40, .bool true), (0, .bool true)] (by kernel_rfl) (by intro p hp; simp only [List.mem_cons, List.not_mem_nil, or_false] at hp; rcases hp with rfl | rfl | rfl | rfl | rfl | rfl | rfl | rfl | rfl | rfl | rfl | rfl | rfl | rfl | rfl | rfl | rfl | rfl | rfl | rfl | rfl | rfl | rfl <;> assumption)];clear hoff hf e0 e1 e2 e3 e4 e5 e6 e7 e8 e9 e10 e11 e12 e13 e14 e15 e16 e17 e18 e19 e20 e21 e22;simp only [List.foldl_cons, List.foldl_nil, List.setIfInBounds_toArray, List.set_cons_zero, List.set_cons_succ]
   have HF := Lib.hid (Below.step HB3.out hg);clear hg g3 g4 g5 g11 g12 g13 g18;go_wp2_with fail
   go_ret
   exact ⟨rfl, HF.out⟩
end Go.Proofs.Ytpnaegohjbaggaa
namespace Go.Proofs.Ytpnaegohjbaggaa
open Go.RowKit
end Go.Proofs.Ytpnaegohjbaggaa
namespace Go.Proofs.Ytpnaegohjbaggaa
open Go.RowKit
theorem slg_row {α : Type} {S : Nat → Prop} {w : World} {n bytes : Nat} {R : α → (Nat → Value) → Prop} {l : List α} {b : Nat} {cs : Array Value} {t : TypeId} {fz : Nat × Nat} (hb : w.heap[b]? = some (.cells cs t fz)) (hS : S b) (hsz : cs.size = l.length * n) (hby : l.length * bytes ≤ 140737488355328)
  (hR : ∀ i (h : i < l.length), R l[i] (fun j => cs.getD (i * n + j) undef)) : SlG S w n bytes R l (.slice (some ⟨b, 0, none⟩) l.length l.length) := by
 refine ⟨_, b, 0, l.length, rfl, Nat.le_refl _, hby, fun _ => rfl, fun _ => hS, fun i hi => ⟨_, fun j hj => ?_, hR i hi⟩⟩
 have hlt : i * n + j < cs.size := by
  have : (i + 1) * n ≤ l.length * n := Nat.mul_le_mul_right n hi;rw [Nat.succ_mul] at this; omega
 rw [show 0 + i * n + j = i * n + j by omega];exact cell_of_block' hb _ (by simp [Array.getD, hlt])
theorem small64 {n : Int} (h : 0 ≤ n ∧ n ≤ 100) : I64 n := ⟨by omega, by omega⟩
end Go.Proofs.Ytpnaegohjbaggaa
namespace Go.Proofs.Ytpnaegohjbaggaa
open Go.RowKit
structure Rw where
 kind : Int
 name : Int
 n0 : Int
 n1 : Int
 n2 : Int
 n3 : Int
def RwOk (x : Rw) : Prop := I64 x.kind ∧ I64 x.name ∧ I64 x.n0 ∧ I64 x.n1 ∧ I64 x.n2 ∧ I64 x.n3
def RepRw (_S : Nat → Prop) (_w : World) (x : Rw) (c : Nat → Value) : Prop :=
 c 0 = .int .i64 x.kind ∧ c 1 = .int .i64 x.name ∧ c 2 = .int .i64 x.n0 ∧ c 3 = .int .i64 x.n1 ∧ c 4 = .int .i64 x.n2 ∧ c 5 = .int .i64 x.n3 ∧ RwOk x
def rwV (x : Rw) : Value := .agg #[.int .i64 x.kind, .int .i64 x.name, .int .i64 x.n0, .int .i64 x.n1, .int .i64 x.n2, .int .i64 x.n3]
def RepRws (S : Nat → Prop) (w : World) (l : List Rw) (v : Value) : Prop := SlG S w 6 48 (RepRw S w) l v
def decls6 : List De := [⟨⟨#[108, 105, 110, 107]⟩, 3⟩, ⟨⟨#[112]⟩, 2⟩, ⟨⟨#[113]⟩, 2⟩, ⟨⟨#[114]⟩, 1⟩, ⟨⟨#[115]⟩, 3⟩, ⟨⟨#[116]⟩, 2⟩]
def decl6 (i : Nat) : De := decls6.getD i ⟨⟨#[108, 105, 110, 107]⟩, 3⟩
def adrName (i : Nat) : ByteArray := ⟨#[[97, 98, 99, 100].getD i 97]⟩
def declOf (x : Rw) : De := decl6 (pickZ x.name 6).toNat
def numOf (x : Rw) (i : Nat) : Int := [x.n0, x.n1, x.n2, x.n3].getD i 0
def factArg (x : Rw) (i : Nat) : V :=
 if i = 0 ∨ (i = 1 ∧ ((declOf x).name = ⟨#[108, 105, 110, 107]⟩ ∨ pickZ (numOf x i) 2 = 0)) then .mk 3 0 (adrName (pickZ ((numOf x i).tdiv 2) 4).toNat) []
 else .mk 1 (pickZ ((numOf x i).tdiv 2) 5) ⟨#[]⟩ []
def factZ (x : Rw) : Fa := ⟨(declOf x).name, (List.range (declOf x).arity.toNat).map (factArg x)⟩
end Go.Proofs.Ytpnaegohjbaggaa
namespace Go.Proofs.Ytpnaegohjbaggaa
open Go.RowKit
theorem pick6_any (c n : Int) (w : World) (hc : I64 c) (hn : 1 ≤ n) (hn2 : n ≤ 9223372036854775807) :
  Calls Try.prog 55 #[.int .i64 c, .int .i64 n] w fun e w' => e = .returned (.int .i64 (pickZ c n)) ∧ w = w' := by
 obtain ⟨h1, h2⟩ := hc
 by_cases h : c < 0
 ·have HF : Hid (pickZ c n = (-(c + 1)) % n) := by show _ = _; rw [pickZ, if_pos h]
  have h3 : 0 ≤ -(c + 1) := by omega
  have hne : (n == 0) = false := beq_eq_false_iff_ne.2 (by omega);go_enter Try.func55, Try.ntmps55
  go_wp2_with fail
  go_ret
  refine ⟨?_, rfl⟩;rw [HF.out];refine ret_int' ?_;rw [← Int.neg_tmod, Int.tmod_eq_emod_of_nonneg h3]
 ·have HF : Hid (pickZ c n = c % n) := by show _ = _; rw [pickZ, if_neg h]
  have h3 : 0 ≤ c := by omega
  have hne : (n == 0) = false := beq_eq_false_iff_ne.2 (by omega);go_enter Try.func55, Try.ntmps55
  go_wp2_with fail
  go_ret
  refine ⟨?_, rfl⟩;rw [HF.out];rfl
end Go.Proofs.Ytpnaegohjbaggaa
