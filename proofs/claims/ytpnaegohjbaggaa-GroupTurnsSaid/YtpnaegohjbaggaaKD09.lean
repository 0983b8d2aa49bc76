/-
  CopyRo
-/
import Derived.Test.YtpnaegohjbaggaaKD05
import Derived.Test.YtpnaegohjbaggaaKD08
namespace Go.Proofs.Ytpnaegohjbaggaa
open Go.RowKit
set_option maxRecDepth 100000 in
set_option maxHeartbeats 1000000 in
theorem cloneRo_any (l : List Ro) (S : Nat → Prop) (w : World) (a : Value) (hS : ∀ k, S k → k < w.heap.size) (ha : SlG S w kdRo.n kdRo.bytes (kdRo.R S w) l a) :
  Calls Try.prog 73 #[a] w (CloneR kdRo S l w) := by
 have hby := SlG.bytes ha
 have h63 : l.length ≤ 140737488355328 := by
  have : l.length * 1 ≤ l.length * kdRo.bytes := Nat.mul_le_mul_left _ (by decide);omega
 obtain ⟨aa, ab, ao, ac, rfl, h6, h7, h8, h9, h10⟩ := id ha;have q22 : ∀ (w : World) (a : Option Addr) (n c n' c' : Nat), (binOp .eql 40 (.slice a n c) (.slice none n' c')).run Try.prog w = .ok (.bool a.isNone) w := fun w a n c n' c' => Lib.run_eql_slice_nil w _ _ a n c n' c' Try.underlying40
 rcases aa with _ | ad
 ·have hc : ac = 0 := by
   by_cases hc : 0 < ac
   ·have := h8 hc; cases this
   ·omega
  subst hc;obtain rfl : l = [] := List.length_eq_zero_iff.1 (by omega);clear ha h6 h7 h8 h9 h10 hby h63;simp only [List.length_nil]
  go_enter Try.func73, Try.ntmps73
  go_wp2_with fail
  go_ret
  exact ⟨Below.refl _ _, .inl ⟨rfl, none, 0, rfl, fun h => by omega⟩⟩
 ·have hb1 : Below w.heap.size w (w.alloc (.cells #[] 47)) := (Below.refl _ w).alloc (Nat.le_refl _) _
  have hown0 : OwnK kdRo S (w.alloc (.cells #[] 47)) w.heap.size [] (.slice (some ⟨w.heap.size, 0, none⟩) 0 0) :=
   ⟨[], ⟨rfl, .inr ⟨w.heap.size, 0, #[], rfl, Nat.le_refl _, alloc_new' _ _, Nat.le_refl _, Nat.zero_le _, rfl, rfl⟩⟩, fun i hi => by simp at hi⟩
  obtain ⟨v', w2, hrun, hown, hgr⟩ := own_manyB (K := kdRo) (L := []) (m := l) hown0 (SlG.on (fun _ h => h) (fun k hk => hb1.block k (hS k hk)) (fun _ _ _ h => kdRo.on (fun _ h => h) (fun k hk => hb1.block k (hS k hk)) h) ha) (fun k hk => ⟨by have := hS k hk; simp; omega, by have := hS k hk; simp [Value.ownBlock]; omega⟩) (by simp) (by simpa using hby) (by simpa using h63) 40;rw [List.nil_append] at hown;have HR : Hid ((Builtin.append_ #[40, 40] 40 #[.slice (some ⟨w.heap.size, 0, none⟩) 0 0, .slice (some ad) l.length ac]).run Try.prog (w.alloc (.cells #[] 47)) = .ok v' w2) := hrun;have HB : Below w.heap.size w w2 := ⟨hgr.os.trans hb1.os, hgr.tape.trans hb1.tape, hgr.output.trans hb1.output, Nat.le_trans hb1.size hgr.size, fun k hk => (hgr.block k (by simp; omega) (by simp [Value.ownBlock]; omega)).trans (hb1.block k hk)⟩;have HC := Lib.hid (clone_each hown HB);clear ha h6 h7 h8 h9 h10 hrun hown hgr hb1 hown0 HB hby h63;generalize l.length = len at *;go_enter Try.func73, Try.ntmps73
  go_wp2_with (at_builtin; refine Lib.wpList_append_run _ rfl _ _ _ _ rfl _ _ rfl rfl _ _ HR.out ?_)
  go_ret
  exact HC.out
def CopyRo (x : Ro) (w : World) (e : Ending) (w' : World) : Prop :=
 ∃ xa xc, e = .returned (.agg #[.string x.name, .slice xa x.args.length xc, .int .i64 x.stamp]) ∧ OwnArgs (fun b => w.heap.size ≤ b ∧ b < w'.heap.size) w' x.args (.slice xa x.args.length xc) ∧ Below w.heap.size w w'
set_option maxRecDepth 100000 in
set_option maxHeartbeats 2000000 in
theorem copyRo_any (x : Ro) (S : Nat → Prop) (w : World) (c : Nat → Value) (hS : ∀ k, S k → k < w.heap.size) (h : kdRo.R S w x c) :
  Calls Try.prog 72 #[.agg #[c 0, c 1, c 2]] w (CopyRo x w) := by
 have HR : Hid (RepRo S w x (c 0) (c 1) (c 2)) := h;have HS := Lib.hid hS;obtain ⟨xa, xc, e0, e1, e2⟩ := (show RepRo S w x (c 0) (c 1) (c 2) from h).form;rw [e0, e1, e2] at HR ⊢;clear h hS e0 e1 e2;go_enter Try.func72, Try.ntmps72
 go_upto_region 1 with fail
 have m0 := alloc_new' w (.cells #[.string x.name, .slice xa x.args.length xc, .int .i64 x.stamp] 47);have d0 := below_alloc w (.cells #[.string x.name, .slice xa x.args.length xc, .int .i64 x.stamp] 47);have s0 := World.size_alloc w (.cells #[.string x.name, .slice xa x.args.length xc, .int .i64 x.stamp] 47);generalize w.alloc (.cells #[.string x.name, .slice xa x.args.length xc, .int .i64 x.stamp] 47) = w1 at *;have m1 := alloc_new' w1 (.cells #[.string ⟨#[]⟩, .slice none 0 0, .int .i64 0] 47);have d1 := below_alloc w1 (.cells #[.string ⟨#[]⟩, .slice none 0 0, .int .i64 0] 47);have s1 := World.size_alloc w1 (.cells #[.string ⟨#[]⟩, .slice none 0 0, .int .i64 0] 47);generalize w1.alloc (.cells #[.string ⟨#[]⟩, .slice none 0 0, .int .i64 0] 47) = w2 at *;rw [s0] at m1 s1;obtain ⟨b1, hb1⟩ : ∃ b1, w.heap.size + 1 = b1 := ⟨_, rfl⟩;have M0 : Hid (w2.heap[w.heap.size]? = some (.cells #[.string x.name, .slice xa x.args.length xc, .int .i64 x.stamp] 47 (0, 0))) := (d1.block _ (by omega)).trans m0;have M1 : Hid (w2.heap[w.heap.size + 1]? = some (.cells #[.string ⟨#[]⟩, .slice none 0 0, .int .i64 0] 47 (0, 0))) := m1;rw [hb1] at M1 ⊢;have B : Hid (Below w.heap.size w w2) := Below.step d0 d1;have HB1 : Hid (w.heap.size + 1 = b1) := hb1;have HK : Hid (w.heap.size + 2 ≤ w2.heap.size) := by show _ ≤ _; omega
 clear m0 m1 d0 d1 s0 s1 hb1;have p0 := cell_of_block' (i := 0) M0.out _ rfl;have p1 := cell_of_block' (i := 1) M0.out _ rfl;have p2 := cell_of_block' (i := 2) M0.out _ rfl;go_wp2_with fail
 have hby : x.args.length * 56 ≤ 140737488355328 := SlG.bytes (slg_of_lg HR.out.2.2.1);have HBY := Lib.hid hby;clear hby;refine (eachVO_any x.args S w2 _ (fun k hk => Nat.lt_of_lt_of_le (HS.out k hk) B.out.size) (slg_of_lg (RepLG.on (fun _ h => h) (fun k hk => B.out.block k (HS.out k hk)) HR.out.2.2.1)) (fun y _ => copyV_any y)).mono ?_;intro e w3 hpost;obtain ⟨hbx, v, rfl, hv⟩ := hpost.args HBY.out;clear hpost;obtain ⟨n0a, n0c, rfl⟩ := hv.form;have N0 : Hid (OwnArgs (fun b => w.heap.size + 2 ≤ b ∧ b < w3.heap.size) w3 x.args (.slice n0a x.args.length n0c)) := OwnArgs.on (fun b hb => ⟨Nat.le_trans HK.out hb.1, hb.2⟩) (fun _ _ => rfl) hv;replace M0 := Lib.hid ((hbx.block _ (Array.getElem?_eq_some_iff.1 M0.out).1).trans M0.out); replace M1 := Lib.hid ((hbx.block _ (Array.getElem?_eq_some_iff.1 M1.out).1).trans M1.out)
 replace B := Lib.hid (Below.step B.out hbx); replace HK := Lib.hid (Nat.le_trans HK.out hbx.size)
 clear hv hbx p0 p1 p2;have p0 := cell_of_block' (i := 0) M0.out _ rfl;have p1 := cell_of_block' (i := 1) M0.out _ rfl;have p2 := cell_of_block' (i := 2) M0.out _ rfl;have z1 := frozen_of_row w3 w.heap.size 1 _ _ M0.out;go_upto_region 2 with fail
 have hsz := (show (w3.setCell ⟨w.heap.size, 1, none⟩ (.slice n0a x.args.length n0c)).heap.size = w3.heap.size by simp [World.setCell]);replace M0 : Hid ((w3.setCell ⟨w.heap.size, 1, none⟩ (.slice n0a x.args.length n0c)).heap[w.heap.size]? = some (.cells #[.string x.name, .slice n0a x.args.length n0c, .int .i64 x.stamp] 47 (0, 0))) := (heap_setCell_same _ _ _ _ _ _ M0.out);replace M1 : Hid ((w3.setCell ⟨w.heap.size, 1, none⟩ (.slice n0a x.args.length n0c)).heap[b1]? = some (.cells #[.string ⟨#[]⟩, .slice none 0 0, .int .i64 0] 47 (0, 0))) := (Below.heap_setCell _ _ _ _ (by have := HB1.out; simp; omega)).trans M1.out;replace B : Hid (Below w.heap.size w (w3.setCell ⟨w.heap.size, 1, none⟩ (.slice n0a x.args.length n0c))) := (Below.setCell (p := ⟨w.heap.size, 1, none⟩) B.out (Nat.le_refl _) (.slice n0a x.args.length n0c));replace HK : Hid (w.heap.size + 2 ≤ (w3.setCell ⟨w.heap.size, 1, none⟩ (.slice n0a x.args.length n0c)).heap.size) := by show _ ≤ _; rw [hsz]; exact HK.out
 replace N0 : Hid (OwnArgs (fun b => w.heap.size + 2 ≤ b ∧ b < (w3.setCell ⟨w.heap.size, 1, none⟩ (.slice n0a x.args.length n0c)).heap.size) (w3.setCell ⟨w.heap.size, 1, none⟩ (.slice n0a x.args.length n0c)) x.args (.slice n0a x.args.length n0c)) := OwnArgs.on (fun b hb => ⟨hb.1, by rw [hsz]; exact hb.2⟩) (fun b hb => Below.heap_setCell _ _ _ _ (by have := hb.1; simp; omega)) N0.out;clear hsz p0 p1 p2 z1;generalize (w3.setCell ⟨w.heap.size, 1, none⟩ (.slice n0a x.args.length n0c)) = w4 at *;have p0 := cell_of_block' (i := 0) M0.out _ rfl;have p1 := cell_of_block' (i := 1) M0.out _ rfl;have p2 := cell_of_block' (i := 2) M0.out _ rfl;have q0 := cell_of_block' (i := 0) M1.out _ rfl;have z0 := frozen_of_row w4 b1 0 _ _ M1.out;have q1 := cell_of_block' (i := 1) M1.out _ rfl;have z1 := frozen_of_row w4 b1 1 _ _ M1.out;have q2 := cell_of_block' (i := 2) M1.out _ rfl;have z2 := frozen_of_row w4 b1 2 _ _ M1.out;go_wp2_with fail
 generalize hwz : (((w4.setCell ⟨b1, 0, none⟩ (.string x.name)).setCell ⟨b1, 1, none⟩ (.slice n0a x.args.length n0c)).setCell ⟨b1, 2, none⟩ (.int .i64 x.stamp)) = wz;have hpz : wz = putCells w4 b1 0 [.string x.name, .slice n0a x.args.length n0c, .int .i64 x.stamp] := hwz.symm.trans rfl;clear hwz q0 z0 q1 z1 q2 z2 p0 p1 p2;have Y : wz.heap[b1]? = some (.cells #[.string x.name, .slice n0a x.args.length n0c, .int .i64 x.stamp] 47 (0, 0)) := by rw [hpz]; exact putCells_all M1.out rfl
 have y0 := cell_of_block' (i := 0) Y _ rfl;have y1 := cell_of_block' (i := 1) Y _ rfl;have y2 := cell_of_block' (i := 2) Y _ rfl;have BB : Below w.heap.size w wz := by rw [hpz]; exact putCells_below _ _ (by have := HB1.out; omega) _ _ _ B.out
 have hsz : wz.heap.size = w4.heap.size := by rw [hpz]; exact putCells_size _ _ _ _
 have hoth : ∀ b, b ≠ b1 → wz.heap[b]? = w4.heap[b]? := fun b hb => by rw [hpz]; exact putCells_other _ _ hb _ _ _
 clear hpz;have FIN : OwnArgs (fun b => w.heap.size ≤ b ∧ b < wz.heap.size) wz x.args (.slice n0a x.args.length n0c) := OwnArgs.on (fun b hb => ⟨by have := hb.1; omega, by rw [hsz]; exact hb.2⟩) (fun b hb => hoth b (by have := hb.1; have := HB1.out; omega)) N0.out;refine bodyPost_ret (v := .agg #[.string x.name, .slice n0a x.args.length n0c, .int .i64 x.stamp]) (by simp [results, Try.results72, go_sem, y0, y1, y2]) rfl ⟨n0a, n0c, rfl, FIN, BB⟩
def RowsTo (S : Nat → Prop) (B g : Nat) (l : List Ro) (i : Nat) (w : World) : Prop :=
 ∃ (cs : Array Value) (N : Nat → Nat), w.heap[g]? = some (.cells cs 47 (0, 0)) ∧ l.length * 3 ≤ cs.size ∧ B ≤ g ∧ g < N 0 ∧ (∀ j, j < i → N j ≤ N (j + 1)) ∧ N i ≤ w.heap.size ∧
  ∀ j (h : j < l.length), ∃ xa xc, cs[j * 3]? = some (.string l[j].name) ∧ cs[j * 3 + 1]? = some (.slice xa l[j].args.length xc) ∧ cs[j * 3 + 2]? = some (.int .i64 l[j].stamp) ∧ l[j].name.size ≤ maxLen ∧ I64 l[j].stamp ∧
   (j < i → OwnArgs (fun b => N j ≤ b ∧ b < N (j + 1)) w l[j].args (.slice xa l[j].args.length xc)) ∧ (i ≤ j → RepLG S w l[j].args (.slice xa l[j].args.length xc))
theorem mono_le {N : Nat → Nat} {i : Nat} (h : ∀ j, j < i → N j ≤ N (j + 1)) : ∀ j k, j ≤ k → k ≤ i → N j ≤ N k := by
 intro j k hjk
 induction k with
 | zero =>
  intro _;have : j = 0 := by omega
  subst this;exact Nat.le_refl _
 | succ k ih =>
  intro hk
  by_cases e : j = k + 1
  ·subst e; exact Nat.le_refl _
  ·exact Nat.le_trans (ih (by omega) (by omega)) (h k (by omega))
theorem RowsTo.lt {S : Nat → Prop} {B g : Nat} {l : List Ro} {i : Nat} {w : World} (h : RowsTo S B g l i w) : g < w.heap.size := by
 obtain ⟨cs, N, h, -⟩ := h;exact (Array.getElem?_eq_some_iff.1 h).1
theorem RowsTo.frozen {S : Nat → Prop} {B g : Nat} {l : List Ro} {i : Nat} {w : World} (h : RowsTo S B g l i w) (o : Nat) : w.frozen? ⟨g, o, none⟩ = false := by
 obtain ⟨cs, N, h, -⟩ := h;simp [World.frozen?, h]
theorem RowsTo.on {S : Nat → Prop} {B g : Nat} {l : List Ro} {i : Nat} {w w' : World} (h : RowsTo S B g l i w) (hS : ∀ b, S b → b < w.heap.size) (hb : Below w.heap.size w w') : RowsTo S B g l i w' := by
 have hl := h.lt;obtain ⟨cs, N, h1, h2, h3, h4, h5, h6, h7⟩ := h;refine ⟨cs, N, (hb.block _ hl).trans h1, h2, h3, h4, h5, Nat.le_trans h6 hb.size, fun j hj => ?_⟩;obtain ⟨xa, xc, g0, g1, g2, g3, g4, g5, g6⟩ := h7 j hj;refine ⟨xa, xc, g0, g1, g2, g3, g4, fun hi => OwnArgs.on (fun _ h => h) (fun k hk => hb.block k (by have := mono_le h5 (j + 1) i (by omega) (Nat.le_refl _); omega)) (g5 hi), fun hi => RepLG.on (fun _ h => h) (fun k hk => hb.block k (hS k hk)) (g6 hi)⟩
theorem RowsTo.load {S : Nat → Prop} {B g : Nat} {l : List Ro} {i : Nat} {w : World} (h : RowsTo S B g l i w) (hi : i < l.length) : ∃ c : Nat → Value, (∀ t, t < 3 → w.cell? ⟨g, i * 3 + t, none⟩ = some (c t)) ∧ kdRo.R S w l[i] c := by
 obtain ⟨cs, N, h1, h2, h3, h4, h5, h6, h7⟩ := h;obtain ⟨xa, xc, g0, g1, g2, g3, g4, g5, g6⟩ := h7 i hi;refine ⟨fun t => ([.string l[i].name, .slice xa l[i].args.length xc, .int .i64 l[i].stamp] : List Value).getD t undef, fun t ht => ?_, ⟨rfl, g3, g6 (Nat.le_refl _), rfl, g4⟩⟩
 match t, ht with
 | 0, _ => exact cell_of_block' h1 _ g0
 | 1, _ => exact cell_of_block' h1 _ g1
 | 2, _ => exact cell_of_block' h1 _ g2
theorem RowsTo.put {S : Nat → Prop} {B g : Nat} {l : List Ro} {i : Nat} {w w5 : World} (h5' : RowsTo S B g l i w5) (hb56 : Below w5.heap.size w5 w) (hSw : ∀ b, S b → b < w5.heap.size) (hS : ∀ b, S b → b ≠ g) (hi : i < l.length) {x : Ro} (hx : l[i] = x) {za : Option Addr} {zc : Nat}
  (ha : OwnArgs (fun b => w5.heap.size ≤ b ∧ b < w.heap.size) w x.args (.slice za x.args.length zc)) : RowsTo S B g l (i + 1) (putCells w g (i * 3) [.string x.name, .slice za x.args.length zc, .int .i64 x.stamp]) := by
 have hl5 := h5'.lt;have hN5 : ∃ N : Nat → Nat, N = N := ⟨id, rfl⟩;obtain ⟨cs0, N, k1, k2, k3, k4, k5, k6, k7⟩ := h5';have h1 : w.heap[g]? = some (.cells cs0 47 (0, 0)) := (hb56.block _ hl5).trans k1;subst hx;obtain ⟨cs', e1, e2, e3, e4⟩ := putCells_same g 47 [.string l[i].name, .slice za l[i].args.length zc, .int .i64 l[i].stamp] w (i * 3) cs0 h1 (by simp; omega);have hoth : ∀ b, b ≠ g → (putCells w g (i * 3) [.string l[i].name, .slice za l[i].args.length zc, .int .i64 l[i].stamp]).heap[b]? = w.heap[b]? := fun b hb => putCells_other g b hb _ _ _
 have hsz := putCells_size g [.string l[i].name, .slice za l[i].args.length zc, .int .i64 l[i].stamp] w (i * 3);have hNi : N i ≤ w5.heap.size := k6;refine ⟨cs', fun j => if j ≤ i then N j else w.heap.size, e1, by omega, k3, by simp; exact k4, fun j hj => ?_, by show (if i + 1 ≤ i then N (i + 1) else w.heap.size) ≤ _; rw [hsz, if_neg (by omega)]; exact Nat.le_refl _, fun j hj => ?_⟩
 ·by_cases e : j < i
  ·simp only [if_pos (show j ≤ i by omega), if_pos (show j + 1 ≤ i by omega)]; exact k5 j e
  ·have : j = i := by omega
   subst this;simp only [if_pos (Nat.le_refl j), if_neg (show ¬ j + 1 ≤ j by omega)]
   exact Nat.le_trans hNi hb56.size
 ·obtain ⟨xa, xc, g0, g1, g2, g3, g4, g5, g6⟩ := k7 j hj
  by_cases e : j = i
  ·subst e
   refine ⟨za, zc, e3 0 (by simp), e3 1 (by simp), e3 2 (by simp), g3, g4, fun _ => ?_, fun h => by omega⟩;simp only [if_pos (Nat.le_refl j), if_neg (show ¬ j + 1 ≤ j by omega)]
   have hg0 : g < w5.heap.size := hl5;exact OwnArgs.on (fun b hb => ⟨by omega, hb.2⟩) (fun b hb => hoth b (by omega)) ha
  ·refine ⟨xa, xc, (e4 _ (by simp; omega)).trans g0, (e4 _ (by simp; omega)).trans g1, (e4 _ (by simp; omega)).trans g2, g3, g4, fun h => ?_, fun h => ?_⟩
   ·simp only [if_pos (show j ≤ i by omega), if_pos (show j + 1 ≤ i by omega)]
    have m1 := mono_le k5 (j + 1) i (by omega) (Nat.le_refl _);have m0 := mono_le k5 0 j (Nat.zero_le _) (by omega);exact OwnArgs.on (fun _ h => h) (fun b hb => (hoth b (by omega)).trans (hb56.block b (by omega))) (g5 (by omega))
   ·exact RepLG.on (fun _ h => h) (fun b hb => (hoth b (hS b hb)).trans (hb56.block b (hSw b hb))) (g6 (by omega))
theorem RowsTo.start {S : Nat → Prop} {g : Nat} {l : List Ro} {w0 w : World} (hg : w0.heap.size ≤ g) (h : EachAt kdRo S w0.heap.size g l 0 w) : RowsTo S w0.heap.size g l 0 w := by
 have hl := h.lt;obtain ⟨cs, h1, h2, h3⟩ := h;refine ⟨cs, fun _ => w.heap.size, h1, h2, hg, hl, fun j hj => by omega, Nat.le_refl _, fun j hj => ?_⟩;obtain ⟨c, e1, e2⟩ := h3 j hj;have e2' : RepRo (fun b => if j < 0 then w0.heap.size ≤ b ∧ b < w.heap.size ∧ b ≠ g else S b) w l[j] (c 0) (c 1) (c 2) := e2;obtain ⟨xa, xc, c0, c1, c2⟩ := e2'.form;have f0 := e1 0 (by decide); have f1 := e1 1 (by decide); have f2 := e1 2 (by decide)
 rw [c0] at f0; rw [c1] at f1; rw [c2] at f2
 rw [c1] at e2';exact ⟨xa, xc, f0, f1, f2, e2'.2.1, e2'.2.2.2.2, fun h => by omega, fun _ => RepLG.on (fun b hb => by rw [if_neg (by omega)] at hb; exact hb) (fun _ _ => rfl) e2'.2.2.1⟩
def CopyRos (l : List Ro) (w : World) (e : Ending) (w' : World) : Prop :=
 Below w.heap.size w w' ∧ ((l = [] ∧ ∃ a c, e = .returned (.slice a 0 c) ∧ (0 < c → ∃ g, a = some ⟨g, 0, none⟩)) ∨ ∃ g c, e = .returned (.slice (some ⟨g, 0, none⟩) l.length c) ∧ l.length ≤ c ∧ RowsTo (fun _ => False) w.heap.size g l l.length w')
theorem RowsTo.free {S S' : Nat → Prop} {B g : Nat} {l : List Ro} {w : World} (h : RowsTo S B g l l.length w) : RowsTo S' B g l l.length w := by
 obtain ⟨cs, N, h1, h2, h3, h4, h5, h6, h7⟩ := h;refine ⟨cs, N, h1, h2, h3, h4, h5, h6, fun j hj => ?_⟩;obtain ⟨xa, xc, g0, g1, g2, g3, g4, g5, g6⟩ := h7 j hj;exact ⟨xa, xc, g0, g1, g2, g3, g4, g5, fun h => by omega⟩
set_option maxRecDepth 100000 in
set_option maxHeartbeats 2000000 in
theorem eachRo_any (l : List Ro) (S : Nat → Prop) (w : World) (v : Value) (hS : ∀ k, S k → k < w.heap.size) (hl : SlG S w kdRo.n kdRo.bytes (kdRo.R S w) l v) :
  Calls Try.prog 71 #[v, .func (.func 72) #[] #[]] w (CopyRos l w) := by
 have HL := Lib.hid hl; have HS := Lib.hid hS
 have HBY := Lib.hid (SlG.bytes hl)
 have H63 : Hid (l.length ≤ 140737488355328) := by
  have : l.length * 1 ≤ l.length * kdRo.bytes := Nat.mul_le_mul_left _ (by decide);have := HBY.out
  show _ ≤ _; omega
 have hen : ∀ args w, Sem.run Try.prog (callFunc 72 args) w = .ok (.enter 72 args) w := fun args w => by kernel_rfl
 clear hl hS;go_enter Try.func71, Try.ntmps71
 go_wp2_with fail
 refine (cloneRo_any l S w v HS.out HL.out).mono ?_;rintro e w1 ⟨hb1, ⟨hnil, a, c, rfl, hac⟩ | ⟨g, cap, rfl, hcap, hg, hat⟩⟩
 ·have HB1 := Lib.hid hb1; have HNL := Lib.hid hnil; have HAC := Lib.hid hac
  clear hb1 hac hnil;go_wp2_with fail
  go_loopw [12] (fun iv wr => iv = .int .i64 0 ∧ wr = w1) (fun _ _ => 0)
  case atStart => exact ⟨rfl, rfl⟩
  case round =>
   obtain ⟨rfl, rfl⟩ := hrel;go_wp2_with fail
   go_ret
   exact ⟨HB1.out, .inl ⟨HNL.out, a, c, rfl, HAC.out⟩⟩
 ·have HB1 := Lib.hid hb1; have HAT : Hid (RowsTo S w.heap.size g l 0 w1) := RowsTo.start hg hat
  have HG := Lib.hid hg; have HCP := Lib.hid hcap
  clear hb1 hcap hg hat;go_wp2_with fail
  go_loopw [12] (fun iv wr => ∃ i : Nat, i ≤ l.length ∧ iv = .int .i64 (i : Int) ∧ Hid (RowsTo S w.heap.size g l i wr) ∧ Hid (Below w.heap.size w wr)) (fun iv _ => l.length - (intOf iv).toNat)
  case atStart => exact ⟨0, Nat.zero_le _, rfl, HAT, HB1⟩
  case round =>
   obtain ⟨i, hi, rfl, hat, hbel⟩ := hrel
   by_cases hil : i < l.length
   ·obtain ⟨c, hc, hR⟩ := hat.out.load hil
    obtain ⟨xa, xc, e0, e1, e2⟩ := (show RepRo S wr l[i] (c 0) (c 1) (c 2) from hR).form;have g0 : wr.cell? ⟨g, i * 3, none⟩ = some (.string l[i].name) := by have h := hc 0 (by decide); rw [e0] at h; exact h
    have g1 : wr.cell? ⟨g, i * 3 + 1, none⟩ = some (.slice xa l[i].args.length xc) := by have h := hc 1 (by decide); rw [e1] at h; exact h
    have g2 : wr.cell? ⟨g, i * 3 + 2, none⟩ = some (.int .i64 l[i].stamp) := by have h := hc 2 (by decide); rw [e2] at h; exact h
    have HGL := Lib.hid hat.out.lt;have hb5 := below_alloc wr (.cells #[.string l[i].name, .slice xa l[i].args.length xc, .int .i64 l[i].stamp] 47);have m5 := alloc_new' wr (.cells #[.string l[i].name, .slice xa l[i].args.length xc, .int .i64 l[i].stamp] 47);have HSW : Hid (∀ b, S b → b < wr.heap.size) := fun b hb => Nat.lt_of_lt_of_le (HS.out b hb) hbel.out.size
    have HAT5 := Lib.hid (hat.out.on HSW.out hb5);have HR5 : Hid (kdRo.R S (wr.alloc (.cells #[.string l[i].name, .slice xa l[i].args.length xc, .int .i64 l[i].stamp] 47)) l[i] c) := kdRo.on (fun _ h => h) (fun b hb => hb5.block b (HSW.out b hb)) hR;have HB5 := Lib.hid (Below.step hbel.out hb5);have HIL := Lib.hid hil;have HEQ : Hid (c 0 = .string l[i].name ∧ c 1 = .slice xa l[i].args.length xc ∧ c 2 = .int .i64 l[i].stamp) := ⟨e0, e1, e2⟩;clear hc hat hbel hb5 hR;generalize hx : l[i] = x at *;have HX := Lib.hid hx;clear hx;go_upto_region 5 with fail
    clear g0 g1 g2;obtain ⟨bx, hbx⟩ : ∃ bx, wr.heap.size = bx := ⟨_, rfl⟩;rw [hbx] at m5 ⊢;have HGX : Hid (g < bx) := by show _ < _; rw [← hbx]; exact HGL.out
    clear hbx;generalize wr.alloc (.cells #[.string x.name, .slice xa x.args.length xc, .int .i64 x.stamp] 47) = w5 at *;have M5 := Lib.hid m5;clear m5;have q0 := cell_of_block' (i := 0) M5.out _ rfl;have q1 := cell_of_block' (i := 1) M5.out _ rfl;have q2 := cell_of_block' (i := 2) M5.out _ rfl;go_wp2_with fail
    have hcc := copyRo_any x S w5 c (fun b hb => Nat.lt_of_lt_of_le (HS.out b hb) HB5.out.size) HR5.out;obtain ⟨e0, e1, e2⟩ := HEQ.out;rw [e0, e1, e2] at hcc;clear e0 e1 e2;refine hcc.mono ?_;clear hcc;rintro e w6 ⟨za, zc, rfl, hR6, hb6⟩;have HAT6 := Lib.hid (HAT5.out.on (fun b hb => Nat.lt_of_lt_of_le (HS.out b hb) HB5.out.size) hb6);have HB6 := Lib.hid (Below.step HB5.out hb6);have HR6 := Lib.hid hR6;have HB56 := Lib.hid hb6;clear hb6 hR6 q0 q1 q2;obtain ⟨c6, hc6, -⟩ := HAT6.out.load HIL.out;have p0 : w6.cell? ⟨g, i * 3, none⟩ = some (c6 0) := hc6 0 (by decide);have p1 : w6.cell? ⟨g, i * 3 + 1, none⟩ = some (c6 1) := hc6 1 (by decide);have p2 : w6.cell? ⟨g, i * 3 + 2, none⟩ = some (c6 2) := hc6 2 (by decide);have z0 := HAT6.out.frozen (i * 3);have z1 := HAT6.out.frozen (i * 3 + 1);have z2 := HAT6.out.frozen (i * 3 + 2);clear hc6;have h63 := H63.out;have hil := HIL.out;go_wp2_with fail
    have HN : Hid (RowsTo S w.heap.size g l (i + 1) (putCells w6 g (i * 3) [.string x.name, .slice za x.args.length zc, .int .i64 x.stamp])) :=
     HAT5.out.put HB56.out (fun b hb => Nat.lt_of_lt_of_le (HS.out b hb) HB5.out.size) (fun b hb e => by have := HS.out b hb; have := HG.out; omega) HIL.out HX.out HR6.out
    have HBN : Hid (Below w.heap.size w (putCells w6 g (i * 3) [.string x.name, .slice za x.args.length zc, .int .i64 x.stamp])) := putCells_below _ g HG.out _ _ _ HB6.out;go_roundw
    case rel => exact ⟨i + 1, HIL.out, by go_num, HN, HBN⟩
    case measure => simp [intOf]; omega
   ·have hil2 : i = l.length := by omega
    subst hil2;go_wp2_with fail
    go_ret
    exact ⟨hbel.out, .inr ⟨g, cap, rfl, HCP.out, hat.out.free⟩⟩
set_option maxRecDepth 100000 in
set_option maxHeartbeats 1000000 in
theorem copyRos_any (l : List Ro) (S : Nat → Prop) (w : World) (v : Value) (hS : ∀ k, S k → k < w.heap.size) (hl : SlG S w kdRo.n kdRo.bytes (kdRo.R S w) l v) :
  Calls Try.prog 44 #[v] w (CopyRos l w) := by
 have HL := Lib.hid hl; have HS := Lib.hid hS
 obtain ⟨fa, fc, rfl⟩ := SlG.form hl;clear hl hS;go_enter Try.func44, Try.ntmps44
 go_wp2_with fail
 refine (eachRo_any l S w _ HS.out HL.out).mono ?_;rintro e w1 ⟨hb, ⟨hnil, a, c, rfl, hac⟩ | ⟨g, cap, rfl, hcap, hat⟩⟩
 ·have H : Hid (CopyRos l w (.returned (.slice a 0 c)) w1) := ⟨hb, .inl ⟨hnil, a, c, rfl, hac⟩⟩
  clear hb hnil hac;go_wp2_with fail
  go_ret
  exact H.out
 ·have H : Hid (CopyRos l w (.returned (.slice (some ⟨g, 0, none⟩) l.length cap)) w1) := ⟨hb, .inr ⟨g, cap, rfl, hcap, hat⟩⟩
  clear hb hcap hat;go_wp2_with fail
  go_ret
  exact H.out
end Go.Proofs.Ytpnaegohjbaggaa
