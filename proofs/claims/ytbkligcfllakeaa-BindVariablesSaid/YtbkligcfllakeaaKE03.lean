/-
  Concat, Makers, Do, DoTwo
-/
import Derived.Test.YtbkligcfllakeaaKE01
import Derived.Test.YtbkligcfllakeaaKE02
import Derived.Lib.AppendZeros
import Derived.LoopN
import Derived.StillTailTactics
namespace Go.Proofs.Ytbkligcfllakeaa
open Go.RowKit
def GrowPost (w : World) (e : Ending) (w' : World) : Prop := ∃ a cap, e = .returned (.slice a 0 cap) ∧ OwnL (fun b => b < w.heap.size) w' w.heap.size [] (.slice a 0 cap) ∧ Below w.heap.size w w'
theorem run_grow (w : World) (n : Nat) (h0 : 0 < n) (hn : n ≤ 1000) : ∃ w', (Builtin.append_ #[22, 3] 22 #[.slice none 0 0, .int .i64 n]).run Try.prog w = .ok (.slice (some ⟨w.heap.size, 0, none⟩) n (grownCap w n 0 27)) w' ∧
  OwnL (fun b => b < w.heap.size) w' w.heap.size [] (.slice (some ⟨w.heap.size, 0, none⟩) 0 (grownCap w n 0 27)) ∧ Below w.heap.size w w' := by
 obtain ⟨i0, hi, hz0, hz1, hz2⟩ := info_parts infoValue;have h := Lib.run_append_nil_zeros (P := Try.prog) w 22 3 22 27 i0 _ .i64 .i64 Try.underlying22 Try.underlying3 hi hz0 n h0 (by rw [hz1]; omega) (by omega) (by rw [hz2]; omega);refine ⟨_, h, ⟨[], ⟨rfl, .inr ⟨w.heap.size, _, _, rfl, Nat.le_refl _, alloc_new' _ _, Nat.zero_le _, grownCap_le_maxLen _ _ _ _ (by unfold maxLen; omega), ?_, rfl⟩⟩, fun i hi => by simp at hi⟩, (Below.drew (Below.refl _ w)).alloc (Nat.le_refl _) _⟩;have := grownCap_ge w n 0 27;rw [Array.size_append, size_zeroCells, size_zeroCells];simp [Value.cells]
 omega
set_option maxRecDepth 100000 in
set_option maxHeartbeats 1000000 in
theorem grow_any (w : World) (n : Nat) (hn : n ≤ 1000) :
  Calls Try.prog 130 #[.slice none 0 0, .int .i64 n] w (GrowPost w) := by
 by_cases h0 : 0 < n
 ·obtain ⟨w', hrun, hown, hb⟩ := run_grow w n h0 hn
  have HRUN := Lib.hid hrun; have HOWN := Lib.hid hown; have HB := Lib.hid hb
  generalize grownCap w n 0 27 = cap at *;clear hrun hown hb;go_enter Try.func130, Try.ntmps130
  go_wp2_with (at_builtin; refine Lib.wpList_append_run _ rfl _ _ _ _ rfl _ _ rfl rfl _ _ HRUN.out ?_)
  go_ret
  exact ⟨_, cap, rfl, HOWN.out, HB.out⟩
 ·obtain rfl : n = 0 := by omega
  clear h0;go_enter Try.func130, Try.ntmps130
  go_wp2_with fail
  go_ret
  exact ⟨none, 0, rfl, OwnL.nil _ _ _, Below.refl _ _⟩
theorem own_slice {S : Nat → Prop} {w : World} {base : Nat} {l : List V} {v : Value} (h : OwnL S w base l v) : ∃ a cap, v = .slice a l.length cap := by
 obtain ⟨xs, ⟨_, hown⟩, _⟩ := h;rcases hown with ⟨rfl, hn⟩ | ⟨g, cap, cur, rfl, _⟩
 ·exact ⟨none, 0, by rw [hn]⟩
 ·exact ⟨_, _, rfl⟩
theorem own_nil {S S' : Nat → Prop} {w : World} {base : Nat} {v : Value} (h : OwnL S w base [] v) : OwnL S' w base [] v := by
 obtain ⟨xs, hown, _⟩ := h;exact ⟨xs, hown, fun i hi => by simp at hi⟩
theorem append_two (w : World) (base : Nat) {S : Nat → Prop} (hSb : ∀ k, S k → k < base) {l m : List V} {v sa sb : Value} (hl : OwnL S w base [] v) (ha : RepLG S w l sa) (hb : RepLG S w m sb) (hl1 : l.length ≤ 100) (hm1 : m.length ≤ 100) (hbase : base ≤ w.heap.size) :
  ∃ (a1 : Option Addr) (n1 c1 : Nat) (w1 : World) (a2 : Option Addr) (n2 c2 : Nat) (w2 : World), (Builtin.append_ #[22, 22] 22 #[v, sa]).run Try.prog w = .ok (.slice a1 n1 c1) w1 ∧ (Builtin.append_ #[22, 22] 22 #[.slice a1 n1 c1, sb]).run Try.prog w1 = .ok (.slice a2 n2 c2) w2 ∧
   OwnL S w2 base (l ++ m) (.slice a2 n2 c2) ∧ Below base w w1 ∧ Below base w w2 := by
 have low : ∀ {w : World} {l : List V} {v : Value}, OwnL S w base l v → ∀ k, v.ownBlock = some k → base ≤ k := by
  intro w l v h k hk;obtain ⟨xs, ⟨_, hown⟩, _⟩ := h;rcases hown with ⟨rfl, hn⟩ | ⟨g, cap, cur, rfl, hbg, hh, _⟩
  ·simp [Value.ownBlock] at hk
  ·simp [Value.ownBlock] at hk
   omega
 obtain ⟨v1, w1, r1, o1, g1, -⟩ := append_run w base 22 hl ha (fun k hk => ⟨by have := hSb k hk; omega, fun e => by have := low hl k e; have := hSb k hk; omega⟩) (by simp; omega) hbase;have s1 := g1.size;have b1 : Below base w w1 := ⟨g1.os, g1.tape, g1.output, g1.size, fun k hk => g1.block k (by omega) (fun e => by have := low hl k e.symm; omega)⟩;obtain ⟨v2, w2, r2, o2, g2, -⟩ := append_run w1 base 22 o1 (hb.on (fun _ h => h) (fun k hk => b1.block k (hSb k hk))) (fun k hk => ⟨by have := hSb k hk; omega, fun e => by have := low o1 k e; have := hSb k hk; omega⟩) (by simp; omega) (by omega);have b2 : Below base w1 w2 := ⟨g2.os, g2.tape, g2.output, g2.size, fun k hk => g2.block k (by omega) (fun e => by have := low o1 k e.symm; omega)⟩;rw [List.nil_append] at o2;obtain ⟨a1, c1, rfl⟩ := own_slice o1;obtain ⟨a2, c2, rfl⟩ := own_slice o2;exact ⟨a1, _, c1, w1, a2, _, c2, w2, r1, r2, o2, b1, b1.trans b2⟩
def ConcatPost (B : Nat) (l : List V) (w : World) (e : Ending) (w' : World) : Prop := ∃ r, e = .returned r ∧ RepLG (fun b => b < B ∨ (w.heap.size ≤ b ∧ b < w'.heap.size)) w' l r ∧ Below w.heap.size w w'
set_option maxRecDepth 100000 in
set_option maxHeartbeats 4000000 in
theorem concat_any (l m : List V) (B : Nat) (w : World) (sa sb : Value) (b : Nat) (hB : B ≤ w.heap.size) (hb : w.heap[b]? = some (.cells #[sa, sb] 22 (0, 0))) (ha : RepL B w l sa) (hm : RepL B w m sb) (hl1 : l.length ≤ 100) (hm1 : m.length ≤ 100) :
  Calls Try.prog 124 #[.slice (some ⟨b, 0, none⟩) 2 2] w (ConcatPost B (l ++ m) w) := by
 have hlt : b < w.heap.size := (Array.getElem?_eq_some_iff.1 hb).1;have HA := Lib.hid ha; have HM := Lib.hid hm
 obtain ⟨aa, ab, ao, ac, rfl, -⟩ := ha;obtain ⟨ma, mb, mo, mc, rfl, -⟩ := hm;have q0 := cell_of_block' (i := 0) hb _ rfl;have q1 := cell_of_block' (i := 1) hb _ rfl;have HB := Lib.hid hb;clear hb;go_enter Try.func124, Try.ntmps124
 go_wp2_with fail
 refine wp_loop_rounds 3 ?_;rw [rounds_succ];go_wp2_with fail
 rw [rounds_succ];go_wp2_with fail
 rw [rounds_succ];go_wp2_with fail
 rw [show ((l.length : Int) + (m.length : Int)) = ((l.length + m.length : Nat) : Int) by omega];refine (grow_any w (l.length + m.length) (by omega)).mono ?_;rintro e w1 ⟨ga, gc, rfl, hown, hb1⟩;obtain ⟨a1, n1, c1, w2, a2, n2, c2, w3, r1, r2, o2, b2, b3⟩ := append_two (S := fun b => b < B) w1 w.heap.size (fun k hk => Nat.lt_of_lt_of_le hk hB) (own_nil hown) (RepLG.on (fun b hb => hb) (fun k hk => hb1.block k (Nat.lt_of_lt_of_le hk hB)) HA.out) (RepLG.on (fun b hb => hb) (fun k hk => hb1.block k (Nat.lt_of_lt_of_le hk hB)) HM.out) hl1 hm1 hb1.size;have H1 := (hb1.block b hlt).trans HB.out;have H2 := (b2.block b hlt).trans H1;have H3 := (b3.block b hlt).trans H1;clear q0 q1;have q0 := cell_of_block' (i := 0) H1 _ rfl;have q1 := cell_of_block' (i := 1) H2 _ rfl;have R1 := Lib.hid r1; have R2 := Lib.hid r2
 have HO := Lib.hid (o2.rep (S' := fun b => b < B ∨ (w.heap.size ≤ b ∧ b < w3.heap.size)) (fun k hk => .inl hk) (fun g h1 hg => .inr ⟨h1, hg⟩) (by simp; omega));have HBB := Lib.hid (hb1.trans b3);clear r1 r2 o2 b2 b3 H1 H2 H3 hown hb1;go_wp2_with fail
 refine wp_loop_rounds 3 ?_;rw [rounds_succ];go_wp2_with (at_builtin; refine Lib.wpList_append_run _ rfl _ _ _ _ rfl _ _ rfl rfl _ _ R1.out ?_)
 rw [rounds_succ];go_wp2_with (at_builtin; refine Lib.wpList_append_run _ rfl _ _ _ _ rfl _ _ rfl rfl _ _ R2.out ?_)
 rw [rounds_succ];go_wp2_with fail
 go_ret
 exact ⟨_, rfl, HO.out, HBB.out⟩
end Go.Proofs.Ytbkligcfllakeaa
namespace Go.Proofs.Ytbkligcfllakeaa
open Go.RowKit
theorem number_any (n : Int) (w : World) : Calls Try.prog 23 #[.int .i64 n] w fun e w' => e = .returned (.agg #[.int .i64 1, .int .i64 n, .string ⟨#[]⟩, .slice none 0 0]) ∧ Below w.heap.size w w' := by
 go_enter Try.func23, Try.ntmps23
 go_wp2
 exact bodyPost_ret (v := .agg #[.int .i64 1, .int .i64 n, .string ⟨#[]⟩, .slice none 0 0]) (by simp [results, Try.results23, go_sem]) rfl ⟨rfl, (Below.refl _ _).alloc (Nat.le_refl _) _⟩
set_option maxRecDepth 100000 in
set_option maxHeartbeats 1000000 in
theorem list_any (l : List V) (B : Nat) (w : World) (a : Value) (hB : B ≤ w.heap.size) (ha : RepL B w l a) :
  Calls Try.prog 122 #[a] w fun e w' => ∃ r, e = .returned (.agg #[.int .i64 4, .int .i64 0, .string ⟨#[]⟩, r]) ∧ RepLG (fun b => w.heap.size ≤ b ∧ b < w'.heap.size) w' l r ∧ Below w.heap.size w w' := by
 have HA := Lib.hid ha;obtain ⟨aa, ab, ao, ac, rfl, -⟩ := ha;go_enter Try.func122, Try.ntmps122
 go_wp2_with fail
 have hb2 : Below w.heap.size w (w.alloc (.cells #[.int .i64 0, .int .i64 0, .string ⟨#[]⟩, .slice none 0 0] 27)) := (Below.refl _ w).alloc (Nat.le_refl _) _;refine (copied_any l B _ _ (by simp; omega) (RepL.below (fun j hj => hb2.block j (by omega)) HA.out)).mono ?_;rintro e w3 ⟨r, rfl, hrl, hb3⟩;obtain ⟨ra, rb, ro, rc, hr1, -⟩ := id hrl;subst hr1;have b1 : w3.heap[w.heap.size]? = _ := (hb3.block w.heap.size (by simp)).trans (alloc_new' _ _);have z0 := frozen_of_row w3 _ 0 _ _ b1;have z1 := frozen_of_row w3 _ 1 _ _ b1;have z2 := frozen_of_row w3 _ 2 _ _ b1;have z3 := frozen_of_row w3 _ 3 _ _ b1;have d0 := cell_of_block' (i := 0) b1 _ rfl;have d1 := cell_of_block' (i := 1) b1 _ rfl;have d2 := cell_of_block' (i := 2) b1 _ rfl;have d3 := cell_of_block' (i := 3) b1 _ rfl;have hw3 : Below w.heap.size w w3 := hb2.trans (hb3.mono (by simp));have hs3 := hb3.size;simp only [World.size_alloc] at hs3
 clear b1;have HRL := Lib.hid hrl; clear hrl
 go_wp2_with fail
 refine bodyPost_ret (v := .agg #[.int .i64 4, .int .i64 0, .string ⟨#[]⟩, .slice ra l.length rc]) (by simp [results, Try.results122, go_sem, d0, d1, d2, d3]) rfl ⟨_, rfl, ?_, ?_⟩
 ·refine HRL.out.on (fun b hb => ⟨by have := hb.1; simp at this; omega, by simp [World.setCell]; exact hb.2⟩) (fun b hb => ?_)
  have h1 : b ≠ w.heap.size := by have := hb.1; simp at this; omega
  rw [Below.heap_setCell _ _ _ _ (by simpa using h1), Below.heap_setCell _ _ _ _ (by simpa using h1), Below.heap_setCell _ _ _ _ (by simpa using h1), Below.heap_setCell _ _ _ _ (by simpa using h1)]
 ·exact (((hw3.setCell (Nat.le_refl _) _).setCell (Nat.le_refl _) _).setCell (Nat.le_refl _) _).setCell (Nat.le_refl _) _
end Go.Proofs.Ytbkligcfllakeaa
namespace Go.Proofs.Ytbkligcfllakeaa
open Go.RowKit
def zeroV : V := .mk 0 0 ⟨#[]⟩ []
def listV (l : List V) : V := .mk 4 0 ⟨#[]⟩ l
def numV (n : Int) : V := .mk 1 n ⟨#[]⟩ []
theorem rep_list {S : Nat → Prop} {w : World} {l : List V} {r : Value} (h : RepLG S w l r) : RepG S w (listV l) (.int .i64 4) (.int .i64 0) (.string ⟨#[]⟩) r :=
 repG_mk.2 ⟨rfl, rfl, rfl, ⟨by omega, by omega⟩, ⟨by omega, by omega⟩, by unfold maxLen; simp [ByteArray.size], h⟩
theorem rep_nil {S : Nat → Prop} {w : World} : RepLG S w [] (.slice none 0 0) := ⟨none, 0, 0, 0, rfl, Nat.le_refl _, by simp, fun h => by omega, fun h => by simp at h, fun i hi => by simp at hi⟩
theorem rep_zero {S : Nat → Prop} {w : World} : RepG S w zeroV (.int .i64 0) (.int .i64 0) (.string ⟨#[]⟩) (.slice none 0 0) :=
 repG_mk.2 ⟨rfl, rfl, rfl, ⟨by omega, by omega⟩, ⟨by omega, by omega⟩, by unfold maxLen; simp [ByteArray.size], rep_nil⟩
theorem rep_num {S : Nat → Prop} {w : World} {n : Int} (h : I64 n) : RepG S w (numV n) (.int .i64 1) (.int .i64 n) (.string ⟨#[]⟩) (.slice none 0 0) :=
 repG_mk.2 ⟨rfl, rfl, rfl, ⟨by omega, by omega⟩, h, by unfold maxLen; simp [ByteArray.size], rep_nil⟩
def DoPost (x : V) (w : World) (e : Ending) (w' : World) : Prop := ∃ c0 c1 c2 c3, e = .returned (.agg #[c0, c1, c2, c3]) ∧ RepV w'.heap.size w' x c0 c1 c2 c3 ∧ Below w.heap.size w w'
theorem RepLG.front {S : Nat → Prop} {w : World} {l : List V} {a : Option Addr} {n cap : Nat} (h : RepLG S w l (.slice a n cap)) (k : Nat) (hk : k ≤ l.length) : RepLG S w (l.take k) (.slice a k cap) := by
 obtain ⟨a', b, o, cap', e, h6, h7, h8, h9, h10⟩ := h
 cases e
 have hl : (l.take k).length = k := by simp; omega
 refine ⟨a, b, o, cap, by rw [hl], by omega, by omega, h8, fun h => h9 (by omega), fun i hi => ?_⟩;obtain ⟨x0, x1, x2, x3, g0, g1, g2, g3, g⟩ := h10 i (by omega);exact ⟨x0, x1, x2, x3, g0, g1, g2, g3, by rw [List.getElem_take]; exact g⟩
theorem RepLG.behind {S : Nat → Prop} {w : World} {x : V} {l : List V} {b o n cap : Nat} (h : RepLG S w (x :: l) (.slice (some ⟨b, o, none⟩) n cap)) : RepLG S w l (.slice (some ⟨b, o + 4, none⟩) l.length (cap - 1)) := by
 obtain ⟨a', b', o', cap', e, h6, h7, h8, h9, h10⟩ := h
 cases e
 simp only [List.length_cons] at h6 h7 h8 h9 h10
 have e := h8 (by omega)
 cases e
 refine ⟨_, b, o + 4, cap - 1, rfl, by omega, by omega, fun _ => rfl, fun _ => h9 (by omega), fun i hi => ?_⟩;obtain ⟨x0, x1, x2, x3, g0, g1, g2, g3, g⟩ := h10 (i + 1) (by omega);rw [show o + (i + 1) * 4 = o + 4 + i * 4 by omega] at g0 g1 g2 g3;exact ⟨x0, x1, x2, x3, g0, g1, g2, g3, by simpa using g⟩
theorem sharing_any (w : World) (a : Option Addr) (n cap : Nat) : Calls Try.prog 123 #[.slice a n cap] w fun e w' => e = .returned (.agg #[.int .i64 4, .int .i64 0, .string ⟨#[]⟩, .slice a n cap]) ∧ Below w.heap.size w w' := by
 go_enter Try.func123, Try.ntmps123
 go_wp2
 exact bodyPost_ret (v := .agg #[.int .i64 4, .int .i64 0, .string ⟨#[]⟩, .slice a n cap]) (by simp [results, Try.results123, go_sem]) rfl ⟨rfl, (Below.refl _ _).alloc (Nat.le_refl _) _⟩
theorem stored4 {W w : World} (hw : Below W.heap.size W w) (k : Nat) (hk : W.heap.size ≤ k) (c0 c1 c2 c3 : Value) : Below W.heap.size W ((((w.setCell ⟨k, 0, none⟩ c0).setCell ⟨k, 1, none⟩ c1).setCell ⟨k, 2, none⟩ c2).setCell ⟨k, 3, none⟩ c3) :=
 (((hw.setCell hk _).setCell hk _).setCell hk _).setCell hk _
theorem RepG.past4 {S : Nat → Prop} {w : World} {x : V} {c0 c1 c2 c3 : Value} (h : RepG S w x c0 c1 c2 c3) (k : Nat) (hk : ¬ S k) (hS : ∀ b, S b → b < w.heap.size) (d0 d1 d2 d3 : Value) :
  RepV ((((w.setCell ⟨k, 0, none⟩ d0).setCell ⟨k, 1, none⟩ d1).setCell ⟨k, 2, none⟩ d2).setCell ⟨k, 3, none⟩ d3).heap.size ((((w.setCell ⟨k, 0, none⟩ d0).setCell ⟨k, 1, none⟩ d1).setCell ⟨k, 2, none⟩ d2).setCell ⟨k, 3, none⟩ d3) x c0 c1 c2 c3 := by
 refine RepG.on (fun b hb => by simp [World.setCell]; exact hS b hb) (fun b hb => ?_) x h;have h1 : b ≠ k := fun e => hk (e ▸ hb)
 rw [Below.heap_setCell _ _ _ _ (by simpa using h1), Below.heap_setCell _ _ _ _ (by simpa using h1), Below.heap_setCell _ _ _ _ (by simpa using h1), Below.heap_setCell _ _ _ _ (by simpa using h1)]
set_option maxRecDepth 100000 in
set_option maxHeartbeats 1000000 in
theorem size_any (x : V) (B : Nat) (w : World) (a : Value) (hB : B ≤ w.heap.size) (ha : RepL B w [x] a) :
  Calls Try.prog 116 #[a] w (DoPost (numV x.list.length) w) := by
 have hb1 : Below w.heap.size w (w.alloc (.cells #[.int .i64 0, .int .i64 0, .string ⟨#[]⟩, .slice none 0 0] 27)) := (Below.refl _ w).alloc (Nat.le_refl _) _;have HX := Lib.hid (boxed_new w (.int .i64 0) (.int .i64 0) (.string ⟨#[]⟩) (.slice none 0 0));have HB1 := Lib.hid hb1;obtain ⟨aa, ab, ao, ac, rfl, hac, -⟩ := id ha;obtain ⟨-, -, b, o, fa, fc, rfl, hSb, g0, g1, g2, g3, g⟩ := RepLG.at (RepL.below (w' := (w.alloc (.cells #[.int .i64 0, .int .i64 0, .string ⟨#[]⟩, .slice none 0 0] 27))) (fun j hj => hb1.block j (by omega)) ha) 0 (by simp);simp only [List.getElem_cons_zero, Nat.zero_mul, Nat.add_zero] at g0 g1 g2 g3 g
 have hlen : x.list.length * 56 ≤ 140737488355328 := by obtain ⟨_, _, _, _, _, _, h, _⟩ := g.lst; exact h
 have hn : I64 x.list.length := ⟨by omega, by omega⟩;have HN := Lib.hid hn;clear ha g hn hb1;go_enter Try.func116, Try.ntmps116
 go_wp2_with fail
 refine (number_any _ _).mono ?_;rintro e w2 ⟨rfl, hb⟩;have X2 := HX.out.on hb;have HB2 := Lib.hid (Below.step HB1.out hb);obtain ⟨r0, r1, r2, r3⟩ := X2.cells;have z0 := frozen_of_row w2 _ 0 _ _ X2;have z1 := frozen_of_row w2 _ 1 _ _ X2;have z2 := frozen_of_row w2 _ 2 _ _ X2;have z3 := frozen_of_row w2 _ 3 _ _ X2;clear g0 g1 g2 g3 X2 hb;go_wp2_with fail
 refine bodyPost_ret (v := .agg #[.int .i64 1, .int .i64 x.list.length, .string ⟨#[]⟩, .slice none 0 0]) (by simp [results, Try.results116, go_sem, r0, r1, r2, r3]) rfl ?_;exact ⟨_, _, _, _, rfl, rep_num HN.out, stored4 HB2.out _ (Nat.le_refl _) _ _ _ _⟩
end Go.Proofs.Ytbkligcfllakeaa
namespace Go.Proofs.Ytbkligcfllakeaa
open Go.RowKit
theorem RepG.new {S : Nat → Prop} {w : World} {x : V} {c0 c1 c2 c3 : Value} {o : Obj} (h : RepG S (w.alloc o) x c0 c1 c2 c3) (hS : ∀ b, S b → b < w.heap.size) (o1 : Obj) : RepV (w.alloc o1).heap.size (w.alloc o1) x c0 c1 c2 c3 :=
 RepG.on (fun b hb => by have := hS b hb; simp; omega) (fun b hb => by rw [Below.heap_alloc _ _ _ (hS b hb), Below.heap_alloc _ _ _ (hS b hb)]) x h
def firstV (x : V) : V := match x.list with | [] => zeroV | z :: _ => z
def lastV (x : V) : V := match x.list.getLast? with | none => zeroV | some z => z
def restV (x : V) : V := match x.list with | [] => zeroV | _ :: t => listV t
set_option maxRecDepth 100000 in
set_option maxHeartbeats 1000000 in
theorem first_any (x : V) (B : Nat) (w : World) (a : Value) (hB : B ≤ w.heap.size) (ha : RepL B w [x] a) :
  Calls Try.prog 117 #[a] w (DoPost (firstV x) w) := by
 have hb1 : Below w.heap.size w (w.alloc (.cells #[.int .i64 0, .int .i64 0, .string ⟨#[]⟩, .slice none 0 0] 27)) := (Below.refl _ w).alloc (Nat.le_refl _) _;have HB1 := Lib.hid hb1;obtain ⟨aa, ab, ao, ac, rfl, hac, -⟩ := id ha;obtain ⟨-, -, b, o, fa, fc, rfl, hSb, g0, g1, g2, g3, g⟩ := RepLG.at (RepL.below (w' := (w.alloc (.cells #[.int .i64 0, .int .i64 0, .string ⟨#[]⟩, .slice none 0 0] 27))) (fun j hj => hb1.block j (by omega)) ha) 0 (by simp);simp only [List.getElem_cons_zero, Nat.zero_mul, Nat.add_zero] at g0 g1 g2 g3 g
 have gl := g.lst;have hlen : x.list.length * 56 ≤ 140737488355328 := by obtain ⟨_, _, _, _, _, _, h, _⟩ := gl; exact h
 match hl : x.list with
 | [] =>
  have HE : Hid (firstV x = zeroV) := by show _ = _; rw [firstV, hl]
  rw [hl] at g3;clear ha g gl hb1 hl;go_enter Try.func117, Try.ntmps117
  go_wp2_with fail
  refine bodyPost_ret (v := .agg #[.int .i64 0, .int .i64 0, .string ⟨#[]⟩, .slice none 0 0]) (by simp [results, Try.results117, go_sem]) rfl ?_;rw [HE.out];exact ⟨_, _, _, _, rfl, rep_zero, (Below.refl _ w).alloc (Nat.le_refl _) _⟩
 | z :: t =>
  have HE : Hid (firstV x = z) := by show _ = _; rw [firstV, hl]
  rw [hl] at g3 gl hlen;obtain ⟨-, -, b', o', fa', fc', rfl, hSb', e0, e1, e2, e3, g'⟩ := RepLG.at gl 0 (by simp);simp only [List.getElem_cons_zero, Nat.zero_mul, Nat.add_zero] at e0 e1 e2 e3 g'
  have HG := Lib.hid g';have hne : (((z :: t).length : Int) == 0) = false := beq_eq_false_iff_ne.2 (by simp; omega);have hpos : 0 < (z :: t).length := by simp
  generalize (z :: t).length = len at *;clear ha g gl hb1 hl g';go_enter Try.func117, Try.ntmps117
  go_wp2_with fail
  refine bodyPost_ret (v := .agg #[.int .i64 z.kind, .int .i64 z.num, .string z.text, .slice fa' z.list.length fc']) (by simp [results, Try.results117, go_sem]) rfl ?_;rw [HE.out];exact ⟨_, _, _, _, rfl, RepG.new HG.out (fun b hb => Nat.lt_of_lt_of_le hb hB) _, (Below.refl _ w).alloc (Nat.le_refl _) _⟩
set_option maxRecDepth 100000 in
set_option maxHeartbeats 1000000 in
theorem last_any (x : V) (B : Nat) (w : World) (a : Value) (hB : B ≤ w.heap.size) (ha : RepL B w [x] a) :
  Calls Try.prog 118 #[a] w (DoPost (lastV x) w) := by
 have hb1 : Below w.heap.size w (w.alloc (.cells #[.int .i64 0, .int .i64 0, .string ⟨#[]⟩, .slice none 0 0] 27)) := (Below.refl _ w).alloc (Nat.le_refl _) _;have HB1 := Lib.hid hb1;obtain ⟨aa, ab, ao, ac, rfl, hac, -⟩ := id ha;obtain ⟨-, -, b, o, fa, fc, rfl, hSb, g0, g1, g2, g3, g⟩ := RepLG.at (RepL.below (w' := (w.alloc (.cells #[.int .i64 0, .int .i64 0, .string ⟨#[]⟩, .slice none 0 0] 27))) (fun j hj => hb1.block j (by omega)) ha) 0 (by simp);simp only [List.getElem_cons_zero, Nat.zero_mul, Nat.add_zero] at g0 g1 g2 g3 g
 have gl := g.lst;have hlen : x.list.length * 56 ≤ 140737488355328 := by obtain ⟨_, _, _, _, _, _, h, _⟩ := gl; exact h
 by_cases hz : x.list.length = 0
 ·have HE : Hid (lastV x = zeroV) := by show _ = _; rw [lastV, List.length_eq_zero_iff.1 hz]; rfl
  rw [hz] at g3;clear ha g gl hb1 hz;go_enter Try.func118, Try.ntmps118
  go_wp2_with fail
  refine bodyPost_ret (v := .agg #[.int .i64 0, .int .i64 0, .string ⟨#[]⟩, .slice none 0 0]) (by simp [results, Try.results118, go_sem]) rfl ?_;rw [HE.out];exact ⟨_, _, _, _, rfl, rep_zero, (Below.refl _ w).alloc (Nat.le_refl _) _⟩
 ·have hn1 : x.list.length - 1 < x.list.length := by omega
  have HE : Hid (lastV x = x.list[x.list.length - 1]) := by
   show _ = _
   rw [lastV, List.getLast?_eq_getElem?, List.getElem?_eq_getElem hn1]
  obtain ⟨-, -, b', o', fa', fc', rfl, hSb', e0, e1, e2, e3, g'⟩ := RepLG.at gl (x.list.length - 1) hn1;generalize x.list[x.list.length - 1] = z at *;have HG := Lib.hid g';obtain ⟨len, hlen2⟩ : ∃ len, x.list.length = len + 1 := ⟨x.list.length - 1, by omega⟩;rw [hlen2] at g3 e0 e1 e2 e3 hlen;simp only [Nat.add_sub_cancel] at e0 e1 e2 e3
  have hne : (((len + 1 : Nat) : Int) == 0) = false := beq_eq_false_iff_ne.2 (by omega);have hne2 : ((len : Int) + 1 == 0) = false := beq_eq_false_iff_ne.2 (by omega);clear ha g gl hb1 hz g' hlen2 hn1;go_enter Try.func118, Try.ntmps118
  go_wp2_with fail
  refine bodyPost_ret (v := .agg #[.int .i64 z.kind, .int .i64 z.num, .string z.text, .slice fa' z.list.length fc']) (by simp [results, Try.results118, go_sem]) rfl ?_;rw [HE.out];exact ⟨_, _, _, _, rfl, RepG.new HG.out (fun b hb => Nat.lt_of_lt_of_le hb hB) _, (Below.refl _ w).alloc (Nat.le_refl _) _⟩
set_option maxRecDepth 100000 in
set_option maxHeartbeats 1000000 in
theorem rest_any (x : V) (B : Nat) (w : World) (a : Value) (hB : B ≤ w.heap.size) (ha : RepL B w [x] a) :
  Calls Try.prog 119 #[a] w (DoPost (restV x) w) := by
 have hb1 : Below w.heap.size w (w.alloc (.cells #[.int .i64 0, .int .i64 0, .string ⟨#[]⟩, .slice none 0 0] 27)) := (Below.refl _ w).alloc (Nat.le_refl _) _;have HX := Lib.hid (boxed_new w (.int .i64 0) (.int .i64 0) (.string ⟨#[]⟩) (.slice none 0 0));have HB1 := Lib.hid hb1;obtain ⟨aa, ab, ao, ac, rfl, hac, -⟩ := id ha;obtain ⟨-, -, b, o, fa, fc, rfl, hSb, g0, g1, g2, g3, g⟩ := RepLG.at (RepL.below (w' := (w.alloc (.cells #[.int .i64 0, .int .i64 0, .string ⟨#[]⟩, .slice none 0 0] 27))) (fun j hj => hb1.block j (by omega)) ha) 0 (by simp);simp only [List.getElem_cons_zero, Nat.zero_mul, Nat.add_zero] at g0 g1 g2 g3 g
 have gl := g.lst;have hlen : x.list.length * 56 ≤ 140737488355328 := by obtain ⟨_, _, _, _, _, _, h, _⟩ := gl; exact h
 match hl : x.list with
 | [] =>
  have HE : Hid (restV x = zeroV) := by show _ = _; rw [restV, hl]
  rw [hl] at g3;clear ha g gl hb1 hl HX;go_enter Try.func119, Try.ntmps119
  go_wp2_with fail
  refine bodyPost_ret (v := .agg #[.int .i64 0, .int .i64 0, .string ⟨#[]⟩, .slice none 0 0]) (by simp [results, Try.results119, go_sem]) rfl ?_;rw [HE.out];exact ⟨_, _, _, _, rfl, rep_zero, (Below.refl _ w).alloc (Nat.le_refl _) _⟩
 | z :: t =>
  have HE : Hid (restV x = listV t) := by show _ = _; rw [restV, hl]
  rw [hl] at g3 gl hlen;obtain ⟨-, hcap, b', o', -, -, rfl, -⟩ := RepLG.at gl 0 (by simp);have HG := Lib.hid gl.behind;have hne : (((z :: t).length : Int) == 0) = false := beq_eq_false_iff_ne.2 (by simp; omega);have hne2 : ((t.length : Int) + 1 == 0) = false := beq_eq_false_iff_ne.2 (by omega);simp only [List.length_cons] at g3 hne hcap hlen
  clear ha g gl hb1 hl
  have finish : ∀ (w2 : World) (a' : Option Addr) (n' c' : Nat), Below ((w.alloc (.cells #[.int .i64 0, .int .i64 0, .string ⟨#[]⟩, .slice none 0 0] 27))).heap.size (w.alloc (.cells #[.int .i64 0, .int .i64 0, .string ⟨#[]⟩, .slice none 0 0] 27)) w2 → RepLG (fun b => b < B) (w.alloc (.cells #[.int .i64 0, .int .i64 0, .string ⟨#[]⟩, .slice none 0 0] 27)) t (.slice a' n' c') → DoPost (restV x) w (.returned (.agg #[.int .i64 4, .int .i64 0, .string ⟨#[]⟩, .slice a' n' c'])) ((((w2.setCell ⟨w.heap.size, 0, none⟩ (.int .i64 4)).setCell ⟨w.heap.size, 1, none⟩ (.int .i64 0)).setCell ⟨w.heap.size, 2, none⟩ (.string ⟨#[]⟩)).setCell ⟨w.heap.size, 3, none⟩ (.slice a' n' c')) := by
   intro w2 a' n' c' hb hr;rw [HE.out];exact ⟨_, _, _, _, rfl, RepG.past4 (rep_list (hr.on (fun _ h => h) (fun k hk => hb.block k (by simp; omega)))) _ (by omega) (fun b h => by have := hb.size; simp at this; omega) _ _ _ _, stored4 (Below.step HB1.out hb) _ (Nat.le_refl _) _ _ _ _⟩
  have HF := Lib.hid finish;clear finish
  by_cases hc : fc = 1
  ·have ht : t = [] := List.length_eq_zero_iff.1 (by omega)
   subst ht;subst hc;clear hlen hcap;simp only [List.length_nil, Nat.zero_add] at g3 hne hne2
   go_enter Try.func119, Try.ntmps119
   go_wp2_with fail
   refine (sharing_any _ _ _ _).mono ?_;rintro e w2 ⟨rfl, hb⟩;have X2 := HX.out.on hb;obtain ⟨r0, r1, r2, r3⟩ := X2.cells;have z0 := frozen_of_row w2 _ 0 _ _ X2;have z1 := frozen_of_row w2 _ 1 _ _ X2;have z2 := frozen_of_row w2 _ 2 _ _ X2;have z3 := frozen_of_row w2 _ 3 _ _ X2;have HBB := Lib.hid hb;clear g0 g1 g2 g3 X2 hb;go_wp2_with fail
   refine bodyPost_ret (by simp [results, Try.results119, go_sem, r0, r1, r2, r3]; rfl) rfl ?_;refine HF.out _ _ _ _ HBB.out ?_;exact ⟨_, 0, 0, _, rfl, Nat.zero_le _, by simp, fun h => by omega, fun h => by simp at h, fun i hi => by simp at hi⟩
  ·have hc1 : 1 < fc := by omega
   have HC := Lib.hid hc; clear hc
   go_enter Try.func119, Try.ntmps119
   go_wp2_with fail
   refine (sharing_any _ _ _ _).mono ?_;rintro e w2 ⟨rfl, hb⟩;have X2 := HX.out.on hb;obtain ⟨r0, r1, r2, r3⟩ := X2.cells;have z0 := frozen_of_row w2 _ 0 _ _ X2;have z1 := frozen_of_row w2 _ 1 _ _ X2;have z2 := frozen_of_row w2 _ 2 _ _ X2;have z3 := frozen_of_row w2 _ 3 _ _ X2;have HBB := Lib.hid hb;clear g0 g1 g2 g3 X2 hb;go_wp2_with fail
   refine bodyPost_ret (by simp [results, Try.results119, go_sem, r0, r1, r2, r3]; rfl) rfl ?_;exact HF.out _ _ _ _ HBB.out HG.out
end Go.Proofs.Ytbkligcfllakeaa
