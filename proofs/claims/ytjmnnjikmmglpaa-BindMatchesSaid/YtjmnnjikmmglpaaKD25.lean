/-
  TermAfter, TermCall, FitTerm
-/
import Derived.Test.YtjmnnjikmmglpaaKD24
import Derived.Test.YtjmnnjikmmglpaaKD20
namespace Go.Proofs.Ytjmnnjikmmglpaa
open Go.RowKit
structure After (w : World) (bo : Nat) (lv : Value) (w' : World) : Prop where
 below : Below (bo + 1) w w'
 block : ∀ k, k < w.heap.size → lv.ownBlock ≠ some k → w'.heap[k]? = w.heap[k]?
 size : w.heap.size ≤ w'.heap.size
theorem After.of {α : Type} {K : Kd α} {w w1 w' : World} {bo : Nat} {L : List α} {lv : Value} (ho : MineK K w (bo + 1) L lv) (hb : bo < w.heap.size) (hg : Below w.heap.size w w1) (h : w1.grownBy w' lv.ownBlock) : After w bo lv w' := by
 have h1 := hg.size;have h2 := h.size;refine ⟨⟨h.os.trans hg.os, h.tape.trans hg.tape, h.output.trans hg.output, by omega, fun k hk => ?_⟩, fun k hk hne => ?_, by omega⟩
 ·exact (h.block k (by omega) (fun e => by have := (OwnK.lies ho k e.symm).1; omega)).trans (hg.block k (by omega))
 ·exact (h.block k (by omega) (fun e => hne e.symm)).trans (hg.block k hk)
theorem After.box {α : Type} {K : Kd α} {w w' : World} {bo b : Nat} {L : List α} {lv : Value} (h : After w bo lv w') {o : Obj} (hx : w.heap[b]? = some o) (_ho : MineK K w (bo + 1) L lv) (hb : b < bo + 1) : w'.heap[b]? = some o :=
 (h.below.block b hb).trans hx
theorem row1_stay {w0 : Nat} {y : Tm} {w w' : World} {v : Value} (hb : Below w.heap.size w w') (h : ∃ b c0 c1 c2 c3 c4 c5 c6, v = .slice (some ⟨b, 0, none⟩) 1 1 ∧ w.heap[b]? = some (.cells #[c0, c1, c2, c3, c4, c5, c6] 30 (0, 0)) ∧ w0 ≤ b ∧ RepM (fun b => w0 ≤ b ∧ b < w.heap.size) w y c0 c1 c2 c3 c4 c5 c6) :
  ∃ b c0 c1 c2 c3 c4 c5 c6, v = .slice (some ⟨b, 0, none⟩) 1 1 ∧ w'.heap[b]? = some (.cells #[c0, c1, c2, c3, c4, c5, c6] 30 (0, 0)) ∧ w0 ≤ b ∧ RepM (fun b => w0 ≤ b ∧ b < w'.heap.size) w' y c0 c1 c2 c3 c4 c5 c6 := by
 obtain ⟨b, c0, c1, c2, c3, c4, c5, c6, e, h1, h2, h3⟩ := h;exact ⟨b, c0, c1, c2, c3, c4, c5, c6, e, (hb.block b (Array.getElem?_eq_some_iff.1 h1).1).trans h1, h2, RepM.on (fun k hk => ⟨hk.1, Nat.lt_of_lt_of_le hk.2 hb.size⟩) (fun k hk => hb.block k hk.2) y h3⟩
theorem row1_new {w0 : Nat} {y : Tm} {w : World} {c0 c1 c2 c3 c4 c5 c6 : Value} (hs : w0 ≤ w.heap.size) (h : RepM (fun b => w0 ≤ b ∧ b < w.heap.size) w y c0 c1 c2 c3 c4 c5 c6) :
  ∃ b d0 d1 d2 d3 d4 d5 d6, (.slice (some ⟨w.heap.size, 0, none⟩) 1 1 : Value) = .slice (some ⟨b, 0, none⟩) 1 1 ∧ (w.alloc (.cells #[c0, c1, c2, c3, c4, c5, c6] 30)).heap[b]? = some (.cells #[d0, d1, d2, d3, d4, d5, d6] 30 (0, 0)) ∧ w0 ≤ b ∧ RepM (fun b => w0 ≤ b ∧ b < (w.alloc (.cells #[c0, c1, c2, c3, c4, c5, c6] 30)).heap.size) (w.alloc (.cells #[c0, c1, c2, c3, c4, c5, c6] 30)) y d0 d1 d2 d3 d4 d5 d6 :=
 ⟨_, _, _, _, _, _, _, _, rfl, alloc_new' w _, hs, RepM.on (fun k hk => ⟨hk.1, by simp; omega⟩) (fun k hk => Below.heap_alloc _ _ _ hk.2) y h⟩
def at7v (c0 c1 c2 c3 c4 c5 c6 : Value) : Nat → Value
 | 0 => c0 | 1 => c1 | 2 => c2 | 3 => c3 | 4 => c4 | 5 => c5 | _ => c6
end Go.Proofs.Ytjmnnjikmmglpaa
namespace Go.Proofs.Ytjmnnjikmmglpaa
open Go.RowKit
set_option maxRecDepth 100000 in
set_option maxHeartbeats 16000000 in
theorem term_call (d : Nat) (hd : 1 ≤ d) (hdm : d ≤ 100) (ih : FitTmAt d) (x : Tm) (S : Nat → Prop) (w : World) (c0 c1 c2 c3 c4 c5 c6 : Value) (hS : ∀ k, S k → k < w.heap.size) (hx : RepM S w x c0 c1 c2 c3 c4 c5 c6) (hl : ¬ x.args.length < 2) (hp : pickZ x.kind 4 = 2) :
  Calls Try.prog 11 #[.agg #[c0, c1, c2, c3, c4, c5, c6], .int .i64 ((d : Int) + 1)] w (MadeM (fitTm (d + 1) x) w) := by
 have HS := hS;have HN := Lib.hid hx.bounds.2; have HK1 := Lib.hid hx.bounds.1
 have HV := Lib.hid hx.value; have HL := Lib.hid hx.lst
 obtain ⟨fa, fc, ga, gc, rfl, rfl, rfl, rfl, rfl, rfl, rfl⟩ := hx.form;have HBD := pickZ_bd x.kind 4 (by omega);obtain ⟨i, hi⟩ : ∃ i, fitFnAt x.name x.kind = i := ⟨_, rfl⟩;have hi6 : i < 6 := by rw [← hi]; exact fitFnAt_lt _ _
 obtain ⟨a1, a2, a3⟩ := fitArity_is i hi6
 have HE : Hid (fitTm (d + 1) x = .mk 3 (fitFn i) nV ((x.args.take (fitArity i)).map (fitTm d))) := by
  show _ = _
  rw [← hi]
  cases x with
  | mk k n v l =>
   simp only [Tm.kind] at hp
   rw [fitTm, if_neg (by intro h; rcases h with h | h; omega; exact hl h), if_neg (by omega), if_neg (by omega), if_pos hp]; rfl
 have HP := Lib.hid hp;have hd1 : decide (((d : Int) + 1) ≤ 1) = false := decide_eq_false (by omega);have hl2 : decide ((x.args.length : Int) < 2) = false := decide_eq_false (by omega);have HW1 : Hid (wrap64 ((d : Int) + 1 - 1) = (d : Int)) := by show _ = _; unfold wrap64; omega
 have HW2 : Hid (IntKind.i64.wrap (d : Int) = (d : Int)) := by show _ = _; rw [IntKind.wrap_i64]; omega
 have HAR : Hid (fnArity (fnOf (fitFn i)) = (fitArity i : Int)) := by show _ = _; rw [fitFn_of i hi6]; exact a1
 have hns := hx.bounds.2;unfold maxLen at hns
 have HPI : Hid (pickZ (wrap64 ((x.name.size : Int) + x.kind)) 6 = (i : Int)) := by
  show _ = _
  have := pickZ_bd (wrap64 ((x.name.size : Int) + x.kind)) 6 (by omega);rw [← hi, fitFnAt]; omega
 have HWB : Hid (I64 (wrap64 ((x.name.size : Int) + x.kind))) := by show I64 _; unfold I64 wrap64; omega
 have hlen2 : fitArity i ≤ x.args.length := by omega
 clear hx hp HBD hl hi;go_enter Try.func11, Try.ntmps11
 go_wp2_with fail
 refine (pick4_any x.kind 4 _ HK1.out (by omega) (by omega)).mono ?_;rintro e w' ⟨rfl, rfl⟩;rw [HP.out];have x0 := boxM_new w (.int .i64 x.kind) (.string x.name) (.int .i64 x.val.kind) (.int .i64 x.val.num) (.string x.val.text) (.slice fa x.val.list.length fc) (.slice ga x.args.length gc);have b0 := below_alloc w (.cells #[.int .i64 x.kind, .string x.name, .int .i64 x.val.kind, .int .i64 x.val.num, .string x.val.text, .slice fa x.val.list.length fc, .slice ga x.args.length gc] 30);have s0 := World.size_alloc w (.cells #[.int .i64 x.kind, .string x.name, .int .i64 x.val.kind, .int .i64 x.val.num, .string x.val.text, .slice fa x.val.list.length fc, .slice ga x.args.length gc] 30);generalize w.alloc (.cells #[.int .i64 x.kind, .string x.name, .int .i64 x.val.kind, .int .i64 x.val.num, .string x.val.text, .slice fa x.val.list.length fc, .slice ga x.args.length gc] 30) = w0 at *;have x1 := boxM_new w0 (.int .i64 0) (.string ⟨#[]⟩) (.int .i64 0) (.int .i64 0) (.string ⟨#[]⟩) (.slice none 0 0) (.slice none 0 0);have b1 := below_alloc w0 (.cells #[.int .i64 0, .string ⟨#[]⟩, .int .i64 0, .int .i64 0, .string ⟨#[]⟩, .slice none 0 0, .slice none 0 0] 30);have s1 := World.size_alloc w0 (.cells #[.int .i64 0, .string ⟨#[]⟩, .int .i64 0, .int .i64 0, .string ⟨#[]⟩, .slice none 0 0, .slice none 0 0] 30);generalize w0.alloc (.cells #[.int .i64 0, .string ⟨#[]⟩, .int .i64 0, .int .i64 0, .string ⟨#[]⟩, .slice none 0 0, .slice none 0 0] 30) = w1 at *;rw [s0] at x1 s1;have X1 := Lib.hid (x0.on b1); have R1 := Lib.hid x1; have B1 := Lib.hid (Below.step b0 b1); have HS1 : Hid (w1.heap.size = w.heap.size + 2) := by show _ = _; omega
 clear x0 b0 x1 b1 s0 s1;obtain ⟨p0, p1, p2, p3, p4, p5, p6⟩ := X1.out.cells;obtain ⟨t0, t1, t2, t3, t4, t5, t6⟩ := (X1.out.on (below_alloc w1 (.cells #[.string ⟨#[102, 95, 99, 111, 110, 115]⟩, .string ⟨#[102, 95, 115, 105, 122, 101]⟩, .string ⟨#[102, 95, 109, 101, 109, 98, 101, 114]⟩, .string ⟨#[102, 95, 102, 105, 114, 115, 116]⟩, .string ⟨#[102, 95, 114, 101, 118, 101, 114, 115, 101]⟩, .string ⟨#[102, 95, 99, 111, 110, 99, 97, 116]⟩] 9))).cells;go_wp2_with fail
 have b2 := below_alloc w1 (.cells #[.string ⟨#[102, 95, 99, 111, 110, 115]⟩, .string ⟨#[102, 95, 115, 105, 122, 101]⟩, .string ⟨#[102, 95, 109, 101, 109, 98, 101, 114]⟩, .string ⟨#[102, 95, 102, 105, 114, 115, 116]⟩, .string ⟨#[102, 95, 114, 101, 118, 101, 114, 115, 101]⟩, .string ⟨#[102, 95, 99, 111, 110, 99, 97, 116]⟩] 9);have n2 := alloc_new' w1 (.cells #[.string ⟨#[102, 95, 99, 111, 110, 115]⟩, .string ⟨#[102, 95, 115, 105, 122, 101]⟩, .string ⟨#[102, 95, 109, 101, 109, 98, 101, 114]⟩, .string ⟨#[102, 95, 102, 105, 114, 115, 116]⟩, .string ⟨#[102, 95, 114, 101, 118, 101, 114, 115, 101]⟩, .string ⟨#[102, 95, 99, 111, 110, 99, 97, 116]⟩] 9);have s2 := World.size_alloc w1 (.cells #[.string ⟨#[102, 95, 99, 111, 110, 115]⟩, .string ⟨#[102, 95, 115, 105, 122, 101]⟩, .string ⟨#[102, 95, 109, 101, 109, 98, 101, 114]⟩, .string ⟨#[102, 95, 102, 105, 114, 115, 116]⟩, .string ⟨#[102, 95, 114, 101, 118, 101, 114, 115, 101]⟩, .string ⟨#[102, 95, 99, 111, 110, 99, 97, 116]⟩] 9);generalize w1.alloc (.cells #[.string ⟨#[102, 95, 99, 111, 110, 115]⟩, .string ⟨#[102, 95, 115, 105, 122, 101]⟩, .string ⟨#[102, 95, 109, 101, 109, 98, 101, 114]⟩, .string ⟨#[102, 95, 102, 105, 114, 115, 116]⟩, .string ⟨#[102, 95, 114, 101, 118, 101, 114, 115, 101]⟩, .string ⟨#[102, 95, 99, 111, 110, 99, 97, 116]⟩] 9) = w2 at *;generalize hbs : w1.heap.size = bs at n2 ⊢;refine (pick4_any _ 6 _ HWB.out (by omega) (by omega)).mono ?_;rintro e w' ⟨rfl, rfl⟩;rw [HPI.out]
 have hcj : w2.cell? ⟨bs, i, none⟩ = some (.string (fitFn i)) := by
  match i, hi6 with
  | 0, _ => exact cell_of_block' n2 _ rfl
  | 1, _ => exact cell_of_block' n2 _ rfl
  | 2, _ => exact cell_of_block' n2 _ rfl
  | 3, _ => exact cell_of_block' n2 _ rfl
  | 4, _ => exact cell_of_block' n2 _ rfl
  | 5, _ => exact cell_of_block' n2 _ rfl
 have hj0 : (0 : Int) ≤ (i : Int) := Int.natCast_nonneg i;have hj4 : (i : Int) < 6 := by omega
 have hsz2 : w2.heap.size = w.heap.size + 3 := by have := HS1.out; omega
 have HSZ2 := Lib.hid hsz2;clear n2 hbs p0 p1 p2 p3 p4 p5 p6 t0 t1 t2 t3 t4 t5 t6 s2 hsz2;go_wp2_with fail
 have o3 := boxM_new w2 (.int .i64 3) (.string (fitFn i)) (.int .i64 0) (.int .i64 0) (.string ⟨#[]⟩) (.slice none 0 0) (.slice none 0 0);have b3 := below_alloc w2 (.cells #[.int .i64 3, .string (fitFn i), .int .i64 0, .int .i64 0, .string ⟨#[]⟩, .slice none 0 0, .slice none 0 0] 30);have s3 := World.size_alloc w2 (.cells #[.int .i64 3, .string (fitFn i), .int .i64 0, .int .i64 0, .string ⟨#[]⟩, .slice none 0 0, .slice none 0 0] 30);generalize w2.alloc (.cells #[.int .i64 3, .string (fitFn i), .int .i64 0, .int .i64 0, .string ⟨#[]⟩, .slice none 0 0, .slice none 0 0] 30) = w3 at *;generalize hbo : w2.heap.size = bo at o3 ⊢;have HBW : Hid (bo = w.heap.size + 3) := by show _ = _; have := HSZ2.out; omega
 have X3 := Lib.hid ((X1.out.on b2).on b3); have R3 := Lib.hid ((R1.out.on b2).on b3); have B3 := Lib.hid (Below.step (Below.step B1.out b2) b3)
 have O3 := Lib.hid o3;clear o3 b2 b3 hcj hj0 hj4 hbo s3;go_loopw [9] (fun iv wr => ∃ (k : Nat) (lv : Value), k ≤ fitArity i ∧ iv = .int .i64 k ∧ MineK kdTm wr (bo + 1) ((x.args.take k).map (fitTm d)) lv ∧ BoxM wr bo (.int .i64 3) (.string (fitFn i)) (.int .i64 0) (.int .i64 0) (.string ⟨#[]⟩) (.slice none 0 0) lv ∧ BoxM wr w.heap.size (.int .i64 x.kind) (.string x.name) (.int .i64 x.val.kind) (.int .i64 x.val.num) (.string x.val.text) (.slice fa x.val.list.length fc) (.slice ga x.args.length gc) ∧ BoxM wr (w.heap.size + 1) (.int .i64 0) (.string ⟨#[]⟩) (.int .i64 0) (.int .i64 0) (.string ⟨#[]⟩) (.slice none 0 0) (.slice none 0 0) ∧ Below w.heap.size w wr) (fun iv _ => fitArity i - (intOf iv).toNat)
 case atStart => exact ⟨0, .slice none 0 0, Nat.zero_le _, rfl, MineK.nil _ _, O3.out, X3.out, R3.out, B3.out⟩
 case round =>
  obtain ⟨k, lv, hk, rfl, hmine, hbox, hxb, hrb, hbel⟩ := hrel;have HO := Lib.hid hmine; have OR := Lib.hid hbox; have XR := Lib.hid hxb; have RR := Lib.hid hrb; have HBEL := Lib.hid hbel
  have HBO : Hid (bo < wr.heap.size) := hbox.lt;clear hmine hbox hxb hrb;go_wp2_with fail
  refine (refArity_any (fitFn i) _).mono ?_;unfold ArPost;rw [HAR.out];rintro e w' ⟨rfl, rfl⟩
  by_cases hlt : k < fitArity i
  ·have hd2 : decide ((k : Int) < (fitArity i : Int)) = true := decide_eq_true (by omega)
   have hxl : k < x.args.length := by omega
   have hA := (RepMs.on (fun _ h => h) (fun j hj => hbel.block j (HS j hj)) HL.out : RepMs S wr x.args (.slice ga x.args.length gc));obtain ⟨-, hcap2, lb, lo, fa0, fc0, ga0, gc0, hga2, hSb, g0, g1, g2, g3, g4, g5, g6, g⟩ := RepMs.at hA k hxl;have HGA2 := Lib.hid hga2;have HSR := Lib.hid (fun j (hj : S j) => Nat.lt_of_lt_of_le (HS j hj) hbel.size);have HLB : Hid (lb < wr.heap.size) := HSR.out lb hSb;have Q0 := Lib.hid g0; have Q1 := Lib.hid g1; have Q2 := Lib.hid g2; have Q3 := Lib.hid g3; have Q4 := Lib.hid g4; have Q5 := Lib.hid g5; have Q6 := Lib.hid g6
   have G := Lib.hid g;have HK1 : Hid ((0 : Int) ≤ (k : Int)) := Int.natCast_nonneg k;have HK2 : Hid ((k : Int) < (x.args.length : Int)) := by show _ < _; omega
   have HKL : Hid (k < fitArity i ∧ fitArity i ≤ 2 ∧ fitArity i ≤ x.args.length) := by show _ ∧ _; omega
   have HLK : Hid (((x.args.take k).map (fitTm d)).length ≤ 1000) := by show _ ≤ _; rw [List.length_map, List.length_take]; omega
   have HTK : Hid ((x.args.take (k + 1)).map (fitTm d) = ((x.args.take k).map (fitTm d)) ++ [fitTm d x.args[k]]) := by
    show _ = _
    rw [List.take_succ_eq_append_getElem hxl, List.map_append]; rfl
   clear hA g hga2 hbel hSb g0 g1 g2 g3 g4 g5 g6;generalize x.args[k] = y at *;go_wp2_with fail
   clear hd2;refine wp_region_factsP (by rfl) 103 (by rfl) (by kernel_rfl) 11 (fun q => q == 0 || q == 1 || q == 2 || q == 3 || q == 4 || q == 5 || q == 6 || q == 7 || q == 8 || q == 9 || q == 10) (by kernel_rfl) (FB [.e (.pointer (some ⟨bo, 6, none⟩)), .e lv, .e (.pointer (some ⟨w.heap.size, 6, none⟩)), .e (.slice (some ⟨lb, lo, none⟩) x.args.length gc), .e (.int .i64 (k : Int)), .e (.pointer (some ⟨lb, lo + k * 7, none⟩)), .e (.agg #[.int .i64 y.kind, .string y.name, .int .i64 y.val.kind, .int .i64 y.val.num, .string y.val.text, .slice fa0 y.val.list.length fc0, .slice ga0 y.args.length gc0]), .e (.int .i64 ((d : Int) + 1)), .e (.int .i64 (d : Int)), .p (MadeAt wr.heap.size (fitTm d y)), .p (fun wz vz => ∃ b c0 c1 c2 c3 c4 c5 c6, vz = .slice (some ⟨b, 0, none⟩) 1 1 ∧ wz.heap[b]? = some (.cells #[c0, c1, c2, c3, c4, c5, c6] 30 (0, 0)) ∧ wr.heap.size ≤ b ∧ RepM (fun b => wr.heap.size ≤ b ∧ b < wz.heap.size) wz (fitTm d y) c0 c1 c2 c3 c4 c5 c6), .t (fun wz vz => ∃ a cap, vz = .slice a (k + 1) cap ∧ MineK kdTm wz (bo + 1) (((x.args.take k).map (fitTm d)) ++ [fitTm d y]) vz), .e (.pointer (some ⟨bo, 6, none⟩))]) (fun ph w' => if ph = true then After wr bo lv w' else Below wr.heap.size wr w') (Below.drew (Below.refl _ _)) ⟨?s0, ?s1, ?s2, ?s3, ?s4, ?s5, ?s6, ?s7, ?s8, ?s9, ?s10, ?s11, ?s12, trivial⟩ (by rfl) ?last
   case s0 =>
    intro a w' hoff hg hdep K hK;replace hg : Below wr.heap.size wr w' := hg;have h8 := off_at hoff 8 (v := .pointer (some ⟨bo, 0, none⟩)) (by kernel_rfl) rfl;rw [if_pos (by rfl)];go_simp;exact hK.out _ _ hg rfl (fun _ _ h => h)
   case s1 =>
    intro a w' hoff hg hdep K hK;replace hg : Below wr.heap.size wr w' := hg;obtain ⟨_, e0, rfl⟩ := hdep 0 _ 65 (by kernel_rfl) rfl rfl;rw [if_pos (by rfl)];obtain ⟨p0, p1, p2, p3, p4, p5, p6⟩ := (XR.out.on hg).cells; rw [HGA2.out] at p6; obtain ⟨o0, o1, o2, o3, o4, o5, o6⟩ := (OR.out.on hg).cells; have q0 := (hg.cell (p := ⟨lb, lo + k * 7, none⟩) HLB.out).trans Q0.out; have q1 := (hg.cell (p := ⟨lb, lo + k * 7 + 1, none⟩) HLB.out).trans Q1.out; have q2 := (hg.cell (p := ⟨lb, lo + k * 7 + 2, none⟩) HLB.out).trans Q2.out; have q3 := (hg.cell (p := ⟨lb, lo + k * 7 + 3, none⟩) HLB.out).trans Q3.out; have q4 := (hg.cell (p := ⟨lb, lo + k * 7 + 4, none⟩) HLB.out).trans Q4.out; have q5 := (hg.cell (p := ⟨lb, lo + k * 7 + 5, none⟩) HLB.out).trans Q5.out; have q6 := (hg.cell (p := ⟨lb, lo + k * 7 + 6, none⟩) HLB.out).trans Q6.out
    go_simp;exact hK.out _ _ hg rfl (fun _ _ h => h)
   case s2 =>
    intro a w' hoff hg hdep K hK;replace hg : Below wr.heap.size wr w' := hg;have h2 := off_at hoff 2 (v := .pointer (some ⟨w.heap.size, 0, none⟩)) (by kernel_rfl) rfl;rw [if_pos (by rfl)];go_simp;exact hK.out _ _ hg rfl (fun _ _ h => h)
   case s3 =>
    intro a w' hoff hg hdep K hK;replace hg : Below wr.heap.size wr w' := hg;obtain ⟨_, e2, rfl⟩ := hdep 2 _ 67 (by kernel_rfl) rfl rfl;rw [if_pos (by rfl)];obtain ⟨p0, p1, p2, p3, p4, p5, p6⟩ := (XR.out.on hg).cells; rw [HGA2.out] at p6; obtain ⟨o0, o1, o2, o3, o4, o5, o6⟩ := (OR.out.on hg).cells; have q0 := (hg.cell (p := ⟨lb, lo + k * 7, none⟩) HLB.out).trans Q0.out; have q1 := (hg.cell (p := ⟨lb, lo + k * 7 + 1, none⟩) HLB.out).trans Q1.out; have q2 := (hg.cell (p := ⟨lb, lo + k * 7 + 2, none⟩) HLB.out).trans Q2.out; have q3 := (hg.cell (p := ⟨lb, lo + k * 7 + 3, none⟩) HLB.out).trans Q3.out; have q4 := (hg.cell (p := ⟨lb, lo + k * 7 + 4, none⟩) HLB.out).trans Q4.out; have q5 := (hg.cell (p := ⟨lb, lo + k * 7 + 5, none⟩) HLB.out).trans Q5.out; have q6 := (hg.cell (p := ⟨lb, lo + k * 7 + 6, none⟩) HLB.out).trans Q6.out
    go_simp;exact hK.out _ _ hg rfl (fun _ _ h => h)
   case s4 =>
    intro a w' hoff hg hdep K hK;replace hg : Below wr.heap.size wr w' := hg;have h9 := off_at hoff 9 (v := .int .i64 (k : Int)) (by kernel_rfl) rfl;rw [if_pos (by rfl)];go_simp;exact hK.out _ _ hg rfl (fun _ _ h => h)
   case s5 =>
    intro a w' hoff hg hdep K hK;replace hg : Below wr.heap.size wr w' := hg;obtain ⟨_, e3, rfl⟩ := hdep 3 _ 68 (by kernel_rfl) rfl rfl;obtain ⟨_, e4, rfl⟩ := hdep 4 _ 69 (by kernel_rfl) rfl rfl;rw [if_pos (by rfl)];have hk1 := HK1.out; have hk2 := HK2.out
    go_simp;exact hK.out _ _ hg rfl (fun _ _ h => h)
   case s6 =>
    intro a w' hoff hg hdep K hK;replace hg : Below wr.heap.size wr w' := hg;obtain ⟨_, e5, rfl⟩ := hdep 5 _ 70 (by kernel_rfl) rfl rfl;rw [if_pos (by rfl)];obtain ⟨p0, p1, p2, p3, p4, p5, p6⟩ := (XR.out.on hg).cells; rw [HGA2.out] at p6; obtain ⟨o0, o1, o2, o3, o4, o5, o6⟩ := (OR.out.on hg).cells; have q0 := (hg.cell (p := ⟨lb, lo + k * 7, none⟩) HLB.out).trans Q0.out; have q1 := (hg.cell (p := ⟨lb, lo + k * 7 + 1, none⟩) HLB.out).trans Q1.out; have q2 := (hg.cell (p := ⟨lb, lo + k * 7 + 2, none⟩) HLB.out).trans Q2.out; have q3 := (hg.cell (p := ⟨lb, lo + k * 7 + 3, none⟩) HLB.out).trans Q3.out; have q4 := (hg.cell (p := ⟨lb, lo + k * 7 + 4, none⟩) HLB.out).trans Q4.out; have q5 := (hg.cell (p := ⟨lb, lo + k * 7 + 5, none⟩) HLB.out).trans Q5.out; have q6 := (hg.cell (p := ⟨lb, lo + k * 7 + 6, none⟩) HLB.out).trans Q6.out
    go_simp;exact hK.out _ _ hg rfl (fun _ _ h => h)
   case s7 =>
    intro a w' hoff hg hdep K hK;replace hg : Below wr.heap.size wr w' := hg;have h1 := off_at hoff 1 (v := .int .i64 ((d : Int) + 1)) (by kernel_rfl) rfl;rw [if_pos (by rfl)];go_simp;exact hK.out _ _ hg rfl (fun _ _ h => h)
   case s8 =>
    intro a w' hoff hg hdep K hK;replace hg : Below wr.heap.size wr w' := hg;obtain ⟨_, e7, rfl⟩ := hdep 7 _ 72 (by kernel_rfl) rfl rfl;rw [if_pos (by rfl)];have hw1 := HW1.out; have hw2 := HW2.out
    go_simp;exact hK.out _ _ hg rfl (fun _ _ h => h)
   case s9 =>
    intro a w' hoff hg hdep K hK;replace hg : Below wr.heap.size wr w' := hg;obtain ⟨_, e6, rfl⟩ := hdep 6 _ 71 (by kernel_rfl) rfl rfl;obtain ⟨_, e8, rfl⟩ := hdep 8 _ 73 (by kernel_rfl) rfl rfl;rw [if_pos (by rfl)];go_simp;refine (ih y S w' _ _ _ _ _ _ _ (fun k hk => Nat.lt_of_lt_of_le (HSR.out k hk) hg.size) (RepM.on (fun _ h => h) (fun k hk => hg.block k (HSR.out k hk)) y G.out)).mono ?_;intro e w2' hm;obtain ⟨u, rfl, hp, hb⟩ := MadeAt.of (B := wr.heap.size) hg.size hm;exact hK.out _ _ (Below.step hg hb) (fun _ => hp) (fStP ⟨fun _ h => MadeAt.stay hb h, fun _ h => row1_stay hb h, trivial⟩)
   case s10 =>
    intro a w' hoff hg hdep K hK;replace hg : Below wr.heap.size wr w' := hg;obtain ⟨v9, e9, f9⟩ := hdep 9 _ 74 (by kernel_rfl) rfl rfl;have g9 : MadeAt wr.heap.size (fitTm d y) w' v9 := f9 rfl;obtain ⟨c0, c1, c2, c3, c4, c5, c6, rfl, k9⟩ := g9;rw [if_pos (by rfl)];go_simp;have hb := below_alloc w' (.cells #[c0, c1, c2, c3, c4, c5, c6] 30);have hp := row1_new hg.size k9;exact hK.out _ _ (Below.step hg hb) (fun _ => hp) (fStP ⟨fun _ h => MadeAt.stay hb h, fun _ h => row1_stay hb h, trivial⟩)
   case s11 =>
    intro a w' hoff hg hdep K hK;replace hg : Below wr.heap.size wr w' := hg;obtain ⟨v1, e1, f1⟩ := hdep 1 _ 66 (by kernel_rfl) rfl rfl;obtain rfl : lv = v1 := Eq.symm f1;obtain ⟨v10, e10, f10⟩ := hdep 10 _ 75 (by kernel_rfl) rfl rfl;have g10 : ∃ b c0 c1 c2 c3 c4 c5 c6, v10 = .slice (some ⟨b, 0, none⟩) 1 1 ∧ w'.heap[b]? = some (.cells #[c0, c1, c2, c3, c4, c5, c6] 30 (0, 0)) ∧ wr.heap.size ≤ b ∧ RepM (fun b => wr.heap.size ≤ b ∧ b < w'.heap.size) w' (fitTm d y) c0 c1 c2 c3 c4 c5 c6 := f10 rfl;obtain ⟨b, c0, c1, c2, c3, c4, c5, c6, rfl, hbk, hbb, hrep⟩ := g10;obtain ⟨va, vcap, w6, hrun, hm6, hgr⟩ := own_append (K := kdTm) (y := fitTm d y) (c := at7v c0 c1 c2 c3 c4 c5 c6) (HO.out.stands hg) (by have := hg.size; have := HBO.out; omega) HLK.out hbk rfl (fun j hj => match j, hj with | 0, _ => rfl | 1, _ => rfl | 2, _ => rfl | 3, _ => rfl | 4, _ => rfl | 5, _ => rfl | 6, _ => rfl) (RepM.on (fun b' hb' => ⟨by have := HBO.out; omega, hb'.2, fun e => by have := (OwnK.lies HO.out b' e).2; omega⟩) (fun _ _ => rfl) _ hrep) 22;refine step_append_by rfl (.tmp 66) (.tmp 75) 22 rfl (by simp [Act.eval, e1]) (by simp [Act.eval, e10]) hrun ?_;have hlk : ((x.args.take k).map (fitTm d)).length = k := by rw [List.length_map, List.length_take]; have := HKL.out; omega
    rw [hlk] at hm6 ⊢;have hp : ∃ a cap, (.slice va (k + 1) vcap : Value) = .slice a (k + 1) cap ∧ MineK kdTm w6 (bo + 1) (((x.args.take k).map (fitTm d)) ++ [fitTm d y]) (.slice va (k + 1) vcap) := ⟨_, _, rfl, hm6⟩;have hG2 := After.of HO.out HBO.out hg hgr;exact hK.out _ _ hG2 (fun _ => hp) (fPass rfl)
   case s12 =>
    intro ph a w' hoff hg hdep K hK;have h8 := off_at hoff 8 (v := .pointer (some ⟨bo, 0, none⟩)) (by kernel_rfl) rfl;rw [if_pos (by rfl)];go_simp;exact hK.out _ _ hg rfl (fun _ _ h => h)
   case last =>
    intro a w' hoff hg hf;replace hg : After wr bo lv w' := hg;obtain ⟨_, e0, rfl⟩ := hf 0 _ 65 (by decide) rfl rfl;obtain ⟨v1, e1, f1⟩ := hf 1 _ 66 (by decide) rfl rfl;obtain rfl : lv = v1 := Eq.symm f1;obtain ⟨_, e2, rfl⟩ := hf 2 _ 67 (by decide) rfl rfl;obtain ⟨_, e3, rfl⟩ := hf 3 _ 68 (by decide) rfl rfl;obtain ⟨_, e4, rfl⟩ := hf 4 _ 69 (by decide) rfl rfl;obtain ⟨_, e5, rfl⟩ := hf 5 _ 70 (by decide) rfl rfl;obtain ⟨_, e6, rfl⟩ := hf 6 _ 71 (by decide) rfl rfl;obtain ⟨_, e7, rfl⟩ := hf 7 _ 72 (by decide) rfl rfl;obtain ⟨_, e8, rfl⟩ := hf 8 _ 73 (by decide) rfl rfl;obtain ⟨v9, e9, f9⟩ := hf 9 _ 74 (by decide) rfl rfl;obtain ⟨v10, e10, f10⟩ := hf 10 _ 75 (by decide) rfl rfl;obtain ⟨v11, e11, f11⟩ := hf 11 _ 76 (by decide) rfl rfl;have g11 : ∃ a cap, v11 = .slice a (k + 1) cap ∧ MineK kdTm w' (bo + 1) (((x.args.take k).map (fitTm d)) ++ [fitTm d y]) v11 := f11 rfl;obtain ⟨_, e12, rfl⟩ := hf 12 _ 77 (by decide) rfl rfl;obtain ⟨va, vcap, rfl, hm6⟩ := g11;have OR6 : Hid (BoxM w' bo (.int .i64 3) (.string (fitFn i)) (.int .i64 0) (.int .i64 0) (.string ⟨#[]⟩) (.slice none 0 0) lv) := hg.box OR.out HO.out (by have := HBO.out; omega);have XR6 : Hid (BoxM w' w.heap.size (.int .i64 x.kind) (.string x.name) (.int .i64 x.val.kind) (.int .i64 x.val.num) (.string x.val.text) (.slice fa x.val.list.length fc) (.slice ga x.args.length gc)) := hg.box XR.out HO.out (by have := HBW.out; omega);have RR6 : Hid (BoxM w' (w.heap.size + 1) (.int .i64 0) (.string ⟨#[]⟩) (.int .i64 0) (.int .i64 0) (.string ⟨#[]⟩) (.slice none 0 0) (.slice none 0 0)) := hg.box RR.out HO.out (by have := HBW.out; omega);obtain ⟨o0, o1, o2, o3, o4, o5, o6⟩ := OR6.out.cells;have z6 := frozen7 OR6.out 6;rw [if_pos (by rfl)];rw [hoff.sets [(65, .pointer (some ⟨bo, 6, none⟩)), (66, lv), (67, .pointer (some ⟨w.heap.size, 6, none⟩)), (68, .slice (some ⟨lb, lo, none⟩) x.args.length gc), (69, .int .i64 (k : Int)), (70, .pointer (some ⟨lb, lo + k * 7, none⟩)), (71, .agg #[.int .i64 y.kind, .string y.name, .int .i64 y.val.kind, .int .i64 y.val.num, .string y.val.text, .slice fa0 y.val.list.length fc0, .slice ga0 y.args.length gc0]), (72, .int .i64 ((d : Int) + 1)), (73, .int .i64 (d : Int)), (74, v9), (75, v10), (76, .slice va (k + 1) vcap), (77, .pointer (some ⟨bo, 6, none⟩))] (by kernel_rfl) (by intro p hp; simp only [List.mem_cons, List.not_mem_nil, or_false] at hp; rcases hp with rfl | rfl | rfl | rfl | rfl | rfl | rfl | rfl | rfl | rfl | rfl | rfl | rfl <;> assumption)];clear hoff hf e0 e1 e2 e3 e4 e5 e6 e7 e8 e9 f9 e10 f10 e11 f11 e12;simp only [List.foldl_cons, List.foldl_nil, List.setIfInBounds_toArray, List.set_cons_zero, List.set_cons_succ]
    go_simp;have HM6 := Lib.hid (hm6.far (p := ⟨bo, 6, none⟩) (by simp) (.slice va (k + 1) vcap));have HB6 := Lib.hid ((HBEL.out.trans (hg.below.mono (by have := HBW.out; omega))).setCell (p := ⟨bo, 6, none⟩) (by have := HBW.out; simp; omega) (.slice va (k + 1) vcap));have OB6 : Hid (BoxM (w'.setCell ⟨bo, 6, none⟩ (.slice va (k + 1) vcap)) bo (.int .i64 3) (.string (fitFn i)) (.int .i64 0) (.int .i64 0) (.string ⟨#[]⟩) (.slice none 0 0) (.slice va (k + 1) vcap)) := heap_setCell_same _ _ _ _ _ _ OR6.out;have XB6 : Hid (BoxM (w'.setCell ⟨bo, 6, none⟩ (.slice va (k + 1) vcap)) w.heap.size (.int .i64 x.kind) (.string x.name) (.int .i64 x.val.kind) (.int .i64 x.val.num) (.string x.val.text) (.slice fa x.val.list.length fc) (.slice ga x.args.length gc)) := (Below.heap_setCell _ _ _ _ (by have := HBW.out; show w.heap.size ≠ bo; omega)).trans XR6.out;have RB6 : Hid (BoxM (w'.setCell ⟨bo, 6, none⟩ (.slice va (k + 1) vcap)) (w.heap.size + 1) (.int .i64 0) (.string ⟨#[]⟩) (.int .i64 0) (.int .i64 0) (.string ⟨#[]⟩) (.slice none 0 0) (.slice none 0 0)) := (Below.heap_setCell _ _ _ _ (by have := HBW.out; show w.heap.size + 1 ≠ bo; omega)).trans RR6.out;have SZ6 : Hid (bo < (w'.setCell ⟨bo, 6, none⟩ (.slice va (k + 1) vcap)).heap.size) := OB6.out.lt;clear hg hm6 o0 o1 o2 o3 o4 o5 o6 z6;go_wp2_with fail
    go_roundw
    case rel => exact ⟨k + 1, .slice va (k + 1) vcap, by have := HKL.out; omega, by go_num, by rw [HTK.out]; exact HM6.out, OB6.out, XB6.out, RB6.out, HB6.out⟩
    case measure => simp [intOf]; have := HKL.out; omega
  ·have hd2 : decide ((k : Int) < (fitArity i : Int)) = false := decide_eq_false (by omega)
   obtain rfl : k = fitArity i := by omega
   have HTT : Hid ((x.args.take (fitArity i)).map (fitTm d) = (x.args.take (fitArity i)).map (fitTm d)) := rfl;have hll : ((x.args.take (fitArity i)).map (fitTm d)).length = fitArity i := by rw [List.length_map, List.length_take]; omega
   obtain ⟨la, lc, rfl⟩ := OwnK.form HO.out;rw [hll] at HO OR;have HSL := Lib.hid (MineK.slg (S' := fun b => w.heap.size + 2 ≤ b ∧ b < wr.heap.size ∧ b ≠ bo) HO.out (fun b h1 h2 => ⟨by have := HBW.out; omega, h2, by omega⟩) (by rw [hll]; omega));obtain ⟨o0, o1, o2, o3, o4, o5, o6⟩ := OR.out.cells;obtain ⟨r0, r1, r2, r3, r4, r5, r6⟩ := RR.out.cells;have z0 := frozen7 RR.out 0; have z1 := frozen7 RR.out 1; have z2 := frozen7 RR.out 2; have z3 := frozen7 RR.out 3; have z4 := frozen7 RR.out 4; have z5 := frozen7 RR.out 5; have z6 := frozen7 RR.out 6
   have HNE : Hid (bo ≠ w.heap.size + 1) := by show _ ≠ _; have := HBW.out; omega
   have hne1 := HNE.out;clear hbel;go_wp2_with fail
   refine bodyPost_ret (v := .agg #[.int .i64 3, .string (fitFn i), .int .i64 0, .int .i64 0, .string ⟨#[]⟩, .slice none 0 0, .slice la (fitArity i) lc]) (by simp [results, Try.results11, go_sem, r0, r1, r2, r3, r4, r5, r6]) rfl ?_;rw [HE.out];refine ⟨_, _, _, _, _, _, _, rfl, repM_mk.2 ⟨rfl, rfl, small64 (by omega), ?nm, zV_rep _ _, RepMs.on (fun k hk => ⟨by omega, ?sz⟩) (fun k hk => ?eq) HSL.out⟩, set7_below (b := w.heap.size + 1) HBEL.out (by omega) _ _ _ _ _ _ _⟩
   case nm =>
    have : ∀ i, i < 6 → (fitFn i).size ≤ 9 := by decide
    exact Nat.le_trans (this i hi6) (by decide)
   case sz =>
    show k < (set7 wr (w.heap.size + 1) _ _ _ _ _ _ _).heap.size
    rw [set7_size]; exact hk.2.1
   case eq => exact set7_other wr (w.heap.size + 1) _ _ _ _ _ _ _ _ (by omega)
end Go.Proofs.Ytjmnnjikmmglpaa
namespace Go.Proofs.Ytjmnnjikmmglpaa
open Go.RowKit
theorem term_succ (d : Nat) (hd : 1 ≤ d) (hdm : d ≤ 100) (ih : FitTmAt d) : FitTmAt (d + 1) := by
 intro x S w c0 c1 c2 c3 c4 c5 c6 hS hx
 by_cases hl : x.args.length < 2
 ·exact term_few d hd hdm x S w c0 c1 c2 c3 c4 c5 c6 hS hx hl
 ·have hb := pickZ_bd x.kind 4 (by omega)
  rw [show ((d + 1 : Nat) : Int) = (d : Int) + 1 by omega]
  by_cases h0 : pickZ x.kind 4 = 0
  ·exact term_deep0 d hd hdm x S w c0 c1 c2 c3 c4 c5 c6 hS hx hl h0
  by_cases h1 : pickZ x.kind 4 = 1
  ·exact term_deep1 d hd hdm x S w c0 c1 c2 c3 c4 c5 c6 hS hx hl h1
  by_cases h2 : pickZ x.kind 4 = 2
  ·exact term_call d hd hdm ih x S w c0 c1 c2 c3 c4 c5 c6 hS hx hl h2
  ·exact term_op d hd hdm ih x S w c0 c1 c2 c3 c4 c5 c6 hS hx hl (by omega)
theorem term_any : ∀ d, d ≤ 100 → FitTmAt (d + 1)
 | 0, _ => term_one
 | d + 1, h => term_succ (d + 1) (by omega) h (term_any d (by omega))
end Go.Proofs.Ytjmnnjikmmglpaa
