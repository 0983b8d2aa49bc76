/-
  SixFact
-/
import Derived.Test.YtpnaegohjbaggaaKD22
import Derived.Test.YtpnaegohjbaggaaKD04
import Derived.Test.YtpnaegohjbaggaaKD20
import Derived.Test.YtpnaegohjbaggaaKD03
import Derived.Deep.CutRange
import Derived.Deep.Cut
namespace Go.Proofs.Ytpnaegohjbaggaa
open Go.RowKit
def StrFour (w : World) (v : Value) : Prop := ∃ b, v = .slice (some ⟨b, 0, none⟩) 4 4 ∧ w.heap[b]? = some (.cells #[.string ⟨#[97]⟩, .string ⟨#[98]⟩, .string ⟨#[99]⟩, .string ⟨#[100]⟩] 9 (0, 0))
theorem StrFour.stay {w w' : World} {v : Value} (hb : Below w.heap.size w w') (h : StrFour w v) : StrFour w' v := by
 obtain ⟨b, e, h⟩ := h;exact ⟨b, e, (hb.block b (Array.getElem?_eq_some_iff.1 h).1).trans h⟩
theorem str_ptr4 {r : Nat} {w : World} {b : Nat} (hr : r < 4) (h : w.heap[b]? = some (.cells #[.string ⟨#[97]⟩, .string ⟨#[98]⟩, .string ⟨#[99]⟩, .string ⟨#[100]⟩] 9 (0, 0))) : StrPtr r (adrName r) w (.pointer (some ⟨b, r, none⟩)) :=
 ⟨b, rfl, (Array.getElem?_eq_some_iff.1 h).1, cell_of_block' h _ (match r, hr with
  | 0, _ => rfl
  | 1, _ => rfl
  | 2, _ => rfl
  | 3, _ => rfl)⟩
theorem link_iff {a : ByteArray} : a.toList = [108, 105, 110, 107] ↔ a = ⟨#[108, 105, 110, 107]⟩ := by
 rw [Lib.toList_data]
 constructor
 ·intro h
  obtain ⟨d⟩ := a;exact congrArg ByteArray.mk (Array.toList_inj.1 h)
 ·rintro rfl; rfl
theorem boxFa_set {w : World} {k : Nat} {c0 c1 : Value} (h : BoxFa w k c0 c1) (d0 d1 : Value) : BoxFa ((w.setCell ⟨k, 0, none⟩ d0).setCell ⟨k, 1, none⟩ d1) k d0 d1 :=
 heap_setCell_same _ _ _ _ _ _ (heap_setCell_same _ _ _ _ _ _ h)
def factTo (x : Rw) (k : Nat) : List V := (List.range k).map (factArg x)
theorem factTo_succ (x : Rw) (k : Nat) : factTo x (k + 1) = factTo x k ++ [factArg x k] := by
 rw [factTo, factTo, List.range_succ, List.map_append]; rfl
def MadeFa (y : Fa) (w : World) (e : Ending) (w' : World) : Prop := ∃ sl, e = .returned (.agg #[.string y.name, sl]) ∧ RepFa (fun b => w.heap.size ≤ b ∧ b < w'.heap.size) w' y (.string y.name) sl ∧ Below w.heap.size w w'
set_option maxRecDepth 100000 in
set_option maxHeartbeats 20000000 in
theorem fact_any (x : Rw) (w : World) (hx : RwOk x) : Calls Try.prog 32 #[rwV x] w (MadeFa (factZ x) w) := by
 have HX := Lib.hid hx;have hbd := pickZ_bd x.name 6 (by omega);obtain ⟨i, hi⟩ := Int.eq_ofNat_of_zero_le hbd.1;have HI : Hid (i < 6) := by show _ < _; omega
 have HZ := Lib.hid hi;have HDO : Hid (declOf x = decl6 i) := by show _ = _; rw [declOf, hi]; simp
 clear hx hbd hi;rw [rwV];go_enter Try.func32, Try.ntmps32
 go_wp2_with fail
 have x1 := boxRw_new w x; have b1 := below_alloc w (.cells #[.int .i64 x.kind, .int .i64 x.name, .int .i64 x.n0, .int .i64 x.n1, .int .i64 x.n2, .int .i64 x.n3] 69)
 have s1 := World.size_alloc w (.cells #[.int .i64 x.kind, .int .i64 x.name, .int .i64 x.n0, .int .i64 x.n1, .int .i64 x.n2, .int .i64 x.n3] 69);generalize w.alloc (.cells #[.int .i64 x.kind, .int .i64 x.name, .int .i64 x.n0, .int .i64 x.n1, .int .i64 x.n2, .int .i64 x.n3] 69) = wa at *;have t1 := boxFa_new wa (.string ⟨#[]⟩) (.slice none 0 0); have b2 := below_alloc wa (.cells #[.string ⟨#[]⟩, .slice none 0 0] 65)
 have s2 := World.size_alloc wa (.cells #[.string ⟨#[]⟩, .slice none 0 0] 65);generalize wa.alloc (.cells #[.string ⟨#[]⟩, .slice none 0 0] 65) = w1 at *;rw [s1] at t1;have X1 := Lib.hid (x1.on b2); have T1 := Lib.hid t1; have B1 := Lib.hid (Below.step b1 b2)
 clear x1 b1 s1 t1 b2 s2;refine wp_region_factsL (by rfl) 68 (by rfl) (by kernel_rfl) (FA [.p (RelAt w1.heap.size), .e (.pointer (some ⟨w.heap.size, 1, none⟩)), .e (.int .i64 x.name), .e (.int .i64 i), .p (DeclPtr i), .e (.agg #[.string (decl6 i).name, .int .i64 (decl6 i).arity]), .p (ZeroDe w1.heap.size)]) (fun w' => Below w1.heap.size w1 w') (Below.drew (Below.refl _ _)) ⟨?s0, ?s1, ?s2, ?s3, ?s4, ?s5, ?s6, trivial⟩ (by rfl) ?last (by decide)
 case s0 =>
  intro a w' hoff hg hdep K hK;rw [if_pos (by rfl)];go_simp;refine (relations_any w').mono ?_;rintro e w2' ⟨rfl, hr, hb⟩;have hp : RelAt w1.heap.size w2' (.slice (some ⟨w'.heap.size, 0, none⟩) 6 6) := ⟨_, rfl, hg.size, RepDes.on (fun k hk => ⟨Nat.le_trans hg.size hk.1, hk.2⟩) (fun _ _ => rfl) hr⟩;exact hK.out _ _ (Below.step hg hb) hp (fSt ⟨fun _ h => RelAt.stay hb h, fun _ h => DeclPtr.stay hb h, fun _ h => ZeroDe.stay hb h, trivial⟩)
 case s1 =>
  intro a w' hoff hg hdep K hK;have h1 := off_at hoff 1 (v := .pointer (some ⟨w.heap.size, 0, none⟩)) (by kernel_rfl) rfl;rw [if_pos (by rfl)];go_simp;exact hK.out _ _ hg rfl (fun _ _ h => h)
 case s2 =>
  intro a w' hoff hg hdep K hK;obtain ⟨_, e1, rfl⟩ := hdep 1 _ 7 (by kernel_rfl) rfl rfl;rw [if_pos (by rfl)];obtain ⟨p0, p1, p2, p3, p4, p5⟩ := (X1.out.on hg).cells;go_simp;exact hK.out _ _ hg rfl (fun _ _ h => h)
 case s3 =>
  intro a w' hoff hg hdep K hK;obtain ⟨_, e2, rfl⟩ := hdep 2 _ 8 (by kernel_rfl) rfl rfl;rw [if_pos (by rfl)];go_simp;refine (pick6_any x.name 6 w' HX.out.2.1 (by omega) (by omega)).mono ?_;rintro e w2' ⟨rfl, rfl⟩;rw [HZ.out];have hb := Below.refl w'.heap.size w';exact hK.out _ _ (Below.step hg hb) rfl (fSt ⟨fun _ h => RelAt.stay hb h, fun _ h => DeclPtr.stay hb h, fun _ h => ZeroDe.stay hb h, trivial⟩)
 case s4 =>
  intro a w' hoff hg hdep K hK;obtain ⟨v0, e0, (g0 : RelAt w1.heap.size w' v0)⟩ := hdep 0 _ 6 (by kernel_rfl) rfl rfl;obtain ⟨_, e3, rfl⟩ := hdep 3 _ 9 (by kernel_rfl) rfl rfl;obtain ⟨b8, rfl, hb8, hr8⟩ := g0;have hk1 : (0 : Int) ≤ (i : Int) := Int.natCast_nonneg i;have hk2 : (i : Int) < 6 := by have := HI.out; omega
  have hk3 : i < 6 := HI.out;have hp := RelAt.ptr HI.out hr8;rw [if_pos (by rfl)];go_simp;exact hK.out _ _ hg hp (fun _ _ h => h)
 case s5 =>
  intro a w' hoff hg hdep K hK;obtain ⟨v4, e4, (g4 : DeclPtr i w' v4)⟩ := hdep 4 _ 10 (by kernel_rfl) rfl rfl;obtain ⟨b4, rfl, hb4, p8, p9⟩ := g4;rw [if_pos (by rfl)];obtain ⟨p0, p1, p2, p3, p4, p5⟩ := (X1.out.on hg).cells;go_simp;exact hK.out _ _ hg rfl (fun _ _ h => h)
 case s6 =>
  intro a w' hoff hg hdep K hK;rw [if_pos (by rfl)];go_simp;have hb := below_alloc w' (.cells #[.string ⟨#[]⟩, .int .i64 0] 88);have hp : ZeroDe w1.heap.size (w'.alloc (.cells #[.string ⟨#[]⟩, .int .i64 0] 88)) (.pointer (some ⟨w'.heap.size, 0, none⟩)) := ⟨_, rfl, hg.size, alloc_new' _ _⟩;exact hK.out _ _ (Below.step hg hb) hp (fSt ⟨fun _ h => RelAt.stay hb h, fun _ h => DeclPtr.stay hb h, fun _ h => ZeroDe.stay hb h, trivial⟩)
 case last =>
  intro a w' hoff hg hf;obtain ⟨v0, e0, (g0 : RelAt w1.heap.size w' v0)⟩ := hf 0 _ 6 (by decide) rfl rfl;obtain ⟨_, e1, rfl⟩ := hf 1 _ 7 (by decide) rfl rfl;obtain ⟨_, e2, rfl⟩ := hf 2 _ 8 (by decide) rfl rfl;obtain ⟨_, e3, rfl⟩ := hf 3 _ 9 (by decide) rfl rfl;obtain ⟨v4, e4, (g4 : DeclPtr i w' v4)⟩ := hf 4 _ 10 (by decide) rfl rfl;obtain ⟨_, e5, rfl⟩ := hf 5 _ 11 (by decide) rfl rfl;obtain ⟨v6, e6, (g6 : ZeroDe w1.heap.size w' v6)⟩ := hf 6 _ 3 (by decide) rfl rfl;obtain ⟨bd, rfl, hbd, hzd⟩ := g6;have z0 := frozen_of_row w' bd 0 _ _ hzd;have z1 := frozen_of_row w' bd 1 _ _ hzd;obtain ⟨r0, r1⟩ := hzd.cells;rw [if_pos (by rfl)];rw [hoff.sets [(6, v0), (7, .pointer (some ⟨w.heap.size, 1, none⟩)), (8, .int .i64 x.name), (9, .int .i64 i), (10, v4), (11, .agg #[.string (decl6 i).name, .int .i64 (decl6 i).arity]), (3, .pointer (some ⟨bd, 0, none⟩))] (by kernel_rfl) (by intro p hp; simp only [List.mem_cons, List.not_mem_nil, or_false] at hp; rcases hp with rfl | rfl | rfl | rfl | rfl | rfl | rfl <;> assumption)];clear hoff hf e0 e1 e2 e3 e4 e5 e6;simp only [List.foldl_cons, List.foldl_nil, List.setIfInBounds_toArray, List.set_cons_zero, List.set_cons_succ]
  have XD := Lib.hid (boxDe_set hzd (.string (decl6 i).name) (.int .i64 (decl6 i).arity));have BD := Lib.hid ((hg.setCell (p := ⟨bd, 0, none⟩) hbd (.string (decl6 i).name)).setCell (p := ⟨bd, 1, none⟩) hbd (.int .i64 (decl6 i).arity));go_simp;clear g0 g4 z0 z1 r0 r1 hzd hg;generalize (w'.setCell ⟨bd, 0, none⟩ (.string (decl6 i).name)).setCell ⟨bd, 1, none⟩ (.int .i64 (decl6 i).arity) = wd at *;have X2 := Lib.hid (X1.out.on BD.out); have T2 := Lib.hid (T1.out.on BD.out); have D2 := XD
  have B2 := Lib.hid (Below.step B1.out BD.out);have HOK := Lib.hid (decl6_ok HI.out);obtain ⟨ar, har⟩ := Int.eq_ofNat_of_zero_le (show 0 ≤ (decl6 i).arity by have := HOK.out; omega);have har3 : ar ≤ 3 := by have := HOK.out; omega
  have HAR3 := Lib.hid har3;rw [har] at D2;have HAR := Lib.hid har;obtain ⟨r0, r1⟩ := D2.out.cells;have a1 := boxFa_new wd (.string ⟨#[]⟩) (.slice none 0 0);have z0 := frozen_of_row (wd.alloc (.cells #[.string ⟨#[]⟩, .slice none 0 0] 65)) wd.heap.size 0 _ _ a1;have z1 := frozen_of_row (wd.alloc (.cells #[.string ⟨#[]⟩, .slice none 0 0] 65)) wd.heap.size 1 _ _ a1;clear har;go_wp2_with fail
  clear z0 z1 r0 r1 a1;have a2 := boxFa_new wd (.string (decl6 i).name) (.slice none 0 0);have b2 := below_alloc wd (.cells #[.string (decl6 i).name, .slice none 0 0] 65);have s2 := World.size_alloc wd (.cells #[.string (decl6 i).name, .slice none 0 0] 65);generalize wd.alloc (.cells #[.string (decl6 i).name, .slice none 0 0] 65) = w3 at *;obtain ⟨kq, hK⟩ : ∃ kq, wd.heap.size = kq := ⟨_, rfl⟩;have HXK : Hid (w.heap.size + 1 < kq ∧ bd < kq) := by show _ ∧ _; rw [← hK]; exact ⟨T2.out.lt, D2.out.lt⟩
  have X3 := Lib.hid (X2.out.on b2); have T3 := Lib.hid (T2.out.on b2); have D3 := Lib.hid (D2.out.on b2); have B3 := Lib.hid (Below.step B2.out b2)
  rw [hK] at a2 s2 ⊢;have O3 := Lib.hid a2; have S3 := Lib.hid s2
  clear a2 b2 s2 hK har3;generalize hNM : (decl6 i).name = nm at *;have HNM := Lib.hid hNM;clear hNM;go_loopw [5] (fun iv wr => ∃ (k : Nat) (lv : Value), k ≤ ar ∧ iv = .int .i64 (k : Int) ∧ MineK kdV wr (kq + 1) (factTo x k) lv ∧ BoxFa wr kq (.string nm) lv ∧ But kq (kq + 1) w3 wr) (fun iv _ => 3 - (intOf iv).toNat)
  case atStart => exact ⟨0, .slice none 0 0, Nat.zero_le _, rfl, MineK.nil _ _, O3.out, But.refl _ _ _⟩
  case round =>
   obtain ⟨k, lv, hka, rfl, hmine, hbox, hbut⟩ := hrel;have HO := Lib.hid hmine; have OR := Lib.hid hbox; have HBUT := Lib.hid hbut
   have HXR : Hid (BoxRw wr w.heap.size x) := (hbut.block _ (by have := HXK.out; omega) (by have := HXK.out; omega)).trans X3.out;have HDR : Hid (BoxDe wr bd (.string nm) (.int .i64 ar)) := (hbut.block _ (by have := HXK.out; omega) (by have := HXK.out; omega)).trans D3.out;have HTR : Hid (BoxFa wr (w.heap.size + 1) (.string ⟨#[]⟩) (.slice none 0 0)) := (hbut.block _ (by have := HXK.out; omega) (by have := HXK.out; omega)).trans T3.out;have HWS : Hid (kq + 1 ≤ wr.heap.size) := by show _ ≤ _; have := hbut.size; have := S3.out; omega
   have HBW : Hid (Below w.heap.size w wr) := Below.trans B3.out (hbut.below (by have := HXK.out; omega) (by have := HXK.out; omega));clear hmine hbox hbut;obtain ⟨r0, r1⟩ := HDR.out.cells
   by_cases hl : k < ar
   ·have hl1 : decide ((k : Int) < (ar : Int)) = true := by simp; omega
    have hk3 : k < 4 := by have := HAR3.out; omega
    have hk5 : (0 : Int) ≤ (k : Int) := by omega
    have hk6 : (k : Int) < 4 := by omega
    have HK5 := Lib.hid hk5; have HK6 := Lib.hid hk6
    have HKL : Hid (k < 3 ∧ k < ar) := ⟨by have := HAR3.out; omega, hl⟩;have HQ : Hid (I64 (numOf x k)) := numOf_i64 HX.out k;have pk : wr.cell? ⟨w.heap.size, 2 + k, none⟩ = some (.int .i64 (numOf x k)) := HXR.out.num k hk3;have PK := Lib.hid pk;have HLL : Hid ((factTo x k).length = k) := by show _ = _; rw [factTo, List.length_map, List.length_range]
    have HLK : Hid ((factTo x k).length ≤ 1000) := by show _ ≤ _; rw [HLL.out]; omega
    have HTK : Hid (factTo x (k + 1) = factTo x k ++ [factArg x k]) := factTo_succ x k
    have HFA : Hid (factArg x k = if k = 0 ∨ (k = 1 ∧ (nm = ⟨#[108, 105, 110, 107]⟩ ∨ pickZ (numOf x k) 2 = 0)) then .mk 3 0 (adrName (pickZ ((numOf x k).tdiv 2) 4).toNat) [] else .mk 1 (pickZ ((numOf x k).tdiv 2) 5) ⟨#[]⟩ []) := by
     show _ = _
     rw [factArg, HDO.out, HNM.out]
    clear hk3;go_upto_region 6 with fail
    go_cut [39] from 15 to 39 (fun s wx => s = .bool (decide (k = 0 ∨ (k = 1 ∧ (nm = ⟨#[108, 105, 110, 107]⟩ ∨ pickZ (numOf x k) 2 = 0)))) ∧ wr = wx)
    case first =>
     by_cases c0 : k = 0
     ·have HZ : Hid (decide (k = 0 ∨ (k = 1 ∧ (nm = ⟨#[108, 105, 110, 107]⟩ ∨ pickZ (numOf x k) 2 = 0))) = true) := decide_eq_true (.inl c0)
      have hq0 : ((k : Int) == 0) = true := by simp [c0]
      clear pk hl hl1 c0;go_wp2_with fail
      go_meet
      exact ⟨by rw [HZ.out], rfl⟩
     have hq0 : ((k : Int) == 0) = false := by simp [c0]
     by_cases c1 : k = 1
     ·have hq1 : ((k : Int) == 1) = true := by simp [c1]
      by_cases c2 : nm = ⟨#[108, 105, 110, 107]⟩
      ·have HZ : Hid (decide (k = 0 ∨ (k = 1 ∧ (nm = ⟨#[108, 105, 110, 107]⟩ ∨ pickZ (numOf x k) 2 = 0))) = true) := decide_eq_true (.inr ⟨c1, .inl c2⟩)
       have hq2 : (nm.toList == [108, 105, 110, 107]) = true := by rw [beq_iff_eq]; exact link_iff.2 c2
       clear pk hl hl1 c0 c1 c2;go_wp2_with fail
       go_meet
       exact ⟨by rw [HZ.out], rfl⟩
      ·have hq2 : (nm.toList == [108, 105, 110, 107]) = false := by rw [beq_eq_false_iff_ne]; exact fun e => c2 (link_iff.1 e)
       have HC1 := Lib.hid c1; have HC2 := Lib.hid c2
       clear hl hl1 c0 c1 c2;go_wp2_with fail
       refine (pick6_any (numOf x k) 2 _ HQ.out (by omega) (by omega)).mono ?_;rintro e w' ⟨rfl, rfl⟩
       by_cases c3 : pickZ (numOf x k) 2 = 0
       ·have HZ : Hid (decide (k = 0 ∨ (k = 1 ∧ (nm = ⟨#[108, 105, 110, 107]⟩ ∨ pickZ (numOf x k) 2 = 0))) = true) := decide_eq_true (.inr ⟨HC1.out, .inr c3⟩)
        have hq3 : (pickZ (numOf x k) 2 == 0) = true := by simp [c3]
        clear c3;go_wp2_with fail
        go_meet
        exact ⟨by rw [HZ.out], rfl⟩
       ·have HZ : Hid (decide (k = 0 ∨ (k = 1 ∧ (nm = ⟨#[108, 105, 110, 107]⟩ ∨ pickZ (numOf x k) 2 = 0))) = false) := decide_eq_false (fun h => by
         rcases h with h | ⟨-, h | h⟩
         ·have := HC1.out; omega
         ·exact HC2.out h
         ·exact c3 h)
        have hq3 : (pickZ (numOf x k) 2 == 0) = false := by simp [c3]
        clear c3;go_wp2_with fail
        go_meet
        exact ⟨by rw [HZ.out], rfl⟩
     ·have hq1 : ((k : Int) == 1) = false := by simp; omega
      have HZ : Hid (decide (k = 0 ∨ (k = 1 ∧ (nm = ⟨#[108, 105, 110, 107]⟩ ∨ pickZ (numOf x k) 2 = 0))) = false) := decide_eq_false (by simp [c0, c1]);clear pk hl hl1 c0 c1;go_wp2_with fail
      go_meet
      exact ⟨by rw [HZ.out], rfl⟩
    case rest =>
     obtain ⟨rfl, rfl⟩ := hcut;clear pk hl hl1 r0 r1 hk5 hk6;obtain ⟨q, hq⟩ : ∃ q, numOf x k = q := ⟨_, rfl⟩;have HQD : Hid (I64 ((numOf x k).tdiv 2)) := tdiv_i64 HQ.out 2 (by omega);rw [hq] at HQ PK HFA HQD ⊢;clear hq;have HW1 : Hid (wrap64 (q.tdiv 2) = q.tdiv 2) := by show _ = _; obtain ⟨a1, a2⟩ := HQD.out; unfold wrap64; omega
     have HW2 : Hid (IntKind.i64.wrap (q.tdiv 2) = q.tdiv 2) := by show _ = _; obtain ⟨a1, a2⟩ := HQD.out; rw [IntKind.wrap_i64]; omega
     by_cases hc : k = 0 ∨ (k = 1 ∧ (nm = ⟨#[108, 105, 110, 107]⟩ ∨ pickZ q 2 = 0))
     ·rw [decide_eq_true hc]
      rw [if_pos hc] at HFA;clear hc;have hpb := pickZ_bd (q.tdiv 2) 4 (by omega);obtain ⟨r, hr⟩ := Int.eq_ofNat_of_zero_le hpb.1;have HR := Lib.hid hr;have HR4 : Hid (r < 4) := by show _ < _; omega
      rw [hr, Int.toNat_natCast] at HFA;have HR5 : Hid ((0 : Int) ≤ (r : Int)) := by show _ ≤ _; omega
      have HR6 : Hid ((r : Int) < 4) := by show _ < _; omega
      clear hpb hr;have HRD : Hid (∀ S' w', kdV.R S' w' (factArg x k) (at4v (.int .i64 3) (.int .i64 0) (.string (adrName r)) (.slice none 0 0))) := Lib.hid (fun _ _ => by rw [HFA.out]; exact flat_rep _ _ 3 0 (adrName r) (small64 (by omega)) (small64 (by omega)) (adrName_size r));go_wp2_with fail
      refine wp_region_factsP (by rfl) 68 (by rfl) (by kernel_rfl) 13 (fun q => q == 0 || q == 1 || q == 2 || q == 3 || q == 4 || q == 5 || q == 6 || q == 7 || q == 8 || q == 9 || q == 10 || q == 11 || q == 12) (by kernel_rfl) (FB [.e (.pointer (some ⟨kq, 1, none⟩)), .e lv, .p (StrFour), .e (.int .i64 (k : Int)), .e (.pointer (some ⟨w.heap.size, 2, none⟩)), .e (.pointer (some ⟨w.heap.size, 2 + k, none⟩)), .e (.int .i64 q), .e (.int .i64 (q.tdiv 2)), .e (.int .i64 (r : Int)), .p (StrPtr r (adrName r)), .e (.string (adrName r)), .e (.agg #[.int .i64 3, .int .i64 0, .string (adrName r), .slice none 0 0]), .p (RowOf wr.heap.size (.cells #[.int .i64 3, .int .i64 0, .string (adrName r), .slice none 0 0] 27 (0, 0))), .t (fun wz vz => ∃ a cap, vz = .slice a (k + 1) cap ∧ MineK kdV wz (kq + 1) (factTo x k ++ [factArg x k]) vz), .e (.pointer (some ⟨kq, 1, none⟩))]) (fun ph w' => if ph = true then Aft wr (kq + 1) lv w' else Below wr.heap.size wr w') (Below.drew (Below.refl _ _)) ⟨?s0, ?s1, ?s2, ?s3, ?s4, ?s5, ?s6, ?s7, ?s8, ?s9, ?s10, ?s11, ?s12, ?s13, ?s14, trivial⟩ (by rfl) ?last
      case s0 =>
       intro a w' hoff hg hdep K hK;replace hg : Below wr.heap.size wr w' := hg;have h4 := off_at hoff 4 (v := .pointer (some ⟨kq, 0, none⟩)) (by kernel_rfl) rfl;rw [if_pos (by rfl)];go_simp;exact hK.out _ _ hg rfl (fun _ _ h => h)
      case s1 =>
       intro a w' hoff hg hdep K hK;replace hg : Below wr.heap.size wr w' := hg;obtain ⟨_, e0, rfl⟩ := hdep 0 _ 40 (by kernel_rfl) rfl rfl;rw [if_pos (by rfl)];obtain ⟨o0, o1⟩ := (OR.out.on hg).cells; have pk := (hg.cell (p := ⟨w.heap.size, 2 + k, none⟩) HXR.out.lt).trans PK.out
       go_simp;exact hK.out _ _ hg rfl (fun _ _ h => h)
      case s2 =>
       intro a w' hoff hg hdep K hK;replace hg : Below wr.heap.size wr w' := hg;rw [if_pos (by rfl)];go_simp;have hb := below_alloc w' (.cells #[.string ⟨#[97]⟩, .string ⟨#[98]⟩, .string ⟨#[99]⟩, .string ⟨#[100]⟩] 9);have hp : StrFour (w'.alloc (.cells #[.string ⟨#[97]⟩, .string ⟨#[98]⟩, .string ⟨#[99]⟩, .string ⟨#[100]⟩] 9)) (.slice (some ⟨w'.heap.size, 0, none⟩) 4 4) := ⟨_, rfl, alloc_new' _ _⟩;exact hK.out _ _ (Below.step hg hb) (fun _ => hp) (fStP ⟨fun _ h => StrFour.stay hb h, fun _ h => StrPtr.stay hb h, fun _ h => RowOf.stay hb h, trivial⟩)
      case s3 =>
       intro a w' hoff hg hdep K hK;replace hg : Below wr.heap.size wr w' := hg;have h5 := off_at hoff 5 (v := .int .i64 (k : Int)) (by kernel_rfl) rfl;rw [if_pos (by rfl)];go_simp;exact hK.out _ _ hg rfl (fun _ _ h => h)
      case s4 =>
       intro a w' hoff hg hdep K hK;replace hg : Below wr.heap.size wr w' := hg;have h1 := off_at hoff 1 (v := .pointer (some ⟨w.heap.size, 0, none⟩)) (by kernel_rfl) rfl;rw [if_pos (by rfl)];go_simp;exact hK.out _ _ hg rfl (fun _ _ h => h)
      case s5 =>
       intro a w' hoff hg hdep K hK;replace hg : Below wr.heap.size wr w' := hg;obtain ⟨_, e3, rfl⟩ := hdep 3 _ 43 (by kernel_rfl) rfl rfl;obtain ⟨_, e4, rfl⟩ := hdep 4 _ 44 (by kernel_rfl) rfl rfl;rw [if_pos (by rfl)];have hk5 := HK5.out; have hk6 := HK6.out
       go_simp;exact hK.out _ _ hg rfl (fun _ _ h => h)
      case s6 =>
       intro a w' hoff hg hdep K hK;replace hg : Below wr.heap.size wr w' := hg;obtain ⟨_, e5, rfl⟩ := hdep 5 _ 45 (by kernel_rfl) rfl rfl;rw [if_pos (by rfl)];obtain ⟨o0, o1⟩ := (OR.out.on hg).cells; have pk := (hg.cell (p := ⟨w.heap.size, 2 + k, none⟩) HXR.out.lt).trans PK.out
       go_simp;exact hK.out _ _ hg rfl (fun _ _ h => h)
      case s7 =>
       intro a w' hoff hg hdep K hK;replace hg : Below wr.heap.size wr w' := hg;obtain ⟨_, e6, rfl⟩ := hdep 6 _ 46 (by kernel_rfl) rfl rfl;rw [if_pos (by rfl)];have hw1 := HW1.out; have hw2 := HW2.out
       go_simp;exact hK.out _ _ hg rfl (fun _ _ h => h)
      case s8 =>
       intro a w' hoff hg hdep K hK;replace hg : Below wr.heap.size wr w' := hg;obtain ⟨_, e7, rfl⟩ := hdep 7 _ 47 (by kernel_rfl) rfl rfl;rw [if_pos (by rfl)];go_simp;refine (pick6_any (q.tdiv 2) 4 w' HQD.out (by omega) (by omega)).mono ?_;rintro e w2' ⟨rfl, rfl⟩;rw [HR.out];have hb := Below.refl w'.heap.size w';exact hK.out _ _ (Below.step hg hb) rfl (fStP ⟨fun _ h => StrFour.stay hb h, fun _ h => StrPtr.stay hb h, fun _ h => RowOf.stay hb h, trivial⟩)
      case s9 =>
       intro a w' hoff hg hdep K hK;replace hg : Below wr.heap.size wr w' := hg;obtain ⟨v2, e2, f2⟩ := hdep 2 _ 42 (by kernel_rfl) rfl rfl;have g2 : StrFour w' v2 := f2 rfl;obtain ⟨_, e8, rfl⟩ := hdep 8 _ 48 (by kernel_rfl) rfl rfl;obtain ⟨b42, rfl, k42⟩ := g2;have hp := str_ptr4 HR4.out k42;rw [if_pos (by rfl)];have hr5 := HR5.out; have hr6 := HR6.out
       go_simp;exact hK.out _ _ hg (fun _ => hp) (fun _ _ h => h)
      case s10 =>
       intro a w' hoff hg hdep K hK;replace hg : Below wr.heap.size wr w' := hg;obtain ⟨v9, e9, f9⟩ := hdep 9 _ 49 (by kernel_rfl) rfl rfl;have g9 : StrPtr r (adrName r) w' v9 := f9 rfl;obtain ⟨b49, rfl, l49, t0⟩ := g9;rw [if_pos (by rfl)];obtain ⟨o0, o1⟩ := (OR.out.on hg).cells; have pk := (hg.cell (p := ⟨w.heap.size, 2 + k, none⟩) HXR.out.lt).trans PK.out
       go_simp;exact hK.out _ _ hg rfl (fun _ _ h => h)
      case s11 =>
       intro a w' hoff hg hdep K hK;replace hg : Below wr.heap.size wr w' := hg;obtain ⟨_, e10, rfl⟩ := hdep 10 _ 50 (by kernel_rfl) rfl rfl;rw [if_pos (by rfl)];go_simp;exact hK.out _ _ hg rfl (fun _ _ h => h)
      case s12 =>
       intro a w' hoff hg hdep K hK;replace hg : Below wr.heap.size wr w' := hg;obtain ⟨_, e11, rfl⟩ := hdep 11 _ 51 (by kernel_rfl) rfl rfl;rw [if_pos (by rfl)];go_simp;have hb := below_alloc w' (.cells #[.int .i64 3, .int .i64 0, .string (adrName r), .slice none 0 0] 27);have hp := RowOf.new (cs := #[.int .i64 3, .int .i64 0, .string (adrName r), .slice none 0 0]) (t := 27) hg.size;exact hK.out _ _ (Below.step hg hb) (fun _ => hp) (fStP ⟨fun _ h => StrFour.stay hb h, fun _ h => StrPtr.stay hb h, fun _ h => RowOf.stay hb h, trivial⟩)
      case s13 =>
       intro a w' hoff hg hdep K hK;replace hg : Below wr.heap.size wr w' := hg;obtain ⟨v1, e1, f1⟩ := hdep 1 _ 41 (by kernel_rfl) rfl rfl;obtain rfl : lv = v1 := Eq.symm f1;obtain ⟨v12, e12, f12⟩ := hdep 12 _ 52 (by kernel_rfl) rfl rfl;have g12 : RowOf wr.heap.size (.cells #[.int .i64 3, .int .i64 0, .string (adrName r), .slice none 0 0] 27 (0, 0)) w' v12 := f12 rfl;obtain ⟨b, rfl, hbk, hbb⟩ := g12;obtain ⟨va, vcap, w6, hrun, hm6, hgr⟩ := own_append (K := kdV) (y := factArg x k) (c := at4v (.int .i64 3) (.int .i64 0) (.string (adrName r)) (.slice none 0 0)) (HO.out.stands hg) (Nat.le_trans HWS.out hg.size) HLK.out hbk rfl (fun j hj => match j, hj with | 0, _ => rfl | 1, _ => rfl | 2, _ => rfl | 3, _ => rfl) (HRD.out _ _) 22;refine step_append_by rfl (.tmp 41) (.tmp 52) 22 rfl (by simp [Act.eval, e1]) (by simp [Act.eval, e12]) hrun ?_;have hlk := HLL.out;rw [hlk] at hm6 ⊢;have hp : ∃ a cap, (.slice va (k + 1) vcap : Value) = .slice a (k + 1) cap ∧ MineK kdV w6 (kq + 1) (factTo x k ++ [factArg x k]) (.slice va (k + 1) vcap) := ⟨_, _, rfl, hm6⟩;have hG2 := Aft.of HO.out HWS.out hg hgr;exact hK.out _ _ hG2 (fun _ => hp) (fPass rfl)
      case s14 =>
       intro ph a w' hoff hg hdep K hK;have h4 := off_at hoff 4 (v := .pointer (some ⟨kq, 0, none⟩)) (by kernel_rfl) rfl;rw [if_pos (by rfl)];go_simp;exact hK.out _ _ hg rfl (fun _ _ h => h)
      case last =>
       intro a w' hoff hg hf;replace hg : Aft wr (kq + 1) lv w' := hg;obtain ⟨_, e0, rfl⟩ := hf 0 _ 40 (by decide) rfl rfl;obtain ⟨v1, e1, f1⟩ := hf 1 _ 41 (by decide) rfl rfl;obtain rfl : lv = v1 := Eq.symm f1;obtain ⟨v2, e2, f2⟩ := hf 2 _ 42 (by decide) rfl rfl;obtain ⟨_, e3, rfl⟩ := hf 3 _ 43 (by decide) rfl rfl;obtain ⟨_, e4, rfl⟩ := hf 4 _ 44 (by decide) rfl rfl;obtain ⟨_, e5, rfl⟩ := hf 5 _ 45 (by decide) rfl rfl;obtain ⟨_, e6, rfl⟩ := hf 6 _ 46 (by decide) rfl rfl;obtain ⟨_, e7, rfl⟩ := hf 7 _ 47 (by decide) rfl rfl;obtain ⟨_, e8, rfl⟩ := hf 8 _ 48 (by decide) rfl rfl;obtain ⟨v9, e9, f9⟩ := hf 9 _ 49 (by decide) rfl rfl;obtain ⟨_, e10, rfl⟩ := hf 10 _ 50 (by decide) rfl rfl;obtain ⟨_, e11, rfl⟩ := hf 11 _ 51 (by decide) rfl rfl;obtain ⟨v12, e12, f12⟩ := hf 12 _ 52 (by decide) rfl rfl;obtain ⟨v13, e13, f13⟩ := hf 13 _ 53 (by decide) rfl rfl;have g13 : ∃ a cap, v13 = .slice a (k + 1) cap ∧ MineK kdV w' (kq + 1) (factTo x k ++ [factArg x k]) v13 := f13 rfl;obtain ⟨_, e14, rfl⟩ := hf 14 _ 54 (by decide) rfl rfl;obtain ⟨va, vcap, rfl, hm6⟩ := g13;have OR6 : Hid (BoxFa w' kq (.string nm) lv) := (hg.below.block _ (Nat.lt_succ_self _)).trans OR.out;obtain ⟨o0, o1⟩ := OR6.out.cells;have z1 := frozen_of_row w' kq 1 _ _ OR6.out;rw [if_pos (by rfl)];rw [hoff.sets [(40, .pointer (some ⟨kq, 1, none⟩)), (41, lv), (42, v2), (43, .int .i64 (k : Int)), (44, .pointer (some ⟨w.heap.size, 2, none⟩)), (45, .pointer (some ⟨w.heap.size, 2 + k, none⟩)), (46, .int .i64 q), (47, .int .i64 (q.tdiv 2)), (48, .int .i64 (r : Int)), (49, v9), (50, .string (adrName r)), (51, .agg #[.int .i64 3, .int .i64 0, .string (adrName r), .slice none 0 0]), (52, v12), (53, .slice va (k + 1) vcap), (54, .pointer (some ⟨kq, 1, none⟩))] (by kernel_rfl) (by intro p hp; simp only [List.mem_cons, List.not_mem_nil, or_false] at hp; rcases hp with rfl | rfl | rfl | rfl | rfl | rfl | rfl | rfl | rfl | rfl | rfl | rfl | rfl | rfl | rfl <;> assumption)];clear hoff hf e0 e1 e2 f2 e3 e4 e5 e6 e7 e8 e9 f9 e10 e11 e12 f12 e13 f13 e14;simp only [List.foldl_cons, List.foldl_nil, List.setIfInBounds_toArray, List.set_cons_zero, List.set_cons_succ]
       go_simp;have HM6 := Lib.hid (hm6.far (p := ⟨kq, 1, none⟩) (by simp) (.slice va (k + 1) vcap));have OB6 : Hid (BoxFa (w'.setCell ⟨kq, 1, none⟩ (.slice va (k + 1) vcap)) kq (.string nm) (.slice va (k + 1) vcap)) := heap_setCell_same _ _ _ _ _ _ OR6.out;have HB6 := Lib.hid ((HBUT.out.step (Nat.le_refl _) hg.below).set 1 (.slice va (k + 1) vcap));clear hg hm6 o0 o1 z1;go_wp2_with fail
       go_roundw
       case rel => exact ⟨k + 1, .slice va (k + 1) vcap, HKL.out.2, (by have := HKL.out.1; rw [show wrap64 ((k : Int) + 1) = ((k + 1 : Nat) : Int) by unfold wrap64; omega]), by rw [HTK.out]; exact HM6.out, OB6.out, HB6.out⟩
       case measure => exact measure_up HKL.out.1 (by decide)
     ·rw [decide_eq_false hc]
      rw [if_neg hc] at HFA;clear hc;have hpb := pickZ_bd (q.tdiv 2) 5 (by omega);have HN : Hid (I64 (pickZ (q.tdiv 2) 5)) := ⟨by omega, by omega⟩;clear hpb;have HRD : Hid (∀ S' w', kdV.R S' w' (factArg x k) (at4v (.int .i64 1) (.int .i64 (pickZ (q.tdiv 2) 5)) (.string ⟨#[]⟩) (.slice none 0 0))) := Lib.hid (fun _ _ => by rw [HFA.out]; exact flat_rep _ _ 1 _ ⟨#[]⟩ (small64 (by omega)) HN.out (by decide));go_wp2_with fail
      refine wp_region_factsP (by rfl) 68 (by rfl) (by kernel_rfl) 10 (fun q => q == 0 || q == 1 || q == 2 || q == 3 || q == 4 || q == 5 || q == 6 || q == 7 || q == 8 || q == 9) (by kernel_rfl) (FB [.e (.pointer (some ⟨kq, 1, none⟩)), .e lv, .e (.int .i64 (k : Int)), .e (.pointer (some ⟨w.heap.size, 2, none⟩)), .e (.pointer (some ⟨w.heap.size, 2 + k, none⟩)), .e (.int .i64 q), .e (.int .i64 (q.tdiv 2)), .e (.int .i64 (pickZ (q.tdiv 2) 5)), .e (.agg #[.int .i64 1, .int .i64 (pickZ (q.tdiv 2) 5), .string ⟨#[]⟩, .slice none 0 0]), .p (RowOf wr.heap.size (.cells #[.int .i64 1, .int .i64 (pickZ (q.tdiv 2) 5), .string ⟨#[]⟩, .slice none 0 0] 27 (0, 0))), .t (fun wz vz => ∃ a cap, vz = .slice a (k + 1) cap ∧ MineK kdV wz (kq + 1) (factTo x k ++ [factArg x k]) vz), .e (.pointer (some ⟨kq, 1, none⟩))]) (fun ph w' => if ph = true then Aft wr (kq + 1) lv w' else Below wr.heap.size wr w') (Below.drew (Below.refl _ _)) ⟨?s0, ?s1, ?s2, ?s3, ?s4, ?s5, ?s6, ?s7, ?s8, ?s9, ?s10, ?s11, trivial⟩ (by rfl) ?last
      case s0 =>
       intro a w' hoff hg hdep K hK;replace hg : Below wr.heap.size wr w' := hg;have h4 := off_at hoff 4 (v := .pointer (some ⟨kq, 0, none⟩)) (by kernel_rfl) rfl;rw [if_pos (by rfl)];go_simp;exact hK.out _ _ hg rfl (fun _ _ h => h)
      case s1 =>
       intro a w' hoff hg hdep K hK;replace hg : Below wr.heap.size wr w' := hg;obtain ⟨_, e0, rfl⟩ := hdep 0 _ 55 (by kernel_rfl) rfl rfl;rw [if_pos (by rfl)];obtain ⟨o0, o1⟩ := (OR.out.on hg).cells; have pk := (hg.cell (p := ⟨w.heap.size, 2 + k, none⟩) HXR.out.lt).trans PK.out
       go_simp;exact hK.out _ _ hg rfl (fun _ _ h => h)
      case s2 =>
       intro a w' hoff hg hdep K hK;replace hg : Below wr.heap.size wr w' := hg;have h5 := off_at hoff 5 (v := .int .i64 (k : Int)) (by kernel_rfl) rfl;rw [if_pos (by rfl)];go_simp;exact hK.out _ _ hg rfl (fun _ _ h => h)
      case s3 =>
       intro a w' hoff hg hdep K hK;replace hg : Below wr.heap.size wr w' := hg;have h1 := off_at hoff 1 (v := .pointer (some ⟨w.heap.size, 0, none⟩)) (by kernel_rfl) rfl;rw [if_pos (by rfl)];go_simp;exact hK.out _ _ hg rfl (fun _ _ h => h)
      case s4 =>
       intro a w' hoff hg hdep K hK;replace hg : Below wr.heap.size wr w' := hg;obtain ⟨_, e2, rfl⟩ := hdep 2 _ 57 (by kernel_rfl) rfl rfl;obtain ⟨_, e3, rfl⟩ := hdep 3 _ 58 (by kernel_rfl) rfl rfl;rw [if_pos (by rfl)];have hk5 := HK5.out; have hk6 := HK6.out
       go_simp;exact hK.out _ _ hg rfl (fun _ _ h => h)
      case s5 =>
       intro a w' hoff hg hdep K hK;replace hg : Below wr.heap.size wr w' := hg;obtain ⟨_, e4, rfl⟩ := hdep 4 _ 59 (by kernel_rfl) rfl rfl;rw [if_pos (by rfl)];obtain ⟨o0, o1⟩ := (OR.out.on hg).cells; have pk := (hg.cell (p := ⟨w.heap.size, 2 + k, none⟩) HXR.out.lt).trans PK.out
       go_simp;exact hK.out _ _ hg rfl (fun _ _ h => h)
      case s6 =>
       intro a w' hoff hg hdep K hK;replace hg : Below wr.heap.size wr w' := hg;obtain ⟨_, e5, rfl⟩ := hdep 5 _ 60 (by kernel_rfl) rfl rfl;rw [if_pos (by rfl)];have hw1 := HW1.out; have hw2 := HW2.out
       go_simp;exact hK.out _ _ hg rfl (fun _ _ h => h)
      case s7 =>
       intro a w' hoff hg hdep K hK;replace hg : Below wr.heap.size wr w' := hg;obtain ⟨_, e6, rfl⟩ := hdep 6 _ 61 (by kernel_rfl) rfl rfl;rw [if_pos (by rfl)];go_simp;refine (pick6_any (q.tdiv 2) 5 w' HQD.out (by omega) (by omega)).mono ?_;rintro e w2' ⟨rfl, rfl⟩;have hb := Below.refl w'.heap.size w';exact hK.out _ _ (Below.step hg hb) rfl (fStP ⟨fun _ h => RowOf.stay hb h, trivial⟩)
      case s8 =>
       intro a w' hoff hg hdep K hK;replace hg : Below wr.heap.size wr w' := hg;obtain ⟨_, e7, rfl⟩ := hdep 7 _ 62 (by kernel_rfl) rfl rfl;rw [if_pos (by rfl)];go_simp;exact hK.out _ _ hg rfl (fun _ _ h => h)
      case s9 =>
       intro a w' hoff hg hdep K hK;replace hg : Below wr.heap.size wr w' := hg;obtain ⟨_, e8, rfl⟩ := hdep 8 _ 63 (by kernel_rfl) rfl rfl;rw [if_pos (by rfl)];go_simp;have hb := below_alloc w' (.cells #[.int .i64 1, .int .i64 (pickZ (q.tdiv 2) 5), .string ⟨#[]⟩, .slice none 0 0] 27);have hp := RowOf.new (cs := #[.int .i64 1, .int .i64 (pickZ (q.tdiv 2) 5), .string ⟨#[]⟩, .slice none 0 0]) (t := 27) hg.size;exact hK.out _ _ (Below.step hg hb) (fun _ => hp) (fStP ⟨fun _ h => RowOf.stay hb h, trivial⟩)
      case s10 =>
       intro a w' hoff hg hdep K hK;replace hg : Below wr.heap.size wr w' := hg;obtain ⟨v1, e1, f1⟩ := hdep 1 _ 56 (by kernel_rfl) rfl rfl;obtain rfl : lv = v1 := Eq.symm f1;obtain ⟨v9, e9, f9⟩ := hdep 9 _ 64 (by kernel_rfl) rfl rfl;have g9 : RowOf wr.heap.size (.cells #[.int .i64 1, .int .i64 (pickZ (q.tdiv 2) 5), .string ⟨#[]⟩, .slice none 0 0] 27 (0, 0)) w' v9 := f9 rfl;obtain ⟨b, rfl, hbk, hbb⟩ := g9;obtain ⟨va, vcap, w6, hrun, hm6, hgr⟩ := own_append (K := kdV) (y := factArg x k) (c := at4v (.int .i64 1) (.int .i64 (pickZ (q.tdiv 2) 5)) (.string ⟨#[]⟩) (.slice none 0 0)) (HO.out.stands hg) (Nat.le_trans HWS.out hg.size) HLK.out hbk rfl (fun j hj => match j, hj with | 0, _ => rfl | 1, _ => rfl | 2, _ => rfl | 3, _ => rfl) (HRD.out _ _) 22;refine step_append_by rfl (.tmp 56) (.tmp 64) 22 rfl (by simp [Act.eval, e1]) (by simp [Act.eval, e9]) hrun ?_;have hlk := HLL.out;rw [hlk] at hm6 ⊢;have hp : ∃ a cap, (.slice va (k + 1) vcap : Value) = .slice a (k + 1) cap ∧ MineK kdV w6 (kq + 1) (factTo x k ++ [factArg x k]) (.slice va (k + 1) vcap) := ⟨_, _, rfl, hm6⟩;have hG2 := Aft.of HO.out HWS.out hg hgr;exact hK.out _ _ hG2 (fun _ => hp) (fPass rfl)
      case s11 =>
       intro ph a w' hoff hg hdep K hK;have h4 := off_at hoff 4 (v := .pointer (some ⟨kq, 0, none⟩)) (by kernel_rfl) rfl;rw [if_pos (by rfl)];go_simp;exact hK.out _ _ hg rfl (fun _ _ h => h)
      case last =>
       intro a w' hoff hg hf;replace hg : Aft wr (kq + 1) lv w' := hg;obtain ⟨_, e0, rfl⟩ := hf 0 _ 55 (by decide) rfl rfl;obtain ⟨v1, e1, f1⟩ := hf 1 _ 56 (by decide) rfl rfl;obtain rfl : lv = v1 := Eq.symm f1;obtain ⟨_, e2, rfl⟩ := hf 2 _ 57 (by decide) rfl rfl;obtain ⟨_, e3, rfl⟩ := hf 3 _ 58 (by decide) rfl rfl;obtain ⟨_, e4, rfl⟩ := hf 4 _ 59 (by decide) rfl rfl;obtain ⟨_, e5, rfl⟩ := hf 5 _ 60 (by decide) rfl rfl;obtain ⟨_, e6, rfl⟩ := hf 6 _ 61 (by decide) rfl rfl;obtain ⟨_, e7, rfl⟩ := hf 7 _ 62 (by decide) rfl rfl;obtain ⟨_, e8, rfl⟩ := hf 8 _ 63 (by decide) rfl rfl;obtain ⟨v9, e9, f9⟩ := hf 9 _ 64 (by decide) rfl rfl;obtain ⟨v10, e10, f10⟩ := hf 10 _ 65 (by decide) rfl rfl;have g10 : ∃ a cap, v10 = .slice a (k + 1) cap ∧ MineK kdV w' (kq + 1) (factTo x k ++ [factArg x k]) v10 := f10 rfl;obtain ⟨_, e11, rfl⟩ := hf 11 _ 66 (by decide) rfl rfl;obtain ⟨va, vcap, rfl, hm6⟩ := g10;have OR6 : Hid (BoxFa w' kq (.string nm) lv) := (hg.below.block _ (Nat.lt_succ_self _)).trans OR.out;obtain ⟨o0, o1⟩ := OR6.out.cells;have z1 := frozen_of_row w' kq 1 _ _ OR6.out;rw [if_pos (by rfl)];rw [hoff.sets [(55, .pointer (some ⟨kq, 1, none⟩)), (56, lv), (57, .int .i64 (k : Int)), (58, .pointer (some ⟨w.heap.size, 2, none⟩)), (59, .pointer (some ⟨w.heap.size, 2 + k, none⟩)), (60, .int .i64 q), (61, .int .i64 (q.tdiv 2)), (62, .int .i64 (pickZ (q.tdiv 2) 5)), (63, .agg #[.int .i64 1, .int .i64 (pickZ (q.tdiv 2) 5), .string ⟨#[]⟩, .slice none 0 0]), (64, v9), (65, .slice va (k + 1) vcap), (66, .pointer (some ⟨kq, 1, none⟩))] (by kernel_rfl) (by intro p hp; simp only [List.mem_cons, List.not_mem_nil, or_false] at hp; rcases hp with rfl | rfl | rfl | rfl | rfl | rfl | rfl | rfl | rfl | rfl | rfl | rfl <;> assumption)];clear hoff hf e0 e1 e2 e3 e4 e5 e6 e7 e8 e9 f9 e10 f10 e11;simp only [List.foldl_cons, List.foldl_nil, List.setIfInBounds_toArray, List.set_cons_zero, List.set_cons_succ]
       go_simp;have HM6 := Lib.hid (hm6.far (p := ⟨kq, 1, none⟩) (by simp) (.slice va (k + 1) vcap));have OB6 : Hid (BoxFa (w'.setCell ⟨kq, 1, none⟩ (.slice va (k + 1) vcap)) kq (.string nm) (.slice va (k + 1) vcap)) := heap_setCell_same _ _ _ _ _ _ OR6.out;have HB6 := Lib.hid ((HBUT.out.step (Nat.le_refl _) hg.below).set 1 (.slice va (k + 1) vcap));clear hg hm6 o0 o1 z1;go_wp2_with fail
       go_roundw
       case rel => exact ⟨k + 1, .slice va (k + 1) vcap, HKL.out.2, (by have := HKL.out.1; rw [show wrap64 ((k : Int) + 1) = ((k + 1 : Nat) : Int) by unfold wrap64; omega]), by rw [HTK.out]; exact HM6.out, OB6.out, HB6.out⟩
       case measure => exact measure_up HKL.out.1 (by decide)
   ·obtain rfl : k = ar := by omega
    have hl1 : decide ((k : Int) < (k : Int)) = false := by simp
    obtain ⟨la, lc, rfl⟩ := OwnK.form HO.out;have HLL : Hid ((factTo x k).length = k) := by show _ = _; rw [factTo, List.length_map, List.length_range]
    obtain ⟨o0, o1⟩ := OR.out.cells;have z0 := frozen_of_row wr (w.heap.size + 1) 0 _ _ HTR.out; have z1 := frozen_of_row wr (w.heap.size + 1) 1 _ _ HTR.out
    obtain ⟨t0, t1⟩ := HTR.out.cells;have T9 := Lib.hid (boxFa_set HTR.out (.string nm) (.slice la (factTo x k).length lc));have B9 := Lib.hid ((HBW.out.setCell (p := ⟨w.heap.size + 1, 0, none⟩) (by simp) (.string nm)).setCell (p := ⟨w.heap.size + 1, 1, none⟩) (by simp) (.slice la (factTo x k).length lc));have M9 := Lib.hid (MineK.far (MineK.far HO.out (p := ⟨w.heap.size + 1, 0, none⟩) (by have := HXK.out; simp; omega) (.string nm)) (p := ⟨w.heap.size + 1, 1, none⟩) (by have := HXK.out; simp; omega) (.slice la (factTo x k).length lc));clear hl;go_wp2_with fail
    clear o0 o1 t0 t1 z0 z1 hl1;generalize (wr.setCell ⟨w.heap.size + 1, 0, none⟩ (.string nm)).setCell ⟨w.heap.size + 1, 1, none⟩ (.slice la (factTo x k).length lc) = w9 at *;obtain ⟨t0, t1⟩ := T9.out.cells
    have HFZ : Hid (factZ x = ⟨nm, factTo x k⟩) := by
     show _ = _
     rw [factZ, HDO.out, HAR.out, HNM.out, Int.toNat_natCast]; rfl
    have HRL : RepLG (fun b => w.heap.size ≤ b ∧ b < w9.heap.size) w9 (factTo x k) (.slice la (factTo x k).length lc) := lg_of_slg (MineK.slg M9.out (fun m h1 h2 => ⟨by have := HXK.out; omega, h2⟩) (by rw [HLL.out]; have := HAR3.out; omega));exact bodyPost_ret (v := .agg #[.string nm, .slice la (factTo x k).length lc]) (by simp [results, Try.results32, go_sem, t0, t1]) rfl ⟨.slice la (factTo x k).length lc, by rw [HFZ.out], by rw [HFZ.out]; exact ⟨rfl, HOK.out.1, HRL⟩, B9.out⟩
end Go.Proofs.Ytpnaegohjbaggaa
