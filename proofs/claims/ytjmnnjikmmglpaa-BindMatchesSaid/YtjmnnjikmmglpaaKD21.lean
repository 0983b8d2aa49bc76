/-
  NineEnv, NineSame, VarB, TermRight, NameLe
-/
import Derived.Test.YtjmnnjikmmglpaaKD10
import Derived.Test.YtjmnnjikmmglpaaKD19
import Derived.Test.YtjmnnjikmmglpaaKD20
import Derived.Test.YtjmnnjikmmglpaaKD03
import Derived.Test.YtjmnnjikmmglpaaKD18
import Derived.Test.YtjmnnjikmmglpaaKD07
import Derived.Test.YtjmnnjikmmglpaaKD01
import Derived.Test.YtjmnnjikmmglpaaKD08
import Derived.Deep.CutRange
import Derived.Deep.Cut
import Derived.Deep.RegionHeld3
import Derived.WalkSmall
import Derived.StillTailTactics
import Derived.BigQuiet
namespace Go.Proofs.Ytjmnnjikmmglpaa
open Go.RowKit
def nm9 (j : Nat) : ByteArray := if j = 0 then ⟨#[86]⟩ else if j = 1 then ⟨#[86, 97]⟩ else if j = 2 then ⟨#[83]⟩ else ⟨#[88]⟩
theorem nm9_le (j : Nat) : (nm9 j).size ≤ maxLen := by
 unfold nm9
 split
 ·decide
 ·split
  ·decide
  ·split <;> decide
def envB (x : Bd) : Bd := (nm9 (pickZ (x.1.size : Int) 4).toNat, fitV 4 x.2)
def envZ (l : List Bd) : List Bd := (l.take 8).map envB
theorem envZ_len (l : List Bd) : (envZ l).length ≤ 8 := by rw [envZ, List.length_map, List.length_take]; omega
def at5n (c0 c1 c2 c3 c4 : Value) : Nat → Value
 | 0 => c0 | 1 => c1 | 2 => c2 | 3 => c3 | _ => c4
def Row4 (w : World) (v : Value) : Prop := ∃ b, v = .slice (some ⟨b, 0, none⟩) 4 4 ∧ w.heap[b]? = some (.cells #[.string ⟨#[86]⟩, .string ⟨#[86, 97]⟩, .string ⟨#[83]⟩, .string ⟨#[88]⟩] 9 (0, 0))
theorem Row4.on {w w' : World} {v : Value} (h : Row4 w v) (hb : Below w.heap.size w w') : Row4 w' v := by
 obtain ⟨b, e, h1⟩ := h;exact ⟨b, e, (hb.block b (Array.getElem?_eq_some_iff.1 h1).1).trans h1⟩
def Ptr4 (j : Nat) (w : World) (v : Value) : Prop := ∃ b, v = .pointer (some ⟨b, j, none⟩) ∧ w.heap[b]? = some (.cells #[.string ⟨#[86]⟩, .string ⟨#[86, 97]⟩, .string ⟨#[83]⟩, .string ⟨#[88]⟩] 9 (0, 0))
theorem Ptr4.on {j : Nat} {w w' : World} {v : Value} (h : Ptr4 j w v) (hb : Below w.heap.size w w') : Ptr4 j w' v := by
 obtain ⟨b, e, h1⟩ := h;exact ⟨b, e, (hb.block b (Array.getElem?_eq_some_iff.1 h1).1).trans h1⟩
theorem row4_cell {w : World} {b j : Nat} (h : w.heap[b]? = some (.cells #[.string ⟨#[86]⟩, .string ⟨#[86, 97]⟩, .string ⟨#[83]⟩, .string ⟨#[88]⟩] 9 (0, 0))) (hj : j < 4) : w.cell? ⟨b, j, none⟩ = some (.string (nm9 j)) :=
 cell_of_block' h _ (match j, hj with | 0, _ => rfl | 1, _ => rfl | 2, _ => rfl | 3, _ => rfl)
def FitP (B : Nat) (y : V) (w : World) (v : Value) : Prop := ∃ c0 c1 c2 c3, v = .agg #[c0, c1, c2, c3] ∧ RepG (fun b => B ≤ b ∧ b < w.heap.size) w y c0 c1 c2 c3
theorem FitP.on {B : Nat} {y : V} {w w' : World} {v : Value} (h : FitP B y w v) (hb : Below w.heap.size w w') : FitP B y w' v := by
 obtain ⟨c0, c1, c2, c3, e, h⟩ := h;exact ⟨c0, c1, c2, c3, e, RepG.on (fun b h => ⟨h.1, Nat.lt_of_lt_of_le h.2 hb.size⟩) (fun b h => hb.block b h.2) _ h⟩
def BdP (B : Nat) (n : ByteArray) (y : V) (w : World) (v : Value) : Prop := ∃ c0 c1 c2 c3, v = .agg #[.string n, c0, c1, c2, c3] ∧ RepG (fun b => B ≤ b ∧ b < w.heap.size) w y c0 c1 c2 c3
theorem BdP.on {B : Nat} {n : ByteArray} {y : V} {w w' : World} {v : Value} (h : BdP B n y w v) (hb : Below w.heap.size w w') : BdP B n y w' v := by
 obtain ⟨c0, c1, c2, c3, e, h⟩ := h;exact ⟨c0, c1, c2, c3, e, RepG.on (fun b h => ⟨h.1, Nat.lt_of_lt_of_le h.2 hb.size⟩) (fun b h => hb.block b h.2) _ h⟩
def RowB (B : Nat) (n : ByteArray) (y : V) (w : World) (v : Value) : Prop := ∃ b c0 c1 c2 c3, v = .slice (some ⟨b, 0, none⟩) 1 1 ∧ w.heap[b]? = some (.cells #[.string n, c0, c1, c2, c3] 43 (0, 0)) ∧ RepG (fun b => B ≤ b ∧ b < w.heap.size) w y c0 c1 c2 c3
theorem RowB.on {B : Nat} {n : ByteArray} {y : V} {w w' : World} {v : Value} (h : RowB B n y w v) (hb : Below w.heap.size w w') : RowB B n y w' v := by
 obtain ⟨b, c0, c1, c2, c3, e, h1, h⟩ := h;exact ⟨b, c0, c1, c2, c3, e, (hb.block b (Array.getElem?_eq_some_iff.1 h1).1).trans h1, RepG.on (fun b h => ⟨h.1, Nat.lt_of_lt_of_le h.2 hb.size⟩) (fun b h => hb.block b h.2) _ h⟩
set_option maxRecDepth 100000 in
set_option maxHeartbeats 4000000 in
theorem env_any (E : List Bd) (S : Nat → Prop) (w : World) (a : Value) (hS : ∀ k, S k → k < w.heap.size) (hE : RepBs S w E a) :
  Calls Try.prog 10 #[a] w fun e w' => Below w.heap.size w w' ∧ ∃ u, e = .returned u ∧ RepBs (fun b => w.heap.size ≤ b ∧ b < w'.heap.size) w' (envZ E) u := by
 have HS := Lib.hid hS; have HE := Lib.hid hE
 have hl63 : E.length * 72 ≤ 140737488355328 := SlG.bytes hE;obtain ⟨ea, ec, rfl⟩ := SlG.form hE;clear hS hE;go_enter Try.func10, Try.ntmps10
 go_upto_region 3 with fail
 go_loopw [3, 4] (fun ov iv wr => ∃ k : Nat, k ≤ E.length ∧ k ≤ 8 ∧ iv = .int .i64 (k : Int) ∧ Hid (MineK kdB wr w.heap.size (envZ (E.take k)) ov) ∧ Hid (Below w.heap.size w wr)) (fun _ iv _ => E.length - (intOf iv).toNat)
 case atStart => exact ⟨0, Nat.zero_le _, by omega, rfl, by rw [List.take_zero]; exact MineK.nil _ _, Below.refl _ _⟩
 case round =>
  obtain ⟨k, hk, hk8, rfl, hm, hb⟩ := hrel;have HO := hm; have HB := hb
  clear hm hb
  by_cases hlt : k < E.length ∧ k < 8
  ·obtain ⟨hlt, hlt8⟩ := hlt
   have hE : RepBs S wr E (.slice ea E.length ec) := RepBs.on (fun _ h => h) (fun j hj => HB.out.block j (HS.out j hj)) HE.out;obtain ⟨-, -, eb, eo, fa, fc, rfl, hSb, g0, g1, g2, g3, g4, g⟩ := RepBs.at hE k hlt
   have hnx : envZ (E.take (k + 1)) = envZ (E.take k) ++ [(nm9 (pickZ (E[k].1.size : Int) 4).toNat, fitV 4 E[k].2)] := by
    rw [envZ, envZ, List.take_take, List.take_take, Nat.min_eq_right (by omega), Nat.min_eq_right (by omega), List.take_succ_eq_append_getElem hlt, List.map_append];rfl
   have HSW : Hid (∀ j, S j → j < wr.heap.size) := fun j hj => Nat.lt_of_lt_of_le (HS.out j hj) HB.out.size
   have HEB : Hid (eb < wr.heap.size) := HSW.out eb hSb;have HWS : Hid (w.heap.size ≤ wr.heap.size) := HB.out.size;have hk1 : (0 : Int) ≤ (k : Int) := Int.natCast_nonneg k;have hk2 : (k : Int) < (E.length : Int) := by omega
   have hk3 : decide ((k : Int) < (E.length : Int)) = true := decide_eq_true hk2;have hk4 : decide ((k : Int) < 8) = true := decide_eq_true (by omega);have hk5 : decide (k < E.length) = true := decide_eq_true hlt;have hk6 : decide (k < 8) = true := decide_eq_true hlt8;have GZ : Hid (RepG S wr E[k].2 (.int .i64 E[k].2.kind) (.int .i64 E[k].2.num) (.string E[k].2.text) (.slice fa E[k].2.list.length fc)) := g.2.2;have hsz : E[k].1.size ≤ maxLen := g.2.1;have HSI : Hid (I64 (E[k].1.size : Int)) := by show I64 _; unfold maxLen at hsz; unfold I64; omega
   obtain ⟨j, hj⟩ : ∃ j : Nat, pickZ (E[k].1.size : Int) 4 = (j : Int) := ⟨_, (Int.toNat_of_nonneg (pickZ_bd (E[k].1.size : Int) 4 (by omega)).1).symm⟩;have hjb := (pickZ_bd (E[k].1.size : Int) 4 (by omega)).2;rw [hj] at hjb;have HJL : Hid ((j : Int) < 4) := hjb;have HJN : Hid (j < 4) := by show _ < _; omega
   rw [hj, Int.toNat_natCast] at hnx;have HNX := Lib.hid hnx;have HJ := Lib.hid hj;have HKL := Lib.hid hlt; have HK8 := Lib.hid hlt8
   have G0 := Lib.hid g0; have G1 := Lib.hid g1; have G2 := Lib.hid g2; have G3 := Lib.hid g3; have G4 := Lib.hid g4
   have HLL : Hid ((envZ (E.take k)).length ≤ 1000) := by have := envZ_len (E.take k); show _ ≤ _; omega
   obtain ⟨LL, hLL⟩ : ∃ LL, envZ (E.take k) = LL := ⟨_, rfl⟩;rw [hLL] at HO HLL HNX;clear g0 g1 g2 g3 g4 g hSb hE hsz hjb hj hLL hnx;generalize E[k] = z at *;clear hk hk8 hlt hlt8;go_upto_region 5 with fail
   clear hk3 hk4 hk5 hk6;refine wp_region_factsP (by rfl) 36 (by rfl) (by kernel_rfl) 19 (fun q => q == 0 || q == 1 || q == 2 || q == 3 || q == 4 || q == 5 || q == 6 || q == 7 || q == 8 || q == 9 || q == 10 || q == 11 || q == 12 || q == 13 || q == 14 || q == 15 || q == 16 || q == 17 || q == 18) (by kernel_rfl) (FB [.e u3, .p (fun wz vz => Row4 wz vz), .e (.slice (some ⟨eb, eo, none⟩) E.length ec), .e (.int .i64 (k : Int)), .e (.pointer (some ⟨eb, eo + k * 5, none⟩)), .e (.pointer (some ⟨eb, eo + k * 5, none⟩)), .e (.string z.1), .e (.int .i64 (z.1.size : Int)), .e (.int .i64 (j : Int)), .p (fun wz vz => Ptr4 j wz vz), .e (.string (nm9 j)), .e (.slice (some ⟨eb, eo, none⟩) E.length ec), .e (.int .i64 (k : Int)), .e (.pointer (some ⟨eb, eo + k * 5, none⟩)), .e (.pointer (some ⟨eb, eo + k * 5 + 1, none⟩)), .e (.agg #[.int .i64 z.2.kind, .int .i64 z.2.num, .string z.2.text, .slice fa z.2.list.length fc]), .p (fun wz vz => FitP wr.heap.size (fitV 4 z.2) wz vz), .p (fun wz vz => BdP wr.heap.size (nm9 j) (fitV 4 z.2) wz vz), .p (fun wz vz => RowB wr.heap.size (nm9 j) (fitV 4 z.2) wz vz), .t (fun wz vz => ∃ a cap, vz = .slice a (LL.length + 1) cap ∧ MineK kdB wz w.heap.size (LL ++ [(nm9 j, (fitV 4 z.2))]) vz)]) (fun ph w' => if ph = true then Aft wr w.heap.size u3 w' else Below wr.heap.size wr w') (Below.drew (Below.refl _ _)) ⟨?n0, ?n1, ?n2, ?n3, ?n4, ?n5, ?n6, ?n7, ?n8, ?n9, ?n10, ?n11, ?n12, ?n13, ?n14, ?n15, ?n16, ?n17, ?n18, ?n19, trivial⟩ (by rfl) ?nlast
   case n0 =>
    intro a w' hoff hg hdep K hK;replace hg : Below wr.heap.size wr w' := hg;have h3 := off_at hoff 3 (v := u3) (by kernel_rfl) rfl;rw [if_pos (by rfl)];go_simp;exact hK.out _ _ hg rfl (fun _ _ h => h)
   case n1 =>
    intro a w' hoff hg hdep K hK;replace hg : Below wr.heap.size wr w' := hg;rw [if_pos (by rfl)];go_simp;have hb := below_alloc w' (.cells #[.string ⟨#[86]⟩, .string ⟨#[86, 97]⟩, .string ⟨#[83]⟩, .string ⟨#[88]⟩] 9);have hp : Row4 (w'.alloc (.cells #[.string ⟨#[86]⟩, .string ⟨#[86, 97]⟩, .string ⟨#[83]⟩, .string ⟨#[88]⟩] 9)) (.slice (some ⟨w'.heap.size, 0, none⟩) 4 4) := ⟨_, rfl, alloc_new' _ _⟩;exact hK.out _ _ (Below.step hg hb) (fun _ => hp) (fStP ⟨fun _ h => Row4.on h hb, fun _ h => Ptr4.on h hb, fun _ h => FitP.on h hb, fun _ h => BdP.on h hb, fun _ h => RowB.on h hb, trivial⟩)
   case n2 =>
    intro a w' hoff hg hdep K hK;replace hg : Below wr.heap.size wr w' := hg;have h0 := off_at hoff 0 (v := .slice (some ⟨eb, eo, none⟩) E.length ec) (by kernel_rfl) rfl;rw [if_pos (by rfl)];go_simp;exact hK.out _ _ hg rfl (fun _ _ h => h)
   case n3 =>
    intro a w' hoff hg hdep K hK;replace hg : Below wr.heap.size wr w' := hg;have h4 := off_at hoff 4 (v := .int .i64 (k : Int)) (by kernel_rfl) rfl;rw [if_pos (by rfl)];go_simp;exact hK.out _ _ hg rfl (fun _ _ h => h)
   case n4 =>
    intro a w' hoff hg hdep K hK;replace hg : Below wr.heap.size wr w' := hg;obtain ⟨_, e2, rfl⟩ := hdep 2 _ 17 (by kernel_rfl) rfl rfl;obtain ⟨_, e3, rfl⟩ := hdep 3 _ 18 (by kernel_rfl) rfl rfl;rw [if_pos (by rfl)];go_simp;exact hK.out _ _ hg rfl (fun _ _ h => h)
   case n5 =>
    intro a w' hoff hg hdep K hK;replace hg : Below wr.heap.size wr w' := hg;obtain ⟨_, e4, rfl⟩ := hdep 4 _ 19 (by kernel_rfl) rfl rfl;rw [if_pos (by rfl)];go_simp;exact hK.out _ _ hg rfl (fun _ _ h => h)
   case n6 =>
    intro a w' hoff hg hdep K hK;replace hg : Below wr.heap.size wr w' := hg;obtain ⟨_, e5, rfl⟩ := hdep 5 _ 20 (by kernel_rfl) rfl rfl;rw [if_pos (by rfl)];have q0 := (hg.cell (p := ⟨eb, eo + k * 5, none⟩) HEB.out).trans G0.out;go_simp;exact hK.out _ _ hg rfl (fun _ _ h => h)
   case n7 =>
    intro a w' hoff hg hdep K hK;replace hg : Below wr.heap.size wr w' := hg;obtain ⟨_, e6, rfl⟩ := hdep 6 _ 21 (by kernel_rfl) rfl rfl;rw [if_pos (by rfl)];go_simp;exact hK.out _ _ hg rfl (fun _ _ h => h)
   case n8 =>
    intro a w' hoff hg hdep K hK;replace hg : Below wr.heap.size wr w' := hg;obtain ⟨_, e7, rfl⟩ := hdep 7 _ 22 (by kernel_rfl) rfl rfl;rw [if_pos (by rfl)];go_simp;refine (pick9_any (z.1.size : Int) 4 w' HSI.out (by omega) (by omega)).mono ?_;rintro e w6 ⟨rfl, rfl⟩;rw [HJ.out];exact hK.out _ _ hg rfl (fun _ _ h => h)
   case n9 =>
    intro a w' hoff hg hdep K hK;replace hg : Below wr.heap.size wr w' := hg;obtain ⟨v1, e1, f1⟩ := hdep 1 _ 16 (by kernel_rfl) rfl rfl;have g1 : Row4 w' v1 := f1 rfl;clear f1;obtain ⟨_, e8, rfl⟩ := hdep 8 _ 23 (by kernel_rfl) rfl rfl;rw [if_pos (by rfl)];obtain ⟨b, rfl, hb4⟩ := g1;have hj2 := HJL.out;go_simp;exact hK.out _ _ hg (fun _ => ⟨b, rfl, hb4⟩) (fun _ _ h => h)
   case n10 =>
    intro a w' hoff hg hdep K hK;replace hg : Below wr.heap.size wr w' := hg;obtain ⟨v9, e9, f9⟩ := hdep 9 _ 24 (by kernel_rfl) rfl rfl;have g9 : Ptr4 j w' v9 := f9 rfl;clear f9;rw [if_pos (by rfl)];obtain ⟨b, rfl, hb4⟩ := g9;have q := row4_cell hb4 HJN.out;go_simp;exact hK.out _ _ hg rfl (fun _ _ h => h)
   case n11 =>
    intro a w' hoff hg hdep K hK;replace hg : Below wr.heap.size wr w' := hg;have h0 := off_at hoff 0 (v := .slice (some ⟨eb, eo, none⟩) E.length ec) (by kernel_rfl) rfl;rw [if_pos (by rfl)];go_simp;exact hK.out _ _ hg rfl (fun _ _ h => h)
   case n12 =>
    intro a w' hoff hg hdep K hK;replace hg : Below wr.heap.size wr w' := hg;have h4 := off_at hoff 4 (v := .int .i64 (k : Int)) (by kernel_rfl) rfl;rw [if_pos (by rfl)];go_simp;exact hK.out _ _ hg rfl (fun _ _ h => h)
   case n13 =>
    intro a w' hoff hg hdep K hK;replace hg : Below wr.heap.size wr w' := hg;obtain ⟨_, e11, rfl⟩ := hdep 11 _ 26 (by kernel_rfl) rfl rfl;obtain ⟨_, e12, rfl⟩ := hdep 12 _ 27 (by kernel_rfl) rfl rfl;rw [if_pos (by rfl)];go_simp;exact hK.out _ _ hg rfl (fun _ _ h => h)
   case n14 =>
    intro a w' hoff hg hdep K hK;replace hg : Below wr.heap.size wr w' := hg;obtain ⟨_, e13, rfl⟩ := hdep 13 _ 28 (by kernel_rfl) rfl rfl;rw [if_pos (by rfl)];go_simp;exact hK.out _ _ hg rfl (fun _ _ h => h)
   case n15 =>
    intro a w' hoff hg hdep K hK;replace hg : Below wr.heap.size wr w' := hg;obtain ⟨_, e14, rfl⟩ := hdep 14 _ 29 (by kernel_rfl) rfl rfl;rw [if_pos (by rfl)];have q1 := (hg.cell (p := ⟨eb, eo + k * 5 + 1, none⟩) HEB.out).trans G1.out;have q2 := (hg.cell (p := ⟨eb, eo + k * 5 + 2, none⟩) HEB.out).trans G2.out;have q3 := (hg.cell (p := ⟨eb, eo + k * 5 + 3, none⟩) HEB.out).trans G3.out;have q4 := (hg.cell (p := ⟨eb, eo + k * 5 + 4, none⟩) HEB.out).trans G4.out;go_simp;exact hK.out _ _ hg rfl (fun _ _ h => h)
   case n16 =>
    intro a w' hoff hg hdep K hK;replace hg : Below wr.heap.size wr w' := hg;obtain ⟨_, e15, rfl⟩ := hdep 15 _ 30 (by kernel_rfl) rfl rfl;rw [if_pos (by rfl)];go_simp;refine (Fit_any z.2 w'.heap.size w' _ _ _ _ (Nat.le_refl _) (RepG.on (fun b hb' => Nat.lt_of_lt_of_le (HSW.out b hb') hg.size) (fun b hb' => hg.block b (HSW.out b hb')) _ GZ.out)).mono ?_;rintro e w6 ⟨y0, y1, y2, y3, rfl, hr, hb⟩;have hp : FitP wr.heap.size (fitV 4 z.2) w6 (.agg #[y0, y1, y2, y3]) := ⟨_, _, _, _, rfl, RepG.on (fun b hb' => ⟨by have := hg.size; omega, by omega⟩) (fun _ _ => rfl) _ hr⟩;exact hK.out _ _ (Below.step hg hb) (fun _ => hp) (fStP ⟨fun _ h => Row4.on h hb, fun _ h => Ptr4.on h hb, fun _ h => FitP.on h hb, fun _ h => BdP.on h hb, fun _ h => RowB.on h hb, trivial⟩)
   case n17 =>
    intro a w' hoff hg hdep K hK;replace hg : Below wr.heap.size wr w' := hg;obtain ⟨_, e10, rfl⟩ := hdep 10 _ 25 (by kernel_rfl) rfl rfl;obtain ⟨v16, e16, f16⟩ := hdep 16 _ 31 (by kernel_rfl) rfl rfl;have g16 : FitP wr.heap.size (fitV 4 z.2) w' v16 := f16 rfl;clear f16;rw [if_pos (by rfl)];obtain ⟨y0, y1, y2, y3, rfl, hr⟩ := g16;obtain ⟨ya, yc, rfl, rfl, rfl, rfl⟩ := hr.form;go_simp;exact hK.out _ _ hg (fun _ => ⟨_, _, _, _, rfl, hr⟩) (fun _ _ h => h)
   case n18 =>
    intro a w' hoff hg hdep K hK;replace hg : Below wr.heap.size wr w' := hg;obtain ⟨v17, e17, f17⟩ := hdep 17 _ 32 (by kernel_rfl) rfl rfl;have g17 : BdP wr.heap.size (nm9 j) (fitV 4 z.2) w' v17 := f17 rfl;clear f17;rw [if_pos (by rfl)];obtain ⟨y0, y1, y2, y3, rfl, hr⟩ := g17;obtain ⟨ya, yc, rfl, rfl, rfl, rfl⟩ := hr.form;generalize hyy : (fitV 4 z.2) = y at *;go_simp;have hb := below_alloc w' (.cells #[.string (nm9 j), .int .i64 y.kind, .int .i64 y.num, .string y.text, .slice ya y.list.length yc] 43);have hp : RowB wr.heap.size (nm9 j) y (w'.alloc (.cells #[.string (nm9 j), .int .i64 y.kind, .int .i64 y.num, .string y.text, .slice ya y.list.length yc] 43)) (.slice (some ⟨w'.heap.size, 0, none⟩) 1 1) := ⟨_, _, _, _, _, rfl, alloc_new' _ _, RepG.on (fun b hb' => ⟨hb'.1, Nat.lt_of_lt_of_le hb'.2 hb.size⟩) (fun b hb' => hb.block b hb'.2) _ hr⟩;subst hyy;exact hK.out _ _ (Below.step hg hb) (fun _ => hp) (fStP ⟨fun _ h => Row4.on h hb, fun _ h => Ptr4.on h hb, fun _ h => FitP.on h hb, fun _ h => BdP.on h hb, fun _ h => RowB.on h hb, trivial⟩)
   case n19 =>
    intro a w' hoff hg hdep K hK;replace hg : Below wr.heap.size wr w' := hg;obtain ⟨v0, e0, f0⟩ := hdep 0 _ 15 (by kernel_rfl) rfl rfl;obtain rfl : u3 = v0 := Eq.symm f0;obtain ⟨v18, e18, f18⟩ := hdep 18 _ 33 (by kernel_rfl) rfl rfl;have g18 : RowB wr.heap.size (nm9 j) (fitV 4 z.2) w' v18 := f18 rfl;clear f18;obtain ⟨b, y0, y1, y2, y3, rfl, hbk, hr⟩ := g18;obtain ⟨va, vcap, w6, hrun, hm6, hgr⟩ := own_append (K := kdB) (HO.out.stands hg) (Nat.le_trans HWS.out hg.size) HLL.out hbk rfl (c := at5n (.string (nm9 j)) y0 y1 y2 y3) (fun i hi => match i, hi with | 0, _ => rfl | 1, _ => rfl | 2, _ => rfl | 3, _ => rfl | 4, _ => rfl) (y := (nm9 j, (fitV 4 z.2))) (show RepB _ _ _ _ _ _ _ _ from ⟨rfl, nm9_le j, RepG.on (fun b hb' => ⟨Nat.le_trans HWS.out hb'.1, hb'.2, fun e => by have := (OwnK.lies HO.out b e).2; omega⟩) (fun _ _ => rfl) _ hr⟩) 24;refine step_append_by rfl (.tmp 15) (.tmp 33) 24 rfl (by simp [Act.eval, e0]) (by simp [Act.eval, e18]) hrun ?_;exact hK.out _ _ (Aft.of HO.out HWS.out hg hgr) (fun _ => ⟨_, _, rfl, hm6⟩) (fPass rfl)
   case nlast =>
    intro a w' hoff hg hf;replace hg : Aft wr w.heap.size u3 w' := hg;obtain ⟨v0, e0, f0⟩ := hf 0 _ 15 (by decide) rfl rfl;obtain rfl : u3 = v0 := Eq.symm f0;obtain ⟨v1, e1, -⟩ := hf 1 _ 16 (by decide) rfl rfl;obtain ⟨_, e2, rfl⟩ := hf 2 _ 17 (by decide) rfl rfl;obtain ⟨_, e3, rfl⟩ := hf 3 _ 18 (by decide) rfl rfl;obtain ⟨_, e4, rfl⟩ := hf 4 _ 19 (by decide) rfl rfl;obtain ⟨_, e5, rfl⟩ := hf 5 _ 20 (by decide) rfl rfl;obtain ⟨_, e6, rfl⟩ := hf 6 _ 21 (by decide) rfl rfl;obtain ⟨_, e7, rfl⟩ := hf 7 _ 22 (by decide) rfl rfl;obtain ⟨_, e8, rfl⟩ := hf 8 _ 23 (by decide) rfl rfl;obtain ⟨v9, e9, -⟩ := hf 9 _ 24 (by decide) rfl rfl;obtain ⟨_, e10, rfl⟩ := hf 10 _ 25 (by decide) rfl rfl;obtain ⟨_, e11, rfl⟩ := hf 11 _ 26 (by decide) rfl rfl;obtain ⟨_, e12, rfl⟩ := hf 12 _ 27 (by decide) rfl rfl;obtain ⟨_, e13, rfl⟩ := hf 13 _ 28 (by decide) rfl rfl;obtain ⟨_, e14, rfl⟩ := hf 14 _ 29 (by decide) rfl rfl;obtain ⟨_, e15, rfl⟩ := hf 15 _ 30 (by decide) rfl rfl;obtain ⟨v16, e16, -⟩ := hf 16 _ 31 (by decide) rfl rfl;obtain ⟨v17, e17, -⟩ := hf 17 _ 32 (by decide) rfl rfl;obtain ⟨v18, e18, -⟩ := hf 18 _ 33 (by decide) rfl rfl;obtain ⟨v19, e19, f19⟩ := hf 19 _ 34 (by decide) rfl rfl;have g19 : ∃ a cap, v19 = .slice a (LL.length + 1) cap ∧ MineK kdB w' w.heap.size (LL ++ [(nm9 j, (fitV 4 z.2))]) v19 := f19 rfl;clear f19;obtain ⟨va, vcap, rfl, hm6⟩ := g19;rw [if_pos (by rfl)];rw [hoff.sets [(15, u3), (16, v1), (17, .slice (some ⟨eb, eo, none⟩) E.length ec), (18, .int .i64 (k : Int)), (19, .pointer (some ⟨eb, eo + k * 5, none⟩)), (20, .pointer (some ⟨eb, eo + k * 5, none⟩)), (21, .string z.1), (22, .int .i64 (z.1.size : Int)), (23, .int .i64 (j : Int)), (24, v9), (25, .string (nm9 j)), (26, .slice (some ⟨eb, eo, none⟩) E.length ec), (27, .int .i64 (k : Int)), (28, .pointer (some ⟨eb, eo + k * 5, none⟩)), (29, .pointer (some ⟨eb, eo + k * 5 + 1, none⟩)), (30, .agg #[.int .i64 z.2.kind, .int .i64 z.2.num, .string z.2.text, .slice fa z.2.list.length fc]), (31, v16), (32, v17), (33, v18), (34, .slice va (LL.length + 1) vcap)] (by kernel_rfl) (by intro p hp; simp only [List.mem_cons, List.not_mem_nil, or_false] at hp; rcases hp with rfl | rfl | rfl | rfl | rfl | rfl | rfl | rfl | rfl | rfl | rfl | rfl | rfl | rfl | rfl | rfl | rfl | rfl | rfl | rfl <;> assumption)];clear hoff hf e0 e1 e2 e3 e4 e5 e6 e7 e8 e9 e10 e11 e12 e13 e14 e15 e16 e17 e18 e19;simp only [List.foldl_cons, List.foldl_nil, List.setIfInBounds_toArray, List.set_cons_zero, List.set_cons_succ]
    go_simp;have HKO : Hid (MineK kdB w' w.heap.size (envZ (E.take (k + 1))) (.slice va (LL.length + 1) vcap)) := by show MineK _ _ _ _ _; rw [HNX.out]; exact hm6
    have HKB : Hid (Below w.heap.size w w') := ⟨hg.below.os.trans HB.out.os, hg.below.tape.trans HB.out.tape, hg.below.output.trans HB.out.output, Nat.le_trans HB.out.size hg.size, fun b hb => (hg.below.block b hb).trans (HB.out.block b hb)⟩;clear hg hm6;go_wp2_with fail
    go_roundw
    case rel => exact ⟨k + 1, HKL.out, by have := HK8.out; omega, by go_num, HKO, HKB⟩
    case measure => have := HKL.out; simp [intOf]; omega
  ·obtain ⟨oa, oc, rfl⟩ := OwnK.form HO.out
   have HF : Hid (envZ (E.take k) = envZ E) := by
    show _ = _
    rw [envZ, envZ, List.take_take]
    by_cases h8 : k = 8
    ·rw [h8, Nat.min_self]
    ·have hkk : k = E.length := by omega
     rw [Nat.min_eq_right (by omega), hkk, List.take_length, List.take_of_length_le (by omega)]
   have hd : (decide ((k : Int) < (E.length : Int)) && decide ((k : Int) < 8)) = false := by
    by_cases h1 : k < E.length
    ·have h2 : ¬ k < 8 := fun h => hlt ⟨h1, h⟩
     rw [decide_eq_false (p := ((k : Int) < 8)) (by omega), Bool.and_false]
    ·rw [decide_eq_false (p := ((k : Int) < (E.length : Int))) (by omega), Bool.false_and]
   by_cases h1 : k < E.length
   ·have k1 : decide ((k : Int) < (E.length : Int)) = true := decide_eq_true (by omega)
    have k2 : decide ((k : Int) < 8) = false := decide_eq_false (by omega);have k3 : decide (k < E.length) = true := decide_eq_true (by omega);have k4 : decide (k < 8) = false := decide_eq_false (by omega);clear h1 hlt hd hk hk8;go_wp2_with fail
    go_ret
    exact ⟨HB.out, _, rfl, by rw [← HF.out]; exact HO.out.slg (fun b h1 h2 => ⟨h1, h2⟩) (by have := envZ_len (E.take k); omega)⟩
   ·have k1 : decide ((k : Int) < (E.length : Int)) = false := decide_eq_false (by omega)
    have k3 : decide (k < E.length) = false := decide_eq_false (by omega);clear h1 hlt hd hk hk8;go_wp2_with fail
    go_ret
    exact ⟨HB.out, _, rfl, by rw [← HF.out]; exact HO.out.slg (fun b h1 h2 => ⟨h1, h2⟩) (by have := envZ_len (E.take k); omega)⟩
end Go.Proofs.Ytjmnnjikmmglpaa
namespace Go.Proofs.Ytjmnnjikmmglpaa
open Go.RowKit
def sameE : List Bd → List Bd → Bool
 | [], [] => true
 | x :: l, y :: m => (x.1.toList == y.1.toList) && (sameV x.2 y.2 && sameE l m)
 | _, _ => false
theorem sameE_len : ∀ {l m : List Bd}, l.length ≠ m.length → sameE l m = false
 | [], [], h => absurd rfl h
 | [], _ :: _, _ => rfl
 | _ :: _, [], _ => rfl
 | x :: l, y :: m, h => by
  rw [sameE, sameE_len (l := l) (m := m) (by simpa using h), Bool.and_false, Bool.and_false]
theorem sameE_iff : ∀ (l m : List Bd), sameE l m = true ↔ l = m
 | [], [] => by simp [sameE]
 | [], _ :: _ => by simp [sameE]
 | _ :: _, [] => by simp [sameE]
 | x :: l, y :: m => by
  rw [sameE, Bool.and_eq_true, Bool.and_eq_true, sameE_iff l m, sameV_iff, beq_iff_eq]
  constructor
  ·rintro ⟨h1, h2, rfl⟩
   have h3 := toList_inj h1
   cases x; cases y
   simp only at h2 h3
   rw [h2, h3]
  ·intro h
   injection h with h1 h2
   subst h1 h2;exact ⟨rfl, rfl, rfl⟩
theorem sameE_self (l : List Bd) : sameE l l = true := (sameE_iff l l).2 rfl
theorem sameE_at {l m : List Bd} {k : Nat} (h1 : k < l.length) (h2 : k < m.length) : sameE (l.drop k) (m.drop k) = ((l[k].1.toList == m[k].1.toList) && (sameV l[k].2 m[k].2 && sameE (l.drop (k + 1)) (m.drop (k + 1)))) := by
 rw [List.drop_eq_getElem_cons h1, List.drop_eq_getElem_cons h2, sameE]
set_option maxRecDepth 100000 in
set_option maxHeartbeats 2000000 in
theorem same9_any (l m : List Bd) (S : Nat → Prop) (w : World) (a b : Value) (hS : ∀ k, S k → k < w.heap.size) (hl : RepBs S w l a) (hm : RepBs S w m b) :
  Calls Try.prog 20 #[a, b] w fun e w' => e = .returned (.bool (sameE l m)) ∧ Below w.heap.size w w' := by
 have HS := Lib.hid hS; have HL := Lib.hid hl; have HM := Lib.hid hm
 have hl63 : l.length * 72 ≤ 140737488355328 := SlG.bytes hl;have hm63 : m.length * 72 ≤ 140737488355328 := SlG.bytes hm;obtain ⟨ga, gc, rfl⟩ := SlG.form hl;obtain ⟨ma, mc, rfl⟩ := SlG.form hm;clear hS hl hm
 by_cases hlen : l.length = m.length
 ·have hle : ((l.length : Int) != (m.length : Int)) = false := by simp [hlen]
  have HLN := Lib.hid hlen;clear hlen;go_enter Try.func20, Try.ntmps20
  go_upto_region 4 with fail
  clear hle;go_loopw [5] (fun iv wr => ∃ k : Nat, k ≤ l.length ∧ iv = .int .i64 (k : Int) ∧ Hid (sameE l m = sameE (l.drop k) (m.drop k)) ∧ Hid (Below w.heap.size w wr)) (fun iv _ => l.length - (intOf iv).toNat)
  case atStart => exact ⟨0, Nat.zero_le _, rfl, rfl, Below.refl _ _⟩
  case round =>
   obtain ⟨k, hk, rfl, hat, hb⟩ := hrel
   by_cases hlt : k < l.length
   ·have hltm : k < m.length := by have := HLN.out; omega
    have HAT := Lib.hid (hat.out.trans (sameE_at hlt hltm));have hLW : RepBs S wr l (.slice ga l.length gc) := RepBs.on (fun _ h => h) (fun j hj => hb.out.block j (HS.out j hj)) HL.out;have hMW : RepBs S wr m (.slice ma m.length mc) := RepBs.on (fun _ h => h) (fun j hj => hb.out.block j (HS.out j hj)) HM.out;obtain ⟨-, -, lb, lo, fa, fc, hga, hlb, g0, g1, g2, g3, g4, gz⟩ := RepBs.at hLW k hlt;obtain ⟨-, -, mb, mo, va, vc, hma, hmb, n0, n1, n2, n3, n4, gy⟩ := RepBs.at hMW k hltm;subst hga hma;have HKL := Lib.hid hlt;have HB := Lib.hid hb.out;have HLB : Hid (lb < wr.heap.size) := Nat.lt_of_lt_of_le (HS.out lb hlb) hb.out.size;have HMB : Hid (mb < wr.heap.size) := Nat.lt_of_lt_of_le (HS.out mb hmb) hb.out.size;have HSW : Hid (∀ j, S j → j < wr.heap.size) := fun j hj => Nat.lt_of_lt_of_le (HS.out j hj) hb.out.size
    have hk1 : (0 : Int) ≤ (k : Int) := Int.natCast_nonneg k;have hk2 : (k : Int) < (l.length : Int) := by omega
    have hk3 : (k : Int) < (m.length : Int) := by omega
    clear hLW hMW hlb hmb hb hat;have GZ := Lib.hid gz; have GY := Lib.hid gy
    clear gz gy;generalize l[k] = z at *;generalize m[k] = y at *;clear hk hlt hltm
    cases hp : (z.1.toList == y.1.toList) with
    | false =>
     have HF : Hid (sameE l m = false) := by show _ = _; rw [HAT.out, hp, Bool.false_and]
     clear HAT;have hp2 : (z.1.toList != y.1.toList) = true := by rw [bne, hp]; rfl
     go_upto_region 6 with fail
     go_quiet (fail)
     go_wp2_with fail
     go_ret
     exact ⟨(congrArg (fun b => Ending.returned (.bool b)) HF.out).symm, below_drewN HB.out _⟩
    | true =>
     obtain ⟨s, hs⟩ : ∃ s, sameV z.2 y.2 = s := ⟨_, rfl⟩;have HSV := Lib.hid hs;have HAT2 : Hid (sameE l m = (s && sameE (l.drop (k + 1)) (m.drop (k + 1)))) := by show _ = _; rw [HAT.out, hp, hs, Bool.true_and]
     clear HAT hs;have HZD : Hid (RepV wr.drew.heap.size wr.drew z.2 (.int .i64 z.2.kind) (.int .i64 z.2.num) (.string z.2.text) (.slice fa z.2.list.length fc)) := RepG.on (S := S) (w := wr) (w' := wr.drew) (fun j hj => HSW.out j hj) (fun _ _ => rfl) _ GZ.out.2.2;have HYD : Hid (RepV wr.drew.heap.size wr.drew y.2 (.int .i64 y.2.kind) (.int .i64 y.2.num) (.string y.2.text) (.slice va y.2.list.length vc)) := RepG.on (S := S) (w := wr) (w' := wr.drew) (fun j hj => HSW.out j hj) (fun _ _ => rfl) _ GY.out.2.2;have p0 : wr.drew.cell? ⟨lb, lo + k * 5, none⟩ = some (.string z.1) := g0;have p1 : wr.drew.cell? ⟨lb, lo + k * 5 + 1, none⟩ = some (.int .i64 z.2.kind) := g1;have p2 : wr.drew.cell? ⟨lb, lo + k * 5 + 2, none⟩ = some (.int .i64 z.2.num) := g2;have p3 : wr.drew.cell? ⟨lb, lo + k * 5 + 3, none⟩ = some (.string z.2.text) := g3;have p4 : wr.drew.cell? ⟨lb, lo + k * 5 + 4, none⟩ = some (.slice fa z.2.list.length fc) := g4;have p5 : wr.drew.cell? ⟨mb, mo + k * 5, none⟩ = some (.string y.1) := n0;have p6 : wr.drew.cell? ⟨mb, mo + k * 5 + 1, none⟩ = some (.int .i64 y.2.kind) := n1;have p7 : wr.drew.cell? ⟨mb, mo + k * 5 + 2, none⟩ = some (.int .i64 y.2.num) := n2;have p8 : wr.drew.cell? ⟨mb, mo + k * 5 + 3, none⟩ = some (.string y.2.text) := n3;have p9 : wr.drew.cell? ⟨mb, mo + k * 5 + 4, none⟩ = some (.slice va y.2.list.length vc) := n4;have hlb : lb < wr.drew.heap.size := HLB.out;have hmb : mb < wr.drew.heap.size := HMB.out;have HD3 : Hid (Below w.heap.size w wr.drew) := Below.step HB.out (Below.drew (Below.refl _ _));clear g0 g1 g2 g3 g4 n0 n1 n2 n3 n4;have hp2 : (z.1.toList != y.1.toList) = false := by rw [bne, hp]; rfl
     cases s with
     | false =>
      have HF : Hid (sameE l m = false) := by show _ = _; rw [HAT2.out, Bool.false_and]
      clear HAT2;go_upto_region 6 with fail
      go_region_held3 (fun w' => w'.cell? ⟨lb, lo + k * 5, none⟩ = some (.string z.1) ∧ w'.cell? ⟨lb, lo + k * 5 + 1, none⟩ = some (.int .i64 z.2.kind) ∧ w'.cell? ⟨lb, lo + k * 5 + 2, none⟩ = some (.int .i64 z.2.num) ∧ w'.cell? ⟨lb, lo + k * 5 + 3, none⟩ = some (.string z.2.text) ∧ w'.cell? ⟨lb, lo + k * 5 + 4, none⟩ = some (.slice fa z.2.list.length fc) ∧ w'.cell? ⟨mb, mo + k * 5, none⟩ = some (.string y.1) ∧ w'.cell? ⟨mb, mo + k * 5 + 1, none⟩ = some (.int .i64 y.2.kind) ∧ w'.cell? ⟨mb, mo + k * 5 + 2, none⟩ = some (.int .i64 y.2.num) ∧ w'.cell? ⟨mb, mo + k * 5 + 3, none⟩ = some (.string y.2.text) ∧ w'.cell? ⟨mb, mo + k * 5 + 4, none⟩ = some (.slice va y.2.list.length vc))
       (first | (with_reducible exact ⟨(hb.cell (p := ⟨lb, lo + k * 5, none⟩) hlb).trans p0, (hb.cell (p := ⟨lb, lo + k * 5 + 1, none⟩) hlb).trans p1, (hb.cell (p := ⟨lb, lo + k * 5 + 2, none⟩) hlb).trans p2, (hb.cell (p := ⟨lb, lo + k * 5 + 3, none⟩) hlb).trans p3, (hb.cell (p := ⟨lb, lo + k * 5 + 4, none⟩) hlb).trans p4, (hb.cell (p := ⟨mb, mo + k * 5, none⟩) hmb).trans p5, (hb.cell (p := ⟨mb, mo + k * 5 + 1, none⟩) hmb).trans p6, (hb.cell (p := ⟨mb, mo + k * 5 + 2, none⟩) hmb).trans p7, (hb.cell (p := ⟨mb, mo + k * 5 + 3, none⟩) hmb).trans p8, (hb.cell (p := ⟨mb, mo + k * 5 + 4, none⟩) hmb).trans p9⟩) | (with_reducible exact ⟨p0, p1, p2, p3, p4, p5, p6, p7, p8, p9⟩))
       (first | (go_at_call 14; refine (same_any z.2 y.2 _ _ _ _ _ _ _ _ _ _ (Nat.le_refl _) HZD.out HYD.out).mono ?_; rintro e w4 ⟨he, hb⟩; rw [HSV.out] at he; subst he))
      all_goals
       go_wp2_with fail
       go_ret
       exact ⟨(congrArg (fun b => Ending.returned (.bool b)) HF.out).symm, Below.step HD3.out hb⟩
     | true =>
      have HF : Hid (sameE l m = sameE (l.drop (k + 1)) (m.drop (k + 1))) := by show _ = _; rw [HAT2.out, Bool.true_and]
      clear HAT2;go_upto_region 6 with fail
      go_region_held3 (fun w' => w'.cell? ⟨lb, lo + k * 5, none⟩ = some (.string z.1) ∧ w'.cell? ⟨lb, lo + k * 5 + 1, none⟩ = some (.int .i64 z.2.kind) ∧ w'.cell? ⟨lb, lo + k * 5 + 2, none⟩ = some (.int .i64 z.2.num) ∧ w'.cell? ⟨lb, lo + k * 5 + 3, none⟩ = some (.string z.2.text) ∧ w'.cell? ⟨lb, lo + k * 5 + 4, none⟩ = some (.slice fa z.2.list.length fc) ∧ w'.cell? ⟨mb, mo + k * 5, none⟩ = some (.string y.1) ∧ w'.cell? ⟨mb, mo + k * 5 + 1, none⟩ = some (.int .i64 y.2.kind) ∧ w'.cell? ⟨mb, mo + k * 5 + 2, none⟩ = some (.int .i64 y.2.num) ∧ w'.cell? ⟨mb, mo + k * 5 + 3, none⟩ = some (.string y.2.text) ∧ w'.cell? ⟨mb, mo + k * 5 + 4, none⟩ = some (.slice va y.2.list.length vc))
       (first | (with_reducible exact ⟨(hb.cell (p := ⟨lb, lo + k * 5, none⟩) hlb).trans p0, (hb.cell (p := ⟨lb, lo + k * 5 + 1, none⟩) hlb).trans p1, (hb.cell (p := ⟨lb, lo + k * 5 + 2, none⟩) hlb).trans p2, (hb.cell (p := ⟨lb, lo + k * 5 + 3, none⟩) hlb).trans p3, (hb.cell (p := ⟨lb, lo + k * 5 + 4, none⟩) hlb).trans p4, (hb.cell (p := ⟨mb, mo + k * 5, none⟩) hmb).trans p5, (hb.cell (p := ⟨mb, mo + k * 5 + 1, none⟩) hmb).trans p6, (hb.cell (p := ⟨mb, mo + k * 5 + 2, none⟩) hmb).trans p7, (hb.cell (p := ⟨mb, mo + k * 5 + 3, none⟩) hmb).trans p8, (hb.cell (p := ⟨mb, mo + k * 5 + 4, none⟩) hmb).trans p9⟩) | (with_reducible exact ⟨p0, p1, p2, p3, p4, p5, p6, p7, p8, p9⟩))
       (first | (go_at_call 14; refine (same_any z.2 y.2 _ _ _ _ _ _ _ _ _ _ (Nat.le_refl _) HZD.out HYD.out).mono ?_; rintro e w4 ⟨he, hb⟩; rw [HSV.out] at he; subst he))
      all_goals
       go_wp2_with fail
       go_roundw
       case rel => exact ⟨k + 1, HKL.out, by go_num, HF, Below.step HD3.out hb⟩
       case measure => have := HKL.out; simp [intOf]; omega
   ·have hkk : k = l.length := by omega
    have hf : sameE l m = true := by rw [hat.out, hkk, List.drop_length, HLN.out, List.drop_length]; rfl
    have HF := Lib.hid hf;subst hkk;clear hat hf;go_wp2_with fail
    go_ret
    exact ⟨(congrArg (fun b => Ending.returned (.bool b)) HF.out).symm, hb.out⟩
 ·have hle : ((l.length : Int) != (m.length : Int)) = true := by simp; omega
  have HF : Hid (sameE l m = false) := sameE_len hlen;clear hlen;go_enter Try.func20, Try.ntmps20
  go_wp2_with fail
  go_ret
  exact ⟨(congrArg (fun b => Ending.returned (.bool b)) HF.out).symm, Below.refl _ _⟩
end Go.Proofs.Ytjmnnjikmmglpaa
namespace Go.Proofs.Ytjmnnjikmmglpaa
open Go.RowKit
def greatB (r : Int) : Bool := decide (65 ≤ r ∧ r ≤ 90)
def okVar (i : Nat) (r : Int) : Bool := greatB r || (!(decide (i = 0)) && (smallB r || (digitB r || (r == 95))))
def varB (s : ByteArray) : Bool := decide (1 ≤ s.size ∧ s.size ≤ 16 ∧ ∀ i (h : i < s.size), okVar i (s[i].toNat : Int) = true)
theorem varB_true {s : ByteArray} (h1 : 1 ≤ s.size) (h2 : s.size ≤ 16) (h : ∀ i (h : i < s.size), okVar i (s[i].toNat : Int) = true) : varB s = true := decide_eq_true ⟨h1, h2, h⟩
end Go.Proofs.Ytjmnnjikmmglpaa
namespace Go.Proofs.Ytjmnnjikmmglpaa
open Go.RowKit
def fnB (s : ByteArray) : Bool := decide (0 ≤ fnArity (fnOf s))
def declB (s : ByteArray) : Bool := s.toList == [109, 97, 116, 101, 114, 105, 97, 108, 105, 122, 101]
def relB (s : ByteArray) : Bool := nameB s && (!fnB s && !declB s)
end Go.Proofs.Ytjmnnjikmmglpaa
namespace Go.Proofs.Ytjmnnjikmmglpaa
open Go.RowKit
theorem relB_name {s : ByteArray} (h : relB s = true) : nameB s = true := by
 rw [relB, Bool.and_eq_true] at h; exact h.1
theorem varB_le {s : ByteArray} (h : varB s = true) : s.size ≤ 16 := (of_decide_eq_true h).2.1
theorem relB_le {s : ByteArray} (h : relB s = true) : s.size ≤ 16 := (of_decide_eq_true (relB_name h)).2.1
end Go.Proofs.Ytjmnnjikmmglpaa
