/-
  SixRight, NoSlice, PutThree, SixAwake
-/
import Derived.Test.YtjohcnhiblfbnaaGreatK28
import Derived.Test.YtjohcnhiblfbnaaGreatK24
import Derived.Test.YtjohcnhiblfbnaaGreatK08
import Derived.Test.YtjohcnhiblfbnaaGreatK03
import Derived.Test.YtjohcnhiblfbnaaGreatK07
import Derived.Test.YtjohcnhiblfbnaaGreatK29
import Derived.Test.YtjohcnhiblfbnaaGreatK18
import Derived.Test.YtjohcnhiblfbnaaGreatK11
namespace Go.Proofs.YtjohcnhiblfbnaaGreat
open Go.RowKit
end Go.Proofs.YtjohcnhiblfbnaaGreat
namespace Go.Proofs.YtjohcnhiblfbnaaGreat
open Go.RowKit
def AllSl (w : World) (X : Nat) : Prop := ∀ o v, w.cell? ⟨X, o, none⟩ = some v → ∃ a n c, v = .slice a n c
theorem allSl_pr {w : World} {X : Nat} {a0 a1 a2 : Option Addr} {n0 c0 n1 c1 n2 c2 : Nat} (h : BoxPr w X (.slice a0 n0 c0) (.slice a1 n1 c1) (.slice a2 n2 c2)) : AllSl w X := by
 obtain ⟨k0, k1, k2⟩ := h.cells;intro o v hv
 match o with
 | 0 => rw [k0] at hv; cases hv; exact ⟨_, _, _, rfl⟩
 | 1 => rw [k1] at hv; cases hv; exact ⟨_, _, _, rfl⟩
 | 2 => rw [k2] at hv; cases hv; exact ⟨_, _, _, rfl⟩
 | o + 3 =>
  have hb : w.heap[X]? = some _ := h;have hn : (#[.slice a0 n0 c0, .slice a1 n1 c1, .slice a2 n2 c2] : Array Value)[o + 3]? = none := Array.getElem?_eq_none (by simp);have e2 : w.cell? ⟨X, o + 3, none⟩ = none := by simp only [World.cell?, hb]; first | exact hn | (rw [hn]; rfl) | simp [hn]
  rw [e2] at hv; cases hv
section
variable {S : Nat → Prop} {w : World} {X : Nat}
theorem SlG.offS {α : Type} {n bytes : Nat} {R R' : α → (Nat → Value) → Prop} {l : List α} {v : Value} (hX : AllSl w X) (hn : 0 < n) (hR : ∀ x ∈ l, ∀ c, R x c → (∀ a k d, c 0 ≠ .slice a k d) ∧ R' x c) (h : SlG S w n bytes R l v) : SlG (fun k => S k ∧ k ≠ X) w n bytes R' l v := by
 obtain ⟨a, b, o, cap, e, h6, h7, h8, h9, h10⟩ := h;refine ⟨a, b, o, cap, e, h6, h7, h8, fun hl => ⟨h9 hl, fun eb => ?_⟩, fun i hi => ?_⟩
 ·obtain ⟨c, hc, hr⟩ := h10 0 hl
  subst eb;obtain ⟨a1, k1, d1, e1⟩ := hX _ _ (hc 0 hn);exact (hR _ (List.getElem_mem hl) c hr).1 _ _ _ e1
 ·obtain ⟨c, hc, hr⟩ := h10 i hi
  exact ⟨c, hc, (hR _ (List.getElem_mem hi) c hr).2⟩
theorem RepG.offS (hX : AllSl w X) : ∀ (x : V) {c0 c1 c2 c3 : Value}, RepG S w x c0 c1 c2 c3 → RepG (fun k => S k ∧ k ≠ X) w x c0 c1 c2 c3
 | .mk k n s l, c0, c1, c2, c3, h => by
  rw [repG_mk] at h ⊢;obtain ⟨h0, h1, h2, h3, h4, h5, a, b, o, cap, e, h6, h7, h8, h9, h10⟩ := h;refine ⟨h0, h1, h2, h3, h4, h5, a, b, o, cap, e, h6, h7, h8, fun hl => ⟨h9 hl, fun eb => ?_⟩, fun i hi => ?_⟩
  ·obtain ⟨x0, x1, x2, x3, g0, g1, g2, g3, g⟩ := h10 0 hl
   obtain ⟨_, _, rfl, rfl, rfl, rfl⟩ := g.form;subst eb;obtain ⟨_, _, _, e1⟩ := hX _ _ g0
   cases e1
  ·obtain ⟨x0, x1, x2, x3, g0, g1, g2, g3, g⟩ := h10 i hi
   exact ⟨x0, x1, x2, x3, g0, g1, g2, g3, RepG.offS hX l[i] g⟩
 termination_by x => SizeOf.sizeOf x
 decreasing_by
  have := List.sizeOf_lt_of_mem (List.getElem_mem hi);simp only [V.mk.sizeOf_spec]
  omega
theorem RepM.offS (hX : AllSl w X) : ∀ (x : Tm) {c0 c1 c2 c3 c4 c5 c6 : Value}, RepM S w x c0 c1 c2 c3 c4 c5 c6 → RepM (fun k => S k ∧ k ≠ X) w x c0 c1 c2 c3 c4 c5 c6
 | .mk k s x l, c0, c1, c2, c3, c4, c5, c6, h => by
  rw [repM_mk] at h ⊢;obtain ⟨h0, h1, h2, h3, h4, a, b, o, cap, e, h6, h7, h8, h9, h10⟩ := h;refine ⟨h0, h1, h2, h3, RepG.offS hX x h4, a, b, o, cap, e, h6, h7, h8, fun hl => ⟨h9 hl, fun eb => ?_⟩, fun i hi => ?_⟩
  ·obtain ⟨c, hc, hr⟩ := h10 0 hl
   obtain ⟨_, _, _, _, e0, e1, -⟩ := hr.form;subst eb;obtain ⟨_, _, _, e2⟩ := hX _ _ (hc 0 (by omega));rw [e0] at e2; cases e2
  ·obtain ⟨c, hc, hr⟩ := h10 i hi
   exact ⟨c, hc, RepM.offS hX l[i] hr⟩
 termination_by x => SizeOf.sizeOf x
 decreasing_by
  have := List.sizeOf_lt_of_mem (List.getElem_mem hi);simp only [Tm.mk.sizeOf_spec]
  omega
theorem RepMs.offS (hX : AllSl w X) {l : List Tm} {v : Value} (h : RepMs S w l v) : RepMs (fun k => S k ∧ k ≠ X) w l v :=
 SlG.offS hX (by omega) (fun x _ c hr => ⟨fun a k d e => (by
  obtain ⟨_, _, _, _, e0, -⟩ := hr.form
  rw [e0] at e; cases e), RepM.offS hX x hr⟩) h
theorem RepLi.offS (hX : AllSl w X) {x : Li} {c0 c1 c2 : Value} (h : RepLi S w x c0 c1 c2) : RepLi (fun k => S k ∧ k ≠ X) w x c0 c1 c2 := ⟨h.1, h.2.1, h.2.2.1, h.2.2.2.1, RepMs.offS hX h.2.2.2.2⟩
theorem RepLis.offS (hX : AllSl w X) {l : List Li} {v : Value} (h : RepLis S w l v) : RepLis (fun k => S k ∧ k ≠ X) w l v :=
 SlG.offS hX (by omega) (fun x _ c hr => ⟨fun a k d e => (by rw [hr.1] at e; cases e), RepLi.offS hX hr⟩) h
theorem RepRu.offS (hX : AllSl w X) {x : Ru} {c0 c1 c2 c3 c4 c5 : Value} (h : RepRu S w x c0 c1 c2 c3 c4 c5) : RepRu (fun k => S k ∧ k ≠ X) w x c0 c1 c2 c3 c4 c5 := by
 obtain ⟨h0, h1, h2, h3, h4, h5, h6, h7, h8, h9⟩ := h;exact ⟨h0, h1, h2, h3, h4, h5, h6, h7, RepMs.offS hX h8, RepLis.offS hX h9⟩
theorem RepRus.offS (hX : AllSl w X) {l : List Ru} {v : Value} (h : RepRus S w l v) : RepRus (fun k => S k ∧ k ≠ X) w l v :=
 SlG.offS hX (by omega) (fun x _ c hr => ⟨fun a k d e => (by rw [hr.1] at e; cases e), RepRu.offS hX hr⟩) h
theorem RepDes.offS (hX : AllSl w X) {l : List De} {v : Value} (h : RepDes S w l v) : RepDes (fun k => S k ∧ k ≠ X) w l v :=
 SlG.offS hX (by omega) (fun x _ c hr => ⟨fun a k d e => (by rw [hr.1] at e; cases e), hr⟩) h
end
end Go.Proofs.YtjohcnhiblfbnaaGreat
namespace Go.Proofs.YtjohcnhiblfbnaaGreat
open Go.RowKit
def put3 (w : World) (g : Nat) (c0 c1 c2 : Value) : World := ((w.setCell ⟨g, 0, none⟩ c0).setCell ⟨g, 1, none⟩ c1).setCell ⟨g, 2, none⟩ c2
theorem put3_size (w : World) (g : Nat) (c0 c1 c2 : Value) : (put3 w g c0 c1 c2).heap.size = w.heap.size := by simp [put3, World.setCell]
theorem put3_other (w : World) (g : Nat) (c0 c1 c2 : Value) (k : Nat) (h : k ≠ g) : (put3 w g c0 c1 c2).heap[k]? = w.heap[k]? := by
 unfold put3;rw [Below.heap_setCell _ _ _ _ h, Below.heap_setCell _ _ _ _ h, Below.heap_setCell _ _ _ _ h]
theorem put3_below {w0 w : World} {B g : Nat} (h : Below B w0 w) (hb : B ≤ g) (c0 c1 c2 : Value) : Below B w0 (put3 w g c0 c1 c2) :=
 ((h.setCell (p := ⟨g, 0, none⟩) hb c0).setCell (p := ⟨g, 1, none⟩) hb c1).setCell (p := ⟨g, 2, none⟩) hb c2
theorem put3_box {w : World} {g : Nat} {x0 x1 x2 : Value} (h : BoxPr w g x0 x1 x2) (c0 c1 c2 : Value) : BoxPr (put3 w g c0 c1 c2) g c0 c1 c2 := by
 have h0 : BoxPr (w.setCell ⟨g, 0, none⟩ c0) g c0 x1 x2 := heap_setCell_same _ _ _ _ _ _ h;have h1 : BoxPr ((w.setCell ⟨g, 0, none⟩ c0).setCell ⟨g, 1, none⟩ c1) g c0 c1 x2 := heap_setCell_same _ _ _ _ _ _ h0;exact heap_setCell_same _ _ _ _ _ _ h1
theorem txAt_of_row {S : Nat → Prop} {w : World} {base n : Nat} {t : TypeId} {v : Value} {l : List ByteArray} (h : w.ownsRow base t 1 v n (l.map Value.string)) (hS : ∀ k, base ≤ k → k < w.heap.size → S k) (hl : l.length ≤ 1000000) : TxAt S w l v ∧ n = l.length := by
 obtain ⟨hlen, hown⟩ := h;have hn : n = l.length := by rw [List.length_map] at hlen; omega
 refine ⟨?_, hn⟩;subst hn;rcases hown with ⟨rfl, h0⟩ | ⟨g, cap, cur, rfl, hbg, hh, hnc, hcm, hcs, htk⟩
 ·obtain rfl : l = [] := List.length_eq_zero_iff.1 h0
  exact ⟨none, 0, 0, 0, rfl, Nat.le_refl _, by simp, fun h => by omega, fun h => by simp at h, fun i hi => by simp at hi⟩
 ·have hgl := (Array.getElem?_eq_some_iff.1 hh).1
  refine ⟨_, g, 0, cap, rfl, hnc, by omega, fun _ => rfl, fun _ => hS g hbg hgl, fun i hi => ⟨fun _ => .string l[i], fun j hj => ?_, rfl⟩⟩;obtain rfl : j = 0 := by omega
  have h1 : (l.map Value.string)[i]? = some (.string l[i]) := by rw [List.getElem?_map, List.getElem?_eq_getElem hi]; rfl
  rw [← htk, List.getElem?_take] at h1;rw [if_pos (by omega)] at h1;rw [show 0 + i * 1 + 0 = i by omega];exact cell_of_block' hh _ (by rw [← Array.getElem?_toList]; exact h1)
end Go.Proofs.YtjohcnhiblfbnaaGreat
namespace Go.Proofs.YtjohcnhiblfbnaaGreat
open Go.RowKit
def ru6 : Ru := ⟨⟨#[114, 49]⟩, ⟨#[112]⟩, [vTm 0, vTm 2], ⟨#[]⟩, 0, [⟨1, ⟨#[114]⟩, [vTm 0]⟩]⟩
def pr6 : Pr := ⟨decls6, [], [ru6]⟩
theorem pr6_check : checkZ pr6 = (61, 0) := by kernel_rfl
theorem pr0_check : checkZ ⟨decls6, [], []⟩ = (0, -1) := by kernel_rfl
theorem pr6_link : arityL decls6 ⟨#[108, 105, 110, 107]⟩ = 3 := by kernel_rfl
theorem v6_vars : (ddN (namesL [vTm 0])).map (fun x => Value.string x.1) = [.string ⟨#[83]⟩] := by
 have h : (nm ⟨#[83]⟩).1 = ⟨#[83]⟩ := nm_of (by decide);simp [namesL, varsL, vTm, varsM, vName, ddN, inB, h]
def Aw6 (B : Nat) (w : World) : Nat → Value → Prop
 | 0, v => RepDes (fun k => B ≤ k ∧ k < w.heap.size) w decls6 v
 | 1, v => v = (.agg #[.int .i64 1, .string (vName 0), .int .i64 0, .int .i64 0, .string ⟨#[]⟩, .slice none 0 0, .slice none 0 0])
 | 2, v => v = (.agg #[.int .i64 1, .string (vName 2), .int .i64 0, .int .i64 0, .string ⟨#[]⟩, .slice none 0 0, .slice none 0 0])
 | 3, v => RepMs (fun k => B ≤ k ∧ k < w.heap.size) w [vTm 0, vTm 2] v
 | 4, v => v = (.agg #[.int .i64 1, .string (vName 0), .int .i64 0, .int .i64 0, .string ⟨#[]⟩, .slice none 0 0, .slice none 0 0])
 | 5, v => RepMs (fun k => B ≤ k ∧ k < w.heap.size) w [vTm 0] v
 | 6, v => ∃ c, v = .agg #[.int .i64 1, .string ⟨#[114]⟩, c] ∧ RepMs (fun k => B ≤ k ∧ k < w.heap.size) w [vTm 0] c
 | 7, v => RepLis (fun k => B ≤ k ∧ k < w.heap.size) w [⟨1, ⟨#[114]⟩, [vTm 0]⟩] v
 | 8, v => ∃ c2 c5, v = .agg #[.string ru6.label, .string ru6.head, c2, .string ru6.agg, .int .i64 ru6.at', c5] ∧ RepRu (fun k => B ≤ k ∧ k < w.heap.size) w ru6 (.string ru6.label) (.string ru6.head) c2 (.string ru6.agg) (.int .i64 ru6.at') c5
 | 9, v => RepRus (fun k => B ≤ k ∧ k < w.heap.size) w [ru6] v
 | 10, v => ∃ c0 c2, v = .agg #[c0, .slice none 0 0, c2] ∧ RepDes (fun k => B ≤ k ∧ k < w.heap.size) w decls6 c0 ∧ RepRus (fun k => B ≤ k ∧ k < w.heap.size) w [ru6] c2
 | 11, v => ∃ b, v = .pointer (some ⟨b, 0, none⟩) ∧ B ≤ b ∧ BoxPr w b (.slice none 0 0) (.slice none 0 0) (.slice none 0 0)
 | _ + 12, _ => True
theorem Aw6.stay (B : Nat) {w w' : World} (hb : Below w.heap.size w w') : ∀ i v, Aw6 B w i v → Aw6 B w' i v
 | 0, _, h => RepDes.on (fun _k hk => ⟨hk.1, Nat.lt_of_lt_of_le hk.2 hb.size⟩) (fun k hk => hb.block k hk.2) h
 | 1, _, h => h
 | 2, _, h => h
 | 3, _, h => RepMs.on (fun _k hk => ⟨hk.1, Nat.lt_of_lt_of_le hk.2 hb.size⟩) (fun k hk => hb.block k hk.2) h
 | 4, _, h => h
 | 5, _, h => RepMs.on (fun _k hk => ⟨hk.1, Nat.lt_of_lt_of_le hk.2 hb.size⟩) (fun k hk => hb.block k hk.2) h
 | 6, _, h => let ⟨c, e, h⟩ := h; ⟨c, e, RepMs.on (fun _k hk => ⟨hk.1, Nat.lt_of_lt_of_le hk.2 hb.size⟩) (fun k hk => hb.block k hk.2) h⟩
 | 7, _, h => RepLis.on (fun _k hk => ⟨hk.1, Nat.lt_of_lt_of_le hk.2 hb.size⟩) (fun k hk => hb.block k hk.2) h
 | 8, _, h => let ⟨c2, c5, e, h⟩ := h; ⟨c2, c5, e, RepRu.on (fun _k hk => ⟨hk.1, Nat.lt_of_lt_of_le hk.2 hb.size⟩) (fun k hk => hb.block k hk.2) h⟩
 | 9, _, h => RepRus.on (fun _k hk => ⟨hk.1, Nat.lt_of_lt_of_le hk.2 hb.size⟩) (fun k hk => hb.block k hk.2) h
 | 10, _, h => let ⟨c0, c2, e, h, h'⟩ := h; ⟨c0, c2, e, RepDes.on (fun _k hk => ⟨hk.1, Nat.lt_of_lt_of_le hk.2 hb.size⟩) (fun k hk => hb.block k hk.2) h, RepRus.on (fun _k hk => ⟨hk.1, Nat.lt_of_lt_of_le hk.2 hb.size⟩) (fun k hk => hb.block k hk.2) h'⟩
 | 11, _, h => let ⟨b, e, h1, h2⟩ := h; ⟨b, e, h1, h2.on hb⟩
 | _ + 12, _, _ => trivial
set_option maxRecDepth 100000 in
set_option maxHeartbeats 8000000 in
theorem awake6_any (w : World) : Calls Tryz.prog 8 #[] w fun e w' => e = .returned (.bool true) ∧ Below w.heap.size w w' := by
 go_enter Tryz.func8, Tryz.ntmps8
 go_wp2_with fail
 refine (v_any 0 _ (small64 (by omega))).mono ?_;rintro e w0 ⟨rfl, hb0⟩;rw [show vVal (pickZ 0 6).toNat = .agg #[.int .i64 1, .string (vName 0), .int .i64 0, .int .i64 0, .string ⟨#[]⟩, .slice none 0 0, .slice none 0 0] from rfl];go_upto_region 2 with fail
 have xs := boxM_new w0 (.int .i64 1) (.string (vName 0)) (.int .i64 0) (.int .i64 0) (.string ⟨#[]⟩) (.slice none 0 0) (.slice none 0 0);have b1 := Below.step hb0 (below_alloc w0 (.cells #[.int .i64 1, .string (vName 0), .int .i64 0, .int .i64 0, .string ⟨#[]⟩, .slice none 0 0, .slice none 0 0] 34));generalize w0.alloc (.cells #[.int .i64 1, .string (vName 0), .int .i64 0, .int .i64 0, .string ⟨#[]⟩, .slice none 0 0, .slice none 0 0] 34) = w1 at *;obtain ⟨ks, hks⟩ : ∃ k, w0.heap.size = k := ⟨_, rfl⟩;rw [hks] at xs ⊢;have XS := Lib.hid xs; have B1 := Lib.hid b1
 clear xs b1 hks hb0;refine wp_region_factsL (by rfl) 55 (by rfl) (by kernel_rfl) (fun wz iz vz => Aw6 w1.heap.size wz iz vz) (fun w' => Below w1.heap.size w1 w') (Below.drew (Below.refl _ _)) ⟨?s0, ?s1, ?s2, ?s3, ?s4, ?s5, ?s6, ?s7, ?s8, ?s9, ?s10, ?s11, trivial⟩ (by rfl) ?last (by decide)
 case s0 =>
  intro a w' hoff hg hdep K hK;replace hg : Below w1.heap.size w1 w' := hg;rw [if_pos (by rfl)];go_simp;refine (relations_any w').mono ?_;rintro e w2' ⟨rfl, hr, hb⟩;exact hK.out _ _ (Below.step hg hb) (RepDes.on (S' := fun k => w1.heap.size ≤ k ∧ k < w2'.heap.size) (fun k hk => ⟨Nat.le_trans hg.size hk.1, hk.2⟩) (fun _ _ => rfl) hr) (fun j u h => Aw6.stay _ hb j u h)
 case s1 =>
  intro a w' hoff hg hdep K hK;replace hg : Below w1.heap.size w1 w' := hg;have h1 := off_at hoff 1 (v := .pointer (some ⟨ks, 0, none⟩)) (by kernel_rfl) rfl;rw [if_pos (by rfl)];obtain ⟨p0, p1, p2, p3, p4, p5, p6⟩ := (XS.out.on hg).cells;go_simp;exact hK.out _ _ hg rfl (fun _ _ h => h)
 case s2 =>
  intro a w' hoff hg hdep K hK;replace hg : Below w1.heap.size w1 w' := hg;rw [if_pos (by rfl)];go_simp;refine (v_any 2 w' (small64 (by omega))).mono ?_;rintro e w2' ⟨rfl, hb⟩;exact hK.out _ _ (Below.step hg hb) rfl (fun j u h => Aw6.stay _ hb j u h)
 case s3 =>
  intro a w' hoff hg hdep K hK;replace hg : Below w1.heap.size w1 w' := hg;obtain ⟨v1, e1, f1⟩ := hdep 1 _ 9 (by kernel_rfl) rfl rfl;obtain rfl : v1 = (.agg #[.int .i64 1, .string (vName 0), .int .i64 0, .int .i64 0, .string ⟨#[]⟩, .slice none 0 0, .slice none 0 0]) := f1;obtain ⟨v2, e2, f2⟩ := hdep 2 _ 10 (by kernel_rfl) rfl rfl;obtain rfl : v2 = (.agg #[.int .i64 1, .string (vName 2), .int .i64 0, .int .i64 0, .string ⟨#[]⟩, .slice none 0 0, .slice none 0 0]) := f2;rw [if_pos (by rfl)];go_simp;have hb := below_alloc w' (.cells #[.int .i64 1, .string (vName 0), .int .i64 0, .int .i64 0, .string ⟨#[]⟩, .slice none 0 0, .slice none 0 0, .int .i64 1, .string (vName 2), .int .i64 0, .int .i64 0, .string ⟨#[]⟩, .slice none 0 0, .slice none 0 0] 34)
  have hp : RepMs (fun k => w1.heap.size ≤ k ∧ k < (w'.alloc (.cells #[.int .i64 1, .string (vName 0), .int .i64 0, .int .i64 0, .string ⟨#[]⟩, .slice none 0 0, .slice none 0 0, .int .i64 1, .string (vName 2), .int .i64 0, .int .i64 0, .string ⟨#[]⟩, .slice none 0 0, .slice none 0 0] 34)).heap.size) (w'.alloc (.cells #[.int .i64 1, .string (vName 0), .int .i64 0, .int .i64 0, .string ⟨#[]⟩, .slice none 0 0, .slice none 0 0, .int .i64 1, .string (vName 2), .int .i64 0, .int .i64 0, .string ⟨#[]⟩, .slice none 0 0, .slice none 0 0] 34)) [vTm 0, vTm 2] (.slice (some ⟨w'.heap.size, 0, none⟩) 2 2) := slg_row (n := 7) (bytes := 104) (l := [vTm 0, vTm 2]) (alloc_new' w' _) ⟨hg.size, by simp⟩ rfl (by decide) (fun i h => match i, h with
   | 0, _ => vTm_rep _ _ 0
   | 1, _ => vTm_rep _ _ 2)
  exact hK.out _ _ (Below.step hg hb) hp (fun j u h => Aw6.stay _ hb j u h)
 case s4 =>
  intro a w' hoff hg hdep K hK;replace hg : Below w1.heap.size w1 w' := hg;have h1 := off_at hoff 1 (v := .pointer (some ⟨ks, 0, none⟩)) (by kernel_rfl) rfl;rw [if_pos (by rfl)];obtain ⟨p0, p1, p2, p3, p4, p5, p6⟩ := (XS.out.on hg).cells;go_simp;exact hK.out _ _ hg rfl (fun _ _ h => h)
 case s5 =>
  intro a w' hoff hg hdep K hK;replace hg : Below w1.heap.size w1 w' := hg;obtain ⟨v4, e4, f4⟩ := hdep 4 _ 12 (by kernel_rfl) rfl rfl;obtain rfl : v4 = (.agg #[.int .i64 1, .string (vName 0), .int .i64 0, .int .i64 0, .string ⟨#[]⟩, .slice none 0 0, .slice none 0 0]) := f4;rw [if_pos (by rfl)];go_simp;have hb := below_alloc w' (.cells #[.int .i64 1, .string (vName 0), .int .i64 0, .int .i64 0, .string ⟨#[]⟩, .slice none 0 0, .slice none 0 0] 34)
  have hp : RepMs (fun k => w1.heap.size ≤ k ∧ k < (w'.alloc (.cells #[.int .i64 1, .string (vName 0), .int .i64 0, .int .i64 0, .string ⟨#[]⟩, .slice none 0 0, .slice none 0 0] 34)).heap.size) (w'.alloc (.cells #[.int .i64 1, .string (vName 0), .int .i64 0, .int .i64 0, .string ⟨#[]⟩, .slice none 0 0, .slice none 0 0] 34)) [vTm 0] (.slice (some ⟨w'.heap.size, 0, none⟩) 1 1) := slg_row (n := 7) (bytes := 104) (l := [vTm 0]) (alloc_new' w' _) ⟨hg.size, by simp⟩ rfl (by decide) (fun i h => match i, h with
   | 0, _ => vTm_rep _ _ 0)
  exact hK.out _ _ (Below.step hg hb) hp (fun j u h => Aw6.stay _ hb j u h)
 case s6 =>
  intro a w' hoff hg hdep K hK;replace hg : Below w1.heap.size w1 w' := hg;obtain ⟨v5, e5, f5⟩ := hdep 5 _ 13 (by kernel_rfl) rfl rfl;replace f5 : RepMs (fun k => w1.heap.size ≤ k ∧ k < w'.heap.size) w' [vTm 0] v5 := f5;rw [if_pos (by rfl)];obtain ⟨xa, xc, rfl⟩ := SlG.form f5;go_simp;exact hK.out _ _ hg ⟨_, rfl, f5⟩ (fun _ _ h => h)
 case s7 =>
  intro a w' hoff hg hdep K hK;replace hg : Below w1.heap.size w1 w' := hg;obtain ⟨v6, e6, f6⟩ := hdep 6 _ 14 (by kernel_rfl) rfl rfl;replace f6 : ∃ c, v6 = .agg #[.int .i64 1, .string ⟨#[114]⟩, c] ∧ RepMs (fun k => w1.heap.size ≤ k ∧ k < w'.heap.size) w' [vTm 0] c := f6;rw [if_pos (by rfl)];obtain ⟨c, rfl, kv⟩ := f6;obtain ⟨xa, xc, rfl⟩ := SlG.form kv;go_simp;have hb := below_alloc w' (.cells #[.int .i64 1, .string ⟨#[114]⟩, .slice xa [vTm 0].length xc] 63);have kv2 : RepMs (fun k => w1.heap.size ≤ k ∧ k < (w'.alloc (.cells #[.int .i64 1, .string ⟨#[114]⟩, .slice xa [vTm 0].length xc] 63)).heap.size) (w'.alloc (.cells #[.int .i64 1, .string ⟨#[114]⟩, .slice xa [vTm 0].length xc] 63)) [vTm 0] (.slice xa [vTm 0].length xc) := RepMs.on (fun k hk => ⟨hk.1, Nat.lt_of_lt_of_le hk.2 hb.size⟩) (fun k hk => hb.block k hk.2) kv
  have hp : RepLis (fun k => w1.heap.size ≤ k ∧ k < (w'.alloc (.cells #[.int .i64 1, .string ⟨#[114]⟩, .slice xa [vTm 0].length xc] 63)).heap.size) (w'.alloc (.cells #[.int .i64 1, .string ⟨#[114]⟩, .slice xa [vTm 0].length xc] 63)) [⟨1, ⟨#[114]⟩, [vTm 0]⟩] (.slice (some ⟨w'.heap.size, 0, none⟩) 1 1) := slg_row (n := 3) (bytes := 48) (l := ([⟨1, ⟨#[114]⟩, [vTm 0]⟩] : List Li)) (alloc_new' w' _) ⟨hg.size, by simp⟩ rfl (by decide) (fun i h => match i, h with
   | 0, _ => ⟨rfl, rfl, small64 (show (0 : Int) ≤ 1 ∧ (1 : Int) ≤ 100 by decide), (show (⟨#[114]⟩ : ByteArray).size ≤ maxLen by decide), kv2⟩)
  exact hK.out _ _ (Below.step hg hb) hp (fun j u h => Aw6.stay _ hb j u h)
 case s8 =>
  intro a w' hoff hg hdep K hK;replace hg : Below w1.heap.size w1 w' := hg;obtain ⟨v3, e3, f3⟩ := hdep 3 _ 11 (by kernel_rfl) rfl rfl;replace f3 : RepMs (fun k => w1.heap.size ≤ k ∧ k < w'.heap.size) w' [vTm 0, vTm 2] v3 := f3;obtain ⟨v7, e7, f7⟩ := hdep 7 _ 15 (by kernel_rfl) rfl rfl;replace f7 : RepLis (fun k => w1.heap.size ≤ k ∧ k < w'.heap.size) w' [⟨1, ⟨#[114]⟩, [vTm 0]⟩] v7 := f7;rw [if_pos (by rfl)];obtain ⟨xa, xc, rfl⟩ := SlG.form f3;obtain ⟨ya, yc, rfl⟩ := SlG.form f7;go_simp;exact hK.out _ _ hg ⟨_, _, rfl, rfl, rfl, rfl, rfl, by decide, by decide, by decide, small64 (by decide), f3, f7⟩ (fun _ _ h => h)
 case s9 =>
  intro a w' hoff hg hdep K hK;replace hg : Below w1.heap.size w1 w' := hg;obtain ⟨v8, e8, f8⟩ := hdep 8 _ 16 (by kernel_rfl) rfl rfl;replace f8 : ∃ c2 c5, v8 = .agg #[.string ru6.label, .string ru6.head, c2, .string ru6.agg, .int .i64 ru6.at', c5] ∧ RepRu (fun k => w1.heap.size ≤ k ∧ k < w'.heap.size) w' ru6 (.string ru6.label) (.string ru6.head) c2 (.string ru6.agg) (.int .i64 ru6.at') c5 := f8;rw [if_pos (by rfl)];obtain ⟨c2, c5, rfl, kv⟩ := f8;go_simp;have hb := below_alloc w' (.cells #[.string ru6.label, .string ru6.head, c2, .string ru6.agg, .int .i64 ru6.at', c5] 61);have kv2 := RepRu.on (S' := fun k => w1.heap.size ≤ k ∧ k < (w'.alloc (.cells #[.string ru6.label, .string ru6.head, c2, .string ru6.agg, .int .i64 ru6.at', c5] 61)).heap.size) (fun k hk => ⟨hk.1, Nat.lt_of_lt_of_le hk.2 hb.size⟩) (fun k hk => hb.block k hk.2) kv
  have hp : RepRus (fun k => w1.heap.size ≤ k ∧ k < (w'.alloc (.cells #[.string ru6.label, .string ru6.head, c2, .string ru6.agg, .int .i64 ru6.at', c5] 61)).heap.size) (w'.alloc (.cells #[.string ru6.label, .string ru6.head, c2, .string ru6.agg, .int .i64 ru6.at', c5] 61)) [ru6] (.slice (some ⟨w'.heap.size, 0, none⟩) 1 1) := slg_row (n := 6) (bytes := 104) (l := [ru6]) (alloc_new' w' _) ⟨hg.size, by simp⟩ rfl (by decide) (fun i h => match i, h with
   | 0, _ => kv2)
  exact hK.out _ _ (Below.step hg hb) hp (fun j u h => Aw6.stay _ hb j u h)
 case s10 =>
  intro a w' hoff hg hdep K hK;replace hg : Below w1.heap.size w1 w' := hg;obtain ⟨v0, e0, f0⟩ := hdep 0 _ 8 (by kernel_rfl) rfl rfl;replace f0 : RepDes (fun k => w1.heap.size ≤ k ∧ k < w'.heap.size) w' decls6 v0 := f0;obtain ⟨v9, e9, f9⟩ := hdep 9 _ 17 (by kernel_rfl) rfl rfl;replace f9 : RepRus (fun k => w1.heap.size ≤ k ∧ k < w'.heap.size) w' [ru6] v9 := f9;rw [if_pos (by rfl)];obtain ⟨xa, xc, rfl⟩ := SlG.form f0;obtain ⟨ya, yc, rfl⟩ := SlG.form f9;go_simp;exact hK.out _ _ hg ⟨_, _, rfl, f0, f9⟩ (fun _ _ h => h)
 case s11 =>
  intro a w' hoff hg hdep K hK;replace hg : Below w1.heap.size w1 w' := hg;rw [if_pos (by rfl)];go_simp;have hb := below_alloc w' (.cells #[.slice none 0 0, .slice none 0 0, .slice none 0 0] 26);exact hK.out _ _ (Below.step hg hb) ⟨_, rfl, hg.size, boxPr_new w' _ _ _⟩ (fun j u h => Aw6.stay _ hb j u h)
 case last =>
  intro a w' hoff hg hf;replace hg : Below w1.heap.size w1 w' := hg;obtain ⟨v0, e0, f0⟩ := hf 0 _ 8 (by decide) rfl rfl;replace f0 : RepDes (fun k => w1.heap.size ≤ k ∧ k < w'.heap.size) w' decls6 v0 := f0;obtain ⟨v1, e1, f1⟩ := hf 1 _ 9 (by decide) rfl rfl;obtain rfl : v1 = (.agg #[.int .i64 1, .string (vName 0), .int .i64 0, .int .i64 0, .string ⟨#[]⟩, .slice none 0 0, .slice none 0 0]) := f1;obtain ⟨v2, e2, f2⟩ := hf 2 _ 10 (by decide) rfl rfl;obtain rfl : v2 = (.agg #[.int .i64 1, .string (vName 2), .int .i64 0, .int .i64 0, .string ⟨#[]⟩, .slice none 0 0, .slice none 0 0]) := f2;obtain ⟨v3, e3, f3⟩ := hf 3 _ 11 (by decide) rfl rfl;replace f3 : RepMs (fun k => w1.heap.size ≤ k ∧ k < w'.heap.size) w' [vTm 0, vTm 2] v3 := f3;obtain ⟨v4, e4, f4⟩ := hf 4 _ 12 (by decide) rfl rfl;obtain rfl : v4 = (.agg #[.int .i64 1, .string (vName 0), .int .i64 0, .int .i64 0, .string ⟨#[]⟩, .slice none 0 0, .slice none 0 0]) := f4;obtain ⟨v5, e5, f5⟩ := hf 5 _ 13 (by decide) rfl rfl;replace f5 : RepMs (fun k => w1.heap.size ≤ k ∧ k < w'.heap.size) w' [vTm 0] v5 := f5;obtain ⟨v6, e6, f6⟩ := hf 6 _ 14 (by decide) rfl rfl;replace f6 : ∃ c, v6 = .agg #[.int .i64 1, .string ⟨#[114]⟩, c] ∧ RepMs (fun k => w1.heap.size ≤ k ∧ k < w'.heap.size) w' [vTm 0] c := f6;obtain ⟨v7, e7, f7⟩ := hf 7 _ 15 (by decide) rfl rfl;replace f7 : RepLis (fun k => w1.heap.size ≤ k ∧ k < w'.heap.size) w' [⟨1, ⟨#[114]⟩, [vTm 0]⟩] v7 := f7;obtain ⟨v8, e8, f8⟩ := hf 8 _ 16 (by decide) rfl rfl;replace f8 : ∃ c2 c5, v8 = .agg #[.string ru6.label, .string ru6.head, c2, .string ru6.agg, .int .i64 ru6.at', c5] ∧ RepRu (fun k => w1.heap.size ≤ k ∧ k < w'.heap.size) w' ru6 (.string ru6.label) (.string ru6.head) c2 (.string ru6.agg) (.int .i64 ru6.at') c5 := f8;obtain ⟨v9, e9, f9⟩ := hf 9 _ 17 (by decide) rfl rfl;replace f9 : RepRus (fun k => w1.heap.size ≤ k ∧ k < w'.heap.size) w' [ru6] v9 := f9;obtain ⟨v10, e10, f10⟩ := hf 10 _ 18 (by decide) rfl rfl;replace f10 : ∃ c0 c2, v10 = .agg #[c0, .slice none 0 0, c2] ∧ RepDes (fun k => w1.heap.size ≤ k ∧ k < w'.heap.size) w' decls6 c0 ∧ RepRus (fun k => w1.heap.size ≤ k ∧ k < w'.heap.size) w' [ru6] c2 := f10;obtain ⟨v11, e11, f11⟩ := hf 11 _ 2 (by decide) rfl rfl;replace f11 : ∃ b, v11 = .pointer (some ⟨b, 0, none⟩) ∧ w1.heap.size ≤ b ∧ BoxPr w' b (.slice none 0 0) (.slice none 0 0) (.slice none 0 0) := f11;obtain ⟨c0, c2, rfl, kd, kr⟩ := f10;obtain ⟨pb, rfl, hpb, hbox⟩ := f11;have hal := allSl_pr hbox;replace kd := RepDes.offS hal kd;replace kr := RepRus.offS hal kr;obtain ⟨da, dc, rfl⟩ := SlG.form kd;obtain ⟨ra, rc, rfl⟩ := SlG.form kr;obtain ⟨o0, o1, o2⟩ := hbox.cells;have z0 := frozen_of_row w' pb 0 _ _ hbox;have z1 := frozen_of_row w' pb 1 _ _ hbox;have z2 := frozen_of_row w' pb 2 _ _ hbox;clear f0 f3 f5 f6 f7 f8 f9;rw [if_pos (by rfl)]
  rw [hoff.sets [(8, v0), (9, (.agg #[.int .i64 1, .string (vName 0), .int .i64 0, .int .i64 0, .string ⟨#[]⟩, .slice none 0 0, .slice none 0 0])), (10, (.agg #[.int .i64 1, .string (vName 2), .int .i64 0, .int .i64 0, .string ⟨#[]⟩, .slice none 0 0, .slice none 0 0])), (11, v3), (12, (.agg #[.int .i64 1, .string (vName 0), .int .i64 0, .int .i64 0, .string ⟨#[]⟩, .slice none 0 0, .slice none 0 0])), (13, v5), (14, v6), (15, v7), (16, v8), (17, v9), (18, .agg #[.slice da decls6.length dc, .slice none 0 0, .slice ra [ru6].length rc]), (2, .pointer (some ⟨pb, 0, none⟩))] (by kernel_rfl) (by intro p hp; simp only [List.mem_cons, List.not_mem_nil, or_false] at hp; rcases hp with rfl | rfl | rfl | rfl | rfl | rfl | rfl | rfl | rfl | rfl | rfl | rfl <;> assumption)];clear hoff hf e0 e1 e2 e3 e4 e5 e6 e7 e8 e9 e10 e11;simp only [List.foldl_cons, List.foldl_nil, List.setIfInBounds_toArray, List.set_cons_zero, List.set_cons_succ]
  go_simp;have x2 := put3_box hbox (.slice da decls6.length dc) (.slice none 0 0) (.slice ra 1 rc);have b2 : Below w1.heap.size w1 (put3 w' pb (.slice da decls6.length dc) (.slice none 0 0) (.slice ra 1 rc)) := put3_below hg hpb _ _ _
  have hp2 : RepPr (fun k => k < (put3 w' pb (.slice da decls6.length dc) (.slice none 0 0) (.slice ra 1 rc)).heap.size) (put3 w' pb (.slice da decls6.length dc) (.slice none 0 0) (.slice ra 1 rc)) pr6 (.slice da decls6.length dc) (.slice none 0 0) (.slice ra 1 rc) := by
   rw [put3_size];exact ⟨RepDes.on (fun k hk => hk.1.2) (fun k hk => put3_other _ _ _ _ _ _ hk.2) kd, slg_nil, RepRus.on (fun k hk => hk.1.2) (fun k hk => put3_other _ _ _ _ _ _ hk.2) kr⟩
  have X2 := Lib.hid x2; have P2 := Lib.hid hp2; have B2 := Lib.hid (Below.step B1.out b2); have XS2 := Lib.hid (XS.out.on b2)
  clear x2 b2 hp2 kd kr hbox hal hg hpb o0 o1 o2 z0 z1 z2;rw [show ((w'.setCell ⟨pb, 0, none⟩ (.slice da decls6.length dc)).setCell ⟨pb, 1, none⟩ (.slice none 0 0)).setCell ⟨pb, 2, none⟩ (.slice ra 1 rc) = (put3 w' pb (.slice da decls6.length dc) (.slice none 0 0) (.slice ra 1 rc)) from rfl];generalize (put3 w' pb (.slice da decls6.length dc) (.slice none 0 0) (.slice ra 1 rc)) = w2 at *;obtain ⟨o0, o1, o2⟩ := X2.out.cells;go_wp2_with fail
  refine (check_any pr6 (fun k => k < w2.heap.size) w2 _ _ _ (fun _ h => h) P2.out).mono ?_;rw [pr6_check];rintro e w3 ⟨rfl, hb⟩;have X3 := Lib.hid (X2.out.on hb); have P3 := Lib.hid (RepPr.on (S' := fun k => k < w3.heap.size) (fun k hk => Nat.lt_of_lt_of_le hk hb.size) (fun k hk => hb.block k hk) P2.out); have B3 := Lib.hid (Below.step B2.out hb); have XS3 := Lib.hid (XS2.out.on hb)
  clear hb X2 P2 B2 XS2 o0 o1 o2;go_wp2_with fail
  refine (relations_any w3).mono ?_;rintro e w4 ⟨rfl, hr, hb⟩;have X4 := Lib.hid (X3.out.on hb); have P4 := Lib.hid (RepPr.on (S' := fun k => k < w4.heap.size) (fun k hk => Nat.lt_of_lt_of_le hk hb.size) (fun k hk => hb.block k hk) P3.out); have B4 := Lib.hid (Below.step B3.out hb); have XS4 := Lib.hid (XS3.out.on hb); have HR := Lib.hid hr
  clear hb hr X3 P3 B3 XS3;go_wp2_with fail
  refine (check_any ⟨decls6, [], []⟩ (fun k => k < w4.heap.size) w4 _ _ _ (fun _ h => h) ⟨RepDes.on (fun k hk => hk.2) (fun _ _ => rfl) HR.out, slg_nil, slg_nil⟩).mono ?_;rw [pr0_check];rintro e w5 ⟨rfl, hb⟩;have X5 := Lib.hid (X4.out.on hb); have P5 := Lib.hid (RepPr.on (S' := fun k => k < w5.heap.size) (fun k hk => Nat.lt_of_lt_of_le hk hb.size) (fun k hk => hb.block k hk) P4.out); have B5 := Lib.hid (Below.step B4.out hb); have XS5 := Lib.hid (XS4.out.on hb)
  clear hb HR X4 P4 B4 XS4;obtain ⟨o0, o1, o2⟩ := X5.out.cells;go_wp2_with fail
  refine (relArity_any pr6 _ (fun k => k < w5.heap.size) w5 _ _ _ (fun _ h => h) P5.out).mono ?_;rw [show arityL pr6.decls ⟨#[108, 105, 110, 107]⟩ = 3 from pr6_link];rintro e w6 ⟨rfl, hb⟩;have B6 := Lib.hid (Below.step B5.out hb); have XS6 := Lib.hid (XS5.out.on hb)
  clear hb X5 P5 B5 XS5 o0 o1 o2;obtain ⟨p0, p1, p2, p3, p4, p5, p6⟩ := XS6.out.cells;go_wp2_with fail
  refine (vars_any (vTm 0) (fun _ => False) w6 _ _ _ _ _ _ _ (fun _ h => h.elim) (vTm_rep _ _ 0) (by simp [vTm, varsM, varsL])).mono ?_;rintro e w7 ⟨v7, rfl, hrow, hb⟩;rw [v6_vars] at hrow;obtain ⟨ht, -⟩ := txAt_of_row (S := fun k => w6.heap.size + 1 ≤ k ∧ k < w7.heap.size) (l := [⟨#[83]⟩]) hrow (fun k h1 h2 => ⟨h1, h2⟩) (by decide);obtain ⟨ta, tc, rfl⟩ := SlG.form ht;have HT := Lib.hid ht; have B7 := Lib.hid (Below.step B6.out hb)
  clear hb hrow ht B6 XS6 p0 p1 p2 p3 p4 p5 p6;go_wp2_with fail
  have ba := below_alloc w7 (.cells #[.string ⟨#[83]⟩] 9);have sa := World.size_alloc w7 (.cells #[.string ⟨#[83]⟩] 9);have na := alloc_new' w7 (.cells #[.string ⟨#[83]⟩] 9);generalize w7.alloc (.cells #[.string ⟨#[83]⟩] 9) = w8 at *
  refine (texts_any [⟨#[83]⟩] [⟨#[83]⟩] (fun k => k < w8.heap.size) w8 _ _ (fun _ h => h) (SlG.on (fun k hk => by omega) (fun k hk => ba.block k hk.2) (fun _ _ _ h => h) HT.out) (slg_row (n := 1) (bytes := 16) na (show w7.heap.size < w8.heap.size by omega) rfl (by decide) (fun i h => match i, h with
   | 0, _ => rfl))).mono ?_
  rw [decide_eq_true rfl];rintro e w9 ⟨rfl, hb⟩;have B9 := Lib.hid (Below.step (Below.step B7.out ba) hb);clear ba sa na hb;go_wp2_with fail
  go_ret
  exact ⟨rfl, B9.out⟩
end Go.Proofs.YtjohcnhiblfbnaaGreat
