/-
  SixRule
-/
import Derived.Test.YtjmnnjikmmglpaaGreatKF03
import Derived.Test.YtjmnnjikmmglpaaGreatKF04
import Derived.Test.YtjmnnjikmmglpaaGreatKF06
import Derived.Test.YtjmnnjikmmglpaaGreatKF10
import Derived.Deep.CutRange
import Derived.Deep.Cut
namespace Go.Proofs.YtjmnnjikmmglpaaGreat
open Go.RowKit
def MadeRu (y : Ru) (w : World) (e : Ending) (w' : World) : Prop := ∃ c2 c5, e = .returned (.agg #[.string y.label, .string y.head, c2, .string y.agg, .int .i64 y.at', c5]) ∧ RepRu (fun b => w.heap.size ≤ b ∧ b < w'.heap.size) w' y (.string y.label) (.string y.head) c2 (.string y.agg) (.int .i64 y.at') c5 ∧ Below w.heap.size w w'
theorem label_back (w : World) (g r : Nat) (hr : r < 26) (h : w.heap[g]? = some (.cells #[.int .u8 (97 + (r : Int))] 5 (0, 0))) : (convert 89 9 (.slice (some ⟨g, 0, none⟩) 1 1)).run Tryz.prog w = .ok (.string ⟨#[UInt8.ofNat (97 + r)]⟩) w :=
 run_convert_bytes_back w _ _ _ ⟨g, 0, none⟩ 1 [UInt8.ofNat (97 + r)] Tryz.underlying89 Tryz.underlying5 Tryz.underlying9 (fun j hj => by
  obtain rfl : j = 0 := by simpa using hj
  rw [show ((⟨g, 0, none⟩ : Addr).add 0) = ⟨g, 0, none⟩ from by unfold Addr.add; split <;> simp_all];have e1 : ((UInt8.ofNat (97 + r)).toNat : Int) = 97 + (r : Int) := by rw [UInt8.toNat_ofNat', Nat.mod_eq_of_lt (by omega)]; omega
  exact (cell_of_block' h _ rfl).trans (by rw [← e1]; rfl))
theorem rws_ok {S : Nat → Prop} {w : World} {l : List Rw} {v : Value} (h : RepRws S w l v) : ∀ x ∈ l, RwOk x := fun x hx => by
 obtain ⟨i, hi, rfl⟩ := List.getElem_of_mem hx;obtain ⟨a, cap, rfl⟩ := SlG.form h;obtain ⟨-, -, b, o, -, -, c, -, hr⟩ := SlG.at h i hi;exact hr.2.2.2.2.2.2
theorem rws_at {S : Nat → Prop} {w : World} {l : List Rw} {a : Option Addr} {len cap : Nat} (h : RepRws S w l (.slice a len cap)) (i : Nat) (hi : i < l.length) : ∃ (b o : Nat), a = some ⟨b, o, none⟩ ∧ S b ∧
  w.cell? ⟨b, o + i * 6, none⟩ = some (.int .i64 l[i].kind) ∧ w.cell? ⟨b, o + i * 6 + 1, none⟩ = some (.int .i64 l[i].name) ∧ w.cell? ⟨b, o + i * 6 + 2, none⟩ = some (.int .i64 l[i].n0) ∧ w.cell? ⟨b, o + i * 6 + 3, none⟩ = some (.int .i64 l[i].n1) ∧ w.cell? ⟨b, o + i * 6 + 4, none⟩ = some (.int .i64 l[i].n2) ∧ w.cell? ⟨b, o + i * 6 + 5, none⟩ = some (.int .i64 l[i].n3) := by
 obtain ⟨-, -, b, o, e, hS, c, hc, h0, h1, h2, h3, h4, h5, -⟩ := SlG.at h i hi;exact ⟨b, o, e, hS, by rw [← h0]; exact hc 0 (by omega), by rw [← h1]; exact hc 1 (by omega), by rw [← h2]; exact hc 2 (by omega), by rw [← h3]; exact hc 3 (by omega), by rw [← h4]; exact hc 4 (by omega), by rw [← h5]; exact hc 5 (by omega)⟩
def bodyTo (l : List Rw) (k : Nat) : List Li := ((l.take k).drop 1).map litZ
theorem bodyTo_one (l : List Rw) : bodyTo l 1 = [] := by cases l <;> rfl
theorem bodyTo_succ (l : List Rw) {k : Nat} (h1 : 1 ≤ k) (h : k < l.length) : bodyTo l (k + 1) = bodyTo l k ++ [litZ l[k]] := by
 rw [bodyTo, bodyTo, List.take_succ_eq_append_getElem h, List.drop_append_of_le_length (by rw [List.length_take]; omega), List.map_append]; rfl
theorem bodyTo_len (l : List Rw) (k : Nat) : (bodyTo l k).length ≤ k - 1 := by rw [bodyTo, List.length_map, List.length_drop, List.length_take]; omega
theorem bodyTo_end (l : List Rw) {k : Nat} (h : ¬ (k < 5 ∧ k < l.length)) (hk : k ≤ 5) : bodyTo l k = bodyTo l 5 := by
 by_cases e : k = 5
 ·rw [e]
 ·rw [bodyTo, bodyTo, List.take_of_length_le (show l.length ≤ k by omega), List.take_of_length_le (show l.length ≤ 5 by omega)]
theorem bodyZ_eq (l : List Rw) : bodyZ l = if bodyTo l 5 = [] then [litZ zRw] else bodyTo l 5 := by
 rw [bodyZ, bodyTo]
 by_cases h : (l.take 5).drop 1 = []
 ·rw [if_pos h, if_pos (by rw [h]; rfl)]
 ·rw [if_neg h, if_neg (fun e => h (List.map_eq_nil_iff.1 e))]
def LiAt (B : Nat) (y : Li) (w : World) (v : Value) : Prop := ∃ sl, v = .agg #[.int .i64 y.kind, .string y.name, sl] ∧ RepLi (fun b => B ≤ b ∧ b < w.heap.size) w y (.int .i64 y.kind) (.string y.name) sl
theorem LiAt.stay {B : Nat} {y : Li} {w w' : World} {v : Value} (hb : Below w.heap.size w w') (h : LiAt B y w v) : LiAt B y w' v := by
 obtain ⟨sl, e, h⟩ := h;exact ⟨sl, e, RepLi.on (fun k hk => ⟨hk.1, Nat.lt_of_lt_of_le hk.2 hb.size⟩) (fun k hk => hb.block k hk.2) h⟩
theorem LiAt.of {B : Nat} {y : Li} {w w' : World} {e : Ending} (hB : B ≤ w.heap.size) (h : MadeLi y w e w') : ∃ v, e = .returned v ∧ LiAt B y w' v ∧ Below w.heap.size w w' := by
 obtain ⟨sl, e, h, hb⟩ := h;exact ⟨_, e, ⟨sl, rfl, RepLi.on (fun k hk => ⟨Nat.le_trans hB hk.1, hk.2⟩) (fun _ _ => rfl) h⟩, hb⟩
def RowLi (B : Nat) (y : Li) (w : World) (v : Value) : Prop := ∃ b sl, v = .slice (some ⟨b, 0, none⟩) 1 1 ∧ w.heap[b]? = some (.cells #[.int .i64 y.kind, .string y.name, sl] 60 (0, 0)) ∧ RepLi (fun b => B ≤ b ∧ b < w.heap.size) w y (.int .i64 y.kind) (.string y.name) sl
theorem RowLi.stay {B : Nat} {y : Li} {w w' : World} {v : Value} (hb : Below w.heap.size w w') (h : RowLi B y w v) : RowLi B y w' v := by
 obtain ⟨b, sl, e, h1, h⟩ := h;exact ⟨b, sl, e, (hb.block b (Array.getElem?_eq_some_iff.1 h1).1).trans h1, RepLi.on (fun k hk => ⟨hk.1, Nat.lt_of_lt_of_le hk.2 hb.size⟩) (fun k hk => hb.block k hk.2) h⟩
theorem RowLi.new {B : Nat} {y : Li} {w : World} {sl : Value} (h : RepLi (fun b => B ≤ b ∧ b < w.heap.size) w y (.int .i64 y.kind) (.string y.name) sl) : RowLi B y (w.alloc (.cells #[.int .i64 y.kind, .string y.name, sl] 60)) (.slice (some ⟨w.heap.size, 0, none⟩) 1 1) :=
 ⟨_, sl, rfl, alloc_new' w _, RepLi.on (fun k hk => ⟨hk.1, by simp; omega⟩) (fun k hk => Below.heap_alloc _ _ _ hk.2) h⟩
theorem bodyZ_len (l : List Rw) : (bodyZ l).length ≤ 100000 := by
 rw [bodyZ_eq]
 split
 ·simp
 ·have := bodyTo_len l 5; omega
theorem agg6_size (g : Nat) : (agg6 g).size ≤ maxLen := by
 match g with
 | 0 => decide
 | 1 => decide
 | 2 => decide
 | _ + 3 => show 0 ≤ maxLen; exact Nat.zero_le _
theorem agg_at {g : Nat} (h : g < 3) : (#[.string ⟨#[109, 105, 110]⟩, .string ⟨#[109, 97, 120]⟩, .string ⟨#[99, 111, 117, 110, 116]⟩] : Array Value)[g]? = some (.string (agg6 g)) := by
 match g, h with
 | 0, _ => rfl
 | 1, _ => rfl
 | 2, _ => rfl
def set6 (w : World) (g : Nat) (c0 c1 c2 c3 c4 c5 : Value) : World :=
 (((((w.setCell ⟨g, 0, none⟩ c0).setCell ⟨g, 1, none⟩ c1).setCell ⟨g, 2, none⟩ c2).setCell ⟨g, 3, none⟩ c3).setCell ⟨g, 4, none⟩ c4).setCell ⟨g, 5, none⟩ c5
theorem set6_box {w : World} {g : Nat} {d0 d1 d2 d3 d4 d5 : Value} (h : BoxRu w g d0 d1 d2 d3 d4 d5) (c0 c1 c2 c3 c4 c5 : Value) : BoxRu (set6 w g c0 c1 c2 c3 c4 c5) g c0 c1 c2 c3 c4 c5 :=
 heap_setCell_same _ _ _ _ _ _ (heap_setCell_same _ _ _ _ _ _ (heap_setCell_same _ _ _ _ _ _ (heap_setCell_same _ _ _ _ _ _ (heap_setCell_same _ _ _ _ _ _ (heap_setCell_same _ _ _ _ _ _ h)))))
theorem set6_mine {α : Type} {K : Kd α} {w : World} {base g : Nat} {l : List α} {v : Value} (h : MineK K w base l v) (hg : g < base) (c0 c1 c2 c3 c4 c5 : Value) : MineK K (set6 w g c0 c1 c2 c3 c4 c5) base l v :=
 (((((h.far (p := ⟨g, 0, none⟩) hg c0).far (p := ⟨g, 1, none⟩) hg c1).far (p := ⟨g, 2, none⟩) hg c2).far (p := ⟨g, 3, none⟩) hg c3).far (p := ⟨g, 4, none⟩) hg c4).far (p := ⟨g, 5, none⟩) hg c5
theorem set6_below {B : Nat} {w0 w : World} {g : Nat} (h : Below B w0 w) (hg : B ≤ g) (c0 c1 c2 c3 c4 c5 : Value) : Below B w0 (set6 w g c0 c1 c2 c3 c4 c5) :=
 (((((h.setCell (p := ⟨g, 0, none⟩) hg c0).setCell (p := ⟨g, 1, none⟩) hg c1).setCell (p := ⟨g, 2, none⟩) hg c2).setCell (p := ⟨g, 3, none⟩) hg c3).setCell (p := ⟨g, 4, none⟩) hg c4).setCell (p := ⟨g, 5, none⟩) hg c5
theorem zRw_ok : RwOk zRw := ⟨small64 (by decide), small64 (by decide), small64 (by decide), small64 (by decide), small64 (by decide), small64 (by decide)⟩
theorem headRw_ok {l : List Rw} (h : ∀ x ∈ l, RwOk x) : RwOk (headRw l) := by
 cases l with
 | nil => exact zRw_ok
 | cons x l => exact h x (by simp)
set_option maxRecDepth 100000 in
set_option maxHeartbeats 20000000 in
theorem rule_any (l : List Rw) (n : Int) (S : Nat → Prop) (w : World) (fa : Option Addr) (fc : Nat) (hS : ∀ k, S k → k < w.heap.size) (hx : RepRws S w l (.slice fa l.length fc)) (hn : I64 n) : Calls Tryz.prog 16 #[.slice fa l.length fc, .int .i64 n] w (MadeRu (ruleZ l n) w) := by
 have HX := Lib.hid hx; have HS := Lib.hid hS; have HN := Lib.hid hn
 have hpb := pickZ_bd n 26 (by omega);clear hx hS hn;go_enter Tryz.func16, Tryz.ntmps16
 go_wp2_with fail
 refine (pick6_any n 26 _ HN.out (by omega) (by omega)).mono ?_;rintro e w' ⟨rfl, rfl⟩;have t1 := boxRu_new w (.string ⟨#[]⟩) (.string ⟨#[]⟩) (.slice none 0 0) (.string ⟨#[]⟩) (.int .i64 0) (.slice none 0 0); have b1 := below_alloc w (.cells #[.string ⟨#[]⟩, .string ⟨#[]⟩, .slice none 0 0, .string ⟨#[]⟩, .int .i64 0, .slice none 0 0] 47)
 have s1 := World.size_alloc w (.cells #[.string ⟨#[]⟩, .string ⟨#[]⟩, .slice none 0 0, .string ⟨#[]⟩, .int .i64 0, .slice none 0 0] 47);generalize w.alloc (.cells #[.string ⟨#[]⟩, .string ⟨#[]⟩, .slice none 0 0, .string ⟨#[]⟩, .int .i64 0, .slice none 0 0] 47) = wa at *;obtain ⟨r, hr⟩ := Int.eq_ofNat_of_zero_le hpb.1;have hr26 : r < 26 := by omega
 have HLB : Hid (labelZ n = ⟨#[114, UInt8.ofNat (97 + r)]⟩) := by show _ = _; rw [labelZ, hr, Int.toNat_natCast]
 rw [hr];have hw1 : wrap64 (97 + (r : Int)) = 97 + (r : Int) := by unfold wrap64; omega
 have hw2 : IntKind.i64.wrap (97 + (r : Int)) = 97 + (r : Int) := by rw [IntKind.wrap_i64]; omega
 clear hpb hr;have b2 := below_alloc wa (.cells #[.int .u8 (97 + (r : Int))] 5);have s2 := World.size_alloc wa (.cells #[.int .u8 (97 + (r : Int))] 5);have hback := label_back (wa.alloc (.cells #[.int .u8 (97 + (r : Int))] 5)) (w.heap.size + 1) r hr26 (by rw [← s1]; exact alloc_new' wa _);generalize UInt8.ofNat (97 + r) = u at *;have HLN : Hid (l.length ≤ 140737488355328) := by show _ ≤ _; have := SlG.bytes HX.out; omega
 have hlen := HLN.out;have hsz := s1;go_upto_if 18 with (fail)
 obtain ⟨lb, hlb⟩ : ∃ lb : ByteArray, (⟨#[114]⟩ ++ ⟨#[u]⟩ : ByteArray) = lb := ⟨_, rfl⟩
 have HLB2 : Hid (labelZ n = lb ∧ lb.size ≤ maxLen) := by
  show _ ∧ _
  rw [← hlb, HLB.out];exact ⟨rfl, by show 2 ≤ maxLen; decide⟩
 rw [hlb];clear hlb HLB hback;have t2 := t1.on b2;have B2 := Below.step b1 b2;generalize wa.alloc (.cells #[.int .u8 (97 + (r : Int))] 5) = wb at *;rw [hsz] at s2;have t3 := boxRu_new wb (.string lb) (.string ⟨#[]⟩) (.slice none 0 0) (.string ⟨#[]⟩) (.int .i64 0) (.slice none 0 0);have b3 := below_alloc wb (.cells #[.string lb, .string ⟨#[]⟩, .slice none 0 0, .string ⟨#[]⟩, .int .i64 0, .slice none 0 0] 47);have s3 := World.size_alloc wb (.cells #[.string lb, .string ⟨#[]⟩, .slice none 0 0, .string ⟨#[]⟩, .int .i64 0, .slice none 0 0] 47);have T3 := t2.on b3;have B3 := Below.step B2 b3;generalize wb.alloc (.cells #[.string lb, .string ⟨#[]⟩, .slice none 0 0, .string ⟨#[]⟩, .int .i64 0, .slice none 0 0] 47) = wd at *;rw [s2] at t3 s3;clear t1 b1 s1 t2 b2 B2 b3 hsz hw1 hw2 hr26;have HT3 := Lib.hid T3; have HK3 := Lib.hid t3; have HB3 := Lib.hid B3; have HS3 := Lib.hid s3
 clear T3 B3;go_cut [18] from 16 to 21 (fun s wx => wx = wd.alloc (.cells #[.int .i64 (headRw l).kind, .int .i64 (headRw l).name, .int .i64 (headRw l).n0, .int .i64 (headRw l).n1, .int .i64 (headRw l).n2, .int .i64 (headRw l).n3] 77))
 case first =>
  by_cases hl : 0 < l.length
  ·have hl0 : decide (0 < l.length) = true := decide_eq_true hl
   have hh : headRw l = l[0] := by cases l with | nil => simp at hl | cons x l => rfl
   obtain ⟨b, o, hfa, hSb, q0, q1, q2, q3, q4, q5⟩ := rws_at HX.out 0 hl;have hbw := HS.out b hSb;have hb4 := Below.step HB3.out (below_alloc wd (.cells #[.int .i64 0, .int .i64 0, .int .i64 0, .int .i64 0, .int .i64 0, .int .i64 0] 77));have p0 := (hb4.cell (p := ⟨b, o + 0 * 6, none⟩) hbw).trans q0; have p1 := (hb4.cell (p := ⟨b, o + 0 * 6 + 1, none⟩) hbw).trans q1; have p2 := (hb4.cell (p := ⟨b, o + 0 * 6 + 2, none⟩) hbw).trans q2
   have p3 := (hb4.cell (p := ⟨b, o + 0 * 6 + 3, none⟩) hbw).trans q3; have p4 := (hb4.cell (p := ⟨b, o + 0 * 6 + 4, none⟩) hbw).trans q4; have p5 := (hb4.cell (p := ⟨b, o + 0 * 6 + 5, none⟩) hbw).trans q5
   rw [Nat.zero_mul, Nat.add_zero] at p0 p1 p2 p3 p4 p5;have z := fun i => frozen_of_row (wd.alloc (.cells #[.int .i64 0, .int .i64 0, .int .i64 0, .int .i64 0, .int .i64 0, .int .i64 0] 77)) wd.heap.size i _ _ (alloc_new' wd _)
   have z0 := z 0; have z1 := z 1; have z2 := z 2; have z3 := z 3; have z4 := z 4; have z5 := z 5
   rw [s3] at z0 z1 z2 z3 z4 z5;have hs := s3;subst hfa;clear q0 q1 q2 q3 q4 q5 z hb4 hbw hSb s2 t3;generalize l[0] = x at *;go_wp2_with fail
   go_meet
   rw [hh]
  ·have hl0 : decide (0 < l.length) = false := decide_eq_false hl
   have hh : headRw l = zRw := by cases l with | nil => rfl | cons x l => simp at hl
   clear s2 t3;go_wp2_with fail
   go_meet
   rw [hh]; rfl
 case rest =>
  obtain rfl := hcut;clear s2 t3 hlen;have HHK : Hid (RwOk (headRw l)) := headRw_ok (rws_ok HX.out);obtain ⟨hd, hhd⟩ : ∃ hd, headRw l = hd := ⟨_, rfl⟩;have HHD := Lib.hid hhd;rw [hhd] at HHK ⊢;clear hhd;have x4 := boxRw_new wd hd;have b4 := below_alloc wd (.cells #[.int .i64 hd.kind, .int .i64 hd.name, .int .i64 hd.n0, .int .i64 hd.n1, .int .i64 hd.n2, .int .i64 hd.n3] 77);have s4 := World.size_alloc wd (.cells #[.int .i64 hd.kind, .int .i64 hd.name, .int .i64 hd.n0, .int .i64 hd.n1, .int .i64 hd.n2, .int .i64 hd.n3] 77);generalize wd.alloc (.cells #[.int .i64 hd.kind, .int .i64 hd.name, .int .i64 hd.n0, .int .i64 hd.n1, .int .i64 hd.n2, .int .i64 hd.n3] 77) = w4 at *;rw [s3] at x4 s4;have X4 := Lib.hid x4; have K4 := Lib.hid (HK3.out.on b4); have T4 := Lib.hid (HT3.out.on b4); have B4 := Lib.hid (Below.step HB3.out b4)
  have HS4 := Lib.hid s4;obtain ⟨q0, q1, q2, q3, q4, q5⟩ := x4.cells;clear x4 b4 s4 s3;go_wp2_with fail
  refine (atom_any hd w4 HHK.out).mono ?_;rintro e w' ⟨lv, rfl, hm, hb⟩;clear q0 q1 q2 q3 q4 q5;have X5 := Lib.hid (X4.out.on hb); have K5 := Lib.hid (K4.out.on hb); have T5 := Lib.hid (T4.out.on hb); have B5 := Lib.hid (Below.step B4.out hb)
  have z1 := frozen_of_row w' (w.heap.size + 1 + 1) 1 _ _ K5.out; have z2 := frozen_of_row w' (w.heap.size + 1 + 1) 2 _ _ K5.out
  obtain ⟨r0, r1, r2, r3, r4, r5⟩ := K5.out.cells;rw [HS4.out] at hm;have HM5 := Lib.hid hm;obtain ⟨la, lc, rfl⟩ := OwnK.form hm;clear hm;have HSZ5 : Hid (w.heap.size + 1 + 1 + 1 + 1 ≤ w'.heap.size) := by show _ ≤ _; rw [← HS4.out]; exact hb.size
  clear hb;go_wp2_with fail
  clear r0 r1 r2 r3 r4 r5 z1 z2 X4 K4 T4 B4 HT3 HK3 HB3 HS3;obtain ⟨nm, hnm⟩ : ∃ nm, (declOf hd).name = nm := ⟨_, rfl⟩;have HNM := Lib.hid hnm;obtain ⟨args, has⟩ : ∃ args, atomZ hd = args := ⟨_, rfl⟩;have HAS := Lib.hid has;rw [hnm, has];rw [has] at HM5;clear hnm has
  have hblk : ∀ k, k ≠ w.heap.size + 1 + 1 → ((w'.setCell ⟨w.heap.size + 1 + 1, 1, none⟩ (.string nm)).setCell ⟨w.heap.size + 1 + 1, 2, none⟩ (.slice la args.length lc)).heap[k]? = w'.heap[k]? := fun k hk => by
   rw [Below.heap_setCell _ _ _ _ hk, Below.heap_setCell _ _ _ _ hk]
  have k6 : BoxRu ((w'.setCell ⟨w.heap.size + 1 + 1, 1, none⟩ (.string nm)).setCell ⟨w.heap.size + 1 + 1, 2, none⟩ (.slice la args.length lc)) (w.heap.size + 1 + 1) (.string lb) (.string nm) (.slice la args.length lc) (.string ⟨#[]⟩) (.int .i64 0) (.slice none 0 0) := heap_setCell_same _ _ _ _ _ _ (heap_setCell_same _ _ _ _ _ _ K5.out);have x6 : BoxRw ((w'.setCell ⟨w.heap.size + 1 + 1, 1, none⟩ (.string nm)).setCell ⟨w.heap.size + 1 + 1, 2, none⟩ (.slice la args.length lc)) (w.heap.size + 1 + 1 + 1) hd := (hblk _ (by omega)).trans X5.out;have t6 : BoxRu ((w'.setCell ⟨w.heap.size + 1 + 1, 1, none⟩ (.string nm)).setCell ⟨w.heap.size + 1 + 1, 2, none⟩ (.slice la args.length lc)) w.heap.size (.string ⟨#[]⟩) (.string ⟨#[]⟩) (.slice none 0 0) (.string ⟨#[]⟩) (.int .i64 0) (.slice none 0 0) := (hblk _ (by omega)).trans T5.out;have b6 := (B5.out.setCell (p := ⟨w.heap.size + 1 + 1, 1, none⟩) (by simp; omega) (.string nm)).setCell (p := ⟨w.heap.size + 1 + 1, 2, none⟩) (by simp; omega) (.slice la args.length lc);have m6 := MineK.far (MineK.far HM5.out (p := ⟨w.heap.size + 1 + 1, 1, none⟩) (by simp) (.string nm)) (p := ⟨w.heap.size + 1 + 1, 2, none⟩) (by simp) (.slice la args.length lc);have s6 : w.heap.size + 1 + 1 + 1 + 1 ≤ ((w'.setCell ⟨w.heap.size + 1 + 1, 1, none⟩ (.string nm)).setCell ⟨w.heap.size + 1 + 1, 2, none⟩ (.slice la args.length lc)).heap.size := by simp; exact HSZ5.out
  clear hblk X5 K5 T5 B5 HM5 HSZ5;generalize (w'.setCell ⟨w.heap.size + 1 + 1, 1, none⟩ (.string nm)).setCell ⟨w.heap.size + 1 + 1, 2, none⟩ (.slice la args.length lc) = w5 at *;have K6 := Lib.hid k6; have X6 := Lib.hid x6; have T6 := Lib.hid t6; have B6 := Lib.hid b6; have M6 := Lib.hid m6; have S6 := Lib.hid s6
  clear k6 x6 t6 b6 m6 s6;go_loopw [7] (fun iv wr => ∃ (k : Nat) (bv : Value), 1 ≤ k ∧ k ≤ 5 ∧ iv = .int .i64 (k : Int) ∧ MineK kdLi wr w5.heap.size (bodyTo l k) bv ∧ BoxRu wr (w.heap.size + 1 + 1) (.string lb) (.string nm) (.slice la args.length lc) (.string ⟨#[]⟩) (.int .i64 0) bv ∧ But (w.heap.size + 1 + 1) w5.heap.size w5 wr) (fun iv _ => 5 - (intOf iv).toNat)
  case atStart => exact ⟨1, .slice none 0 0, Nat.le_refl _, by omega, rfl, by rw [bodyTo_one]; exact MineK.nil _ _, K6.out, But.refl _ _ _⟩
  case round =>
   obtain ⟨k, bv, hk1, hk5, rfl, hmine, hbox, hbut⟩ := hrel;have HO := Lib.hid hmine; have OR := Lib.hid hbox; have HBUT := Lib.hid hbut
   have HWS : Hid (w5.heap.size ≤ wr.heap.size) := hbut.size;have HBW : Hid (Below w.heap.size w wr) := Below.trans B6.out (hbut.below (by have := S6.out; omega) (by omega));have HKB : Hid (1 ≤ k ∧ k ≤ 5) := ⟨hk1, hk5⟩;have hlen := HLN.out;clear hmine hbox hbut;go_upto_region 7 with fail
   go_cut [36] from 29 to 48 (fun s wx => s = .bool (decide (k < 5 ∧ k < l.length)) ∧ wr = wx)
   case first =>
    by_cases c1 : k < l.length
    ·have i1 : decide ((k : Int) < (l.length : Int)) = true := decide_eq_true (by omega)
     by_cases c2 : k < 5
     ·have i2 : decide ((k : Int) < 5) = true := decide_eq_true (by omega)
      have HZ : Hid (decide (k < 5 ∧ k < l.length) = true) := decide_eq_true ⟨c2, c1⟩;clear hk1 hk5;go_wp2_with fail
      go_meet
      exact ⟨by rw [HZ.out], rfl⟩
     ·have i2 : decide ((k : Int) < 5) = false := decide_eq_false (by omega)
      have HZ : Hid (decide (k < 5 ∧ k < l.length) = false) := decide_eq_false (by omega);clear hk1 hk5;go_wp2_with fail
      go_meet
      exact ⟨by rw [HZ.out], rfl⟩
    ·have i1 : decide ((k : Int) < (l.length : Int)) = false := decide_eq_false (by omega)
     have HZ : Hid (decide (k < 5 ∧ k < l.length) = false) := decide_eq_false (by omega);clear hk1 hk5;go_wp2_with fail
     go_meet
     exact ⟨by rw [HZ.out], rfl⟩
   case rest =>
    obtain ⟨rfl, rfl⟩ := hcut;clear hlen hk1 hk5
    by_cases hlt : k < 5 ∧ k < l.length
    ·rw [decide_eq_true hlt]
     obtain ⟨hlt1, hlt2⟩ := hlt;obtain ⟨rb, ro, hfa, hSb, q0, q1, q2, q3, q4, q5⟩ := rws_at HX.out k hlt2;have HRB : Hid (rb < w.heap.size) := HS.out rb hSb;have Q0 := Lib.hid ((HBW.out.cell (p := ⟨rb, ro + k * 6, none⟩) HRB.out).trans q0); have Q1 := Lib.hid ((HBW.out.cell (p := ⟨rb, ro + k * 6 + 1, none⟩) HRB.out).trans q1); have Q2 := Lib.hid ((HBW.out.cell (p := ⟨rb, ro + k * 6 + 2, none⟩) HRB.out).trans q2)
     have Q3 := Lib.hid ((HBW.out.cell (p := ⟨rb, ro + k * 6 + 3, none⟩) HRB.out).trans q3); have Q4 := Lib.hid ((HBW.out.cell (p := ⟨rb, ro + k * 6 + 4, none⟩) HRB.out).trans q4); have Q5 := Lib.hid ((HBW.out.cell (p := ⟨rb, ro + k * 6 + 5, none⟩) HRB.out).trans q5)
     subst hfa;clear hSb q0 q1 q2 q3 q4 q5;have HXK : Hid (RwOk l[k]) := rws_ok HX.out _ (List.getElem_mem hlt2);have HTK := Lib.hid (bodyTo_succ l HKB.out.1 hlt2);have HLK : Hid ((bodyTo l k).length ≤ 1000) := by show _ ≤ _; have := bodyTo_len l k; have := HKB.out.2; omega
     have HK1 : Hid ((0 : Int) ≤ (k : Int)) := Int.natCast_nonneg k;have HK2 : Hid ((k : Int) < (l.length : Int)) := by show _ < _; omega
     have HKL : Hid (k < 5 ∧ k < l.length) := ⟨hlt1, hlt2⟩;generalize l[k] = x at *;clear hlt1 hlt2;have HWL : Hid (rb < wr.heap.size) := Nat.lt_of_lt_of_le HRB.out HBW.out.size;go_wp2_with fail
     refine wp_region_factsP (by rfl) 88 (by rfl) (by kernel_rfl) 8 (fun q => q == 0 || q == 1 || q == 2 || q == 3 || q == 4 || q == 5 || q == 6 || q == 7) (by kernel_rfl) (FB [.e (.pointer (some ⟨w.heap.size + 1 + 1, 5, none⟩)), .e bv, .e (.slice (some ⟨rb, ro, none⟩) l.length fc), .e (.int .i64 (k : Int)), .e (.pointer (some ⟨rb, ro + k * 6, none⟩)), .e (.agg #[.int .i64 x.kind, .int .i64 x.name, .int .i64 x.n0, .int .i64 x.n1, .int .i64 x.n2, .int .i64 x.n3]), .p (LiAt wr.heap.size (litZ x)), .p (RowLi wr.heap.size (litZ x)), .t (fun wz vz => ∃ a cap, vz = .slice a ((bodyTo l k).length + 1) cap ∧ MineK kdLi wz w5.heap.size (bodyTo l k ++ [litZ x]) vz), .e (.pointer (some ⟨w.heap.size + 1 + 1, 5, none⟩))]) (fun ph w' => if ph = true then Aft wr w5.heap.size bv w' else Below wr.heap.size wr w') (Below.drew (Below.refl _ _)) ⟨?s0, ?s1, ?s2, ?s3, ?s4, ?s5, ?s6, ?s7, ?s8, ?s9, trivial⟩ (by rfl) ?last
     case s0 =>
      intro a w' hoff hg hdep K hK;replace hg : Below wr.heap.size wr w' := hg;have h5 := off_at hoff 5 (v := .pointer (some ⟨w.heap.size + 1 + 1, 0, none⟩)) (by kernel_rfl) rfl;rw [if_pos (by rfl)];go_simp;exact hK.out _ _ hg rfl (fun _ _ h => h)
     case s1 =>
      intro a w' hoff hg hdep K hK;replace hg : Below wr.heap.size wr w' := hg;obtain ⟨_, e0, rfl⟩ := hdep 0 _ 39 (by kernel_rfl) rfl rfl;rw [if_pos (by rfl)];obtain ⟨o0, o1, o2, o3, o4, o5⟩ := (OR.out.on hg).cells; have q0 := (hg.cell (p := ⟨rb, ro + k * 6, none⟩) HWL.out).trans Q0.out; have q1 := (hg.cell (p := ⟨rb, ro + k * 6 + 1, none⟩) HWL.out).trans Q1.out; have q2 := (hg.cell (p := ⟨rb, ro + k * 6 + 2, none⟩) HWL.out).trans Q2.out; have q3 := (hg.cell (p := ⟨rb, ro + k * 6 + 3, none⟩) HWL.out).trans Q3.out; have q4 := (hg.cell (p := ⟨rb, ro + k * 6 + 4, none⟩) HWL.out).trans Q4.out; have q5 := (hg.cell (p := ⟨rb, ro + k * 6 + 5, none⟩) HWL.out).trans Q5.out
      go_simp;exact hK.out _ _ hg rfl (fun _ _ h => h)
     case s2 =>
      intro a w' hoff hg hdep K hK;replace hg : Below wr.heap.size wr w' := hg;have h0 := off_at hoff 0 (v := .slice (some ⟨rb, ro, none⟩) l.length fc) (by kernel_rfl) rfl;rw [if_pos (by rfl)];go_simp;exact hK.out _ _ hg rfl (fun _ _ h => h)
     case s3 =>
      intro a w' hoff hg hdep K hK;replace hg : Below wr.heap.size wr w' := hg;have h7 := off_at hoff 7 (v := .int .i64 (k : Int)) (by kernel_rfl) rfl;rw [if_pos (by rfl)];go_simp;exact hK.out _ _ hg rfl (fun _ _ h => h)
     case s4 =>
      intro a w' hoff hg hdep K hK;replace hg : Below wr.heap.size wr w' := hg;obtain ⟨_, e2, rfl⟩ := hdep 2 _ 41 (by kernel_rfl) rfl rfl;obtain ⟨_, e3, rfl⟩ := hdep 3 _ 42 (by kernel_rfl) rfl rfl;rw [if_pos (by rfl)];have hk1 := HK1.out; have hk2 := HK2.out
      go_simp;exact hK.out _ _ hg rfl (fun _ _ h => h)
     case s5 =>
      intro a w' hoff hg hdep K hK;replace hg : Below wr.heap.size wr w' := hg;obtain ⟨_, e4, rfl⟩ := hdep 4 _ 43 (by kernel_rfl) rfl rfl;rw [if_pos (by rfl)];obtain ⟨o0, o1, o2, o3, o4, o5⟩ := (OR.out.on hg).cells; have q0 := (hg.cell (p := ⟨rb, ro + k * 6, none⟩) HWL.out).trans Q0.out; have q1 := (hg.cell (p := ⟨rb, ro + k * 6 + 1, none⟩) HWL.out).trans Q1.out; have q2 := (hg.cell (p := ⟨rb, ro + k * 6 + 2, none⟩) HWL.out).trans Q2.out; have q3 := (hg.cell (p := ⟨rb, ro + k * 6 + 3, none⟩) HWL.out).trans Q3.out; have q4 := (hg.cell (p := ⟨rb, ro + k * 6 + 4, none⟩) HWL.out).trans Q4.out; have q5 := (hg.cell (p := ⟨rb, ro + k * 6 + 5, none⟩) HWL.out).trans Q5.out
      go_simp;exact hK.out _ _ hg rfl (fun _ _ h => h)
     case s6 =>
      intro a w' hoff hg hdep K hK;replace hg : Below wr.heap.size wr w' := hg;obtain ⟨_, e5, rfl⟩ := hdep 5 _ 44 (by kernel_rfl) rfl rfl;rw [if_pos (by rfl)];go_simp;refine (literal_any x w' HXK.out).mono ?_;intro e w2' hm;obtain ⟨u, rfl, hp, hb⟩ := LiAt.of (B := wr.heap.size) hg.size hm;exact hK.out _ _ (Below.step hg hb) (fun _ => hp) (fStP ⟨fun _ h => LiAt.stay hb h, fun _ h => RowLi.stay hb h, trivial⟩)
     case s7 =>
      intro a w' hoff hg hdep K hK;replace hg : Below wr.heap.size wr w' := hg;obtain ⟨v6, e6, f6⟩ := hdep 6 _ 45 (by kernel_rfl) rfl rfl;have g6 : LiAt wr.heap.size (litZ x) w' v6 := f6 rfl;obtain ⟨sl, rfl, kv⟩ := g6;rw [if_pos (by rfl)];go_simp;have hb := below_alloc w' (.cells #[.int .i64 (litZ x).kind, .string (litZ x).name, sl] 60);have hp := RowLi.new kv;exact hK.out _ _ (Below.step hg hb) (fun _ => hp) (fStP ⟨fun _ h => LiAt.stay hb h, fun _ h => RowLi.stay hb h, trivial⟩)
     case s8 =>
      intro a w' hoff hg hdep K hK;replace hg : Below wr.heap.size wr w' := hg;obtain ⟨v1, e1, f1⟩ := hdep 1 _ 40 (by kernel_rfl) rfl rfl;obtain rfl : bv = v1 := Eq.symm f1;obtain ⟨v7, e7, f7⟩ := hdep 7 _ 46 (by kernel_rfl) rfl rfl;have g7 : RowLi wr.heap.size (litZ x) w' v7 := f7 rfl;obtain ⟨b, sl, rfl, hbk, hrep⟩ := g7;obtain ⟨va, vcap, w6, hrun, hm6, hgr⟩ := own_append (K := kdLi) (y := litZ x) (c := at3v (.int .i64 (litZ x).kind) (.string (litZ x).name) sl) (HO.out.stands hg) (Nat.le_trans HWS.out hg.size) HLK.out hbk rfl (fun j hj => match j, hj with | 0, _ => rfl | 1, _ => rfl | 2, _ => rfl) (RepLi.on (fun b' hb' => ⟨Nat.le_trans HWS.out hb'.1, hb'.2, fun e => by have := (OwnK.lies HO.out b' e).2; omega⟩) (fun _ _ => rfl) hrep) 45;refine step_append_by rfl (.tmp 40) (.tmp 46) 45 rfl (by simp [Act.eval, e1]) (by simp [Act.eval, e7]) hrun ?_;have hp : ∃ a cap, (.slice va ((bodyTo l k).length + 1) vcap : Value) = .slice a ((bodyTo l k).length + 1) cap ∧ MineK kdLi w6 w5.heap.size (bodyTo l k ++ [litZ x]) (.slice va ((bodyTo l k).length + 1) vcap) := ⟨_, _, rfl, hm6⟩;have hG2 := Aft.of HO.out HWS.out hg hgr;exact hK.out _ _ hG2 (fun _ => hp) (fPass rfl)
     case s9 =>
      intro ph a w' hoff hg hdep K hK;have h5 := off_at hoff 5 (v := .pointer (some ⟨w.heap.size + 1 + 1, 0, none⟩)) (by kernel_rfl) rfl;rw [if_pos (by rfl)];go_simp;exact hK.out _ _ hg rfl (fun _ _ h => h)
     case last =>
      intro a w' hoff hg hf;replace hg : Aft wr w5.heap.size bv w' := hg;obtain ⟨_, e0, rfl⟩ := hf 0 _ 39 (by decide) rfl rfl;obtain ⟨v1, e1, f1⟩ := hf 1 _ 40 (by decide) rfl rfl;obtain rfl : bv = v1 := Eq.symm f1;obtain ⟨_, e2, rfl⟩ := hf 2 _ 41 (by decide) rfl rfl;obtain ⟨_, e3, rfl⟩ := hf 3 _ 42 (by decide) rfl rfl;obtain ⟨_, e4, rfl⟩ := hf 4 _ 43 (by decide) rfl rfl;obtain ⟨_, e5, rfl⟩ := hf 5 _ 44 (by decide) rfl rfl;obtain ⟨v6, e6, f6⟩ := hf 6 _ 45 (by decide) rfl rfl;obtain ⟨v7, e7, f7⟩ := hf 7 _ 46 (by decide) rfl rfl;obtain ⟨v8, e8, f8⟩ := hf 8 _ 47 (by decide) rfl rfl;have g8 : ∃ a cap, v8 = .slice a ((bodyTo l k).length + 1) cap ∧ MineK kdLi w' w5.heap.size (bodyTo l k ++ [litZ x]) v8 := f8 rfl;obtain ⟨_, e9, rfl⟩ := hf 9 _ 48 (by decide) rfl rfl;obtain ⟨va, vcap, rfl, hm6⟩ := g8;have OR6 : Hid (BoxRu w' (w.heap.size + 1 + 1) (.string lb) (.string nm) (.slice la args.length lc) (.string ⟨#[]⟩) (.int .i64 0) bv) := (hg.below.block _ (by have := S6.out; omega)).trans OR.out;obtain ⟨o0, o1, o2, o3, o4, o5⟩ := OR6.out.cells;have z5 := frozen_of_row w' (w.heap.size + 1 + 1) 5 _ _ OR6.out;rw [if_pos (by rfl)];rw [hoff.sets [(39, .pointer (some ⟨w.heap.size + 1 + 1, 5, none⟩)), (40, bv), (41, .slice (some ⟨rb, ro, none⟩) l.length fc), (42, .int .i64 (k : Int)), (43, .pointer (some ⟨rb, ro + k * 6, none⟩)), (44, .agg #[.int .i64 x.kind, .int .i64 x.name, .int .i64 x.n0, .int .i64 x.n1, .int .i64 x.n2, .int .i64 x.n3]), (45, v6), (46, v7), (47, .slice va ((bodyTo l k).length + 1) vcap), (48, .pointer (some ⟨w.heap.size + 1 + 1, 5, none⟩))] (by kernel_rfl) (by intro p hp; simp only [List.mem_cons, List.not_mem_nil, or_false] at hp; rcases hp with rfl | rfl | rfl | rfl | rfl | rfl | rfl | rfl | rfl | rfl <;> assumption)];clear hoff hf e0 e1 e2 e3 e4 e5 e6 f6 e7 f7 e8 f8 e9;simp only [List.foldl_cons, List.foldl_nil, List.setIfInBounds_toArray, List.set_cons_zero, List.set_cons_succ]
      go_simp;have HM6 := Lib.hid (hm6.far (p := ⟨w.heap.size + 1 + 1, 5, none⟩) (by have := S6.out; simp; omega) (.slice va ((bodyTo l k).length + 1) vcap));have OB6 : Hid (BoxRu (w'.setCell ⟨w.heap.size + 1 + 1, 5, none⟩ (.slice va ((bodyTo l k).length + 1) vcap)) (w.heap.size + 1 + 1) (.string lb) (.string nm) (.slice la args.length lc) (.string ⟨#[]⟩) (.int .i64 0) (.slice va ((bodyTo l k).length + 1) vcap)) := heap_setCell_same _ _ _ _ _ _ OR6.out;have HB6 := Lib.hid ((HBUT.out.step (Nat.le_refl _) hg.below).set 5 (.slice va ((bodyTo l k).length + 1) vcap));clear hg hm6 o0 o1 o2 o3 o4 o5 z5;go_wp2_with fail
      go_roundw
      case rel => exact ⟨k + 1, .slice va ((bodyTo l k).length + 1) vcap, by omega, HKL.out.1, (by have := HKL.out.1; rw [show wrap64 ((k : Int) + 1) = ((k + 1 : Nat) : Int) by unfold wrap64; omega]), by rw [HTK.out]; exact HM6.out, OB6.out, HB6.out⟩
      case measure => exact measure_up HKL.out.1 (by decide)
    ·rw [decide_eq_false hlt]
     have HFIN := Lib.hid (bodyTo_end l hlt HKB.out.2);have HLK : Hid ((bodyTo l k).length ≤ 1000) := by show _ ≤ _; have := bodyTo_len l k; have := HKB.out.2; omega
     clear hlt;obtain ⟨ba, bc, hbv⟩ := OwnK.form HO.out;obtain ⟨o0, o1, o2, o3, o4, o5⟩ := OR.out.cells;rw [hbv] at o5;go_upto_if 52 with (fail)
     clear o0 o1 o2 o3 o4 o5;go_cut [59] from 49 to 59 (fun s wx => ∃ bw, MineK kdLi wx w5.heap.size (bodyZ l) bw ∧ BoxRu wx (w.heap.size + 1 + 1) (.string lb) (.string nm) (.slice la args.length lc) (.string ⟨#[]⟩) (.int .i64 0) bw ∧ But (w.heap.size + 1 + 1) w5.heap.size w5 wx)
     case first =>
      by_cases hz : bodyTo l k = []
      ·have HBZ : Hid (bodyZ l = bodyTo l k ++ [litZ zRw]) := by
        show _ = _
        rw [bodyZ_eq, ← HFIN.out, if_pos hz, hz]; rfl
       have hz2 : (((bodyTo l k).length : Int) == 0) = true := by rw [hz]; rfl
       have hz1 : ((bodyTo l k).length == 0) = true := by rw [hz]; rfl
       clear hz;go_wp2_with fail
       clear hz1 hz2 hbv;refine wp_region_factsP (by rfl) 88 (by rfl) (by kernel_rfl) 5 (fun q => q == 0 || q == 1 || q == 2 || q == 3 || q == 4) (by kernel_rfl) (FB [.e (.pointer (some ⟨w.heap.size + 1 + 1, 5, none⟩)), .e bv, .e (.agg #[.int .i64 0, .int .i64 0, .int .i64 0, .int .i64 0, .int .i64 0, .int .i64 0]), .p (LiAt wr.heap.size (litZ zRw)), .p (RowLi wr.heap.size (litZ zRw)), .t (fun wz vz => ∃ a cap, vz = .slice a ((bodyTo l k).length + 1) cap ∧ MineK kdLi wz w5.heap.size (bodyTo l k ++ [litZ zRw]) vz), .e (.pointer (some ⟨w.heap.size + 1 + 1, 5, none⟩))]) (fun ph w' => if ph = true then Aft wr w5.heap.size bv w' else Below wr.heap.size wr w') (Below.drew (Below.refl _ _)) ⟨?s0, ?s1, ?s2, ?s3, ?s4, ?s5, ?s6, trivial⟩ (by rfl) ?last
       case s0 =>
        intro a w' hoff hg hdep K hK;replace hg : Below wr.heap.size wr w' := hg;have h5 := off_at hoff 5 (v := .pointer (some ⟨w.heap.size + 1 + 1, 0, none⟩)) (by kernel_rfl) rfl;rw [if_pos (by rfl)];go_simp;exact hK.out _ _ hg rfl (fun _ _ h => h)
       case s1 =>
        intro a w' hoff hg hdep K hK;replace hg : Below wr.heap.size wr w' := hg;obtain ⟨_, e0, rfl⟩ := hdep 0 _ 53 (by kernel_rfl) rfl rfl;rw [if_pos (by rfl)];obtain ⟨o0, o1, o2, o3, o4, o5⟩ := (OR.out.on hg).cells;go_simp;exact hK.out _ _ hg rfl (fun _ _ h => h)
       case s2 =>
        intro a w' hoff hg hdep K hK;replace hg : Below wr.heap.size wr w' := hg;rw [if_pos (by rfl)];go_simp;exact hK.out _ _ hg rfl (fun _ _ h => h)
       case s3 =>
        intro a w' hoff hg hdep K hK;replace hg : Below wr.heap.size wr w' := hg;obtain ⟨_, e2, rfl⟩ := hdep 2 _ 55 (by kernel_rfl) rfl rfl;rw [if_pos (by rfl)];go_simp;refine (literal_any zRw w' zRw_ok).mono ?_;intro e w2' hm;obtain ⟨u, rfl, hp, hb⟩ := LiAt.of (B := wr.heap.size) hg.size hm;exact hK.out _ _ (Below.step hg hb) (fun _ => hp) (fStP ⟨fun _ h => LiAt.stay hb h, fun _ h => RowLi.stay hb h, trivial⟩)
       case s4 =>
        intro a w' hoff hg hdep K hK;replace hg : Below wr.heap.size wr w' := hg;obtain ⟨v3, e3, f3⟩ := hdep 3 _ 56 (by kernel_rfl) rfl rfl;have g3 : LiAt wr.heap.size (litZ zRw) w' v3 := f3 rfl;obtain ⟨sl, rfl, kv⟩ := g3;rw [if_pos (by rfl)];go_simp;have hb := below_alloc w' (.cells #[.int .i64 (litZ zRw).kind, .string (litZ zRw).name, sl] 60);have hp := RowLi.new kv;exact hK.out _ _ (Below.step hg hb) (fun _ => hp) (fStP ⟨fun _ h => LiAt.stay hb h, fun _ h => RowLi.stay hb h, trivial⟩)
       case s5 =>
        intro a w' hoff hg hdep K hK;replace hg : Below wr.heap.size wr w' := hg;obtain ⟨v1, e1, f1⟩ := hdep 1 _ 54 (by kernel_rfl) rfl rfl;obtain rfl : bv = v1 := Eq.symm f1;obtain ⟨v4, e4, f4⟩ := hdep 4 _ 57 (by kernel_rfl) rfl rfl;have g4 : RowLi wr.heap.size (litZ zRw) w' v4 := f4 rfl;obtain ⟨b, sl, rfl, hbk, hrep⟩ := g4;obtain ⟨va, vcap, w6, hrun, hm6, hgr⟩ := own_append (K := kdLi) (y := litZ zRw) (c := at3v (.int .i64 (litZ zRw).kind) (.string (litZ zRw).name) sl) (HO.out.stands hg) (Nat.le_trans HWS.out hg.size) HLK.out hbk rfl (fun j hj => match j, hj with | 0, _ => rfl | 1, _ => rfl | 2, _ => rfl) (RepLi.on (fun b' hb' => ⟨Nat.le_trans HWS.out hb'.1, hb'.2, fun e => by have := (OwnK.lies HO.out b' e).2; omega⟩) (fun _ _ => rfl) hrep) 45;refine step_append_by rfl (.tmp 54) (.tmp 57) 45 rfl (by simp [Act.eval, e1]) (by simp [Act.eval, e4]) hrun ?_;have hp : ∃ a cap, (.slice va ((bodyTo l k).length + 1) vcap : Value) = .slice a ((bodyTo l k).length + 1) cap ∧ MineK kdLi w6 w5.heap.size (bodyTo l k ++ [litZ zRw]) (.slice va ((bodyTo l k).length + 1) vcap) := ⟨_, _, rfl, hm6⟩;have hG2 := Aft.of HO.out HWS.out hg hgr;exact hK.out _ _ hG2 (fun _ => hp) (fPass rfl)
       case s6 =>
        intro ph a w' hoff hg hdep K hK;have h5 := off_at hoff 5 (v := .pointer (some ⟨w.heap.size + 1 + 1, 0, none⟩)) (by kernel_rfl) rfl;rw [if_pos (by rfl)];go_simp;exact hK.out _ _ hg rfl (fun _ _ h => h)
       case last =>
        intro a w' hoff hg hf;replace hg : Aft wr w5.heap.size bv w' := hg;obtain ⟨_, e0, rfl⟩ := hf 0 _ 53 (by decide) rfl rfl;obtain ⟨v1, e1, f1⟩ := hf 1 _ 54 (by decide) rfl rfl;obtain rfl : bv = v1 := Eq.symm f1;obtain ⟨_, e2, rfl⟩ := hf 2 _ 55 (by decide) rfl rfl;obtain ⟨v3, e3, f3⟩ := hf 3 _ 56 (by decide) rfl rfl;obtain ⟨v4, e4, f4⟩ := hf 4 _ 57 (by decide) rfl rfl;obtain ⟨v5, e5, f5⟩ := hf 5 _ 58 (by decide) rfl rfl;have g5 : ∃ a cap, v5 = .slice a ((bodyTo l k).length + 1) cap ∧ MineK kdLi w' w5.heap.size (bodyTo l k ++ [litZ zRw]) v5 := f5 rfl;obtain ⟨_, e6, rfl⟩ := hf 6 _ 59 (by decide) rfl rfl;obtain ⟨va, vcap, rfl, hm6⟩ := g5;have OR6 : Hid (BoxRu w' (w.heap.size + 1 + 1) (.string lb) (.string nm) (.slice la args.length lc) (.string ⟨#[]⟩) (.int .i64 0) bv) := (hg.below.block _ (by have := S6.out; omega)).trans OR.out;obtain ⟨o0, o1, o2, o3, o4, o5⟩ := OR6.out.cells;have z5 := frozen_of_row w' (w.heap.size + 1 + 1) 5 _ _ OR6.out;rw [if_pos (by rfl)];rw [hoff.sets [(53, .pointer (some ⟨w.heap.size + 1 + 1, 5, none⟩)), (54, bv), (55, .agg #[.int .i64 0, .int .i64 0, .int .i64 0, .int .i64 0, .int .i64 0, .int .i64 0]), (56, v3), (57, v4), (58, .slice va ((bodyTo l k).length + 1) vcap), (59, .pointer (some ⟨w.heap.size + 1 + 1, 5, none⟩))] (by kernel_rfl) (by intro p hp; simp only [List.mem_cons, List.not_mem_nil, or_false] at hp; rcases hp with rfl | rfl | rfl | rfl | rfl | rfl | rfl <;> assumption)];clear hoff hf e0 e1 e2 e3 f3 e4 f4 e5 f5 e6;simp only [List.foldl_cons, List.foldl_nil, List.setIfInBounds_toArray, List.set_cons_zero, List.set_cons_succ]
        go_simp;have HM6 := Lib.hid (hm6.far (p := ⟨w.heap.size + 1 + 1, 5, none⟩) (by have := S6.out; simp; omega) (.slice va ((bodyTo l k).length + 1) vcap));have OB6 : Hid (BoxRu (w'.setCell ⟨w.heap.size + 1 + 1, 5, none⟩ (.slice va ((bodyTo l k).length + 1) vcap)) (w.heap.size + 1 + 1) (.string lb) (.string nm) (.slice la args.length lc) (.string ⟨#[]⟩) (.int .i64 0) (.slice va ((bodyTo l k).length + 1) vcap)) := heap_setCell_same _ _ _ _ _ _ OR6.out;have HB6 := Lib.hid ((HBUT.out.step (Nat.le_refl _) hg.below).set 5 (.slice va ((bodyTo l k).length + 1) vcap));clear hg hm6 o0 o1 o2 o3 o4 o5 z5;go_wp2_with fail
        go_meet
        exact ⟨_, by rw [HBZ.out]; exact HM6.out, OB6.out, HB6.out⟩
      ·have HBZ : Hid (bodyZ l = bodyTo l k) := by
        show _ = _
        rw [bodyZ_eq, ← HFIN.out, if_neg hz]
       have hz1 : ¬ (bodyTo l k).length = 0 := fun e => hz (List.length_eq_zero_iff.1 e)
       have hz2 : (((bodyTo l k).length : Int) == 0) = false := by rw [beq_eq_false_iff_ne]; omega
       go_wp2_with fail
       go_meet
       exact ⟨_, by rw [HBZ.out]; exact HO.out, OR.out, HBUT.out⟩
     case rest =>
      obtain ⟨bw, hm7, hbox7, hbut7⟩ := hcut;obtain ⟨bwa, bwc, rfl⟩ := OwnK.form hm7;have HO7 := Lib.hid hm7; have OR7 := Lib.hid hbox7
      have X7 : Hid (BoxRw wc (w.heap.size + 1 + 1 + 1) hd) := (hbut7.block _ (by have := S6.out; omega) (by omega)).trans X6.out;have T7 : Hid (BoxRu wc w.heap.size (.string ⟨#[]⟩) (.string ⟨#[]⟩) (.slice none 0 0) (.string ⟨#[]⟩) (.int .i64 0) (.slice none 0 0)) := (hbut7.block _ (by have := S6.out; omega) (by omega)).trans T6.out;have M7 := Lib.hid (M6.out.but hbut7 (by omega));have B7 : Hid (Below w.heap.size w wc) := Below.trans B6.out (hbut7.below (by have := S6.out; omega) (by omega));have HZ7 : Hid (w.heap.size + 1 + 1 + 1 + 1 ≤ wc.heap.size) := Nat.le_trans S6.out hbut7.size;clear hm7 hbox7 hbut7 hbv HO OR HBUT HWS HBW HKB HFIN HLK X6 T6 M6 B6 K6;have HAL : Hid (args.length ≤ 3) := by show _ ≤ _; rw [← HAS.out]; exact atomZ_len hd
      have HRP : Hid (RepMs (fun b => w.heap.size + 1 + 1 + 1 + 1 ≤ b ∧ b < wc.heap.size) wc args (.slice la args.length lc)) := MineK.slg M7.out (fun m h1 h2 => ⟨h1, h2⟩) (by have := HAL.out; omega);have HAG : Hid (aggOn l = (pickZ hd.kind 5 == 4 && (decide (1 < args.length) && (args.getD 1 (numZ 0)).kind == 1))) := by show _ = _; rw [aggOn, HHD.out, HAS.out]
      go_upto_region 12 with fail
      go_cut [77] from 60 to 77 (fun s wx => s = .bool (aggOn l) ∧ wc = wx)
      case first =>
       obtain ⟨p0, p1, p2, p3, p4, p5⟩ := X7.out.cells;obtain ⟨o0, o1, o2, o3, o4, o5⟩ := OR7.out.cells
       by_cases h1 : 1 < args.length
       ·have hd1 : decide (1 < args.length) = true := decide_eq_true h1
        have hd2 : decide ((1 : Int) < (args.length : Int)) = true := decide_eq_true (by omega);obtain ⟨-, hcap, mb, mo, hla, hSm, c, hc, hrm⟩ := SlG.at HRP.out 1 h1;obtain ⟨ga, gc, na, nc, e0, e1, e2, e3, e4, e5, e6⟩ := RepM.form hrm;have y0 := hc 0 (by omega);rw [e0] at y0;rw [Nat.one_mul, Nat.add_zero] at y0;have hg : (args.getD 1 (numZ 0)).kind = args[1].kind := by rw [List.getD, List.getElem?_eq_getElem h1]; rfl
        rw [hg, hd1, Bool.true_and] at HAG;generalize args[1].kind = ky at *;have HI1 : Hid ((1 : Int) < (args.length : Int)) := by show _ < _; omega
        have hi1 := HI1.out;subst hla;clear hcap hSm hc hrm e0 e1 e2 e3 e4 e5 e6 hg;go_wp2_with fail
        refine (pick6_any hd.kind 5 _ HHK.out.1 (by omega) (by omega)).mono ?_;rintro e w' ⟨rfl, rfl⟩
        by_cases h4 : (pickZ hd.kind 5 == 4) = true
        ·rw [h4, Bool.true_and] at HAG
         by_cases hk : (ky == 1) = true
         ·rw [hk] at HAG
          go_wp2_with fail
          go_meet
          exact ⟨by rw [HAG.out], rfl⟩
         ·have hkb : (ky == 1) = false := by simpa using hk
          rw [hkb] at HAG;clear hk;go_wp2_with fail
          go_meet
          exact ⟨by rw [HAG.out], rfl⟩
        ·have h4b : (pickZ hd.kind 5 == 4) = false := by simpa using h4
         rw [h4b, Bool.false_and] at HAG;clear h4;go_wp2_with fail
         go_meet
         exact ⟨by rw [HAG.out], rfl⟩
       ·have hd1 : decide (1 < args.length) = false := decide_eq_false h1
        have hd2 : decide ((1 : Int) < (args.length : Int)) = false := decide_eq_false (by omega);rw [hd1, Bool.false_and, Bool.and_false] at HAG;go_wp2_with fail
        refine (pick6_any hd.kind 5 _ HHK.out.1 (by omega) (by omega)).mono ?_;rintro e w' ⟨rfl, rfl⟩
        by_cases h4 : (pickZ hd.kind 5 == 4) = true
        ·go_wp2_with fail
         go_meet
         exact ⟨by rw [HAG.out], rfl⟩
        ·have h4b : (pickZ hd.kind 5 == 4) = false := by simpa using h4
         clear h4;go_wp2_with fail
         go_meet
         exact ⟨by rw [HAG.out], rfl⟩
      case rest =>
       obtain ⟨rfl, rfl⟩ := hcut;have HNS : Hid (nm.size ≤ maxLen) := by show _ ≤ _; rw [← HNM.out]; exact (declOf_ok hd).1
       by_cases hag : aggOn l = true
       ·rw [hag]
        have b8 := below_alloc wc (.cells #[.string ⟨#[109, 105, 110]⟩, .string ⟨#[109, 97, 120]⟩, .string ⟨#[99, 111, 117, 110, 116]⟩] 9);have hq := tdiv_i64 HHK.out.1 5 (by omega);have HQ := Lib.hid hq;have hw1 : wrap64 (hd.kind.tdiv 5) = hd.kind.tdiv 5 := by obtain ⟨a1, a2⟩ := hq; unfold wrap64; omega
        have hw2 : IntKind.i64.wrap (hd.kind.tdiv 5) = hd.kind.tdiv 5 := by obtain ⟨a1, a2⟩ := hq; rw [IntKind.wrap_i64]; omega
        have hpb := pickZ_bd (hd.kind.tdiv 5) 3 (by omega);obtain ⟨g, hg⟩ := Int.eq_ofNat_of_zero_le hpb.1;have hg3 : g < 3 := by omega
        have HGS : Hid ((agg6 g).size ≤ maxLen) := agg6_size g;have hg5 : (0 : Int) ≤ (g : Int) := by omega
        have hg6 : (g : Int) < 3 := by omega
        have HG := Lib.hid hg;have O8 := Lib.hid (OR7.out.on b8); have X8 := Lib.hid (X7.out.on b8); have T8 := Lib.hid (T7.out.on b8); have M8 := Lib.hid (M7.out.stands b8); have L8 := Lib.hid (HO7.out.stands b8); have B8 := Lib.hid (Below.step B7.out b8)
        obtain ⟨p0, p1, p2, p3, p4, p5⟩ := X8.out.cells;have pg : (wc.alloc (.cells #[.string ⟨#[109, 105, 110]⟩, .string ⟨#[109, 97, 120]⟩, .string ⟨#[99, 111, 117, 110, 116]⟩] 9)).cell? ⟨wc.heap.size, g, none⟩ = some (.string (agg6 g)) := cell_of_block' (alloc_new' wc _) _ (agg_at hg3);have z3 := frozen_of_row (wc.alloc (.cells #[.string ⟨#[109, 105, 110]⟩, .string ⟨#[109, 97, 120]⟩, .string ⟨#[99, 111, 117, 110, 116]⟩] 9)) (w.heap.size + 1 + 1) 3 _ _ O8.out;have z4 := frozen_of_row (wc.alloc (.cells #[.string ⟨#[109, 105, 110]⟩, .string ⟨#[109, 97, 120]⟩, .string ⟨#[99, 111, 117, 110, 116]⟩] 9)) (w.heap.size + 1 + 1) 4 _ _ O8.out;obtain ⟨o0, o1, o2, o3, o4, o5⟩ := O8.out.cells;clear hq hpb hg b8 OR7 T7 M7 HO7 B7;go_wp2_with fail
        refine (pick6_any (hd.kind.tdiv 5) 3 _ HQ.out (by omega) (by omega)).mono ?_;rintro e w' ⟨rfl, rfl⟩;rw [HG.out];clear p0 p1 p2 p3 p4 p5 X7 X8;generalize wc.alloc (.cells #[.string ⟨#[109, 105, 110]⟩, .string ⟨#[109, 97, 120]⟩, .string ⟨#[99, 111, 117, 110, 116]⟩] 9) = w8 at *;go_upto_region 15 with fail
        clear o0 o1 o2 o3 o4 o5 z3 z4 pg;have k9 : BoxRu ((w8.setCell ⟨w.heap.size + 1 + 1, 3, none⟩ (.string (agg6 g))).setCell ⟨w.heap.size + 1 + 1, 4, none⟩ (.int .i64 1)) (w.heap.size + 1 + 1) (.string lb) (.string nm) (.slice la args.length lc) (.string (agg6 g)) (.int .i64 1) (.slice bwa (bodyZ l).length bwc) := heap_setCell_same _ _ _ _ _ _ (heap_setCell_same _ _ _ _ _ _ O8.out)
        have t9 : BoxRu ((w8.setCell ⟨w.heap.size + 1 + 1, 3, none⟩ (.string (agg6 g))).setCell ⟨w.heap.size + 1 + 1, 4, none⟩ (.int .i64 1)) w.heap.size (.string ⟨#[]⟩) (.string ⟨#[]⟩) (.slice none 0 0) (.string ⟨#[]⟩) (.int .i64 0) (.slice none 0 0) := by
         have h : w.heap.size ≠ w.heap.size + 1 + 1 := by omega
         show (World.heap _)[w.heap.size]? = _
         rw [Below.heap_setCell _ _ _ _ h, Below.heap_setCell _ _ _ _ h]; exact T8.out
        have m9 := MineK.far (MineK.far M8.out (p := ⟨w.heap.size + 1 + 1, 3, none⟩) (by simp) (.string (agg6 g))) (p := ⟨w.heap.size + 1 + 1, 4, none⟩) (by simp) (.int .i64 1);have l9 := MineK.far (MineK.far L8.out (p := ⟨w.heap.size + 1 + 1, 3, none⟩) (by have := S6.out; simp; omega) (.string (agg6 g))) (p := ⟨w.heap.size + 1 + 1, 4, none⟩) (by have := S6.out; simp; omega) (.int .i64 1);have b9 := (B8.out.setCell (p := ⟨w.heap.size + 1 + 1, 3, none⟩) (by simp; omega) (.string (agg6 g))).setCell (p := ⟨w.heap.size + 1 + 1, 4, none⟩) (by simp; omega) (.int .i64 1);have K9 := Lib.hid k9; have T9 := Lib.hid t9; have M9 := Lib.hid m9; have L9 := Lib.hid l9; have B9 := Lib.hid b9
        clear k9 t9 m9 l9 b9 O8 T8 M8 L8 B8;generalize (w8.setCell ⟨w.heap.size + 1 + 1, 3, none⟩ (.string (agg6 g))).setCell ⟨w.heap.size + 1 + 1, 4, none⟩ (.int .i64 1) = w9 at *;clear HAG HRP
        have HRU : Hid (ruleZ l n = ⟨lb, nm, args, agg6 g, 1, bodyZ l⟩) := by
         show _ = _
         rw [ruleZ, if_pos hag, HLB2.out.1, HHD.out, HNM.out, HAS.out, HG.out, Int.toNat_natCast]
        have z0 := frozen_of_row w9 w.heap.size 0 _ _ T9.out; have z1 := frozen_of_row w9 w.heap.size 1 _ _ T9.out; have z2 := frozen_of_row w9 w.heap.size 2 _ _ T9.out
        have z3 := frozen_of_row w9 w.heap.size 3 _ _ T9.out; have z4 := frozen_of_row w9 w.heap.size 4 _ _ T9.out; have z5 := frozen_of_row w9 w.heap.size 5 _ _ T9.out
        obtain ⟨o0, o1, o2, o3, o4, o5⟩ := K9.out.cells;obtain ⟨y0, y1, y2, y3, y4, y5⟩ := T9.out.cells;have t10 := set6_box T9.out (.string lb) (.string nm) (.slice la args.length lc) (.string (agg6 g)) (.int .i64 1) (.slice bwa (bodyZ l).length bwc);have m10 := set6_mine M9.out (show w.heap.size < w.heap.size + 1 + 1 + 1 + 1 by omega) (.string lb) (.string nm) (.slice la args.length lc) (.string (agg6 g)) (.int .i64 1) (.slice bwa (bodyZ l).length bwc);have l10 := set6_mine L9.out (show w.heap.size < w5.heap.size by have := S6.out; omega) (.string lb) (.string nm) (.slice la args.length lc) (.string (agg6 g)) (.int .i64 1) (.slice bwa (bodyZ l).length bwc);have b10 := set6_below B9.out (Nat.le_refl _) (.string lb) (.string nm) (.slice la args.length lc) (.string (agg6 g)) (.int .i64 1) (.slice bwa (bodyZ l).length bwc);simp only [set6] at t10 m10 l10 b10
        have T10 := Lib.hid t10; have M10 := Lib.hid m10; have L10 := Lib.hid l10; have B10 := Lib.hid b10
        clear t10 m10 l10 b10;go_wp2_with fail
        clear z0 z1 z2 z3 z4 z5 o0 o1 o2 o3 o4 o5 y0 y1 y2 y3 y4 y5;generalize (((((w9.setCell ⟨w.heap.size, 0, none⟩ (.string lb)).setCell ⟨w.heap.size, 1, none⟩ (.string nm)).setCell ⟨w.heap.size, 2, none⟩ (.slice la args.length lc)).setCell ⟨w.heap.size, 3, none⟩ (.string (agg6 g))).setCell ⟨w.heap.size, 4, none⟩ (.int .i64 1)).setCell ⟨w.heap.size, 5, none⟩ (.slice bwa (bodyZ l).length bwc) = w10 at *;obtain ⟨o0, o1, o2, o3, o4, o5⟩ := T10.out.cells;rw [HRU.out]
        exact bodyPost_ret (v := .agg #[.string lb, .string nm, .slice la args.length lc, .string (agg6 g), .int .i64 1, (.slice bwa (bodyZ l).length bwc)]) (by simp [results, Tryz.results16, go_sem, o0, o1, o2, o3, o4, o5]) rfl ⟨.slice la args.length lc, (.slice bwa (bodyZ l).length bwc), rfl,
         ⟨rfl, rfl, rfl, rfl, HLB2.out.2, HNS.out, HGS.out, small64 (n := 1) (show (0 : Int) ≤ 1 ∧ (1 : Int) ≤ 100 by decide), MineK.slg M10.out (fun m h1 h2 => ⟨by omega, h2⟩) (by have := HAL.out; omega), MineK.slg L10.out (fun m h1 h2 => ⟨by have := S6.out; omega, h2⟩) (by have := bodyZ_len l; omega)⟩, B10.out⟩
       ·have hagb : aggOn l = false := by simpa using hag
        rw [hagb];clear hag;have HGS : Hid ((⟨#[]⟩ : ByteArray).size ≤ maxLen) := by show _ ≤ _; decide
        go_upto_region 15 with fail
        have K9 := OR7; have T9 := T7; have M9 := M7; have L9 := HO7; have B9 := B7
        clear OR7 T7 M7 HO7 B7 X7;generalize wc = w9 at *;clear HAG HRP
        have HRU : Hid (ruleZ l n = ⟨lb, nm, args, ⟨#[]⟩, 0, bodyZ l⟩) := by
         show _ = _
         rw [ruleZ, if_neg (by rw [hagb]; decide), HLB2.out.1, HHD.out, HNM.out, HAS.out]
        have z0 := frozen_of_row w9 w.heap.size 0 _ _ T9.out; have z1 := frozen_of_row w9 w.heap.size 1 _ _ T9.out; have z2 := frozen_of_row w9 w.heap.size 2 _ _ T9.out
        have z3 := frozen_of_row w9 w.heap.size 3 _ _ T9.out; have z4 := frozen_of_row w9 w.heap.size 4 _ _ T9.out; have z5 := frozen_of_row w9 w.heap.size 5 _ _ T9.out
        obtain ⟨o0, o1, o2, o3, o4, o5⟩ := K9.out.cells;obtain ⟨y0, y1, y2, y3, y4, y5⟩ := T9.out.cells;have t10 := set6_box T9.out (.string lb) (.string nm) (.slice la args.length lc) (.string (⟨#[]⟩)) (.int .i64 0) (.slice bwa (bodyZ l).length bwc);have m10 := set6_mine M9.out (show w.heap.size < w.heap.size + 1 + 1 + 1 + 1 by omega) (.string lb) (.string nm) (.slice la args.length lc) (.string (⟨#[]⟩)) (.int .i64 0) (.slice bwa (bodyZ l).length bwc);have l10 := set6_mine L9.out (show w.heap.size < w5.heap.size by have := S6.out; omega) (.string lb) (.string nm) (.slice la args.length lc) (.string (⟨#[]⟩)) (.int .i64 0) (.slice bwa (bodyZ l).length bwc);have b10 := set6_below B9.out (Nat.le_refl _) (.string lb) (.string nm) (.slice la args.length lc) (.string (⟨#[]⟩)) (.int .i64 0) (.slice bwa (bodyZ l).length bwc);simp only [set6] at t10 m10 l10 b10
        have T10 := Lib.hid t10; have M10 := Lib.hid m10; have L10 := Lib.hid l10; have B10 := Lib.hid b10
        clear t10 m10 l10 b10;go_wp2_with fail
        clear z0 z1 z2 z3 z4 z5 o0 o1 o2 o3 o4 o5 y0 y1 y2 y3 y4 y5;generalize (((((w9.setCell ⟨w.heap.size, 0, none⟩ (.string lb)).setCell ⟨w.heap.size, 1, none⟩ (.string nm)).setCell ⟨w.heap.size, 2, none⟩ (.slice la args.length lc)).setCell ⟨w.heap.size, 3, none⟩ (.string (⟨#[]⟩))).setCell ⟨w.heap.size, 4, none⟩ (.int .i64 0)).setCell ⟨w.heap.size, 5, none⟩ (.slice bwa (bodyZ l).length bwc) = w10 at *;obtain ⟨o0, o1, o2, o3, o4, o5⟩ := T10.out.cells;rw [HRU.out]
        exact bodyPost_ret (v := .agg #[.string lb, .string nm, .slice la args.length lc, .string (⟨#[]⟩), .int .i64 0, (.slice bwa (bodyZ l).length bwc)]) (by simp [results, Tryz.results16, go_sem, o0, o1, o2, o3, o4, o5]) rfl ⟨.slice la args.length lc, (.slice bwa (bodyZ l).length bwc), rfl,
         ⟨rfl, rfl, rfl, rfl, HLB2.out.2, HNS.out, HGS.out, small64 (n := 0) (show (0 : Int) ≤ 0 ∧ (0 : Int) ≤ 100 by decide), MineK.slg M10.out (fun m h1 h2 => ⟨by omega, h2⟩) (by have := HAL.out; omega), MineK.slg L10.out (fun m h1 h2 => ⟨by have := S6.out; omega, h2⟩) (by have := bodyZ_len l; omega)⟩, B10.out⟩
end Go.Proofs.YtjmnnjikmmglpaaGreat
