/-
  FitList, Fit, TwoR, StrAdd
-/
import Derived.Test.YtbkligcfllakeaaKE15
import Derived.Test.YtbkligcfllakeaaKE02
import Derived.Test.YtbkligcfllakeaaKE01
import Derived.Test.YtbkligcfllakeaaKE13
import Derived.Test.YtbkligcfllakeaaKE16
import Derived.Deep.RegionLaw
namespace Go.Proofs.Ytbkligcfllakeaa
open Go.RowKit
def FitAt (d : Nat) : Prop := ∀ (x : V) (B : Nat) (w : World) (c0 c1 c2 c3 : Value), B ≤ w.heap.size → RepV B w x c0 c1 c2 c3 → (d = 0 → pickZ x.kind 4 ≠ 3) →
 Calls Try.prog 26 #[.agg #[c0, c1, c2, c3], .int .i64 d] w (FitPost (fitV d x) w)
theorem OwnL.form {S : Nat → Prop} {w : World} {base : Nat} {l : List V} {v : Value} (h : OwnL S w base l v) : ∃ a cap, v = .slice a l.length cap := by
 obtain ⟨xs, ⟨_, hown⟩, _⟩ := h;rcases hown with ⟨rfl, hn⟩ | ⟨g, cap, cur, rfl, _⟩
 ·exact ⟨none, 0, by rw [hn]⟩
 ·exact ⟨_, _, rfl⟩
theorem OwnL.lies {S : Nat → Prop} {w : World} {base : Nat} {l : List V} {v : Value} (h : OwnL S w base l v) (k : Nat) (hk : v.ownBlock = some k) : base ≤ k ∧ k < w.heap.size := by
 obtain ⟨xs, ⟨_, hown⟩, _⟩ := h;rcases hown with ⟨rfl, hn⟩ | ⟨g, cap, cur, rfl, hbg, hh, _⟩
 ·simp [Value.ownBlock] at hk
 ·simp [Value.ownBlock] at hk
  subst hk;exact ⟨hbg, (Array.getElem?_eq_some_iff.1 hh).1⟩
theorem take_min {α : Type} (l : List α) : l.take (min l.length 16) = l.take 16 := by
 by_cases h : l.length ≤ 16
 ·rw [Nat.min_eq_left h, List.take_length, List.take_of_length_le h]
 ·rw [Nat.min_eq_right (by omega)]
def Mine (w : World) (base : Nat) (l : List V) (v : Value) : Prop := OwnL (fun b => base ≤ b ∧ b < w.heap.size ∧ v.ownBlock ≠ some b) w base l v
theorem Mine.stands {w w' : World} {base : Nat} {l : List V} {v : Value} (h : Mine w base l v) (hb : Below w.heap.size w w') : Mine w' base l v :=
 OwnL.stands h (fun _ hk => ⟨⟨hk.1, Nat.lt_of_lt_of_le hk.2.1 hb.size, hk.2.2⟩, hk.2.1⟩) hb
theorem Mine.far {w : World} {base : Nat} {l : List V} {v : Value} (h : Mine w base l v) {p : Addr} (hp : p.block < base) (c : Value) : Mine (w.setCell p c) base l v :=
 OwnL.on h (fun k hk => ⟨hk.1, by simp; exact hk.2.1, hk.2.2⟩) (fun k hk => Below.heap_setCell _ _ _ _ (by omega)) (fun k hk _ _ => Below.heap_setCell _ _ _ _ (by omega))
theorem fit_append {w4 w5 : World} {base : Nat} {L : List V} {lv : Value} {y : V} {c0 c1 c2 c3 : Value} (hown : Mine w4 base L lv) (hbase : base ≤ w4.heap.size) (hlen : L.length ≤ 1000)
  (hb : Below w4.heap.size w4 w5) (hrep : RepG (fun b => w4.heap.size ≤ b ∧ b < w5.heap.size) w5 y c0 c1 c2 c3) (ty : TypeId) :
  ∃ (a : Option Addr) (n cap : Nat) (w6 : World), (Builtin.append_ #[22, 22] ty #[lv, .slice (some ⟨w5.heap.size, 0, none⟩) 1 1]).run Try.prog (w5.alloc (.cells #[c0, c1, c2, c3] 27)) = .ok (.slice a n cap) w6 ∧
   Mine w6 base (L ++ [y]) (.slice a n cap) ∧ Below base w4 w6 ∧ (∀ k, k < w4.heap.size → lv.ownBlock ≠ some k → w6.heap[k]? = w4.heap[k]?) := by
 have hbW := Below.step hb (below_alloc w5 (.cells #[c0, c1, c2, c3] 27));have hsW := World.size_alloc w5 (.cells #[c0, c1, c2, c3] 27);have hnew := alloc_new' w5 (.cells #[c0, c1, c2, c3] 27);have hold : ∀ b, b < w5.heap.size → (w5.alloc (.cells #[c0, c1, c2, c3] 27)).heap[b]? = w5.heap[b]? := fun b hb => Below.heap_alloc _ _ _ hb
 generalize w5.alloc (.cells #[c0, c1, c2, c3] 27) = W at *;have hs5 := hb.size;have hm := hown.stands hbW
 have hrow : RepRow (fun b => base ≤ b ∧ b < W.heap.size ∧ lv.ownBlock ≠ some b) W [y] #[c0, c1, c2, c3] := by
  intro i hi;obtain rfl : i = 0 := by simpa using hi
  refine ⟨c0, c1, c2, c3, rfl, rfl, rfl, rfl, hrep.on (fun b hb => ⟨by omega, by omega, fun e => ?_⟩) (fun b hb => hold b hb.2)⟩;have := (OwnL.lies hown b e).2;omega
 have hsl := hrow.slice hnew ⟨by omega, by omega, fun e => by have := (OwnL.lies hown _ e).2; omega⟩ (Nat.le_refl 1) (by simp);obtain ⟨v', w6, hrun, ho, hg, hv⟩ := append_run W base ty hm hsl (fun k hk => ⟨hk.2.1, hk.2.2⟩) (by simp; omega) (by omega);obtain ⟨a, cap, rfl⟩ := ho.form;have hgs := hg.size;refine ⟨a, _, cap, w6, hrun, ho.on (fun k hk => ⟨hk.1, by omega, fun e => ?_⟩) (fun _ _ => rfl) (fun _ _ _ _ => rfl), ?_, ?_⟩
 ·rcases hv with hv | hv
  ·exact hk.2.2 (hv.symm.trans e)
  ·rw [hv] at e
   have := Option.some.inj e;omega
 ·refine ⟨hg.os.trans hbW.os, hg.tape.trans hbW.tape, hg.output.trans hbW.output, by omega, fun k hk => ?_⟩
  exact (hg.block k (by omega) (fun e => by have := (OwnL.lies hown k e.symm).1; omega)).trans (hbW.block k (by omega))
 ·intro k hk hne
  exact (hg.block k (by omega) (fun e => hne e.symm)).trans (hbW.block k hk)
set_option maxRecDepth 100000 in
set_option maxHeartbeats 16000000 in
theorem fit_list (d : Nat) (hd : d < 1000) (ih : FitAt d) (x : V) (B : Nat) (w : World) (fa : Option Addr) (fc : Nat) (hB : B ≤ w.heap.size) (hx : RepV B w x (.int .i64 x.kind) (.int .i64 x.num) (.string x.text) (.slice fa x.list.length fc)) (h : pickZ x.kind 4 = 3) :
    Calls Try.prog 26 #[.agg #[.int .i64 x.kind, .int .i64 x.num, .string x.text, .slice fa x.list.length fc], .int .i64 (d + 1 : Nat)] w (FitPost (fitV (d + 1) x) w) := by
  have HE : Hid (fitV (d + 1) x = .mk 4 0 ⟨#[]⟩ (fitTo d x.list 16)) := by show _ = _; rw [fitV, if_pos h]; rfl
  have HP := Lib.hid h; clear h
  have HX := Lib.hid hx;obtain ⟨hk, -, -⟩ := RepG.bounds hx;clear hx;go_enter Try.func26, Try.ntmps26
  go_wp2_with fail
  refine (pick_any _ 4 _ hk (by omega) (by omega)).mono ?_;rintro e w' ⟨rfl, rfl⟩;rw [HP.out];have b1 := (Below.refl _ w).alloc (Nat.le_refl _) (.cells #[.int .i64 x.kind, .int .i64 x.num, .string x.text, .slice fa x.list.length fc] 27);have s1 := World.size_alloc w (.cells #[.int .i64 x.kind, .int .i64 x.num, .string x.text, .slice fa x.list.length fc] 27);have x1 := boxed_new w (.int .i64 x.kind) (.int .i64 x.num) (.string x.text) (.slice fa x.list.length fc);generalize w.alloc (.cells #[.int .i64 x.kind, .int .i64 x.num, .string x.text, .slice fa x.list.length fc] 27) = w1 at *;go_wp2_with fail
  have r2 := boxed_new w1 (.int .i64 0) (.int .i64 0) (.string ⟨#[]⟩) (.slice none 0 0);have b2 := below_alloc w1 (.cells #[.int .i64 0, .int .i64 0, .string ⟨#[]⟩, .slice none 0 0] 27);have s2 := World.size_alloc w1 (.cells #[.int .i64 0, .int .i64 0, .string ⟨#[]⟩, .slice none 0 0] 27);generalize w1.alloc (.cells #[.int .i64 0, .int .i64 0, .string ⟨#[]⟩, .slice none 0 0] 27) = w2 at *;have o3 := boxed_new w2 (.int .i64 4) (.int .i64 0) (.string ⟨#[]⟩) (.slice none 0 0);have b3 := below_alloc w2 (.cells #[.int .i64 4, .int .i64 0, .string ⟨#[]⟩, .slice none 0 0] 27);have s3 := World.size_alloc w2 (.cells #[.int .i64 4, .int .i64 0, .string ⟨#[]⟩, .slice none 0 0] 27);generalize w2.alloc (.cells #[.int .i64 4, .int .i64 0, .string ⟨#[]⟩, .slice none 0 0] 27) = w3 at *;rw [s1] at r2;rw [s2, s1] at o3;have X3 := Lib.hid ((x1.on b2).on b3);have R3 := Lib.hid (r2.on b3);have B3 := Lib.hid (Below.step (Below.step b1 b2) b3);have hs3 : w3.heap.size = w.heap.size + 3 := by omega
  clear x1 r2 b1 b2 b3 s1 s2 s3;obtain ⟨n, hn⟩ : ∃ n, n = min x.list.length 16 := ⟨_, rfl⟩;go_loopw [9] (fun i wr => ∃ k : Nat, k ≤ n ∧ i = .int .i64 k ∧ (∃ lv, Boxed wr (w.heap.size + 1 + 1) (.int .i64 4) (.int .i64 0) (.string ⟨#[]⟩) lv ∧ Mine wr (w.heap.size + 3) (fitTo d x.list k) lv) ∧ Below (w.heap.size + 2) w3 wr) (fun i _ => n - (intOf i).toNat)
  case atStart => exact ⟨0, Nat.zero_le _, rfl, ⟨_, o3, OwnL.nil _ _ _⟩, Below.refl _ _⟩
  case round =>
    obtain ⟨k, hk2, rfl, ⟨lv, hob, hmine⟩, hbel⟩ := hrel;clear o3
    by_cases hlt : k < n
    · have hl : k < x.list.length := by omega
      have h16 : k < 16 := by omega
      have HOB := Lib.hid hob;have HM := Lib.hid hmine;have HBEL := Lib.hid hbel;have XR : Boxed wr w.heap.size (.int .i64 x.kind) (.int .i64 x.num) (.string x.text) (.slice fa x.list.length fc) := (hbel.block w.heap.size (by omega)).trans X3.out;have hwr : w.heap.size + 3 ≤ wr.heap.size := by have := hbel.size; omega
      obtain ⟨p0, p1, p2, p3⟩ := XR.cells;have hxl : RepL B wr x.list (.slice fa x.list.length fc) := RepL.below (fun j hj => (hbel.block j (by omega)).trans (B3.out.block j (by omega))) HX.out.lst;obtain ⟨aa, ab, ao, ac, he, hlc, -, haa, hab, hrow⟩ := hxl
      cases he
      obtain ⟨x0, x1, x2, x3, g0, g1, g2, g3, gr⟩ := hrow k hl;have hab' := hab (by omega);obtain rfl := haa (by omega);obtain ⟨ea, ec, rfl, rfl, rfl, rfl⟩ := gr.form
      have HN : Hid (fitTo d x.list (k + 1) = fitTo d x.list k ++ [fitV d (unlist (d + 1) x.list[k])]) := by
        show _ = _
        rw [fitTo, List.take_succ_eq_append_getElem hl, List.map_append]; rfl
      generalize x.list[k] = z at *;obtain ⟨hzk, hzn, hzs⟩ := gr.bounds;have GR := Lib.hid gr;clear hrow hab haa hob hmine hbel XR gr p0 p1 p2;obtain ⟨la, ln, lc, rfl⟩ : ∃ a n c, lv = .slice a n c := ⟨_, _, _, HM.out.form.choose_spec.choose_spec⟩
      have HLL : Hid ((fitTo d x.list k).length ≤ 1000) := by
        show _ ≤ _
        rw [fitTo, List.length_map, List.length_take]; omega
      generalize fitTo d x.list k = L at *;have HZA : Hid (z = .mk z.kind z.num z.text z.list) := by cases z; rfl
      have key : (d = 0 ∧ pickZ z.kind 4 = 3) ∨ (d = 0 ∧ pickZ z.kind 4 ≠ 3) ∨ 0 < d := by omega
      rcases key with hc | hc | hdp
      case inl =>
        obtain ⟨hd0, hz3⟩ := hc;subst hd0;have HY : Hid (unlist (0 + 1) z = .mk 0 z.num z.text z.list) := by show _ = _; rw [unlist, if_pos ⟨Nat.le_refl _, hz3⟩]
        have HZ3 := Lib.hid hz3; clear hz3
        go_wp2_with fail
        refine (pick_any _ 4 _ hzk (by omega) (by omega)).mono ?_;rintro e w' ⟨rfl, rfl⟩;rw [HZ3.out];go_wp2_with fail
        have hy0 : (0 = 0 → pickZ 0 4 ≠ 3) := fun _ => by decide
        have GY : Hid (RepV B wr (.mk 0 z.num z.text z.list) (.int .i64 0) (.int .i64 z.num) (.string z.text) (.slice ea z.list.length ec)) := repV_mk.2 ⟨rfl, rfl, rfl, ⟨by omega, by omega⟩, hzn, hzs, GR.out.lst⟩;have XB := boxed_new wr (.int .i64 0) (.int .i64 z.num) (.string z.text) (.slice ea z.list.length ec);have HB4 := below_alloc wr (.cells #[.int .i64 0, .int .i64 z.num, .string z.text, .slice ea z.list.length ec] 27);have hs4 := World.size_alloc wr (.cells #[.int .i64 0, .int .i64 z.num, .string z.text, .slice ea z.list.length ec] 27);generalize wr.alloc (.cells #[.int .i64 0, .int .i64 z.num, .string z.text, .slice ea z.list.length ec] 27) = w4 at *;have X4 := Lib.hid (XB.on (Below.drew (Below.refl _ w4)));have HB4d := Lib.hid (HB4.trans (Below.drew (Below.refl _ w4)));have hs4d : w4.drew.heap.size = wr.heap.size + 1 := hs4;have OB4 := Lib.hid (HOB.out.on HB4d.out);have M4 := Lib.hid (HM.out.stands HB4d.out);have GY4 := Lib.hid (RepV.on HB4d.out (by omega) GY.out);have q4 := OB4.out.cells.2.2.2;obtain ⟨y0, y1, y2, y3⟩ := X4.out.cells;clear XB HB4 HOB GY GR p3;have HWD : Hid (IntKind.i64.wrap 0 = ((0 : Nat) : Int)) := by show _ = _; rw [IntKind.wrap_i64]; omega
        have HWE : Hid (IntKind.i64.wrap ((0 : Nat) : Int) = ((0 : Nat) : Int)) := by show _ = _; rw [IntKind.wrap_i64]; omega
        have HY0 := Lib.hid hy0; clear hy0
        go_region_law
          (first
            | (refine step_append_by rfl _ _ _ rfl rfl rfl HRUN.out ?_)
            | (go_simp; go_at_call 26; (try rw [HWD.out]); (try rw [HWE.out]); refine (ih (.mk 0 z.num z.text z.list) B _ _ _ _ _ (by omega) GY4.out HY0.out).mono ?_; rintro e w5 ⟨c0, c1, c2, c3, rfl, hrep, hb⟩; obtain ⟨va, vn, vc, w6, hrun, hm6, hb6, hfar⟩ := fit_append M4.out (by omega) HLL.out hb hrep 22
               have HRUN := Lib.hid hrun;have HM6 := Lib.hid hm6;have HB6 := Lib.hid hb6;have OB6 : Hid (Boxed w6 (w.heap.size + 1 + 1) (.int .i64 4) (.int .i64 0) (.string ⟨#[]⟩) (.slice la ln lc)) := (hb6.block _ (by omega)).trans OB4.out;have q5 := (OB4.out.on hb).cells.2.2.2;have q5a := ((OB4.out.on hb).on (below_alloc w5 (.cells #[c0, c1, c2, c3] 27))).cells.2.2.2;have z6 := frozen_of_row w6 _ 3 _ _ OB6.out;have q6 := OB6.out.cells.2.2.2
               clear hrun hm6 hb6 hfar hrep hb))
        all_goals
          have HF : Hid ((∃ lv, Boxed (w6.setCell ⟨w.heap.size + 1 + 1, 3, none⟩ (.slice va vn vc)) (w.heap.size + 1 + 1) (.int .i64 4) (.int .i64 0) (.string ⟨#[]⟩) lv ∧ Mine (w6.setCell ⟨w.heap.size + 1 + 1, 3, none⟩ (.slice va vn vc)) (w.heap.size + 3) (fitTo 0 x.list (k + 1)) lv) ∧ Below (w.heap.size + 2) w3 (w6.setCell ⟨w.heap.size + 1 + 1, 3, none⟩ (.slice va vn vc))) :=
            ⟨⟨_, heap_setCell_same _ _ _ _ _ _ OB6.out, by rw [HN.out, HY.out]; exact HM6.out.far (by simp) _⟩, ((HBEL.out.trans (HB4d.out.mono (by omega))).trans (HB6.out.mono (by omega))).setCell (p := ⟨w.heap.size + 1 + 1, 3, none⟩) (by simp) _⟩
          clear OB4 M4 GY4 q4 y0 y1 y2 y3 X4 HB4d HRUN HM6 HB6 OB6 q5 q5a z6 q6;go_wp2_with fail
          go_roundw
          case rel => exact ⟨k + 1, by omega, by go_num, HF.out.1, HF.out.2⟩
          case measure => simp [intOf]; omega
      case inr.inl =>
        obtain ⟨hd0, hz3⟩ := hc;subst hd0;have HY : Hid (unlist (0 + 1) z = .mk z.kind z.num z.text z.list) := by show _ = _; rw [unlist, if_neg (fun h => hz3 h.2)]; exact HZA.out
        have HQ : Hid (pickZ z.kind 4 ≠ 3) := hz3;have HZ3 := Lib.hid hz3;have hz4 : (pickZ z.kind 4 == 3) = false := beq_eq_false_iff_ne.2 hz3;clear hz3;go_wp2_with fail
        refine (pick_any _ 4 _ hzk (by omega) (by omega)).mono ?_;rintro e w' ⟨rfl, rfl⟩;go_wp2_with fail
        have hy0 : (0 = 0 → pickZ z.kind 4 ≠ 3) := fun _ => HQ.out
        have GY : Hid (RepV B wr (.mk z.kind z.num z.text z.list) (.int .i64 z.kind) (.int .i64 z.num) (.string z.text) (.slice ea z.list.length ec)) := HZA.out ▸ GR.out;have XB := boxed_new wr (.int .i64 z.kind) (.int .i64 z.num) (.string z.text) (.slice ea z.list.length ec);have HB4 := below_alloc wr (.cells #[.int .i64 z.kind, .int .i64 z.num, .string z.text, .slice ea z.list.length ec] 27);have hs4 := World.size_alloc wr (.cells #[.int .i64 z.kind, .int .i64 z.num, .string z.text, .slice ea z.list.length ec] 27);generalize wr.alloc (.cells #[.int .i64 z.kind, .int .i64 z.num, .string z.text, .slice ea z.list.length ec] 27) = w4 at *;have X4 := Lib.hid (XB.on (Below.drew (Below.refl _ w4)));have HB4d := Lib.hid (HB4.trans (Below.drew (Below.refl _ w4)));have hs4d : w4.drew.heap.size = wr.heap.size + 1 := hs4;have OB4 := Lib.hid (HOB.out.on HB4d.out);have M4 := Lib.hid (HM.out.stands HB4d.out);have GY4 := Lib.hid (RepV.on HB4d.out (by omega) GY.out);have q4 := OB4.out.cells.2.2.2;obtain ⟨y0, y1, y2, y3⟩ := X4.out.cells;clear XB HB4 HOB GY GR p3;have HWD : Hid (IntKind.i64.wrap 0 = ((0 : Nat) : Int)) := by show _ = _; rw [IntKind.wrap_i64]; omega
        have HWE : Hid (IntKind.i64.wrap ((0 : Nat) : Int) = ((0 : Nat) : Int)) := by show _ = _; rw [IntKind.wrap_i64]; omega
        have HY0 := Lib.hid hy0; clear hy0
        go_region_law
          (first
            | (refine step_append_by rfl _ _ _ rfl rfl rfl HRUN.out ?_)
            | (go_simp; go_at_call 26; (try rw [HWD.out]); (try rw [HWE.out]); refine (ih (.mk z.kind z.num z.text z.list) B _ _ _ _ _ (by omega) GY4.out HY0.out).mono ?_; rintro e w5 ⟨c0, c1, c2, c3, rfl, hrep, hb⟩; obtain ⟨va, vn, vc, w6, hrun, hm6, hb6, hfar⟩ := fit_append M4.out (by omega) HLL.out hb hrep 22
               have HRUN := Lib.hid hrun;have HM6 := Lib.hid hm6;have HB6 := Lib.hid hb6;have OB6 : Hid (Boxed w6 (w.heap.size + 1 + 1) (.int .i64 4) (.int .i64 0) (.string ⟨#[]⟩) (.slice la ln lc)) := (hb6.block _ (by omega)).trans OB4.out;have q5 := (OB4.out.on hb).cells.2.2.2;have q5a := ((OB4.out.on hb).on (below_alloc w5 (.cells #[c0, c1, c2, c3] 27))).cells.2.2.2;have z6 := frozen_of_row w6 _ 3 _ _ OB6.out;have q6 := OB6.out.cells.2.2.2
               clear hrun hm6 hb6 hfar hrep hb))
        all_goals
          have HF : Hid ((∃ lv, Boxed (w6.setCell ⟨w.heap.size + 1 + 1, 3, none⟩ (.slice va vn vc)) (w.heap.size + 1 + 1) (.int .i64 4) (.int .i64 0) (.string ⟨#[]⟩) lv ∧ Mine (w6.setCell ⟨w.heap.size + 1 + 1, 3, none⟩ (.slice va vn vc)) (w.heap.size + 3) (fitTo 0 x.list (k + 1)) lv) ∧ Below (w.heap.size + 2) w3 (w6.setCell ⟨w.heap.size + 1 + 1, 3, none⟩ (.slice va vn vc))) :=
            ⟨⟨_, heap_setCell_same _ _ _ _ _ _ OB6.out, by rw [HN.out, HY.out]; exact HM6.out.far (by simp) _⟩, ((HBEL.out.trans (HB4d.out.mono (by omega))).trans (HB6.out.mono (by omega))).setCell (p := ⟨w.heap.size + 1 + 1, 3, none⟩) (by simp) _⟩
          clear OB4 M4 GY4 q4 y0 y1 y2 y3 X4 HB4d HRUN HM6 HB6 OB6 q5 q5a z6 q6;go_wp2_with fail
          go_roundw
          case rel => exact ⟨k + 1, by omega, by go_num, HF.out.1, HF.out.2⟩
          case measure => simp [intOf]; omega
      case inr.inr =>
        have HY : Hid (unlist (d + 1) z = .mk z.kind z.num z.text z.list) := by show _ = _; rw [unlist, if_neg (by omega)]; exact HZA.out
        have hy0 : (d = 0 → pickZ z.kind 4 ≠ 3) := fun h => by omega
        have GY : Hid (RepV B wr (.mk z.kind z.num z.text z.list) (.int .i64 z.kind) (.int .i64 z.num) (.string z.text) (.slice ea z.list.length ec)) := HZA.out ▸ GR.out;go_wp2_with fail
        have XB := boxed_new wr (.int .i64 z.kind) (.int .i64 z.num) (.string z.text) (.slice ea z.list.length ec);have HB4 := below_alloc wr (.cells #[.int .i64 z.kind, .int .i64 z.num, .string z.text, .slice ea z.list.length ec] 27);have hs4 := World.size_alloc wr (.cells #[.int .i64 z.kind, .int .i64 z.num, .string z.text, .slice ea z.list.length ec] 27);generalize wr.alloc (.cells #[.int .i64 z.kind, .int .i64 z.num, .string z.text, .slice ea z.list.length ec] 27) = w4 at *;have X4 := Lib.hid (XB.on (Below.drew (Below.refl _ w4)));have HB4d := Lib.hid (HB4.trans (Below.drew (Below.refl _ w4)));have hs4d : w4.drew.heap.size = wr.heap.size + 1 := hs4;have OB4 := Lib.hid (HOB.out.on HB4d.out);have M4 := Lib.hid (HM.out.stands HB4d.out);have GY4 := Lib.hid (RepV.on HB4d.out (by omega) GY.out);have q4 := OB4.out.cells.2.2.2;obtain ⟨y0, y1, y2, y3⟩ := X4.out.cells;clear XB HB4 HOB GY GR p3;have HWD : Hid (IntKind.i64.wrap ((d : Int) + 1 - 1) = ((d : Nat) : Int)) := by show _ = _; rw [IntKind.wrap_i64]; omega
        have HWE : Hid (IntKind.i64.wrap ((d : Nat) : Int) = ((d : Nat) : Int)) := by show _ = _; rw [IntKind.wrap_i64]; omega
        have HY0 := Lib.hid hy0; clear hy0
        go_region_law
          (first
            | (refine step_append_by rfl _ _ _ rfl rfl rfl HRUN.out ?_)
            | (go_simp; go_at_call 26; (try rw [HWD.out]); (try rw [HWE.out]); refine (ih (.mk z.kind z.num z.text z.list) B _ _ _ _ _ (by omega) GY4.out HY0.out).mono ?_; rintro e w5 ⟨c0, c1, c2, c3, rfl, hrep, hb⟩; obtain ⟨va, vn, vc, w6, hrun, hm6, hb6, hfar⟩ := fit_append M4.out (by omega) HLL.out hb hrep 22
               have HRUN := Lib.hid hrun;have HM6 := Lib.hid hm6;have HB6 := Lib.hid hb6;have OB6 : Hid (Boxed w6 (w.heap.size + 1 + 1) (.int .i64 4) (.int .i64 0) (.string ⟨#[]⟩) (.slice la ln lc)) := (hb6.block _ (by omega)).trans OB4.out;have q5 := (OB4.out.on hb).cells.2.2.2;have q5a := ((OB4.out.on hb).on (below_alloc w5 (.cells #[c0, c1, c2, c3] 27))).cells.2.2.2;have z6 := frozen_of_row w6 _ 3 _ _ OB6.out;have q6 := OB6.out.cells.2.2.2
               clear hrun hm6 hb6 hfar hrep hb))
        all_goals
          have HF : Hid ((∃ lv, Boxed (w6.setCell ⟨w.heap.size + 1 + 1, 3, none⟩ (.slice va vn vc)) (w.heap.size + 1 + 1) (.int .i64 4) (.int .i64 0) (.string ⟨#[]⟩) lv ∧ Mine (w6.setCell ⟨w.heap.size + 1 + 1, 3, none⟩ (.slice va vn vc)) (w.heap.size + 3) (fitTo d x.list (k + 1)) lv) ∧ Below (w.heap.size + 2) w3 (w6.setCell ⟨w.heap.size + 1 + 1, 3, none⟩ (.slice va vn vc))) :=
            ⟨⟨_, heap_setCell_same _ _ _ _ _ _ OB6.out, by rw [HN.out, HY.out]; exact HM6.out.far (by simp) _⟩, ((HBEL.out.trans (HB4d.out.mono (by omega))).trans (HB6.out.mono (by omega))).setCell (p := ⟨w.heap.size + 1 + 1, 3, none⟩) (by simp) _⟩
          clear OB4 M4 GY4 q4 y0 y1 y2 y3 X4 HB4d HRUN HM6 HB6 OB6 q5 q5a z6 q6;go_wp2_with fail
          go_roundw
          case rel => exact ⟨k + 1, by omega, by go_num, HF.out.1, HF.out.2⟩
          case measure => simp [intOf]; omega
    · have hke : k = n := by omega
      have HT : Hid (fitTo d x.list k = fitTo d x.list 16) := by
        show _ = _
        rw [fitTo, fitTo, hke, hn, take_min]
      have HTL : Hid ((fitTo d x.list 16).length * 56 ≤ 140737488355328) := by
        show _ ≤ _
        rw [fitTo, List.length_map, List.length_take]; omega
      rw [HT.out] at hmine;generalize fitTo d x.list 16 = L at *;have HM := Lib.hid hmine;obtain ⟨la, ln, lc, rfl⟩ : ∃ a n c, lv = .slice a n c := ⟨_, _, _, hmine.form.choose_spec.choose_spec⟩;have RR : Boxed wr (w.heap.size + 1) (.int .i64 0) (.int .i64 0) (.string ⟨#[]⟩) (.slice none 0 0) := (hbel.block _ (by omega)).trans R3.out;have XR : Boxed wr w.heap.size (.int .i64 x.kind) (.int .i64 x.num) (.string x.text) (.slice fa x.list.length fc) := (hbel.block w.heap.size (by omega)).trans X3.out;have hwr : w.heap.size + 3 ≤ wr.heap.size := by have := hbel.size; omega
      have HB := Lib.hid (stored_below (k := w.heap.size + 1) (by omega) (B3.out.trans (hbel.mono (by omega))) (.int .i64 4) (.int .i64 0) (.string ⟨#[]⟩) (.slice la ln lc));have HM4 := Lib.hid ((((hmine.far (p := ⟨w.heap.size + 1, 0, none⟩) (by simp) (.int .i64 4)).far (p := ⟨w.heap.size + 1, 1, none⟩) (by simp) (.int .i64 0)).far (p := ⟨w.heap.size + 1, 2, none⟩) (by simp) (.string ⟨#[]⟩)).far (p := ⟨w.heap.size + 1, 3, none⟩) (by simp) (.slice la ln lc));obtain ⟨p0, p1, p2, p3⟩ := hob.cells;obtain ⟨r0, r1, r2, r3⟩ := RR.cells;have v3 := XR.cells.2.2.2;have z0 := frozen_of_row wr _ 0 _ _ RR;have z1 := frozen_of_row wr _ 1 _ _ RR;have z2 := frozen_of_row wr _ 2 _ _ RR;have z3 := frozen_of_row wr _ 3 _ _ RR;clear hob hmine hbel HT;have hcase : x.list.length ≤ k ∨ (k < x.list.length ∧ k = 16) := by omega
      clear hke hn hlt;rcases hcase with hc | ⟨hc, hc'⟩
      case' inr => subst hc'
      all_goals
        clear RR XR;go_wp2_with fail
        refine bodyPost_ret (v := .agg #[.int .i64 4, .int .i64 0, .string ⟨#[]⟩, .slice la ln lc]) (by simp [results, Try.results26, go_sem, r0, r1, r2, r3]) rfl ?_;rw [HE.out];refine ⟨_, _, _, _, rfl, repG_mk.2 ⟨rfl, rfl, rfl, ⟨by omega, by omega⟩, ⟨by omega, by omega⟩, by unfold maxLen; simp [ByteArray.size], OwnL.rep HM4.out (fun k hk => ⟨by omega, hk.2.1⟩) (fun g h1 h2 => ⟨by omega, h2⟩) HTL.out⟩, HB.out⟩
theorem fit_any : ∀ d : Nat, d < 1000 → FitAt d
 | 0, _ => fun x B w c0 c1 c2 c3 hB hx h => by
  obtain ⟨fa, fc, rfl, rfl, rfl, rfl⟩ := hx.form;obtain ⟨hk, hn, hs⟩ := RepG.bounds hx;have hp := pickZ_bd x.kind 4 (by omega);have h3 := h rfl;rcases (show pickZ x.kind 4 = 0 ∨ pickZ x.kind 4 = 1 ∨ pickZ x.kind 4 = 2 by omega) with e | e | e
  ·exact fit_num x _ w _ _ _ hk hn e
  ·exact fit_text x _ w _ _ _ hk hs e
  ·exact fit_addr x _ w _ _ _ hk hs e
 | d + 1, hd => fun x B w c0 c1 c2 c3 hB hx _ => by
  obtain ⟨fa, fc, rfl, rfl, rfl, rfl⟩ := hx.form;obtain ⟨hk, hn, hs⟩ := RepG.bounds hx;have hp := pickZ_bd x.kind 4 (by omega);rcases (show pickZ x.kind 4 = 0 ∨ pickZ x.kind 4 = 1 ∨ pickZ x.kind 4 = 2 ∨ pickZ x.kind 4 = 3 by omega) with e | e | e | e
  ·rw [fitV, if_neg (by omega)]; exact fit_num x _ w _ _ _ hk hn e
  ·rw [fitV, if_neg (by omega)]; exact fit_text x _ w _ _ _ hk hs e
  ·rw [fitV, if_neg (by omega)]; exact fit_addr x _ w _ _ _ hk hs e
  ·exact fit_list d (by omega) (fit_any d (by omega)) x B w fa fc hB hx e
end Go.Proofs.Ytbkligcfllakeaa
namespace Go.Proofs.Ytbkligcfllakeaa
open Go.RowKit
theorem Fit_any (x : V) (B : Nat) (w : World) (c0 c1 c2 c3 : Value) (hB : B ≤ w.heap.size) (hx : RepV B w x c0 c1 c2 c3) :
  Calls Try.prog 10 #[.agg #[c0, c1, c2, c3]] w (FitPost (fitV 4 x) w) := by
 obtain ⟨fa, fc, rfl, rfl, rfl, rfl⟩ := hx.form;have HX := Lib.hid hx; clear hx
 go_enter Try.func10, Try.ntmps10
 go_wp2_with fail
 have b1 := below_alloc w (.cells #[.int .i64 x.kind, .int .i64 x.num, .string x.text, .slice fa x.list.length fc] 27);have s1 := World.size_alloc w (.cells #[.int .i64 x.kind, .int .i64 x.num, .string x.text, .slice fa x.list.length fc] 27);generalize w.alloc (.cells #[.int .i64 x.kind, .int .i64 x.num, .string x.text, .slice fa x.list.length fc] 27) = w1 at *;have r2 := boxed_new w1 (.int .i64 0) (.int .i64 0) (.string ⟨#[]⟩) (.slice none 0 0);have b2 := below_alloc w1 (.cells #[.int .i64 0, .int .i64 0, .string ⟨#[]⟩, .slice none 0 0] 27);have s2 := World.size_alloc w1 (.cells #[.int .i64 0, .int .i64 0, .string ⟨#[]⟩, .slice none 0 0] 27);generalize w1.alloc (.cells #[.int .i64 0, .int .i64 0, .string ⟨#[]⟩, .slice none 0 0] 27) = w2 at *;rw [s1] at r2;have B2 := Below.step b1 b2;refine (fit_any 4 (by omega) x B _ _ _ _ _ (by omega) (RepV.on B2 hB HX.out) (fun h => by omega)).mono ?_;rintro e w3 ⟨c0, c1, c2, c3, rfl, hrep, hb⟩;have RR := r2.on hb;have HR := Lib.hid hrep;have HB := Lib.hid (stored_below (k := w.heap.size + 1) (by omega) (Below.step B2 hb) c0 c1 c2 c3);obtain ⟨fa', fc', rfl, rfl, rfl, rfl⟩ := hrep.form;generalize fitV 4 x = y at *;clear r2 b1 b2 B2 hb hrep;obtain ⟨r0, r1, r2, r3⟩ := RR.cells;have z0 := frozen_of_row w3 _ 0 _ _ RR;have z1 := frozen_of_row w3 _ 1 _ _ RR;have z2 := frozen_of_row w3 _ 2 _ _ RR;have z3 := frozen_of_row w3 _ 3 _ _ RR;clear RR;go_wp2_with fail
 refine bodyPost_ret (v := .agg #[.int .i64 y.kind, .int .i64 y.num, .string y.text, .slice fa' y.list.length fc']) (by simp [results, Try.results10, go_sem, r0, r1, r2, r3]) rfl ?_;refine ⟨_, _, _, _, rfl, HR.out.on (fun b hb => ⟨by omega, by simp [World.setCell]; exact hb.2⟩) (fun b hb => ?_), HB.out⟩;rw [Below.heap_setCell _ _ _ _ (by simp; omega), Below.heap_setCell _ _ _ _ (by simp; omega), Below.heap_setCell _ _ _ _ (by simp; omega), Below.heap_setCell _ _ _ _ (by simp; omega)]
end Go.Proofs.Ytbkligcfllakeaa
namespace Go.Proofs.Ytbkligcfllakeaa
open Go.RowKit
section
variable {α β : Type} {K1 : Kd α} {K2 : Kd β}
def TwoS (w : World) (base : Nat) (v1 v2 : Value) (b : Nat) : Prop := base ≤ b ∧ b < w.heap.size ∧ v1.ownBlock ≠ some b ∧ v2.ownBlock ≠ some b
def TwoR (K1 : Kd α) (K2 : Kd β) (w : World) (base : Nat) (L1 : List α) (v1 : Value) (L2 : List β) (v2 : Value) : Prop :=
 OwnK K1 (TwoS w base v1 v2) w base L1 v1 ∧ OwnK K2 (TwoS w base v1 v2) w base L2 v2 ∧ ∀ k, v1.ownBlock = some k → v2.ownBlock ≠ some k
theorem TwoR.nil (w : World) (base : Nat) : TwoR K1 K2 w base [] (.slice none 0 0) [] (.slice none 0 0) := ⟨OwnK.nil _ _ _, OwnK.nil _ _ _, fun k h => by simp [Value.ownBlock] at h⟩
theorem TwoR.swap {w : World} {base : Nat} {L1 : List α} {v1 : Value} {L2 : List β} {v2 : Value} (h : TwoR K1 K2 w base L1 v1 L2 v2) : TwoR K2 K1 w base L2 v2 L1 v1 :=
 ⟨OwnK.on h.2.1 (fun _ hk => ⟨hk.1, hk.2.1, hk.2.2.2, hk.2.2.1⟩) (fun _ _ => rfl) (fun _ _ _ _ => rfl), OwnK.on h.1 (fun _ hk => ⟨hk.1, hk.2.1, hk.2.2.2, hk.2.2.1⟩) (fun _ _ => rfl) (fun _ _ _ _ => rfl), fun k h2 h1 => h.2.2 k h1 h2⟩
theorem TwoR.on {w w' : World} {base : Nat} {L1 : List α} {v1 : Value} {L2 : List β} {v2 : Value} (h : TwoR K1 K2 w base L1 v1 L2 v2) (hb : Below w.heap.size w w') : TwoR K1 K2 w' base L1 v1 L2 v2 :=
  ⟨OwnK.on h.1 (fun _ hk => ⟨hk.1, Nat.lt_of_lt_of_le hk.2.1 hb.size, hk.2.2⟩) (fun k hk => hb.block k hk.2.1) (fun k _ hk _ => hb.block k hk),
   OwnK.on h.2.1 (fun _ hk => ⟨hk.1, Nat.lt_of_lt_of_le hk.2.1 hb.size, hk.2.2⟩) (fun k hk => hb.block k hk.2.1) (fun k _ hk _ => hb.block k hk), h.2.2⟩
theorem TwoR.lies {w : World} {base : Nat} {L1 : List α} {v1 : Value} {L2 : List β} {v2 : Value} (h : TwoR K1 K2 w base L1 v1 L2 v2) : (∀ k, v1.ownBlock = some k → base ≤ k ∧ k < w.heap.size) ∧ (∀ k, v2.ownBlock = some k → base ≤ k ∧ k < w.heap.size) :=
 ⟨fun k hk => OwnK.lies h.1 k hk, fun k hk => OwnK.lies h.2.1 k hk⟩
theorem TwoR.left {w : World} {base b : Nat} {L1 : List α} {v1 : Value} {L2 : List β} {v2 : Value} {y : α} {cs : Array Value} {t : TypeId} {fz : Nat × Nat} {c : Nat → Value} (h : TwoR K1 K2 w base L1 v1 L2 v2) (hB : base ≤ w.heap.size) (hlen : L1.length ≤ 1000)
  (hb : w.heap[b]? = some (.cells cs t fz)) (hc : ∀ j, j < K1.n → cs[j]? = some (c j)) (hR : K1.R (TwoS w base v1 v2) w y c) (ty : TypeId) :
  ∃ (a : Option Addr) (cap : Nat) (w6 : World), (Builtin.append_ #[K1.ST, K1.ST] ty #[v1, .slice (some ⟨b, 0, none⟩) 1 1]).run Try.prog w = .ok (.slice a (L1.length + 1) cap) w6 ∧ TwoR K1 K2 w6 base (L1 ++ [y]) (.slice a (L1.length + 1) cap) L2 v2 ∧ Below base w w6 ∧ w.heap.size ≤ w6.heap.size ∧ (∀ k, k < w.heap.size → v1.ownBlock ≠ some k → w6.heap[k]? = w.heap[k]?) ∧ ((Value.slice a (L1.length + 1) cap).ownBlock = v1.ownBlock ∨ (Value.slice a (L1.length + 1) cap).ownBlock = some w.heap.size) := by
 have hl := h.lies;obtain ⟨v', w6, hrun, ho, hg, h5⟩ := own_manyH (S1 := fun _ => True) (m := [y]) h.1 (one_row (S := TwoS w base v1 v2) (c := c) hb trivial hc hR) (fun k hk => ⟨hk.2.1, hk.2.2.1⟩) hB (by simp; omega) ty;obtain ⟨a, cap, rfl⟩ := OwnK.form ho
 have hsub : ∀ k, TwoS w base v1 v2 k → TwoS w6 base (.slice a (L1 ++ [y]).length cap) v2 k := fun k hk => ⟨hk.1, Nat.lt_of_lt_of_le hk.2.1 hg.size, fun e => by
  rcases h5 with h5 | h5
  ·exact hk.2.2.1 (h5.symm.trans e)
  ·rw [h5] at e; have := Option.some.inj e; have := hk.2.1; omega, hk.2.2.2⟩
 have ho1 := OwnK.on ho hsub (fun _ _ => rfl) (fun _ _ _ _ => rfl);have ho2 : OwnK K2 (TwoS w6 base (.slice a (L1 ++ [y]).length cap) v2) w6 base L2 v2 := OwnK.on h.2.1 hsub (fun k hk => hg.block k hk.2.1 (fun e => hk.2.2.1 e.symm)) (fun k _ h2 h3 => hg.block k h2 (fun e => h.2.2 k e.symm h3))
 have ho3 : ∀ k, (Value.slice a (L1 ++ [y]).length cap).ownBlock = some k → v2.ownBlock ≠ some k := fun k hk h3 => by
  rcases h5 with h5 | h5
  ·exact h.2.2 k (h5.symm.trans hk) h3
  ·rw [h5] at hk; have := (hl.2 k h3).2; have := Option.some.inj hk; omega
 rw [List.length_append, List.length_singleton] at hrun ho1 ho2 ho3 h5;exact ⟨a, cap, w6, hrun, ⟨ho1, ho2, ho3⟩, ⟨hg.os, hg.tape, hg.output, hg.size, fun k hk => hg.block k (by omega) (fun e => by have := (hl.1 k e.symm).1; omega)⟩, hg.size, fun k hk hne => hg.block k hk (fun e => hne e.symm), h5⟩
theorem TwoR.form {w : World} {base : Nat} {L1 : List α} {v1 : Value} {L2 : List β} {v2 : Value} (h : TwoR K1 K2 w base L1 v1 L2 v2) : (∃ a c, v1 = .slice a L1.length c) ∧ ∃ a c, v2 = .slice a L2.length c := ⟨OwnK.form h.1, OwnK.form h.2.1⟩
theorem TwoR.slg {w : World} {base : Nat} {L1 : List α} {v1 : Value} {L2 : List β} {v2 : Value} (h : TwoR K1 K2 w base L1 v1 L2 v2) (hl : L1.length ≤ 100000) : SlG (fun b => b < w.heap.size) w K1.n K1.bytes (K1.R (fun b => b < w.heap.size) w) L1 v1 :=
 OwnK.slg' h.1 (fun _ hk => hk.2.1) (fun _ _ h2 => h2) hl
end
theorem cmp_refl9 (x : V) : cmpV x x = 0 := by have := (ord_value x x x).sym; omega
theorem match_short (E : List Bd) (T : List Tm) (M : List V) (hl : T.length ≠ M.length) : matchZ T M E = none := by
 unfold matchZ;rw [if_neg (fun h => hl h.1)]
end Go.Proofs.Ytbkligcfllakeaa
namespace Go.Proofs.Ytbkligcfllakeaa
open Go.RowKit
theorem strAdd (a b : ByteArray) (h : a.size + b.size ≤ 140737488355328) : Op.stringOp .add a b = pure (.string (a ++ b)) := by
 simp only [Op.stringOp]
 rw [if_neg (by rw [show IntKind.i64.max = 9223372036854775807 from by decide]; omega)]
end Go.Proofs.Ytbkligcfllakeaa
