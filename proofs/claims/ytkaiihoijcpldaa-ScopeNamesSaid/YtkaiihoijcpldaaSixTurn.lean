/-
  Layer 6's own 'turn' and 'turned': terms with other names for their variables.
-/
import Derived.Test.YtkaiihoijcpldaaRowMine
import Derived.Test.YtkaiihoijcpldaaSixNames
import Derived.Test.YtkaiihoijcpldaaW17
import Derived.Test.YtkaiihoijcpldaaStrAdd
namespace Go.Proofs.Ytkaiihoijcpldaa
open Go.RowKit

def st7 (w : World) (b : Nat) (c0 c1 c2 c3 c4 c5 c6 : Value) : World := ((((((w.setCell ⟨b, 0, none⟩ c0).setCell ⟨b, 1, none⟩ c1).setCell ⟨b, 2, none⟩ c2).setCell ⟨b, 3, none⟩ c3).setCell ⟨b, 4, none⟩ c4).setCell ⟨b, 5, none⟩ c5).setCell ⟨b, 6, none⟩ c6
theorem st7_size (w : World) (b : Nat) (c0 c1 c2 c3 c4 c5 c6 : Value) : (st7 w b c0 c1 c2 c3 c4 c5 c6).heap.size = w.heap.size := by simp [st7, World.setCell]
theorem st7_other (w : World) (b : Nat) (c0 c1 c2 c3 c4 c5 c6 : Value) (k : Nat) (h : k ≠ b) : (st7 w b c0 c1 c2 c3 c4 c5 c6).heap[k]? = w.heap[k]? := by
  unfold st7
  rw [Below.heap_setCell _ _ _ _ h, Below.heap_setCell _ _ _ _ h, Below.heap_setCell _ _ _ _ h, Below.heap_setCell _ _ _ _ h, Below.heap_setCell _ _ _ _ h, Below.heap_setCell _ _ _ _ h, Below.heap_setCell _ _ _ _ h]
theorem st7_below {w0 w : World} {B b : Nat} (h : Below B w0 w) (hb : B ≤ b) (c0 c1 c2 c3 c4 c5 c6 : Value) : Below B w0 (st7 w b c0 c1 c2 c3 c4 c5 c6) :=
  ((((((h.setCell (p := ⟨b, 0, none⟩) hb c0).setCell (p := ⟨b, 1, none⟩) hb c1).setCell (p := ⟨b, 2, none⟩) hb c2).setCell (p := ⟨b, 3, none⟩) hb c3).setCell (p := ⟨b, 4, none⟩) hb c4).setCell (p := ⟨b, 5, none⟩) hb c5).setCell (p := ⟨b, 6, none⟩) hb c6
theorem fr7 {w : World} {b : Nat} {d0 d1 d2 d3 d4 d5 d6 : Value} (h : BoxM w b d0 d1 d2 d3 d4 d5 d6) (i : Nat) : w.frozen? ⟨b, i, none⟩ = false := frozen_of_row w b i _ _ h

def TurnAt (t : Tm) : Prop := ∀ (S : Nat → Prop) (w : World) (c0 c1 c2 c3 c4 c5 c6 : Value), (∀ k, S k → k < w.heap.size) → RepM S w t c0 c1 c2 c3 c4 c5 c6 →
  Calls Try.prog 26 #[.agg #[c0, c1, c2, c3, c4, c5, c6]] w fun e w' => ∃ d0 d1 d2 d3 d4 d5 d6, e = .returned (.agg #[d0, d1, d2, d3, d4, d5, d6]) ∧ RepM (fun b => S b ∨ (w.heap.size ≤ b ∧ b < w'.heap.size)) w' (turnM t) d0 d1 d2 d3 d4 d5 d6 ∧ Below w.heap.size w w'
def TurnedAt (l : List Tm) : Prop := ∀ (S : Nat → Prop) (w : World) (v : Value), (∀ k, S k → k < w.heap.size) → RepMs S w l v →
  Calls Try.prog 12 #[v] w fun e w' => ∃ u, e = .returned u ∧ RepMs (fun b => S b ∨ (w.heap.size ≤ b ∧ b < w'.heap.size)) w' (turnL l) u ∧ Below w.heap.size w w'
theorem arity_two (k : Nat) : fnArity k ≤ 2 := by
  match k with
  | 0 => decide
  | 1 => decide
  | 2 => decide
  | 3 => decide
  | 4 => decide
  | 5 => decide
  | 6 => decide
  | 7 => decide
  | 8 => decide
  | k + 9 => show (-1 : Int) ≤ 2; decide
theorem turnL_take (l : List Tm) {k : Nat} (h : k < l.length) : turnL (l.take (k + 1)) = turnL (l.take k) ++ [turnM l[k]] := by
  rw [turnL_map, turnL_map, List.take_succ_eq_append_getElem h, List.map_append]; rfl
theorem turnL_len (l : List Tm) : (turnL l).length = l.length := by rw [turnL_map, List.length_map]

set_option maxRecDepth 100000 in
set_option maxHeartbeats 4000000 in
theorem turned_of (l : List Tm) (hl8 : l.length ≤ 8) (h : ∀ t ∈ l, TurnAt t) : TurnedAt l := by
  intro S w v hS hl
  have HL := Lib.hid hl; have HS := Lib.hid hS; have HH := Lib.hid h; have HLN := Lib.hid hl8
  obtain ⟨ga, gc, rfl⟩ := SlG.form hl
  clear hl hS h hl8
  go_enter Try.func12, Try.ntmps12
  go_wp2_with fail
  go_loopw [3, 4] (fun ov iv wr => ∃ k : Nat, k ≤ l.length ∧ iv = .int .i64 (k : Int) ∧ MineS kdTm S wr w.heap.size (turnL (l.take k)) ov ∧ Below w.heap.size w wr) (fun _ iv _ => l.length - (intOf iv).toNat)
  case atStart => exact ⟨0, Nat.zero_le _, rfl, MineS.nil _ _, Below.refl _ _⟩
  case round =>
    obtain ⟨k, hk, rfl, hm, hb⟩ := hrel
    have HM := Lib.hid hm; have HB := Lib.hid hb
    clear hm hb
    by_cases hlt : k < l.length
    · have i1 : decide ((k : Int) < (l.length : Int)) = true := decide_eq_true (by omega)
      have i2 : decide (k < l.length) = true := decide_eq_true hlt
      obtain ⟨-, -, lb, lo, fa, fc, xa, xc, hga, hlb, g0, g1, g2, g3, g4, g5, g6, g⟩ := RepMs.at HL.out k hlt
      have hlw : lb < w.heap.size := HS.out lb hlb
      replace g0 := (HB.out.cell (p := ⟨lb, lo + k * 7, none⟩) hlw).trans g0
      replace g1 := (HB.out.cell (p := ⟨lb, lo + k * 7 + 1, none⟩) hlw).trans g1
      replace g2 := (HB.out.cell (p := ⟨lb, lo + k * 7 + 2, none⟩) hlw).trans g2
      replace g3 := (HB.out.cell (p := ⟨lb, lo + k * 7 + 3, none⟩) hlw).trans g3
      replace g4 := (HB.out.cell (p := ⟨lb, lo + k * 7 + 4, none⟩) hlw).trans g4
      replace g5 := (HB.out.cell (p := ⟨lb, lo + k * 7 + 5, none⟩) hlw).trans g5
      replace g6 := (HB.out.cell (p := ⟨lb, lo + k * 7 + 6, none⟩) hlw).trans g6
      have hk1 : (0 : Int) ≤ (k : Int) := Int.natCast_nonneg k
      have hk2 : (k : Int) < (l.length : Int) := by omega
      have HTA := Lib.hid (HH.out l[k] (List.getElem_mem hlt))
      have HTK := Lib.hid (turnL_take l hlt)
      have HKL := Lib.hid hlt
      have HG : Hid (RepM S wr l[k] (.int .i64 l[k].kind) (.string l[k].name) (.int .i64 l[k].val.kind) (.int .i64 l[k].val.num) (.string l[k].val.text) (.slice fa l[k].val.list.length fc) (.slice xa l[k].args.length xc)) := RepM.on (fun _ h => h) (fun b hb => HB.out.block b (HS.out b hb)) _ g
      have HLL : Hid ((turnL (l.take k)).length ≤ 1000) := by show _ ≤ _; rw [turnL_len, List.length_take]; have := HLN.out; omega
      subst hga
      clear g hlb hlw
      generalize l[k] = t at *
      clear hk hlt
      go_wp2_with fail
      refine (HTA.out S wr _ _ _ _ _ _ _ (fun b hb => Nat.lt_of_lt_of_le (HS.out b hb) HB.out.size) HG.out).mono ?_
      rintro e w2 ⟨d0, d1, d2, d3, d4, d5, d6, rfl, hrep, hb⟩
      obtain ⟨xfa, xfc, xga, xgc, rfl, rfl, rfl, rfl, rfl, rfl, rfl⟩ := hrep.form
      generalize turnM t = y at *
      have da := below_alloc w2 (.cells #[.int .i64 y.kind, .string y.name, .int .i64 y.val.kind, .int .i64 y.val.num, .string y.val.text, .slice xfa y.val.list.length xfc, .slice xga y.args.length xgc] 48)
      have hm3 := (HM.out.on hb).on da
      have hs2 := hb.size; have hs3 := da.size; have hs0 := HB.out.size
      have hR : kdTm.R (fun b => (S b ∨ w.heap.size ≤ b) ∧ b < (w2.alloc (.cells #[.int .i64 y.kind, .string y.name, .int .i64 y.val.kind, .int .i64 y.val.num, .string y.val.text, .slice xfa y.val.list.length xfc, .slice xga y.args.length xgc] 48)).heap.size ∧ u3.ownBlock ≠ some b) (w2.alloc (.cells #[.int .i64 y.kind, .string y.name, .int .i64 y.val.kind, .int .i64 y.val.num, .string y.val.text, .slice xfa y.val.list.length xfc, .slice xga y.args.length xgc] 48)) y (at7o (.int .i64 y.kind) (.string y.name) (.int .i64 y.val.kind) (.int .i64 y.val.num) (.string y.val.text) (.slice xfa y.val.list.length xfc) (.slice xga y.args.length xgc)) :=
        RepM.on (fun b hb' => by
          rcases hb' with hb' | hb'
          · have h1 := HS.out b hb'
            exact ⟨.inl hb', by omega, fun e => by have := (HM.out.lies b e).1; omega⟩
          · exact ⟨.inr (by omega), by omega, fun e => by have := (HM.out.lies b e).2; omega⟩) (fun b hb' => da.block b (by rcases hb' with hb' | hb'; have h1 := HS.out b hb'; omega; exact hb'.2)) y hrep
      obtain ⟨a6, cap6, w6, hrun, hm6, hg6⟩ := MineS.append hm3 (by omega) HLL.out (alloc_new' w2 _) (fun j hj => match j, hj with | 0, _ => rfl | 1, _ => rfl | 2, _ => rfl | 3, _ => rfl | 4, _ => rfl | 5, _ => rfl | 6, _ => rfl) hR 36
      have hb6 : Below w.heap.size w w6 := by
        have h3 := Below.step (Below.step HB.out hb) da
        exact ⟨hg6.os.trans h3.os, hg6.tape.trans h3.tape, hg6.output.trans h3.output, Nat.le_trans h3.size hg6.size, fun b hb' => (hg6.block b (Nat.lt_of_lt_of_le hb' h3.size) (fun e => by have := (HM.out.lies b e.symm).1; omega)).trans (h3.block b hb')⟩
      have HRUN := Lib.hid hrun; have HM6 := Lib.hid hm6; have HB6 := Lib.hid hb6
      clear hrep hb da hm3 hs2 hs3 hs0 hR hrun hm6 hg6 hb6 g0 g1 g2 g3 g4 g5 g6 hk1 hk2 i1 i2
      go_wp2_with (at_builtin; refine wpList_append_by rfl _ _ _ rfl rfl rfl HRUN.out ?_)
      go_roundw
      case rel => exact ⟨k + 1, HKL.out, (by have := HKL.out; have := HLN.out; rw [show wrap64 ((k : Int) + 1) = ((k + 1 : Nat) : Int) by unfold wrap64; omega]), by rw [HTK.out]; exact HM6.out, HB6.out⟩
      case measure => exact measure_up HKL.out (by have := HLN.out; omega)
    · have i1 : decide ((k : Int) < (l.length : Int)) = false := decide_eq_false (by omega)
      have i2 : decide (k < l.length) = false := decide_eq_false hlt
      have hkk : l.take k = l := List.take_of_length_le (by omega)
      rw [hkk] at HM
      clear hkk
      go_wp2_with fail
      go_ret
      refine ⟨_, rfl, ?_, HB.out⟩
      have h := HM.out.slg (by rw [turnL_len]; have := HLN.out; omega)
      exact SlG.on (fun b hb => hb.1.imp (fun h => h) (fun h => ⟨h, hb.2⟩)) (fun _ _ => rfl) (fun x _ c hx => RepM.on (fun b hb => hb.1.imp (fun h => h) (fun h => ⟨h, hb.2⟩)) (fun _ _ => rfl) x hx) h

set_option maxRecDepth 100000 in
set_option maxHeartbeats 4000000 in
theorem turn_of (d : Nat) (t : Tm) (hr : rightM (d + 1) t = true) (h : TurnedAt t.args) : TurnAt t := by
  intro S w c0 c1 c2 c3 c4 c5 c6 hS ht
  have HT := Lib.hid ht; have HS := Lib.hid hS; have HH := Lib.hid h
  obtain ⟨fa, fc, xa, xc, rfl, rfl, rfl, rfl, rfl, rfl, rfl⟩ := ht.form
  have hnm : t.kind = 1 → t.name.size ≤ 16 := by
    intro hk
    cases t with
    | mk k s x l =>
      rw [rightM, if_pos (show k = 1 from hk)] at hr
      simp only [Bool.and_eq_true] at hr
      have hv := hr.1
      rw [varB, decide_eq_true_eq] at hv
      exact hv.2.1
  have HNM := Lib.hid hnm
  clear ht hS h hr hnm
  go_enter Try.func26, Try.ntmps26
  go_upto_region 1 with fail
  have mk1 := boxM_new w (.int .i64 t.kind) (.string t.name) (.int .i64 t.val.kind) (.int .i64 t.val.num) (.string t.val.text) (.slice fa t.val.list.length fc) (.slice xa t.args.length xc)
  have da1 := below_alloc w (.cells #[.int .i64 t.kind, .string t.name, .int .i64 t.val.kind, .int .i64 t.val.num, .string t.val.text, .slice fa t.val.list.length fc, .slice xa t.args.length xc] 48)
  have sa1 := World.size_alloc w (.cells #[.int .i64 t.kind, .string t.name, .int .i64 t.val.kind, .int .i64 t.val.num, .string t.val.text, .slice fa t.val.list.length fc, .slice xa t.args.length xc] 48)
  have mk2 := boxM_new (w.alloc (.cells #[.int .i64 t.kind, .string t.name, .int .i64 t.val.kind, .int .i64 t.val.num, .string t.val.text, .slice fa t.val.list.length fc, .slice xa t.args.length xc] 48)) (.int .i64 0) (.string ⟨#[]⟩) (.int .i64 0) (.int .i64 0) (.string ⟨#[]⟩) (.slice none 0 0) (.slice none 0 0)
  have da2 := below_alloc (w.alloc (.cells #[.int .i64 t.kind, .string t.name, .int .i64 t.val.kind, .int .i64 t.val.num, .string t.val.text, .slice fa t.val.list.length fc, .slice xa t.args.length xc] 48)) (.cells #[.int .i64 0, .string ⟨#[]⟩, .int .i64 0, .int .i64 0, .string ⟨#[]⟩, .slice none 0 0, .slice none 0 0] 48)
  have sa2 := World.size_alloc (w.alloc (.cells #[.int .i64 t.kind, .string t.name, .int .i64 t.val.kind, .int .i64 t.val.num, .string t.val.text, .slice fa t.val.list.length fc, .slice xa t.args.length xc] 48)) (.cells #[.int .i64 0, .string ⟨#[]⟩, .int .i64 0, .int .i64 0, .string ⟨#[]⟩, .slice none 0 0, .slice none 0 0] 48)
  have X1 : Hid (BoxM ((w.alloc (.cells #[.int .i64 t.kind, .string t.name, .int .i64 t.val.kind, .int .i64 t.val.num, .string t.val.text, .slice fa t.val.list.length fc, .slice xa t.args.length xc] 48)).alloc (.cells #[.int .i64 0, .string ⟨#[]⟩, .int .i64 0, .int .i64 0, .string ⟨#[]⟩, .slice none 0 0, .slice none 0 0] 48)) w.heap.size (.int .i64 t.kind) (.string t.name) (.int .i64 t.val.kind) (.int .i64 t.val.num) (.string t.val.text) (.slice fa t.val.list.length fc) (.slice xa t.args.length xc)) := mk1.on da2
  rw [sa1] at mk2 sa2
  have B1 := Lib.hid (Below.step da1 da2)
  have X2 := Lib.hid mk2
  have KK : Hid (((w.alloc (.cells #[.int .i64 t.kind, .string t.name, .int .i64 t.val.kind, .int .i64 t.val.num, .string t.val.text, .slice fa t.val.list.length fc, .slice xa t.args.length xc] 48)).alloc (.cells #[.int .i64 0, .string ⟨#[]⟩, .int .i64 0, .int .i64 0, .string ⟨#[]⟩, .slice none 0 0, .slice none 0 0] 48)).heap.size = w.heap.size + 1 + 1) := sa2
  clear mk1 da1 sa1 mk2 da2 sa2
  generalize (w.alloc (.cells #[.int .i64 t.kind, .string t.name, .int .i64 t.val.kind, .int .i64 t.val.num, .string t.val.text, .slice fa t.val.list.length fc, .slice xa t.args.length xc] 48)).alloc (.cells #[.int .i64 0, .string ⟨#[]⟩, .int .i64 0, .int .i64 0, .string ⟨#[]⟩, .slice none 0 0, .slice none 0 0] 48) = w1 at *
  obtain ⟨p0, p1, p2, p3, p4, p5, p6⟩ := X1.out.cells
  by_cases hk : t.kind = 1
  · have hk1 : (t.kind == 1) = true := by simp [hk]
    have hz := HNM.out hk
    have hadd := strAdd ⟨#[78]⟩ t.name (by show 1 + t.name.size ≤ _; omega)
    have hnp : (⟨#[78]⟩ : ByteArray) ++ t.name = nPre t.name := rfl
    rw [hnp] at hadd
    have HE : Hid (turnM t = .mk 1 (nPre t.name) zV []) := by show _ = _; rw [turnM_eq, if_pos hk]
    have hsz : (nPre t.name).size ≤ maxLen := by
      have : (nPre t.name).size = 1 + t.name.size := by rw [nPre, ByteArray.size_append]; rfl
      rw [this]; unfold maxLen; omega
    have HSZ := Lib.hid hsz
    have z0 := fr7 X2.out 0; have z1 := fr7 X2.out 1; have z2 := fr7 X2.out 2; have z3 := fr7 X2.out 3; have z4 := fr7 X2.out 4; have z5 := fr7 X2.out 5; have z6 := fr7 X2.out 6
    obtain ⟨r0, r1, r2, r3, r4, r5, r6⟩ := X2.out.cells
    clear hk hz hsz hnp
    go_wp2_with fail
    refine bodyPost_ret (v := .agg #[.int .i64 1, .string (nPre t.name), .int .i64 0, .int .i64 0, .string ⟨#[]⟩, .slice none 0 0, .slice none 0 0]) (by simp [results, Try.results26, go_sem, r0, r1, r2, r3, r4, r5, r6]) rfl ?_
    rw [HE.out]
    exact ⟨_, _, _, _, _, _, _, rfl, repM_mk.2 ⟨rfl, rfl, small64 (by omega), HSZ.out, zV_rep _ _, slg_nil⟩, st7_below (b := w.heap.size + 1) B1.out (by omega) _ _ _ _ _ _ _⟩
  · have hk1 : (t.kind == 1) = false := by simpa using hk
    have HE : Hid (turnM t = .mk t.kind t.name t.val (turnL t.args)) := by show _ = _; rw [turnM_eq, if_neg hk]
    clear hk
    go_upto_region 4 with fail
    have mk3 := boxM_new w1 (.int .i64 t.kind) (.string t.name) (.int .i64 t.val.kind) (.int .i64 t.val.num) (.string t.val.text) (.slice fa t.val.list.length fc) (.slice xa t.args.length xc)
    have da3 := below_alloc w1 (.cells #[.int .i64 t.kind, .string t.name, .int .i64 t.val.kind, .int .i64 t.val.num, .string t.val.text, .slice fa t.val.list.length fc, .slice xa t.args.length xc] 48)
    have sa3 := World.size_alloc w1 (.cells #[.int .i64 t.kind, .string t.name, .int .i64 t.val.kind, .int .i64 t.val.num, .string t.val.text, .slice fa t.val.list.length fc, .slice xa t.args.length xc] 48)
    generalize w1.alloc (.cells #[.int .i64 t.kind, .string t.name, .int .i64 t.val.kind, .int .i64 t.val.num, .string t.val.text, .slice fa t.val.list.length fc, .slice xa t.args.length xc] 48) = w2 at *
    have Y1 := X1.out.on da3; have Y2 := Lib.hid (X2.out.on da3)
    have B2 := Lib.hid (Below.step B1.out da3)
    obtain ⟨k3, hk3⟩ : ∃ k, w1.heap.size = k := ⟨_, rfl⟩
    rw [hk3] at mk3 da3 sa3 KK ⊢
    have Y3 := Lib.hid mk3
    have HK3 : Hid (k3 = w.heap.size + 1 + 1 ∧ w2.heap.size = k3 + 1) := ⟨KK.out, sa3⟩
    clear p0 p1 p2 p3 p4 p5 p6 mk3 da3 sa3 hk3 X1 X2 KK
    obtain ⟨p0, p1, p2, p3, p4, p5, p6⟩ := Y1.cells
    clear Y1
    go_wp2_with fail
    refine (HH.out S w2 _ (fun b hb => by have := HS.out b hb; have := HK3.out; omega) (RepMs.on (fun _ h => h) (fun b hb => B2.out.block b (HS.out b hb)) HT.out.lst)).mono ?_
    rintro e w3 ⟨u, rfl, hrep, hb⟩
    obtain ⟨ua, uc, rfl⟩ := SlG.form hrep
    have Z2 := Lib.hid (Y2.out.on hb); have z3 := Y3.out.on hb
    have HRP := Lib.hid hrep
    have hs3 := hb.size
    have B3 := Lib.hid (Below.step B2.out hb); have HV := Lib.hid (Below.step B2.out hb)
    have HK4 : Hid (w2.heap.size ≤ w3.heap.size) := hs3
    clear p0 p1 p2 p3 p4 p5 p6 hrep hb hs3 Y2 Y3
    obtain ⟨p0, p1, p2, p3, p4, p5, p6⟩ := z3.cells
    have f6 := fr7 z3 6
    go_upto_region 5 with fail
    have Z3 : Hid (BoxM (w3.setCell ⟨k3, 6, none⟩ (.slice ua (turnL t.args).length uc)) k3 (.int .i64 t.kind) (.string t.name) (.int .i64 t.val.kind) (.int .i64 t.val.num) (.string t.val.text) (.slice fa t.val.list.length fc) (.slice ua (turnL t.args).length uc)) := heap_setCell_same _ _ _ _ _ _ z3
    have Z2' : Hid (BoxM (w3.setCell ⟨k3, 6, none⟩ (.slice ua (turnL t.args).length uc)) (w.heap.size + 1) (.int .i64 0) (.string ⟨#[]⟩) (.int .i64 0) (.int .i64 0) (.string ⟨#[]⟩) (.slice none 0 0) (.slice none 0 0)) := (Below.heap_setCell _ _ _ _ (by have := HK3.out; simp; omega)).trans Z2.out
    have B4 : Hid (Below w.heap.size w (w3.setCell ⟨k3, 6, none⟩ (.slice ua (turnL t.args).length uc))) := Below.setCell (p := ⟨k3, 6, none⟩) B3.out (by have := HK3.out; simp; omega) _
    have hblk : ∀ b, b ≠ k3 → (w3.setCell ⟨k3, 6, none⟩ (.slice ua (turnL t.args).length uc)).heap[b]? = w3.heap[b]? := fun b hb => Below.heap_setCell _ _ _ _ hb
    have HBK := Lib.hid hblk
    have HSZ : Hid ((w3.setCell ⟨k3, 6, none⟩ (.slice ua (turnL t.args).length uc)).heap.size = w3.heap.size) := by show _ = _; simp [World.setCell]
    clear p0 p1 p2 p3 p4 p5 p6 f6 z3 Z2 B3 hblk
    generalize w3.setCell ⟨k3, 6, none⟩ (.slice ua (turnL t.args).length uc) = w4 at *
    obtain ⟨p0, p1, p2, p3, p4, p5, p6⟩ := Z3.out.cells
    obtain ⟨r0, r1, r2, r3, r4, r5, r6⟩ := Z2'.out.cells
    have f0 := fr7 Z2'.out 0; have f1 := fr7 Z2'.out 1; have f2 := fr7 Z2'.out 2; have f3 := fr7 Z2'.out 3; have f4 := fr7 Z2'.out 4; have f5 := fr7 Z2'.out 5; have f6 := fr7 Z2'.out 6
    go_wp2_with fail
    refine bodyPost_ret (v := .agg #[.int .i64 t.kind, .string t.name, .int .i64 t.val.kind, .int .i64 t.val.num, .string t.val.text, .slice fa t.val.list.length fc, .slice ua (turnL t.args).length uc]) (by simp [results, Try.results26, go_sem, r0, r1, r2, r3, r4, r5, r6]) rfl ?_
    rw [HE.out]
    have hw : ∀ b, (S b ∨ (w2.heap.size ≤ b ∧ b < w3.heap.size)) → (st7 w4 (w.heap.size + 1) (.int .i64 t.kind) (.string t.name) (.int .i64 t.val.kind) (.int .i64 t.val.num) (.string t.val.text) (.slice fa t.val.list.length fc) (.slice ua (turnL t.args).length uc)).heap[b]? = w3.heap[b]? := fun b hb => by
      have h1 := HK3.out; have h2 := HK4.out
      have h3 : b ≠ k3 ∧ b ≠ w.heap.size + 1 := by
        rcases hb with hb | hb
        · have := HS.out b hb; omega
        · omega
      rw [st7_other _ _ _ _ _ _ _ _ _ b h3.2]
      exact HBK.out b h3.1
    have hsub : ∀ b, (S b ∨ (w2.heap.size ≤ b ∧ b < w3.heap.size)) → (S b ∨ (w.heap.size ≤ b ∧ b < (st7 w4 (w.heap.size + 1) (.int .i64 t.kind) (.string t.name) (.int .i64 t.val.kind) (.int .i64 t.val.num) (.string t.val.text) (.slice fa t.val.list.length fc) (.slice ua (turnL t.args).length uc)).heap.size)) := fun b hb => by
      have h1 := HK3.out; have h2 := HSZ.out
      rw [st7_size]
      rcases hb with hb | hb
      · exact .inl hb
      · exact .inr (by omega)
    refine ⟨_, _, _, _, _, _, _, rfl, repM_mk.2 ⟨rfl, rfl, HT.out.bounds.1, HT.out.bounds.2, ?_, RepMs.on hsub hw HRP.out⟩, st7_below (b := w.heap.size + 1) B4.out (by omega) _ _ _ _ _ _ _⟩
    exact RepG.on (fun b hb => .inl hb) (fun b hb => (hw b (.inl hb)).trans ((HV.out.block b (HS.out b hb)))) t.val HT.out.value

theorem turn_any : ∀ (d : Nat) (t : Tm), rightM d t = true → TurnAt t
  | 0, t, h => by rw [rightM] at h; cases h
  | d + 1, t, h => by
    have hargs : t.args.length ≤ 8 ∧ ∀ x ∈ t.args, rightM d x = true := by
      cases t with
      | mk k s x l =>
        rw [rightM] at h
        by_cases h1 : k = 1
        · rw [if_pos h1] at h
          simp only [Bool.and_eq_true, List.isEmpty_iff] at h
          rw [show (Tm.mk k s x l).args = l from rfl, h.2.2]; simp
        · rw [if_neg h1] at h
          by_cases h2 : k = 2
          · rw [if_pos h2] at h
            simp only [Bool.and_eq_true, List.isEmpty_iff] at h
            rw [show (Tm.mk k s x l).args = l from rfl, h.2.2]; simp
          · rw [if_neg h2] at h
            by_cases h3 : k = 3
            · rw [if_pos h3] at h
              simp only [Bool.and_eq_true] at h
              obtain ⟨b1, b2, b3⟩ := listB_bounds h.2
              have := arity_two (fnOf s)
              exact ⟨by show l.length ≤ 8; omega, b3⟩
            · rw [if_neg h3] at h
              by_cases h4 : k = 4
              · rw [if_pos h4] at h
                simp only [Bool.and_eq_true] at h
                obtain ⟨b1, b2, b3⟩ := listB_bounds h.2.2
                exact ⟨by show l.length ≤ 8; omega, b3⟩
              · rw [if_neg h4] at h; cases h
    exact turn_of d t h (turned_of t.args hargs.1 (fun x hx => turn_any d x (hargs.2 x hx)))
theorem turned_any (d : Nat) (l : List Tm) (h8 : l.length ≤ 8) (h : ∀ t ∈ l, rightM d t = true) : TurnedAt l := turned_of l h8 (fun t ht => turn_any d t (h t ht))

end Go.Proofs.Ytkaiihoijcpldaa
