/-
  PrinterJoins, the walk: for any program the law returns true.
-/
import Derived.Test.YtgjemmdhamkngaaGreatDoorJ20
import Derived.Test.YtgjemmdhamkngaaGreatDoorJ21
namespace Go.Proofs.YtgjemmdhamkngaaGreatDoor.printerJoins
open Go.RowKit

/-- The text of the relations, of so many facts, of so many rules. -/
def partL (x : Pr) (i j : Nat) : List UInt8 := showPr ⟨x.decls, x.facts.take i, x.rules.take j⟩
def partT (x : Pr) (i j : Nat) : ByteArray := ⟨(partL x i j).toArray⟩
theorem listB_take {α : Type} {R : α → Bool} {l : List α} (h : listB 0 64 R l = true) (i : Nat) : listB 0 64 R (l.take i) = true := by
  obtain ⟨h1, h2, h3⟩ := listB_bounds h
  rw [listB_some (by omega) (by simp; omega), List.all_eq_true]
  intro y hy
  exact h3 y (List.mem_of_mem_take hy)
theorem part_right {x : Pr} (h : prB x = true) (i j : Nat) : prB ⟨x.decls, x.facts.take i, x.rules.take j⟩ = true := by
  rw [prB] at h ⊢
  simp only [Bool.and_eq_true] at h ⊢
  exact ⟨h.1, listB_take h.2.1 i, listB_take h.2.2 j⟩
theorem part_size {x : Pr} (h : prB x = true) (i j : Nat) : (partT x i j).size ≤ 140737488355328 := by
  rw [partT, size_mk]; exact showPr_fits (part_right h i j)
theorem lines_snoc {α : Type} (f : α → List UInt8) (l : List α) {i : Nat} (h : i < l.length) : linesOf ((l.take (i + 1)).map f) = linesOf ((l.take i).map f) ++ (f l[i] ++ [10]) := by
  rw [take_map_succ f l h]
  simp [linesOf]
theorem part_fact (x : Pr) {i : Nat} (h : i < x.facts.length) : partT x (i + 1) 0 = partT x i 0 ++ ⟨(showFa x.facts[i]).toArray⟩ ++ ⟨#[10]⟩ := by
  have e : partL x (i + 1) 0 = partL x i 0 ++ showFa x.facts[i] ++ [10] := by
    simp only [partL, showPr, List.take_zero, List.map_nil]
    rw [lines_snoc showFa x.facts h]
    simp [linesOf]
  unfold partT
  rw [e]
  apply ByteArray.ext
  simp
theorem part_rule (x : Pr) {j : Nat} (h : j < x.rules.length) : partT x x.facts.length (j + 1) = partT x x.facts.length j ++ ⟨(showRu x.rules[j]).toArray⟩ ++ ⟨#[10]⟩ := by
  have e : partL x x.facts.length (j + 1) = partL x x.facts.length j ++ showRu x.rules[j] ++ [10] := by
    simp only [partL, showPr]
    rw [lines_snoc showRu x.rules h]
    simp
  unfold partT
  rw [e]
  apply ByteArray.ext
  simp
theorem part_full (x : Pr) : partT x x.facts.length x.rules.length = ⟨(showPr x).toArray⟩ := by
  rw [partT, partL, List.take_length, List.take_length]
theorem told_true {b : Bool} {l : List UInt8} (h : b = true) : told b l = l := by rw [h]; rfl

set_option maxRecDepth 100000 in
set_option maxHeartbeats 3000000 in
theorem walk (x : Pr) (W : World) (c0 c1 c2 : Value) (htab : TabOk W) (g : RepPr (fun k => k < W.heap.size) W x c0 c1 c2) :
    Calls Tryz.prog 8 #[.agg #[c0, c1, c2]] W fun e W' => e = .returned (.bool true) ∧ Below W.heap.size W W' := by
  have G0 := Lib.hid g
  obtain ⟨fa, fc, rfl⟩ := SlG.form g.1
  obtain ⟨ga, gc, rfl⟩ := SlG.form g.2.1
  obtain ⟨ha, hc, rfl⟩ := SlG.form g.2.2
  have HG := Lib.hid (tab_lt htab); have HT := Lib.hid htab
  clear g htab
  go_enter Tryz.func8, Tryz.ntmps8
  go_wp2_with fail
  have x0 := boxPr_new W (.slice fa x.decls.length fc) (.slice ga x.facts.length gc) (.slice ha x.rules.length hc)
  have d0 := below_alloc W (.cells #[.slice fa x.decls.length fc, .slice ga x.facts.length gc, .slice ha x.rules.length hc] 26)
  generalize W.alloc (.cells #[.slice fa x.decls.length fc, .slice ga x.facts.length gc, .slice ha x.rules.length hc] 26) = w0 at *
  have B0 := Lib.hid d0; have X0 := Lib.hid x0
  clear d0 x0
  refine (awake4_any _ (Nat.lt_of_lt_of_le HG.out B0.out.size) (HT.out.below HG.out B0.out)).mono ?_
  rintro e w1 ⟨rfl, hb⟩
  have B1 := Lib.hid (Below.step B0.out hb); have X1 := Lib.hid (X0.out.on hb)
  clear hb B0 X0
  obtain ⟨p0, p1, p2⟩ := X1.out.cells
  go_wp2_with fail
  clear p0 p1 p2
  refine (fitPr_any x (fun k => k < W.heap.size) w1 _ _ _ (fun k hk => Nat.lt_of_lt_of_le hk B1.out.size) (RepPr.on (fun _ h => h) (fun k hk => B1.out.block k hk) G0.out)).mono ?_
  rintro e w2 ⟨v0, v1, v2, rfl, hrep, hb⟩
  have HQR := Lib.hid (fitPr_right x)
  generalize fitPr x = q at *
  obtain ⟨fa2, fc2, rfl⟩ := SlG.form hrep.1
  obtain ⟨ga2, gc2, rfl⟩ := SlG.form hrep.2.1
  obtain ⟨ha2, hc2, rfl⟩ := SlG.form hrep.2.2
  have mk := boxPr_new w2 (.slice fa2 q.decls.length fc2) (.slice ga2 q.facts.length gc2) (.slice ha2 q.rules.length hc2)
  have da := below_alloc w2 (.cells #[.slice fa2 q.decls.length fc2, .slice ga2 q.facts.length gc2, .slice ha2 q.rules.length hc2] 26)
  have GQ := Lib.hid (RepPr.on (S' := fun k => k < (w2.alloc (.cells #[.slice fa2 q.decls.length fc2, .slice ga2 q.facts.length gc2, .slice ha2 q.rules.length hc2] 26)).heap.size) (fun k hk => Nat.lt_of_lt_of_le hk.2 da.size) (fun k hk => da.block k hk.2) hrep)
  have B3 := Lib.hid (Below.step B1.out (Below.step hb da))
  have XQ := Lib.hid mk
  obtain ⟨r0, r1, r2⟩ := mk.cells
  clear mk da hrep hb
  go_wp2_with fail
  clear r0 r1 r2
  generalize w2.alloc (.cells #[.slice fa2 q.decls.length fc2, .slice ga2 q.facts.length gc2, .slice ha2 q.rules.length hc2] 26) = w3 at *
  obtain ⟨k2, hk2⟩ : ∃ k, w2.heap.size = k := ⟨_, rfl⟩
  rw [hk2] at XQ ⊢
  clear hk2
  have HP0 : Hid (prB ⟨q.decls, [], []⟩ = true) := part_right HQR.out 0 0
  refine (prPr_any ⟨q.decls, [], []⟩ (fun k => k < w3.heap.size) w3 _ _ _ (fun _ h => h) (Nat.lt_of_lt_of_le HG.out B3.out.size) (HT.out.below HG.out B3.out) ⟨GQ.out.1, slg_nil, slg_nil⟩ (fun h => showPr_fits h)).mono ?_
  rw [told_true HP0.out]
  rintro e w4 ⟨rfl, hb⟩
  have B4 := Lib.hid (Below.step B3.out hb); have X4 := Lib.hid (XQ.out.on hb)
  have G4 := Lib.hid (RepPr.on (S' := fun k => k < w4.heap.size) (fun k hk => Nat.lt_of_lt_of_le hk hb.size) (fun k hk => hb.block k hk) GQ.out)
  clear hb XQ GQ B3 X1 B1 HP0
  have HF64 : Hid (q.facts.length ≤ 1000) := by
    show _ ≤ _
    have h := HQR.out
    rw [prB] at h
    simp only [Bool.and_eq_true] at h
    have := (listB_bounds h.2.1).2.1
    omega
  have HR64 : Hid (q.rules.length ≤ 1000) := by
    show _ ≤ _
    have h := HQR.out
    rw [prB] at h
    simp only [Bool.and_eq_true] at h
    have := (listB_bounds h.2.2).2.1
    omega
  have HFR : Hid (∀ y ∈ q.facts, faB y = true) := by
    have h := HQR.out
    rw [prB] at h
    simp only [Bool.and_eq_true] at h
    exact (listB_bounds h.2.1).2.2
  have HRR : Hid (∀ y ∈ q.rules, ruB y = true) := by
    have h := HQR.out
    rw [prB] at h
    simp only [Bool.and_eq_true] at h
    exact (listB_bounds h.2.2).2.2
  go_wp2_with fail
  go_loopw [5, 6] (fun s iv wr => ∃ k : Nat, k ≤ q.facts.length ∧ s = .string (partT q k 0) ∧ iv = .int .i64 k ∧ Below w4.heap.size w4 wr) (fun _ iv _ => q.facts.length - (intOf iv).toNat)
  case atStart => exact ⟨0, Nat.zero_le _, rfl, rfl, Below.refl _ _⟩
  case round =>
    obtain ⟨k, hk, rfl, rfl, hbel⟩ := hrel
    have HBEL := Lib.hid hbel; have XR := Lib.hid (X4.out.on hbel); have BR := Lib.hid (Below.step B4.out hbel)
    have HSZ : Hid (∀ j, j < w4.heap.size → j < wr.heap.size) := fun j hj => Nat.lt_of_lt_of_le hj hbel.size
    obtain ⟨p0, p1, p2⟩ := XR.out.cells
    by_cases hl : k < q.facts.length
    · have hA := (RepFas.on (fun _ h => h) (fun j hj => hbel.block j hj) G4.out.2.1 : RepFas (fun k => k < w4.heap.size) wr q.facts (.slice ga2 q.facts.length gc2))
      obtain ⟨-, hcap2, lb, lo, xa, xc, hga2, hSb, g0, g1, g⟩ := RepFas.at hA k hl
      rw [hga2] at p1
      have G := Lib.hid g
      have hk1 : (0 : Int) ≤ (k : Int) := Int.natCast_nonneg k
      have hk2 : (k : Int) < (q.facts.length : Int) := by omega
      have HYR := Lib.hid (HFR.out _ (List.getElem_mem hl))
      have HPS := Lib.hid (part_fact q hl)
      have hps := part_size HQR.out (k + 1) 0
      rw [HPS.out, ByteArray.size_append, ByteArray.size_append] at hps
      have hps2 : (partT q k 0).size + (⟨(showFa q.facts[k]).toArray⟩ : ByteArray).size + 1 ≤ 140737488355328 := hps
      have y1 := strAdd (partT q k 0) ⟨(showFa q.facts[k]).toArray⟩ (by omega)
      have y2 := strAdd (partT q k 0 ++ ⟨(showFa q.facts[k]).toArray⟩) ⟨#[10]⟩ (by rw [ByteArray.size_append]; exact hps2)
      have HKL : Hid (k < q.facts.length) := hl
      clear hA g hga2 hSb hbel hcap2 hps hps2
      generalize q.facts[k] = y at *
      go_wp2_with fail
      refine (prFa_any y (fun k => k < w4.heap.size) wr _ _ HSZ.out (Nat.lt_of_lt_of_le HG.out BR.out.size) (HT.out.below HG.out BR.out) G.out (fun h => showFa_fits h)).mono ?_
      rw [told_true HYR.out]
      rintro e w5 ⟨rfl, hb⟩
      have HB := Lib.hid (Below.step HBEL.out hb)
      clear p0 p1 p2 g0 g1 hb hk1 hk2
      go_wp2_with fail
      go_roundw
      case rel => exact ⟨k + 1, HKL.out, by rw [HPS.out], (by have := HKL.out; have := HF64.out; rw [show wrap64 ((k : Int) + 1) = ((k + 1 : Nat) : Int) by unfold wrap64; omega]), HB.out⟩
      case measure => exact measure_up HKL.out HF64.out
    · obtain rfl : k = q.facts.length := by omega
      have B5 := BR; have X5 := XR
      have G5 := Lib.hid (RepPr.on (S' := fun k => k < wr.heap.size) (fun k hk => HSZ.out k hk) (fun k hk => hbel.block k hk) G4.out)
      clear hbel HBEL HSZ XR BR hk hl
      generalize wr = wm at *
      go_wp2_with fail
      clear p0 p1 p2
      go_loopw [5, 7] (fun s iv wr => ∃ k : Nat, k ≤ q.rules.length ∧ s = .string (partT q q.facts.length k) ∧ iv = .int .i64 k ∧ Below wm.heap.size wm wr) (fun _ iv _ => q.rules.length - (intOf iv).toNat)
      case atStart => exact ⟨0, Nat.zero_le _, rfl, rfl, Below.refl _ _⟩
      case round =>
        obtain ⟨k, hk, rfl, rfl, hbel⟩ := hrel
        have HBEL := Lib.hid hbel; have XR := Lib.hid (X5.out.on hbel); have BR := Lib.hid (Below.step B5.out hbel)
        have HSZ : Hid (∀ j, j < wm.heap.size → j < wr.heap.size) := fun j hj => Nat.lt_of_lt_of_le hj hbel.size
        obtain ⟨p0, p1, p2⟩ := XR.out.cells
        by_cases hl : k < q.rules.length
        · have hA := (RepRus.on (fun _ h => h) (fun j hj => hbel.block j hj) G5.out.2.2 : RepRus (fun k => k < wm.heap.size) wr q.rules (.slice ha2 q.rules.length hc2))
          obtain ⟨-, hcap2, lb, lo, xa, xc, ya, yc, hga2, hSb, g0, g1, g2, g3, g4, g5, g⟩ := RepRus.at hA k hl
          rw [hga2] at p2
          have G := Lib.hid g
          have hk1 : (0 : Int) ≤ (k : Int) := Int.natCast_nonneg k
          have hk2 : (k : Int) < (q.rules.length : Int) := by omega
          have HYR := Lib.hid (HRR.out _ (List.getElem_mem hl))
          have HPS := Lib.hid (part_rule q hl)
          have hps := part_size HQR.out q.facts.length (k + 1)
          rw [HPS.out, ByteArray.size_append, ByteArray.size_append] at hps
          have hps2 : (partT q q.facts.length k).size + (⟨(showRu q.rules[k]).toArray⟩ : ByteArray).size + 1 ≤ 140737488355328 := hps
          have y1 := strAdd (partT q q.facts.length k) ⟨(showRu q.rules[k]).toArray⟩ (by omega)
          have y2 := strAdd (partT q q.facts.length k ++ ⟨(showRu q.rules[k]).toArray⟩) ⟨#[10]⟩ (by rw [ByteArray.size_append]; exact hps2)
          have HKL : Hid (k < q.rules.length) := hl
          clear hA g hga2 hSb hbel hcap2 hps hps2
          generalize q.rules[k] = y at *
          go_wp2_with fail
          refine (prRu_any y (fun k => k < wm.heap.size) wr _ _ _ _ _ _ HSZ.out (Nat.lt_of_lt_of_le HG.out BR.out.size) (HT.out.below HG.out BR.out) G.out (fun h => showRu_fits h)).mono ?_
          rw [told_true HYR.out]
          rintro e w5 ⟨rfl, hb⟩
          have HB := Lib.hid (Below.step HBEL.out hb)
          clear p0 p1 p2 g0 g1 g2 g3 g4 g5 hb hk1 hk2
          go_wp2_with fail
          go_roundw
          case rel => exact ⟨k + 1, HKL.out, by rw [HPS.out], (by have := HKL.out; have := HR64.out; rw [show wrap64 ((k : Int) + 1) = ((k + 1 : Nat) : Int) by unfold wrap64; omega]), HB.out⟩
          case measure => exact measure_up HKL.out HR64.out
        · obtain rfl : k = q.rules.length := by omega
          have G6 := Lib.hid (RepPr.on (S' := fun k => k < wr.heap.size) (fun k hk => HSZ.out k hk) (fun k hk => hbel.block k hk) G5.out)
          clear hbel
          rw [part_full]
          go_wp2_with fail
          refine (prPr_any q (fun k => k < wr.heap.size) wr _ _ _ (fun _ h => h) (Nat.lt_of_lt_of_le HG.out BR.out.size) (HT.out.below HG.out BR.out) G6.out (fun h => showPr_fits h)).mono ?_
          rw [told_true HQR.out]
          rintro e w6 ⟨rfl, hb⟩
          have B6 := Lib.hid (Below.step BR.out hb)
          clear p0 p1 p2 hb
          go_wp2_with fail
          go_ret
          exact ⟨rfl, B6.out⟩

end Go.Proofs.YtgjemmdhamkngaaGreatDoor.printerJoins
