/-
  value.List and the other makers, as contracts: a list is copied all the way down.
-/
import Derived.Test.YtgpgjaenbhbbgaaDoorBase
import Derived.Test.YtgpgjaenbhbbgaaDoorShelf
import Derived.WalkSpells
import Derived.WalkLawsBesides
namespace Go.Proofs.YtgpgjaenbhbbgaaDoor
open Go.RowKit

theorem infoValue : (Tryd.prog.info? 24).map (fun i => (i.zero, i.size, i.bytes)) = some (some (.agg #[.int .i64 0, .int .i64 0, .string ⟨#[]⟩, .slice none 0 0]), 4, 56) := by kernel_rfl

/-- The blank row that 'make' lays. -/
def blank (n : Nat) : Array Value := madeCells #[.int .i64 0, .int .i64 0, .string ⟨#[]⟩, .slice none 0 0] (n * 4)
theorem blank_size (n : Nat) : (blank n).size = n * 4 := size_madeCells _ _

/-- 'copied': the same values, in new blocks. -/
def CopyAt (l : List V) : Prop := ∀ (B : Nat) (w : World) (a : Value), B ≤ w.heap.size → RepL B w l a →
  Calls Tryd.prog 36 #[a] w fun e w' => ∃ r, e = .returned r ∧ RepLG (fun b => w.heap.size ≤ b ∧ b < w'.heap.size) w' l r ∧ Below w.heap.size w w'

theorem run_make4 (w : World) (n : Nat) (hn : n * 56 ≤ 140737488355328) :
    (Instr.makeSlice 22 (.int .i64 n) (.int .i64 n)).run Tryd.prog w = .ok (.slice (some ⟨w.heap.size, 0, none⟩) n n) (w.alloc (.cells (blank n) 24)) := by
  obtain ⟨i0, hi, hz0, hz1, hz2⟩ := info_parts infoValue
  have h := Go.run_make (P := Tryd.prog) w 22 24 i0 _ Tryd.underlying22 hi hz0 .i64 .i64 n n (by omega) (by omega) (by rw [hz2]; omega) (by omega)
  rw [h, hz1, Int.toNat_natCast]
  rfl

/-- Behind k rounds of the copying loop: the row M holds copies of the first k values. -/
def CopyInv (l : List V) (k : Nat) (w wr : World) : Prop :=
  ∃ cur, wr.heap[w.heap.size]? = some (.cells cur 24 (0, 0)) ∧ cur.size = l.length * 4 ∧ RepRow (fun b => w.heap.size < b ∧ b < wr.heap.size) wr (l.take k) cur ∧ Below w.heap.size w wr

theorem alloc_new' (w : World) (o : Obj) : (w.alloc o).heap[w.heap.size]? = some o := by
  show (w.heap.push o)[w.heap.size]? = _
  simp

theorem CopyInv.start (l : List V) (w : World) : CopyInv l 0 w (w.alloc (.cells (blank l.length) 24)) :=
  ⟨_, alloc_new' _ _, blank_size _, fun i hi => by simp at hi, (Below.refl _ w).alloc (Nat.le_refl _) _⟩

theorem CopyInv.finish {l : List V} {w wr : World} (h : CopyInv l l.length w wr) (hl : l.length * 56 ≤ 140737488355328) :
    RepLG (fun b => w.heap.size ≤ b ∧ b < wr.heap.size) wr l (.slice (some ⟨w.heap.size, 0, none⟩) l.length l.length) ∧ Below w.heap.size w wr := by
  obtain ⟨cur, hb, hs, hr, hbel⟩ := h
  rw [List.take_length] at hr
  exact ⟨(hr.on (fun k hk => ⟨by omega, hk.2⟩) (fun _ _ => rfl)).slice hb ⟨Nat.le_refl _, (Array.getElem?_eq_some_iff.1 hb).1⟩ (Nat.le_refl _) hl, hbel⟩

/-- One round: the box is made, its list copied, the four cells laid. -/
theorem CopyInv.step {l : List V} {k : Nat} {w wr w3 : World} (h : CopyInv l k w wr) (hk : k < l.length) {o : Obj} {r : Value} (hb3 : Below (wr.alloc o).heap.size (wr.alloc o) w3)
    {c0 c1 c2 : Value} (hx : RepG (fun b => w.heap.size < b ∧ b < w3.heap.size ∧ b ≠ wr.heap.size) w3 l[k] c0 c1 c2 r) (r' : Value) :
    CopyInv l (k + 1) w ((((((w3.setCell ⟨wr.heap.size, 3, none⟩ r').setCell ⟨w.heap.size, k * 4, none⟩ c0).setCell ⟨w.heap.size, k * 4 + 1, none⟩ c1).setCell ⟨w.heap.size, k * 4 + 2, none⟩ c2).setCell ⟨w.heap.size, k * 4 + 3, none⟩ r)) := by
  obtain ⟨cur, hb, hs, hr, hbel⟩ := h
  have hlt : w.heap.size < wr.heap.size := (Array.getElem?_eq_some_iff.1 hb).1
  have hs3 := hb3.size
  simp only [World.size_alloc] at hs3
  have e3 : w3.heap[w.heap.size]? = some (.cells cur 24 (0, 0)) := by
    rw [hb3.block _ (by simp; omega), Below.heap_alloc _ _ _ hlt]; exact hb
  have e4 : (w3.setCell ⟨wr.heap.size, 3, none⟩ r').heap[w.heap.size]? = some (.cells cur 24 (0, 0)) := by
    rw [Below.heap_setCell _ _ _ _ (by simp; omega)]; exact e3
  have keep : ∀ b, b ≠ w.heap.size → b ≠ wr.heap.size → ((((((w3.setCell ⟨wr.heap.size, 3, none⟩ r').setCell ⟨w.heap.size, k * 4, none⟩ c0).setCell ⟨w.heap.size, k * 4 + 1, none⟩ c1).setCell ⟨w.heap.size, k * 4 + 2, none⟩ c2).setCell ⟨w.heap.size, k * 4 + 3, none⟩ r)).heap[b]? = w3.heap[b]? := by
    intro b h1 h2
    rw [Below.heap_setCell _ _ _ _ (by simpa using h1), Below.heap_setCell _ _ _ _ (by simpa using h1), Below.heap_setCell _ _ _ _ (by simpa using h1), Below.heap_setCell _ _ _ _ (by simpa using h1), Below.heap_setCell _ _ _ _ (by simpa using h2)]
  have hsz : ((((((w3.setCell ⟨wr.heap.size, 3, none⟩ r').setCell ⟨w.heap.size, k * 4, none⟩ c0).setCell ⟨w.heap.size, k * 4 + 1, none⟩ c1).setCell ⟨w.heap.size, k * 4 + 2, none⟩ c2).setCell ⟨w.heap.size, k * 4 + 3, none⟩ r)).heap.size = w3.heap.size := by
    simp [World.setCell]
  refine ⟨put4 cur (k * 4) c0 c1 c2 r, ?_, by rw [put4_size]; exact hs, ?_, ?_⟩
  · exact heap_setCell_same _ _ _ _ _ _ (heap_setCell_same _ _ _ _ _ _ (heap_setCell_same _ _ _ _ _ _ (heap_setCell_same _ _ _ _ _ _ e4)))
  · rw [List.take_succ_eq_append_getElem hk]
    have hlen : (l.take k).length = k := by simp; omega
    have h1 : RepRow (fun b => w.heap.size < b ∧ b < w3.heap.size ∧ b ≠ wr.heap.size) w3 (l.take k) cur := hr.on (fun b hb => ⟨hb.1, by omega, by omega⟩) (fun b hb => by rw [hb3.block _ (by simp; omega), Below.heap_alloc _ _ _ hb.2])
    have h2 := h1.snoc hx (by rw [hlen, hs]; omega)
    rw [hlen] at h2
    exact h2.on (fun b hb => ⟨hb.1, by rw [hsz]; exact hb.2.1⟩) (fun b hb => keep b (by omega) hb.2.2)
  · have hw3 : Below w.heap.size w w3 := (hbel.alloc (by omega) o).trans (hb3.mono (by simp; omega))
    exact ((((hw3.setCell (by simp; omega) _).setCell (Nat.le_refl _) _).setCell (Nat.le_refl _) _).setCell (Nat.le_refl _) _).setCell (Nat.le_refl _) _

theorem cell_of_block' {w : World} {k i : Nat} {cs : Array Value} {t : TypeId} {fz : Nat × Nat} (h : w.heap[k]? = some (.cells cs t fz)) (v : Value) (hv : cs[i]? = some v) : w.cell? ⟨k, i, none⟩ = some v := by
  simp [World.cell?, h, hv]
theorem cell_some {w : World} {k i : Nat} {cs : Array Value} {t : TypeId} {fz : Nat × Nat} (h : w.heap[k]? = some (.cells cs t fz)) (hi : i < cs.size) : ∃ v, w.cell? ⟨k, i, none⟩ = some v :=
  ⟨cs[i], cell_of_block' h _ (Array.getElem?_eq_getElem hi)⟩

set_option maxRecDepth 100000 in
set_option maxHeartbeats 1000000 in
theorem copied_of (l : List V) (hC : ∀ x, x ∈ l → CopyAt x.list) : CopyAt l := by
  intro B w a hB ha
  obtain ⟨aa, ab, ao, ac, rfl, hal, hac, haa, hab, hax⟩ := ha
  have HC := Lib.hid hC; clear hC
  have HAX := Lib.hid hax; clear hax
  have HAA := Lib.hid haa; clear haa
  by_cases hz : l.length = 0
  · have hl0 : l = [] := List.length_eq_zero_iff.1 hz
    subst hl0
    go_enter Tryd.func36, Tryd.ntmps36
    go_wp2_with fail
    go_ret
    exact ⟨_, rfl, ⟨none, 0, 0, 0, rfl, Nat.le_refl _, by simp, fun h => by omega, fun h => by simp at h, fun i hi => by simp at hi⟩, Below.refl _ _⟩
  have hz' : ((l.length : Int) == 0) = false := beq_eq_false_iff_ne.2 (by omega)
  have hmk : ∀ w, (Instr.makeSlice 22 (.int .i64 l.length) (.int .i64 l.length)).run Tryd.prog w = _ := fun w => run_make4 w l.length (by omega)
  go_enter Tryd.func36, Tryd.ntmps36
  go_wp2_with fail
  go_loopw [14] (fun i wr => ∃ k : Nat, k ≤ l.length ∧ i = .int .i64 k ∧ CopyInv l k w wr) (fun i _ => l.length - (intOf i).toNat)
  case atStart => exact ⟨0, Nat.zero_le _, rfl, CopyInv.start l w⟩
  case round =>
    obtain ⟨k, hk1, rfl, hinv⟩ := hrel
    have hbel : Below w.heap.size w wr := by obtain ⟨_, _, _, _, h⟩ := hinv; exact h
    by_cases hl : k < l.length
    · obtain ⟨x0, x1, x2, x3, g0, g1, g2, g3, gr⟩ := HAX.out k hl
      have hab' : ab < B := hab (by omega)
      obtain rfl := HAA.out (by omega)
      rw [← hbel.cell (by simp; omega)] at g0 g1 g2 g3
      have hs := hbel.size
      obtain ⟨fa, fc, rfl, rfl, rfl, rfl⟩ := gr.form
      have HI := Lib.hid hinv; clear hinv
      have HG := Lib.hid gr; clear gr
      go_wp2_with fail
      have hb2 : Below w.heap.size w (wr.alloc (.cells #[.int .i64 l[k].kind, .int .i64 l[k].num, .string l[k].text, .slice fa l[k].list.length fc] 24)) := hbel.alloc hs _
      refine (HC.out l[k] (List.getElem_mem hl) B _ _ (by simp; omega) (RepL.below (fun j hj => hb2.block j (by omega)) HG.out.lst)).mono ?_
      rintro e w3 ⟨r, rfl, hrl, hb3⟩
      obtain ⟨ra, rb, ro, rc, hr1, -⟩ := id hrl
      subst hr1
      have hs3 := hb3.size
      simp only [World.size_alloc] at hs3
      have hx : RepG (fun b => w.heap.size < b ∧ b < w3.heap.size ∧ b ≠ wr.heap.size) w3 l[k] _ _ _ _ := HG.out.relist (hrl.on (fun b hb => ⟨by have := hb.1; simp at this; omega, hb.2, by have := hb.1; simp at this; omega⟩) (fun _ _ => rfl))
      have HX := Lib.hid (HI.out.step hl hb3 hx (.slice ra l[k].list.length rc)); clear hx
      have b1 : w3.heap[wr.heap.size]? = _ := (hb3.block wr.heap.size (by simp)).trans (alloc_new' _ _)
      obtain ⟨cur, m1, m2, -, -⟩ := HI.out
      have hltM : w.heap.size < wr.heap.size := (Array.getElem?_eq_some_iff.1 m1).1
      have m3 : w3.heap[w.heap.size]? = some (.cells cur 24 (0, 0)) := by
        rw [hb3.block _ (by simp; omega), Below.heap_alloc _ _ _ hltM]; exact m1
      obtain ⟨u0, q0⟩ := cell_some m3 (i := k * 4) (by omega)
      obtain ⟨u1, q1⟩ := cell_some m3 (i := k * 4 + 1) (by omega)
      obtain ⟨u2, q2⟩ := cell_some m3 (i := k * 4 + 2) (by omega)
      obtain ⟨u3, q3⟩ := cell_some m3 (i := k * 4 + 3) (by omega)
      have z0 := frozen_of_row w3 _ (k * 4) _ _ m3
      have z1 := frozen_of_row w3 _ (k * 4 + 1) _ _ m3
      have z2 := frozen_of_row w3 _ (k * 4 + 2) _ _ m3
      have z3 := frozen_of_row w3 _ (k * 4 + 3) _ _ m3
      have zb := frozen_of_row w3 _ 3 _ _ b1
      have d0 := cell_of_block' (i := 0) b1 _ rfl
      have d1 := cell_of_block' (i := 1) b1 _ rfl
      have d2 := cell_of_block' (i := 2) b1 _ rfl
      have d3 := cell_of_block' (i := 3) b1 _ rfl
      clear b1 m1 m2 m3 g0 g1 g2 g3 hrl
      have hne : w.heap.size ≠ wr.heap.size := by omega
      have hne2 : wr.heap.size ≠ w.heap.size := by omega
      go_wp2_with fail
      go_roundw
      case rel => exact ⟨k + 1, by omega, by go_num, HX.out⟩
      case measure => simp [intOf]; omega
    · have hke : k = l.length := by omega
      subst hke
      have HF := Lib.hid (hinv.finish (by omega))
      clear hinv
      go_wp2_with fail
      go_ret
      exact ⟨_, rfl, HF.out.1, HF.out.2⟩

theorem copied_any (l : List V) : CopyAt l := copied_of l (fun x _hx => copied_any x.list)
  termination_by SizeOf.sizeOf l
  decreasing_by
    have := List.sizeOf_lt_of_mem _hx
    cases x with
    | mk k n s m => simp only [V.mk.sizeOf_spec, V.list] at *; omega

end Go.Proofs.YtgpgjaenbhbbgaaDoor
