/-
  RoCompact
-/
import Derived.Test.YtpnaegohjbaggaaKD06
import Derived.Lib.SliceRun
import Derived.Deep.CutRange
import Derived.Deep.Cut
namespace Go.Proofs.Ytpnaegohjbaggaa
open Go.RowKit
def HasRow (w : World) (blk j : Nat) (x : Cel) : Prop := w.cell? ⟨blk, j * 3, none⟩ = some (.string x.1.name) ∧ w.cell? ⟨blk, j * 3 + 1, none⟩ = some x.2 ∧ w.cell? ⟨blk, j * 3 + 2, none⟩ = some (.int .i64 x.1.stamp)
def Blk (w : World) (blk n : Nat) : Prop := ∃ cur, w.heap[blk]? = some (.cells cur 47 (0, 0)) ∧ cur.size = n
def RowsAt (w : World) (blk n : Nat) (L : List Cel) : Prop := Blk w blk n ∧ L.length * 3 ≤ n ∧ ∀ j (h : j < L.length), HasRow w blk j L[j]
theorem Blk.lt {w : World} {blk n : Nat} (h : Blk w blk n) : blk < w.heap.size := by
 obtain ⟨cur, h, -⟩ := h;exact (Array.getElem?_eq_some_iff.1 h).1
theorem Blk.frozen {w : World} {blk n : Nat} (h : Blk w blk n) (o : Nat) : w.frozen? ⟨blk, o, none⟩ = false := by
 obtain ⟨cur, h, -⟩ := h;simp [World.frozen?, h]
theorem Blk.on {w w' : World} {blk n : Nat} (h : Blk w blk n) (hb : Below w.heap.size w w') : Blk w' blk n := by
 have hl := h.lt;obtain ⟨cur, h, hn⟩ := h;exact ⟨cur, (hb.block blk hl).trans h, hn⟩
theorem HasRow.on {w w' : World} {blk j : Nat} {x : Cel} (h : HasRow w blk j x) (hl : blk < w.heap.size) (hb : Below w.heap.size w w') : HasRow w' blk j x :=
 ⟨(hb.cell (p := ⟨blk, j * 3, none⟩) hl).trans h.1, (hb.cell (p := ⟨blk, j * 3 + 1, none⟩) hl).trans h.2.1, (hb.cell (p := ⟨blk, j * 3 + 2, none⟩) hl).trans h.2.2⟩
theorem RowsAt.on {w w' : World} {blk n : Nat} {L : List Cel} (h : RowsAt w blk n L) (hb : Below w.heap.size w w') : RowsAt w' blk n L :=
 ⟨h.1.on hb, h.2.1, fun j hj => (h.2.2 j hj).on h.1.lt hb⟩
theorem RowsAt.of {w : World} {blk : Nat} {cur : Array Value} {L : List Cel} (hc : w.heap[blk]? = some (.cells cur 47 (0, 0))) (h : CelAt cur L) : RowsAt w blk cur.size L :=
 ⟨⟨cur, hc, rfl⟩, h.1, fun j hj => ⟨cell_of_block' hc _ (by have := h.2 j hj 0 (by decide); exact this), cell_of_block' hc _ (by have := h.2 j hj 1 (by decide); exact this), cell_of_block' hc _ (by have := h.2 j hj 2 (by decide); exact this)⟩⟩
theorem cell_read {w : World} {blk o : Nat} {cur : Array Value} {t : TypeId} {fz : Nat × Nat} {v : Value} (hc : w.heap[blk]? = some (.cells cur t fz)) (h : w.cell? ⟨blk, o, none⟩ = some v) : cur[o]? = some v := by
 simp [World.cell?, hc] at h
 exact h
theorem RowsAt.cel {w : World} {blk n : Nat} {L : List Cel} (h : RowsAt w blk n L) : ∃ cur, w.heap[blk]? = some (.cells cur 47 (0, 0)) ∧ cur.size = n ∧ CelAt cur L := by
 obtain ⟨⟨cur, hc, hn⟩, hl, hr⟩ := h;refine ⟨cur, hc, hn, by omega, fun j hj t ht => ?_⟩;obtain ⟨h0, h1, h2⟩ := hr j hj
 match t, ht with
 | 0, _ => exact cell_read hc h0
 | 1, _ => exact cell_read hc h1
 | 2, _ => exact cell_read hc h2
def alikeC (x y : Cel) : Bool := cmpRo x.1 y.1 == 0
def compB : Cel → List Cel → List Cel
 | _, [] => []
 | p, x :: l => if alikeC x p then compB x l else x :: compB x l
def compC : List Cel → List Cel
 | [] => []
 | x :: l => x :: compB x l
def lastC : Cel → List Cel → Cel
 | p, [] => p
 | _, x :: l => lastC x l
theorem compB_snoc : ∀ (l : List Cel) (p y : Cel), compB p (l ++ [y]) = if alikeC y (lastC p l) then compB p l else compB p l ++ [y]
 | [], p, y => by
  show compB p [y] = _
  rw [compB, compB, lastC]; rfl
 | x :: l, p, y => by
  rw [List.cons_append, compB, compB, compB_snoc l x y, lastC]
  split <;> split <;> simp
theorem lastC_at : ∀ (l : List Cel) (x : Cel) (j : Nat) (h : j ≤ l.length), lastC x (l.take j) = (x :: l)[j]'(by simp; omega)
 | _, _, 0, _ => by rw [List.take_zero, lastC]; rfl
 | y :: l, x, j + 1, h => by
  rw [List.take_succ_cons, lastC, lastC_at l y j (by simpa using h)]; rfl
theorem compC_snoc (L : List Cel) (k : Nat) (h0 : 0 < k) (hk : k < L.length) : compC (L.take (k + 1)) = if alikeC L[k] L[k - 1] then compC (L.take k) else compC (L.take k) ++ [L[k]] := by
 obtain ⟨j, rfl⟩ : ∃ j, k = j + 1 := ⟨k - 1, by omega⟩
 match L, hk with
 | x :: l, hk =>
  simp only [List.length_cons] at hk
  have hj : j < l.length := by omega
  have e : (x :: l)[j + 1 - 1]'(by simp; omega) = lastC x (l.take j) := (lastC_at l x j (by omega)).symm;rw [e, List.take_succ_cons, List.take_succ_cons, compC, compC, List.take_succ_eq_append_getElem hj, compB_snoc, List.getElem_cons_succ]
  split <;> simp
theorem compC_len : ∀ (L : List Cel), (compC L).length ≤ L.length
 | [] => Nat.le_refl _
 | x :: l => by
  have h : ∀ (l : List Cel) (p : Cel), (compB p l).length ≤ l.length := by
   intro l
   induction l with
   | nil => intro p; exact Nat.le_refl _
   | cons y l ih =>
    intro p;rw [compB]
    split
    ·exact Nat.le_trans (ih y) (by simp)
    ·simpa using ih y
  have := h l x;simp [compC]; exact this
theorem compC_whole (L : List Cel) (h : ∀ k (hk : k + 1 < L.length), alikeC L[k + 1] L[k] = false) : compC L = L := by
 have : ∀ k, k ≤ L.length → compC (L.take k) = L.take k := by
  intro k
  induction k with
  | zero => intro _; simp [compC]
  | succ k ih =>
   intro hk
   by_cases h0 : k = 0
   ·subst h0
    match L, hk with
    | x :: l, _ => simp [compC, compB]
   ·rw [compC_snoc L k (by omega) (by omega), ih (by omega), List.take_succ_eq_append_getElem (by omega)]
    have := h (k - 1) (by omega);simp only [show k - 1 + 1 = k by omega] at this
    rw [if_neg (by rw [this]; simp)]
 have h1 := this L.length (Nat.le_refl _)
 rwa [List.take_length] at h1
theorem putRow_row {w : World} {blk n k : Nat} {vs : List Value} (hb : Blk w blk n) (hn : k * 3 + vs.length ≤ n) :
  Blk (putCells w blk (k * 3) vs) blk n ∧ Beside blk w (putCells w blk (k * 3) vs) ∧ (∀ j, j < vs.length → (putCells w blk (k * 3) vs).cell? ⟨blk, k * 3 + j, none⟩ = vs[j]?) ∧ ∀ o, (o < k * 3 ∨ k * 3 + vs.length ≤ o) → (putCells w blk (k * 3) vs).cell? ⟨blk, o, none⟩ = w.cell? ⟨blk, o, none⟩ := by
 obtain ⟨cur, hc, hs⟩ := hb;obtain ⟨cs', h1, h2, h3, h4⟩ := putCells_same blk 47 vs w (k * 3) cur hc (by omega);have hb0 : Below 0 w (putCells w blk (k * 3) vs) := putCells_below 0 blk (Nat.zero_le _) vs w (k * 3) (Below.refl _ _);refine ⟨⟨cs', h1, by omega⟩, ⟨hb0.os, hb0.tape, hb0.output, hb0.size, fun i _ hi => putCells_other blk i hi vs w (k * 3)⟩, fun j hj => ?_, fun o ho => ?_⟩
 ·have := h3 j hj
  simp [World.cell?, h1]; exact this
 ·have := h4 o ho
  simp [World.cell?, h1, hc]; exact this
theorem HasRow.put {w : World} {blk n k : Nat} {x : Cel} (hb : Blk w blk n) (hn : k * 3 + 3 ≤ n) :
  Blk (putCells w blk (k * 3) (celOf x)) blk n ∧ Beside blk w (putCells w blk (k * 3) (celOf x)) ∧ HasRow (putCells w blk (k * 3) (celOf x)) blk k x ∧ ∀ i y, i ≠ k → HasRow w blk i y → HasRow (putCells w blk (k * 3) (celOf x)) blk i y := by
 obtain ⟨h1, h2, h3, h4⟩ := putRow_row (vs := celOf x) hb (by rw [celOf_len]; exact hn);rw [celOf_len] at h3 h4;refine ⟨h1, h2, ⟨h3 0 (by decide), h3 1 (by decide), h3 2 (by decide)⟩, fun i y hi hr => ⟨(h4 _ (by omega)).trans hr.1, (h4 _ (by omega)).trans hr.2.1, (h4 _ (by omega)).trans hr.2.2⟩⟩
theorem setCells_put (b : Nat) : ∀ (vs : List Value) (o : Nat) (w : World), w.setCells b o vs = putCells w b o vs
 | [], _, _ => rfl
 | v :: l, o, w => by rw [World.setCells, putCells, setCells_put b l]
def zeroRow : Value := .agg #[.string ⟨#[]⟩, .slice none 0 0, .int .i64 0]
theorem clear_rows {w : World} {blk n : Nat} (hb : Blk w blk n) (k m c : Nat) (hm : 0 < m) (hn : (k + m) * 3 ≤ n) :
  ∃ w', (∀ ty, (Builtin.clear_ #[40] ty #[.slice (some ⟨blk, k * 3, none⟩) m c]).run Try.prog w = .ok (.tuple #[]) w') ∧ Blk w' blk n ∧ Beside blk w w' ∧ ∀ i y, i < k → HasRow w blk i y → HasRow w' blk i y := by
 obtain ⟨zs, hzs⟩ : ∃ zs, (Builtin.zeroCells zeroRow.cells m).toList = zs := ⟨_, rfl⟩
 have hzl : zs.length = m * 3 := by
  rw [← hzs];simp [Builtin.zeroCells, zeroRow, Value.cells]
 have hz1 : ∀ v ∈ zs, v.oneCell' = true := by
  intro v hv;rw [← hzs] at hv;simp [Builtin.zeroCells, zeroRow, Value.cells] at hv
  obtain ⟨i, -, rfl⟩ := hv;have h3 : i % 3 < 3 := Nat.mod_lt _ (by decide)
  match i % 3, h3 with
  | 0, _ => rfl
  | 1, _ => rfl
  | 2, _ => rfl
 obtain ⟨cur, hc, hs⟩ := hb
 have hst := run_storeCells_cells (P := Try.prog) blk (k * 3) zs 0 w (fun j hj => by
  rw [hzl] at hj;have : k * 3 + 0 + j < cur.size := by omega
  simp [World.cell?, hc]; omega) (fun j _ => by simp [World.frozen?, hc]) hz1
 obtain ⟨m', rfl⟩ : ∃ m', m = m' + 1 := ⟨m - 1, by omega⟩;refine ⟨w.setCells blk (k * 3) zs, fun ty => ?_, ?_⟩
 ·have hv : ∀ w, (zeroValue 47).run Try.prog w = .ok zeroRow w := Try.zeroValue47
  simp only [Nat.add_zero] at hst
  simp [Builtin.clear_, run_underlying Try.underlying40, hv, hzs, hst]
 ·rw [setCells_put]
  obtain ⟨h1, h2, -, h4⟩ := putRow_row (vs := zs) ⟨cur, hc, hs⟩ (k := k) (by omega);exact ⟨h1, h2, fun i y hi hr => ⟨(h4 _ (by omega)).trans hr.1, (h4 _ (by omega)).trans hr.2.1, (h4 _ (by omega)).trans hr.2.2⟩⟩
set_option maxRecDepth 100000 in
set_option maxHeartbeats 4000000 in
theorem compact_any (L : List Cel) (hL : 2 ≤ L.length) (blk cap n : Nat) (w : World) (S : Nat → Prop) (hcap : L.length ≤ cap) (h63 : L.length ≤ 140737488355328) (hrow : RowsAt w blk n L)
  (hS : ∀ k, S k → k < w.heap.size ∧ k ≠ blk) (hrep : ∀ x ∈ L, RepRo S w x.1 (.string x.1.name) x.2 (.int .i64 x.1.stamp)) :
  Calls Try.prog 76 #[.slice (some ⟨blk, 0, none⟩) L.length cap, .func (.func 77) #[] #[]] w fun e w' =>
   e = .returned (.slice (some ⟨blk, 0, none⟩) (compC L).length cap) ∧ RowsAt w' blk n (compC L) ∧ Beside blk w w' := by
 have hen : ∀ args w, Sem.run Try.prog (callFunc 77 args) w = .ok (.enter 77 args) w := fun args w => by kernel_rfl
 have HS := Lib.hid hS; have HR := Lib.hid hrep; have HW := Lib.hid hrow
 have HL := Lib.hid hL; have HC := Lib.hid hcap
 clear hS hrep hrow hcap;have k0 : decide ((L.length : Int) < 2) = false := decide_eq_false (by omega);go_enter Try.func76, Try.ntmps76
 go_wp2_with fail
 clear k0;go_loopw [5] (fun iv wr => ∃ j : Nat, j + 1 ≤ L.length ∧ iv = .int .i64 ((j : Int) + 1) ∧ Hid (∀ i (hi : i + 1 < L.length), i < j → alikeC L[i + 1] L[i] = false) ∧ Hid (Onto w wr)) (fun iv _ => L.length - (intOf iv).toNat)
 case atStart => exact ⟨0, by omega, rfl, fun i _ h => by omega, Onto.refl _⟩
 case round =>
  obtain ⟨j, hj, rfl, hun, hon⟩ := hrel
  by_cases hlt : j + 1 < L.length
  ·have hk1 : (0 : Int) ≤ (j : Int) := Int.natCast_nonneg j
   have hk2 : (j : Int) + 1 < (L.length : Int) := by omega
   have hk3 : (j : Int) < (L.length : Int) := by omega
   have k1 : decide ((j : Int) + 1 < (L.length : Int)) = true := decide_eq_true hk2;have hk4 : (0 : Int) ≤ (j : Int) + 1 := by omega
   have hsub : (j : Int) + 1 - 1 = (j : Int) := by omega
   have hwr : IntKind.i64.wrap ((j : Int) + 1 - 1) = (j : Int) := by rw [hsub]; simp [IntKind.wrap, IntKind.bits, IntKind.signed]; omega
   have hwr2 : IntKind.i64.wrap (j : Int) = (j : Int) := by have h := hwr; rw [hsub] at h; exact h
   have hjl : j < L.length := by omega
   have RW : RowsAt wr blk n L := HW.out.on hon.out.below;have hbl : blk < wr.drew.heap.size := RW.1.lt;have HX : Hid (RepRo S wr.drew L[j + 1].1 (.string L[j + 1].1.name) L[j + 1].2 (.int .i64 L[j + 1].1.stamp)) := RepRo.on (w' := wr.drew) (fun _ h => h) (fun k hk => hon.out.below.block k (HS.out k hk).1) (HR.out _ (List.getElem_mem hlt));have HY : Hid (RepRo S wr.drew L[j].1 (.string L[j].1.name) L[j].2 (.int .i64 L[j].1.stamp)) := RepRo.on (w' := wr.drew) (fun _ h => h) (fun k hk => hon.out.below.block k (HS.out k hk).1) (HR.out _ (List.getElem_mem hjl));have HSD : Hid (∀ k, S k → k < wr.drew.heap.size) := fun k hk => Nat.lt_of_lt_of_le (HS.out k hk).1 hon.out.below.size
   have HOD : Hid (Onto w wr.drew) := hon.out.drew;obtain ⟨p0, p1, p2⟩ : HasRow wr.drew blk (j + 1) L[j + 1] := RW.2.2 (j + 1) hlt;obtain ⟨q0, q1, q2⟩ : HasRow wr.drew blk j L[j] := RW.2.2 j hjl;have HLT := Lib.hid hlt;obtain ⟨c, hc⟩ : ∃ c, alikeC L[j + 1] L[j] = c := ⟨_, rfl⟩;have HCC := Lib.hid hc;have hc' : (cmpRo L[j + 1].1 L[j].1 == 0) = c := hc;have HCC' : Hid (∀ i (hi : i + 1 < L.length), i = j → c = false → alikeC L[i + 1] L[i] = false) := fun i _ e e2 => by subst e; exact hc.trans e2
   have HTC : Hid (c = true → compC (L.take (j + 2)) = L.take (j + 1)) := fun e => by
    have h1 := compC_snoc L (j + 1) (by omega) hlt;rw [if_pos (show alikeC L[j + 1] L[j + 1 - 1] = true from hc.trans e)] at h1;rw [h1]
    exact compC_whole _ (fun k hk => by
     rw [List.length_take] at hk;rw [List.getElem_take, List.getElem_take]
     exact hun.out k (by omega) (by omega))
   have HCD := Lib.hid hc';clear RW hj hc hc';generalize L[j + 1] = x at *;generalize L[j] = y at *;clear hlt hjl;go_upto_region 6 with fail
   cases c
   case false =>
    go_region_held3 (fun w' => w'.cell? ⟨blk, (j + 1) * 3, none⟩ = some (.string x.1.name) ∧ w'.cell? ⟨blk, (j + 1) * 3 + 1, none⟩ = some x.2 ∧ w'.cell? ⟨blk, (j + 1) * 3 + 2, none⟩ = some (.int .i64 x.1.stamp) ∧ w'.cell? ⟨blk, j * 3, none⟩ = some (.string y.1.name) ∧ w'.cell? ⟨blk, j * 3 + 1, none⟩ = some y.2 ∧ w'.cell? ⟨blk, j * 3 + 2, none⟩ = some (.int .i64 y.1.stamp))
     (first | (with_reducible exact ⟨p0, p1, p2, q0, q1, q2⟩) | (with_reducible exact ⟨(ho.below.cell (p := ⟨blk, (j + 1) * 3, none⟩) hbl).trans p0, (ho.below.cell (p := ⟨blk, (j + 1) * 3 + 1, none⟩) hbl).trans p1, (ho.below.cell (p := ⟨blk, (j + 1) * 3 + 2, none⟩) hbl).trans p2, (ho.below.cell (p := ⟨blk, j * 3, none⟩) hbl).trans q0, (ho.below.cell (p := ⟨blk, j * 3 + 1, none⟩) hbl).trans q1, (ho.below.cell (p := ⟨blk, j * 3 + 2, none⟩) hbl).trans q2⟩))
     (first | (go_at_call 77; refine (same2_any x.1 y.1 S _ _ _ HSD.out HX.out HY.out).mono ?_; rintro e w3 ⟨he, ho⟩; rw [HCD.out] at he; subst he))
    have HON : Hid (Onto w w3) := HOD.out.trans ho;clear ho;go_wp2_with fail
    go_roundw
    case rel => exact ⟨j + 1, HLT.out, by go_num, fun i hi hij => by
     by_cases e : i = j
     ·exact HCC'.out i hi e (by trivial)
     ·exact hun.out i hi (by omega), HON⟩
    case measure => have := HLT.out; simp [intOf]; omega
   case true =>
    go_region_held3 (fun w' => w'.cell? ⟨blk, (j + 1) * 3, none⟩ = some (.string x.1.name) ∧ w'.cell? ⟨blk, (j + 1) * 3 + 1, none⟩ = some x.2 ∧ w'.cell? ⟨blk, (j + 1) * 3 + 2, none⟩ = some (.int .i64 x.1.stamp) ∧ w'.cell? ⟨blk, j * 3, none⟩ = some (.string y.1.name) ∧ w'.cell? ⟨blk, j * 3 + 1, none⟩ = some y.2 ∧ w'.cell? ⟨blk, j * 3 + 2, none⟩ = some (.int .i64 y.1.stamp))
     (first | (with_reducible exact ⟨p0, p1, p2, q0, q1, q2⟩) | (with_reducible exact ⟨(ho.below.cell (p := ⟨blk, (j + 1) * 3, none⟩) hbl).trans p0, (ho.below.cell (p := ⟨blk, (j + 1) * 3 + 1, none⟩) hbl).trans p1, (ho.below.cell (p := ⟨blk, (j + 1) * 3 + 2, none⟩) hbl).trans p2, (ho.below.cell (p := ⟨blk, j * 3, none⟩) hbl).trans q0, (ho.below.cell (p := ⟨blk, j * 3 + 1, none⟩) hbl).trans q1, (ho.below.cell (p := ⟨blk, j * 3 + 2, none⟩) hbl).trans q2⟩))
     (first | (go_at_call 77; refine (same2_any x.1 y.1 S _ _ _ HSD.out HX.out HY.out).mono ?_; rintro e w3 ⟨he, ho⟩; rw [HCD.out] at he; subst he))
    have HON : Hid (Onto w w3) := HOD.out.trans ho;clear ho p0 p1 p2 q0 q1 q2 hbl HX HY HSD HOD HCD;have hcl : (j : Int) + 1 ≤ (L.length : Int) := by omega
    have hc1 : (L.length : Int) ≤ (cap : Int) := by have := HC.out; omega
    have hc2 : ¬ cap = j + 1 := by have := HC.out; have := HLT.out; omega
    have hc3 : j + 1 ≤ L.length := by have := HLT.out; omega
    have RW : RowsAt w3 blk n L := HW.out.on HON.out.below;have e2 : compC (L.take (j + 2)) = L.take (j + 1) := HTC.out (by trivial);have hl2 : (compC (L.take (j + 2))).length = j + 1 := by rw [e2, List.length_take]; omega
    have HD : Hid (∀ i (hi : i < (compC (L.take (j + 2))).length), HasRow w3 blk i (compC (L.take (j + 2)))[i]) := by
     show ∀ i (hi : i < (compC (L.take (j + 2))).length), HasRow w3 blk i (compC (L.take (j + 2)))[i]
     rw [e2];intro i hi;rw [List.length_take] at hi;rw [List.getElem_take];exact RW.2.2 i (by omega)
    have HRW := Lib.hid RW;have HL2 := Lib.hid hl2;have HBE : Hid (Beside blk w w3) := Beside.of_below HON.out.below;clear RW e2 hl2 hun hon HCC' HCC HTC;go_upto_region 9 with fail
    obtain ⟨N2, hN2⟩ : ∃ N2, L.length - (j + 1) = N2 := ⟨_, rfl⟩;obtain ⟨o2, ho2⟩ : ∃ o2, (j + 1) * 3 = o2 := ⟨_, rfl⟩;obtain ⟨c2, hcc2⟩ : ∃ c2, cap - (j + 1) = c2 := ⟨_, rfl⟩;rw [hN2, ho2, hcc2];have HN2 := Lib.hid hN2; have HO2 := Lib.hid ho2
    have HC3 := Lib.hid hc3;clear hN2 ho2 hcc2 hc2 hcl hc3 k1 hk1 hk2 hk3 hk4 hsub hwr hwr2 hc1
    go_loopw [5, 7] (fun kv qv wr => ∃ r k : Nat, j + r + 2 ≤ L.length ∧ kv = .int .i64 (k : Int) ∧ qv = .int .i64 ((r : Int) + 1) ∧ k ≤ j + r + 1 ∧ Hid ((compC (L.take (j + r + 2))).length = k) ∧ Hid (Blk wr blk n) ∧
     Hid (∀ i (hi : i < (compC (L.take (j + r + 2))).length), HasRow wr blk i (compC (L.take (j + r + 2)))[i]) ∧ Hid (∀ i (hi : i < L.length), j + r + 1 ≤ i → HasRow wr blk i L[i]) ∧ Hid (Beside blk w wr)) (fun _ qv _ => L.length - (intOf qv).toNat)
    case atStart => exact ⟨0, j + 1, HLT.out, rfl, rfl, Nat.le_refl _, HL2, HRW.out.1, HD, fun i hi _ => HRW.out.2.2 i hi, HBE⟩
    case round =>
     clear HRW HL2 HD HBE HON;obtain ⟨r, k, hr, rfl, rfl, hk, hlen, hblk, hdone, hrest, hbes⟩ := hrel
     by_cases hlt2 : j + r + 2 < L.length
     ·have hr1 : j + r + 1 < L.length := by omega
      have hk0 : (0 : Int) ≤ (r : Int) + 1 := by omega
      have hk1 : (0 : Int) ≤ (r : Int) := Int.natCast_nonneg r;have hk2 : (r : Int) + 1 < (N2 : Int) := by have := HN2.out; omega
      have hk3 : (r : Int) < (N2 : Int) := by omega
      have k1 : decide ((r : Int) + 1 < (N2 : Int)) = true := decide_eq_true hk2;have hsub : (r : Int) + 1 - 1 = (r : Int) := by omega
      have hwr : IntKind.i64.wrap ((r : Int) + 1 - 1) = (r : Int) := by rw [hsub]; simp [IntKind.wrap, IntKind.bits, IntKind.signed]; omega
      have hwr2 : IntKind.i64.wrap (r : Int) = (r : Int) := by have h := hwr; rw [hsub] at h; exact h
      have hN63 : N2 ≤ 140737488355328 := by have := HN2.out; omega
      have hbl : blk < wr.drew.heap.size := hblk.out.lt;have HX : Hid (RepRo S wr.drew L[j + r + 2].1 (.string L[j + r + 2].1.name) L[j + r + 2].2 (.int .i64 L[j + r + 2].1.stamp)) := RepRo.on (w' := wr.drew) (fun _ h => h) (fun b hb => hbes.out.block b (HS.out b hb).1 (HS.out b hb).2) (HR.out _ (List.getElem_mem hlt2));have HY : Hid (RepRo S wr.drew L[j + r + 1].1 (.string L[j + r + 1].1.name) L[j + r + 1].2 (.int .i64 L[j + r + 1].1.stamp)) := RepRo.on (w' := wr.drew) (fun _ h => h) (fun b hb => hbes.out.block b (HS.out b hb).1 (HS.out b hb).2) (HR.out _ (List.getElem_mem hr1));have HSD : Hid (∀ k, S k → k < wr.drew.heap.size) := fun k hk => Nat.lt_of_lt_of_le (HS.out k hk).1 hbes.out.size
      have hx := hrest.out (j + r + 2) hlt2 (by omega);have hy := hrest.out (j + r + 1) hr1 (by omega);have a1 : (j + r + 2) * 3 = o2 + (r + 1) * 3 := by have := HO2.out; omega
      have a2 : (j + r + 1) * 3 = o2 + r * 3 := by have := HO2.out; omega
      unfold HasRow at hx hy;rw [a1] at hx;rw [a2] at hy;obtain ⟨p0, p1, p2⟩ : wr.drew.cell? ⟨blk, o2 + (r + 1) * 3, none⟩ = some (.string L[j + r + 2].1.name) ∧ wr.drew.cell? ⟨blk, o2 + (r + 1) * 3 + 1, none⟩ = some L[j + r + 2].2 ∧ wr.drew.cell? ⟨blk, o2 + (r + 1) * 3 + 2, none⟩ = some (.int .i64 L[j + r + 2].1.stamp) := hx;obtain ⟨q0, q1, q2⟩ : wr.drew.cell? ⟨blk, o2 + r * 3, none⟩ = some (.string L[j + r + 1].1.name) ∧ wr.drew.cell? ⟨blk, o2 + r * 3 + 1, none⟩ = some L[j + r + 1].2 ∧ wr.drew.cell? ⟨blk, o2 + r * 3 + 2, none⟩ = some (.int .i64 L[j + r + 1].1.stamp) := hy;have hsn := compC_snoc L (j + r + 2) (by omega) hlt2
      replace hsn : compC (L.take (j + (r + 1) + 2)) = if alikeC L[j + r + 2] L[j + r + 1] then compC (L.take (j + r + 2)) else compC (L.take (j + r + 2)) ++ [L[j + r + 2]] := by
       rw [show j + (r + 1) + 2 = j + r + 2 + 1 by omega]; exact hsn
      obtain ⟨c, hc⟩ : ∃ c, alikeC L[j + r + 2] L[j + r + 1] = c := ⟨_, rfl⟩;have HCD : Hid ((cmpRo L[j + r + 2].1 L[j + r + 1].1 == 0) = c) := hc;rw [hc] at hsn;have HSN := Lib.hid hsn;have HLT2 := Lib.hid hlt2;have HK := Lib.hid hk;clear a1 a2 hc hsn;generalize L[j + r + 2] = x at *;generalize L[j + r + 1] = y at *;clear hlt2 hr1 hr hk;obtain ⟨xa, xc, -, hx2, -⟩ := HX.out.form;rw [hx2] at p1 HX;have HX2 := Lib.hid hx2;clear hx2;go_upto_region 11 with fail
      cases c
      case true =>
       go_region_held3 (fun w' => w'.cell? ⟨blk, o2 + (r + 1) * 3, none⟩ = some (.string x.1.name) ∧ w'.cell? ⟨blk, o2 + (r + 1) * 3 + 1, none⟩ = some (.slice xa x.1.args.length xc) ∧ w'.cell? ⟨blk, o2 + (r + 1) * 3 + 2, none⟩ = some (.int .i64 x.1.stamp) ∧ w'.cell? ⟨blk, o2 + r * 3, none⟩ = some (.string y.1.name) ∧ w'.cell? ⟨blk, o2 + r * 3 + 1, none⟩ = some (y.2) ∧ w'.cell? ⟨blk, o2 + r * 3 + 2, none⟩ = some (.int .i64 y.1.stamp))
        (first | (with_reducible exact ⟨p0, p1, p2, q0, q1, q2⟩) | (with_reducible exact ⟨(ho.below.cell (p := ⟨blk, o2 + (r + 1) * 3, none⟩) hbl).trans p0, (ho.below.cell (p := ⟨blk, o2 + (r + 1) * 3 + 1, none⟩) hbl).trans p1, (ho.below.cell (p := ⟨blk, o2 + (r + 1) * 3 + 2, none⟩) hbl).trans p2, (ho.below.cell (p := ⟨blk, o2 + r * 3, none⟩) hbl).trans q0, (ho.below.cell (p := ⟨blk, o2 + r * 3 + 1, none⟩) hbl).trans q1, (ho.below.cell (p := ⟨blk, o2 + r * 3 + 2, none⟩) hbl).trans q2⟩))
        (first | (go_at_call 77; refine (same2_any x.1 y.1 S _ _ _ HSD.out HX.out HY.out).mono ?_; rintro e w3 ⟨he, ho⟩; rw [HCD.out] at he; subst he))
       have HON : Hid (Onto wr w3) := ((Onto.refl wr).drew).trans ho;clear ho p0 p1 p2 q0 q1 q2;go_wp2_with fail
       go_roundw
       case rel => exact ⟨r + 1, k, HLT2.out, rfl, by go_num, by have := HK.out; omega, by show _ = _; rw [HSN.out, if_pos (by trivial)]; exact hlen.out, hblk.out.on HON.out.below,
        (by rw [HSN.out, if_pos (by trivial)]; exact fun i hi => (hdone.out i hi).on hblk.out.lt HON.out.below : ∀ i (hi : i < (compC (L.take (j + (r + 1) + 2))).length), HasRow w3 blk i (compC (L.take (j + (r + 1) + 2)))[i]), fun i hi h => (hrest.out i hi (by omega)).on hblk.out.lt HON.out.below, hbes.out.trans (Beside.of_below HON.out.below)⟩
       case measure => have := HLT2.out; simp [intOf]; omega
      case false =>
       go_region_held3 (fun w' => w'.cell? ⟨blk, o2 + (r + 1) * 3, none⟩ = some (.string x.1.name) ∧ w'.cell? ⟨blk, o2 + (r + 1) * 3 + 1, none⟩ = some (.slice xa x.1.args.length xc) ∧ w'.cell? ⟨blk, o2 + (r + 1) * 3 + 2, none⟩ = some (.int .i64 x.1.stamp) ∧ w'.cell? ⟨blk, o2 + r * 3, none⟩ = some (.string y.1.name) ∧ w'.cell? ⟨blk, o2 + r * 3 + 1, none⟩ = some (y.2) ∧ w'.cell? ⟨blk, o2 + r * 3 + 2, none⟩ = some (.int .i64 y.1.stamp))
        (first | (with_reducible exact ⟨p0, p1, p2, q0, q1, q2⟩) | (with_reducible exact ⟨(ho.below.cell (p := ⟨blk, o2 + (r + 1) * 3, none⟩) hbl).trans p0, (ho.below.cell (p := ⟨blk, o2 + (r + 1) * 3 + 1, none⟩) hbl).trans p1, (ho.below.cell (p := ⟨blk, o2 + (r + 1) * 3 + 2, none⟩) hbl).trans p2, (ho.below.cell (p := ⟨blk, o2 + r * 3, none⟩) hbl).trans q0, (ho.below.cell (p := ⟨blk, o2 + r * 3 + 1, none⟩) hbl).trans q1, (ho.below.cell (p := ⟨blk, o2 + r * 3 + 2, none⟩) hbl).trans q2⟩))
        (first | (go_at_call 77; refine (same2_any x.1 y.1 S _ _ _ HSD.out HX.out HY.out).mono ?_; rintro e w3 ⟨he, ho⟩; rw [HCD.out] at he; subst he))
       have HON : Hid (Onto wr w3) := ((Onto.refl wr).drew).trans ho;have HB3 : Hid (Blk w3 blk n) := hblk.out.on HON.out.below;have hk1' : (0 : Int) ≤ (k : Int) := Int.natCast_nonneg k;have hk2' : (k : Int) < (L.length : Int) := by have := HK.out; have := HLT2.out; omega
       have hk3' : k < L.length := by omega
       have hkn : k * 3 + 3 ≤ n := by have := HW.out.2.1; omega
       obtain ⟨v0, y0⟩ : ∃ v, w3.cell? ⟨blk, k * 3, none⟩ = some v := by
        obtain ⟨cur, hc, hs⟩ := HB3.out;exact ⟨cur[k * 3]'(by omega), cell_of_block' hc _ (Array.getElem?_eq_getElem (by omega))⟩
       obtain ⟨v1, y1⟩ : ∃ v, w3.cell? ⟨blk, k * 3 + 1, none⟩ = some v := by
        obtain ⟨cur, hc, hs⟩ := HB3.out;exact ⟨cur[k * 3 + 1]'(by omega), cell_of_block' hc _ (Array.getElem?_eq_getElem (by omega))⟩
       obtain ⟨v2, y2⟩ : ∃ v, w3.cell? ⟨blk, k * 3 + 2, none⟩ = some v := by
        obtain ⟨cur, hc, hs⟩ := HB3.out;exact ⟨cur[k * 3 + 2]'(by omega), cell_of_block' hc _ (Array.getElem?_eq_getElem (by omega))⟩
       have z0 := HB3.out.frozen (k * 3);have z1 := HB3.out.frozen (k * 3 + 1);have z2 := HB3.out.frozen (k * 3 + 2);replace p0 := (ho.below.cell (p := ⟨blk, o2 + (r + 1) * 3, none⟩) hbl).trans p0;replace p1 := (ho.below.cell (p := ⟨blk, o2 + (r + 1) * 3 + 1, none⟩) hbl).trans p1;replace p2 := (ho.below.cell (p := ⟨blk, o2 + (r + 1) * 3 + 2, none⟩) hbl).trans p2;have HKN := Lib.hid hkn; have HK3 := Lib.hid hk3'
       clear ho q0 q1 q2 hkn;go_wp2_with fail
       obtain ⟨wz, hwz⟩ : ∃ z, ((w3.setCell ⟨blk, k * 3, none⟩ (.string x.1.name)).setCell ⟨blk, k * 3 + 1, none⟩ (.slice xa x.1.args.length xc)).setCell ⟨blk, k * 3 + 2, none⟩ (.int .i64 x.1.stamp) = z := ⟨_, rfl⟩;have hpz : wz = putCells w3 blk (k * 3) (celOf x) := by unfold celOf; rw [HX2.out, ← hwz]; rfl
       obtain ⟨g1, g2, g3, g4⟩ := HasRow.put (x := x) HB3.out HKN.out;rw [← hpz] at g1 g2 g3 g4;rw [hwz];clear hwz hpz p0 p1 p2 y0 y1 y2 z0 z1 z2;have hbn : Beside blk wr w3 := Beside.of_below HON.out.below;go_roundw
       case rel => exact ⟨r + 1, k + 1, HLT2.out, by go_num, by go_num, by have := HK.out; omega, by show _ = _; rw [HSN.out, if_neg (by simp), List.length_append, hlen.out]; rfl, g1,
        (by
         rw [HSN.out, if_neg (by simp)];intro i hi
         by_cases e : i < (compC (L.take (j + r + 2))).length
         ·rw [List.getElem_append_left e]
          exact g4 i _ (by rw [hlen.out] at e; omega) ((hdone.out i e).on hblk.out.lt HON.out.below)
         ·rw [List.length_append, List.length_singleton] at hi
          have e2 : i = (compC (L.take (j + r + 2))).length := by omega
          subst e2;rw [List.getElem_append_right (Nat.le_refl _)];simp only [Nat.sub_self, List.getElem_cons_zero]
          rw [hlen.out]
          exact g3 : ∀ i (hi : i < (compC (L.take (j + (r + 1) + 2))).length), HasRow wz blk i (compC (L.take (j + (r + 1) + 2)))[i]),
        fun i hi h => g4 i _ (by have := HK.out; omega) ((hrest.out i hi (by omega)).on hblk.out.lt HON.out.below), (hbes.out.trans hbn).trans g2⟩
       case measure => have := HLT2.out; simp [intOf]; omega
     ·have hke : j + r + 2 = L.length := by omega
      have hcm : compC (L.take (j + r + 2)) = compC L := by rw [hke, List.take_length]
      have hk0 : (0 : Int) ≤ (r : Int) + 1 := by omega
      have k1 : decide ((r : Int) + 1 < (N2 : Int)) = false := decide_eq_false (by have := HN2.out; omega);have hk1' : (0 : Int) ≤ (k : Int) := Int.natCast_nonneg k;have hk2' : (k : Int) ≤ (L.length : Int) := by omega
      have hk3' : k ≤ L.length := by omega
      have hk4' : (k : Int) ≤ (cap : Int) := by have := HC.out; omega
      have hk5' : k ≤ cap := by omega
      have hk6' : ¬ cap = k := by have := HC.out; omega
      have hlc : (L.length : Int) ≤ (cap : Int) := by have := HC.out; omega
      obtain ⟨wc, hrun, g1, g2, g3⟩ := clear_rows hblk.out k (L.length - k) (cap - k) (by omega) (by have := HW.out.2.1; omega);have hd := hdone.out;rw [hcm] at hd;have hkl : (compC L).length = k := by rw [← hcm]; exact hlen.out
      have HKL := Lib.hid hkl; have HDN := Lib.hid hd
      have HG : Hid (RowsAt wc blk n (compC L) ∧ Beside blk w wc) := ⟨⟨g1, by have := compC_len L; have := HW.out.2.1; omega, fun i hi => g3 i _ (by omega) (HDN.out i hi)⟩, hbes.out.trans g2⟩;clear hd hkl hcm hke hlen hdone hrest hbes hblk g1 g2 g3 hr hk;go_wp2_with fail
      go_ret
      exact ⟨by rw [HKL.out] <;> rfl, HG.out.1, HG.out.2⟩
  ·have hke : j + 1 = L.length := by omega
   have HE : Hid (compC L = L) := compC_whole L (fun k hk => hun.out k hk (by omega));have hk1 : (0 : Int) ≤ (j : Int) := Int.natCast_nonneg j;have k1 : decide ((j : Int) + 1 < (L.length : Int)) = false := decide_eq_false (by omega);clear hun hj hlt hke;go_wp2_with fail
   go_ret
   exact ⟨by rw [HE.out] <;> rfl, by rw [HE.out]; exact HW.out.on hon.out.below, Beside.of_below hon.out.below⟩
end Go.Proofs.Ytpnaegohjbaggaa
