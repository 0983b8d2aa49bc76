/-
  TermBoxS, SixRels, SixRwBox, SixStr
-/
import Derived.Test.YtpnaegohjbaggaaKD21
import Derived.Test.YtpnaegohjbaggaaKD01
import Derived.Test.YtpnaegohjbaggaaKD03
import Derived.Deep.Cut
namespace Go.Proofs.Ytpnaegohjbaggaa
open Go.RowKit
def BoxDe (w : World) (k : Nat) (c0 c1 : Value) : Prop := w.heap[k]? = some (.cells #[c0, c1] 88 (0, 0))
theorem BoxDe.cells {w : World} {k : Nat} {c0 c1 : Value} (h : BoxDe w k c0 c1) : w.cell? ⟨k, 0, none⟩ = some c0 ∧ w.cell? ⟨k, 1, none⟩ = some c1 :=
 ⟨cell_of_block' h _ rfl, cell_of_block' h _ rfl⟩
theorem BoxDe.lt {w : World} {k : Nat} {c0 c1 : Value} (h : BoxDe w k c0 c1) : k < w.heap.size := (Array.getElem?_eq_some_iff.1 h).1
theorem BoxDe.on {w w' : World} {k : Nat} {c0 c1 : Value} (h : BoxDe w k c0 c1) (hb : Below w.heap.size w w') : BoxDe w' k c0 c1 := (hb.block k h.lt).trans h
def BoxFa (w : World) (k : Nat) (c0 c1 : Value) : Prop := w.heap[k]? = some (.cells #[c0, c1] 65 (0, 0))
theorem BoxFa.cells {w : World} {k : Nat} {c0 c1 : Value} (h : BoxFa w k c0 c1) : w.cell? ⟨k, 0, none⟩ = some c0 ∧ w.cell? ⟨k, 1, none⟩ = some c1 :=
 ⟨cell_of_block' h _ rfl, cell_of_block' h _ rfl⟩
theorem BoxFa.lt {w : World} {k : Nat} {c0 c1 : Value} (h : BoxFa w k c0 c1) : k < w.heap.size := (Array.getElem?_eq_some_iff.1 h).1
theorem BoxFa.on {w w' : World} {k : Nat} {c0 c1 : Value} (h : BoxFa w k c0 c1) (hb : Below w.heap.size w w') : BoxFa w' k c0 c1 := (hb.block k h.lt).trans h
theorem boxFa_new (w : World) (c0 c1 : Value) : BoxFa (w.alloc (.cells #[c0, c1] 65)) w.heap.size c0 c1 := alloc_new' _ _
end Go.Proofs.Ytpnaegohjbaggaa
namespace Go.Proofs.Ytpnaegohjbaggaa
open Go.RowKit
theorem decls6_ok : ∀ d ∈ decls6, d.name.size ≤ maxLen ∧ (0 ≤ d.arity ∧ d.arity ≤ 100) := by
 intro d hd;simp only [decls6, List.mem_cons, List.not_mem_nil, or_false] at hd
 rcases hd with rfl | rfl | rfl | rfl | rfl | rfl <;> exact ⟨by decide, by decide⟩
set_option maxRecDepth 100000 in
set_option maxHeartbeats 1000000 in
theorem relations_any (w : World) : Calls Try.prog 54 #[] w fun e w' => e = .returned (.slice (some ⟨w.heap.size, 0, none⟩) 6 6) ∧ RepDes (fun k => w.heap.size ≤ k ∧ k < w'.heap.size) w' decls6 (.slice (some ⟨w.heap.size, 0, none⟩) 6 6) ∧ Below w.heap.size w w' := by
 go_enter Try.func54, Try.ntmps54
 go_wp2_with fail
 go_ret
 refine ⟨rfl, slg_row (n := 2) (bytes := 24) (l := decls6) (alloc_new' w _) ⟨Nat.le_refl _, by simp⟩ rfl (by decide) (fun i h => ?_), below_alloc _ _⟩
 match i, h with
 | 0, h => exact ⟨rfl, rfl, (decls6_ok _ (List.getElem_mem h)).1, small64 (decls6_ok _ (List.getElem_mem h)).2⟩
 | 1, h => exact ⟨rfl, rfl, (decls6_ok _ (List.getElem_mem h)).1, small64 (decls6_ok _ (List.getElem_mem h)).2⟩
 | 2, h => exact ⟨rfl, rfl, (decls6_ok _ (List.getElem_mem h)).1, small64 (decls6_ok _ (List.getElem_mem h)).2⟩
 | 3, h => exact ⟨rfl, rfl, (decls6_ok _ (List.getElem_mem h)).1, small64 (decls6_ok _ (List.getElem_mem h)).2⟩
 | 4, h => exact ⟨rfl, rfl, (decls6_ok _ (List.getElem_mem h)).1, small64 (decls6_ok _ (List.getElem_mem h)).2⟩
 | 5, h => exact ⟨rfl, rfl, (decls6_ok _ (List.getElem_mem h)).1, small64 (decls6_ok _ (List.getElem_mem h)).2⟩
theorem decl6_get {i : Nat} (h : i < 6) : decl6 i = decls6[i]'h := by
 match i, h with
 | 0, _ => rfl
 | 1, _ => rfl
 | 2, _ => rfl
 | 3, _ => rfl
 | 4, _ => rfl
 | 5, _ => rfl
theorem decl6_ok {i : Nat} (h : i < 6) : (decl6 i).name.size ≤ maxLen ∧ 1 ≤ (decl6 i).arity ∧ (decl6 i).arity ≤ 3 := by
 match i, h with
 | 0, _ => decide
 | 1, _ => decide
 | 2, _ => decide
 | 3, _ => decide
 | 4, _ => decide
 | 5, _ => decide
def RelAt (B : Nat) (w : World) (v : Value) : Prop := ∃ b, v = .slice (some ⟨b, 0, none⟩) 6 6 ∧ B ≤ b ∧ RepDes (fun k => B ≤ k ∧ k < w.heap.size) w decls6 v
theorem RelAt.stay {B : Nat} {w w' : World} {v : Value} (hb : Below w.heap.size w w') (h : RelAt B w v) : RelAt B w' v := by
 obtain ⟨b, e, hB, h⟩ := h;exact ⟨b, e, hB, RepDes.on (fun k hk => ⟨hk.1, Nat.lt_of_lt_of_le hk.2 hb.size⟩) (fun k hk => hb.block k hk.2) h⟩
def DeclPtr (i : Nat) (w : World) (v : Value) : Prop := ∃ b, v = .pointer (some ⟨b, i * 2, none⟩) ∧ b < w.heap.size ∧ w.cell? ⟨b, i * 2, none⟩ = some (.string (decl6 i).name) ∧ w.cell? ⟨b, i * 2 + 1, none⟩ = some (.int .i64 (decl6 i).arity)
theorem DeclPtr.stay {i : Nat} {w w' : World} {v : Value} (hb : Below w.heap.size w w') (h : DeclPtr i w v) : DeclPtr i w' v := by
 obtain ⟨b, e, hB, h1, h2⟩ := h;exact ⟨b, e, Nat.lt_of_lt_of_le hB hb.size, (hb.cell (p := ⟨b, i * 2, none⟩) hB).trans h1, (hb.cell (p := ⟨b, i * 2 + 1, none⟩) hB).trans h2⟩
theorem RelAt.ptr {B i : Nat} {w : World} {b : Nat} (hi : i < 6) (h : RepDes (fun k => B ≤ k ∧ k < w.heap.size) w decls6 (.slice (some ⟨b, 0, none⟩) 6 6)) : DeclPtr i w (.pointer (some ⟨b, i * 2, none⟩)) := by
 obtain ⟨-, -, b', o, e, hS, c0, c1, -⟩ := RepDes.at h i hi
 cases e
 rw [← decl6_get hi, Nat.zero_add] at c0 c1;exact ⟨b, rfl, hS.2, c0, c1⟩
def ZeroDe (B : Nat) (w : World) (v : Value) : Prop := ∃ b, v = .pointer (some ⟨b, 0, none⟩) ∧ B ≤ b ∧ BoxDe w b (.string ⟨#[]⟩) (.int .i64 0)
theorem ZeroDe.stay {B : Nat} {w w' : World} {v : Value} (hb : Below w.heap.size w w') (h : ZeroDe B w v) : ZeroDe B w' v := by
 obtain ⟨b, e, hB, h1⟩ := h;exact ⟨b, e, hB, h1.on hb⟩
theorem boxDe_set {w : World} {k : Nat} {c0 c1 : Value} (h : BoxDe w k c0 c1) (d0 d1 : Value) : BoxDe ((w.setCell ⟨k, 0, none⟩ d0).setCell ⟨k, 1, none⟩ d1) k d0 d1 :=
 heap_setCell_same _ _ _ _ _ _ (heap_setCell_same _ _ _ _ _ _ h)
theorem adrName_size (i : Nat) : (adrName i).size ≤ maxLen := by
 show 1 ≤ maxLen
 decide
theorem numOf_i64 {x : Rw} (h : RwOk x) (k : Nat) : I64 (numOf x k) := by
 obtain ⟨-, -, h0, h1, h2, h3⟩ := h
 match k with
 | 0 => exact h0
 | 1 => exact h1
 | 2 => exact h2
 | 3 => exact h3
 | _ + 4 => exact ⟨by show (_ : Int) ≤ 0; omega, by show (0 : Int) ≤ _; omega⟩
theorem tdiv_i64 {k : Int} (h : I64 k) (n : Int) (hn : 1 ≤ n) : I64 (k.tdiv n) := by
 obtain ⟨h1, h2⟩ := h
 by_cases hk : 0 ≤ k
 ·rw [Int.tdiv_eq_ediv_of_nonneg hk]
  have a1 := Int.ediv_nonneg hk (show 0 ≤ n by omega);have a2 := Int.ediv_le_self n hk;exact ⟨by omega, by omega⟩
 ·have e : k.tdiv n = -((-k).tdiv n) := by rw [Int.neg_tdiv, Int.neg_neg]
  have hk' : 0 ≤ -k := by omega
  rw [e, Int.tdiv_eq_ediv_of_nonneg hk'];have a1 := Int.ediv_nonneg hk' (show 0 ≤ n by omega);have a2 := Int.ediv_le_self n hk';refine ⟨by omega, by omega⟩
end Go.Proofs.Ytpnaegohjbaggaa
namespace Go.Proofs.Ytpnaegohjbaggaa
open Go.RowKit
def BoxRw (w : World) (k : Nat) (x : Rw) : Prop := w.heap[k]? = some (.cells #[.int .i64 x.kind, .int .i64 x.name, .int .i64 x.n0, .int .i64 x.n1, .int .i64 x.n2, .int .i64 x.n3] 69 (0, 0))
theorem BoxRw.cells {w : World} {k : Nat} {x : Rw} (h : BoxRw w k x) : w.cell? ⟨k, 0, none⟩ = some (.int .i64 x.kind) ∧ w.cell? ⟨k, 1, none⟩ = some (.int .i64 x.name) ∧ w.cell? ⟨k, 2, none⟩ = some (.int .i64 x.n0) ∧ w.cell? ⟨k, 3, none⟩ = some (.int .i64 x.n1) ∧ w.cell? ⟨k, 4, none⟩ = some (.int .i64 x.n2) ∧ w.cell? ⟨k, 5, none⟩ = some (.int .i64 x.n3) :=
 ⟨cell_of_block' h _ rfl, cell_of_block' h _ rfl, cell_of_block' h _ rfl, cell_of_block' h _ rfl, cell_of_block' h _ rfl, cell_of_block' h _ rfl⟩
theorem BoxRw.lt {w : World} {k : Nat} {x : Rw} (h : BoxRw w k x) : k < w.heap.size := (Array.getElem?_eq_some_iff.1 h).1
theorem BoxRw.on {w w' : World} {k : Nat} {x : Rw} (h : BoxRw w k x) (hb : Below w.heap.size w w') : BoxRw w' k x := (hb.block k h.lt).trans h
theorem BoxRw.num {w : World} {b : Nat} {x : Rw} (h : BoxRw w b x) (k : Nat) (hk : k < 4) : w.cell? ⟨b, 2 + k, none⟩ = some (.int .i64 (numOf x k)) := by
 obtain ⟨-, -, p2, p3, p4, p5⟩ := h.cells
 match k, hk with
 | 0, _ => exact p2
 | 1, _ => exact p3
 | 2, _ => exact p4
 | 3, _ => exact p5
theorem boxRw_new (w : World) (x : Rw) : BoxRw (w.alloc (.cells #[.int .i64 x.kind, .int .i64 x.name, .int .i64 x.n0, .int .i64 x.n1, .int .i64 x.n2, .int .i64 x.n3] 69)) w.heap.size x := alloc_new' _ _
end Go.Proofs.Ytpnaegohjbaggaa
namespace Go.Proofs.Ytpnaegohjbaggaa
open Go.RowKit
def StrPtr (o : Nat) (s : ByteArray) (w : World) (v : Value) : Prop := ∃ b, v = .pointer (some ⟨b, o, none⟩) ∧ b < w.heap.size ∧ w.cell? ⟨b, o, none⟩ = some (.string s)
theorem StrPtr.stay {o : Nat} {s : ByteArray} {w w' : World} {v : Value} (hb : Below w.heap.size w w') (h : StrPtr o s w v) : StrPtr o s w' v := by
 obtain ⟨b, e, hl, h⟩ := h;exact ⟨b, e, Nat.lt_of_lt_of_le hl hb.size, (hb.cell (p := ⟨b, o, none⟩) hl).trans h⟩
end Go.Proofs.Ytpnaegohjbaggaa
