/-
  PickSix, Own, Append, OwnK, SixLeaf, SixKit
-/
import Derived.Test.YtjohcnhiblfbnaaGreatDoorR05
import Derived.Test.YtjohcnhiblfbnaaGreatDoorR03
import Derived.WalkSpells
import Derived.WalkLawsBesides
import Derived.Lib.SmallJoins
import Derived.Maps.AppendAt
import Derived.Deep.Cut
namespace Go.Proofs.YtjohcnhiblfbnaaGreatDoor
open Go.RowKit
theorem pick6_any (c n : Int) (w : World) (hc : I64 c) (hn : 1 ≤ n) (hn2 : n ≤ 9223372036854775807) :
  Calls Tryz.prog 52 #[.int .i64 c, .int .i64 n] w fun e w' => e = .returned (.int .i64 (pickZ c n)) ∧ w = w' := by
 obtain ⟨h1, h2⟩ := hc
 by_cases h : c < 0
 ·have HF : Hid (pickZ c n = (-(c + 1)) % n) := by show _ = _; rw [pickZ, if_pos h]
  have h3 : 0 ≤ -(c + 1) := by omega
  have hne : (n == 0) = false := beq_eq_false_iff_ne.2 (by omega)
  go_enter Tryz.func52, Tryz.ntmps52
  go_wp2_with fail
  go_ret
  refine ⟨?_, rfl⟩
  rw [HF.out]
  refine ret_int' ?_
  rw [← Int.neg_tmod, Int.tmod_eq_emod_of_nonneg h3]
 ·have HF : Hid (pickZ c n = c % n) := by show _ = _; rw [pickZ, if_neg h]
  have h3 : 0 ≤ c := by omega
  have hne : (n == 0) = false := beq_eq_false_iff_ne.2 (by omega)
  go_enter Tryz.func52, Tryz.ntmps52
  go_wp2_with fail
  go_ret
  refine ⟨?_, rfl⟩
  rw [HF.out]
  rfl
end Go.Proofs.YtjohcnhiblfbnaaGreatDoor
namespace Go.Proofs.YtjohcnhiblfbnaaGreatDoor
open Go.RowKit
end Go.Proofs.YtjohcnhiblfbnaaGreatDoor
namespace Go.Proofs.YtjohcnhiblfbnaaGreatDoor
open Go.RowKit
theorem add_lit' (b o j : Nat) : ((⟨b, o, none⟩ : Addr).add j) = ⟨b, o + j, none⟩ := by unfold Addr.add; split <;> simp_all
theorem wpList_append_by {P : Program} {w w' : World} {ops : Array Oper} {rest : List Oper} {o : Oper} {a : Act} {Q : Exit → Act → World → Prop} (hgd : o.guard = none) (s x : Operand) (t : TypeId)
  (ho : o.op = .call { callee := .builtin .append, args := #[s, x], argTypes := #[t, t] }) {v xv v' : Value} (hs : a.eval s = v) (hx : a.eval x = xv) (hrun : (Builtin.append_ #[t, t] o.type #[v, xv]).run P w = .ok v' w')
  (h : wpList P ops Q rest (a.put o.dst v') w') : wpList P ops Q (o :: rest) a w := by
 refine wpList_plain hgd fun K hK => ?_
 unfold Oper.wp execOp
 simp only [ho, resolve, invoke, builtin, Sem.run_bind, Sem.run_pure, Result.andThen_ok, List.map_toArray, List.map_cons, List.map_nil, hs, hx, hrun]
 exact hK _ _ h
end Go.Proofs.YtjohcnhiblfbnaaGreatDoor
namespace Go.Proofs.YtjohcnhiblfbnaaGreatDoor
open Go.RowKit
structure Kd (α : Type) where
 T : TypeId
 ST : TypeId
 n : Nat
 bytes : Nat
 R : (Nat → Prop) → World → α → (Nat → Value) → Prop
 pos : 0 < n
 few : bytes ≤ 1000
 on : ∀ {S S' : Nat → Prop} {w w' : World} {x : α} {c : Nat → Value}, (∀ k, S k → S' k) → (∀ k, S k → w'.heap[k]? = w.heap[k]?) → R S w x c → R S' w' x c
 one : ∀ {S : Nat → Prop} {w : World} {x : α} {c : Nat → Value}, R S w x c → ∀ j, j < n → (c j).oneCell' = true
 und : Tryz.prog.underlying ST = some (.slice T)
 info : ∃ (i : TypeInfo) (z : Value), Tryz.prog.info? T = some i ∧ i.zero = some z ∧ i.size = n ∧ i.bytes = bytes ∧ z.cells.size = n
theorem ownsRow_on {w w' : World} {base : Nat} {e : TypeId} {n k : Nat} {v : Value} {xs : List Value} (h : w.ownsRow base e n v k xs) (hw : ∀ g, base ≤ g → g < w.heap.size → v.ownBlock = some g → w'.heap[g]? = w.heap[g]?) : w'.ownsRow base e n v k xs := by
 refine ⟨h.1, ?_⟩
 rcases h.2 with hn | ⟨g, cap, cur, hv, hb, hg, rest⟩
 ·exact .inl hn
 ·subst hv
  exact .inr ⟨g, cap, cur, rfl, hb, (hw g hb (Array.getElem?_eq_some_iff.1 hg).1 rfl).trans hg, rest⟩
theorem ownsRow_down {w : World} {base base' : Nat} {e : TypeId} {n k : Nat} {v : Value} {xs : List Value} (h : w.ownsRow base e n v k xs) (hb : base' ≤ base) : w.ownsRow base' e n v k xs := by
 refine ⟨h.1, ?_⟩
 rcases h.2 with hn | ⟨g, cap, cur, hv, hg, rest⟩
 ·exact .inl hn
 ·exact .inr ⟨g, cap, cur, hv, Nat.le_trans hb hg, rest⟩
section
variable {α : Type} (K : Kd α)
def OwnK (S : Nat → Prop) (w : World) (base : Nat) (l : List α) (v : Value) : Prop :=
 ∃ xs, w.ownsRow base K.T K.n v l.length xs ∧ ∀ i (h : i < l.length), ∃ c : Nat → Value, (∀ j, j < K.n → xs[i * K.n + j]? = some (c j)) ∧ K.R S w l[i] c
def MineK (w : World) (base : Nat) (l : List α) (v : Value) : Prop := OwnK K (fun b => base ≤ b ∧ b < w.heap.size ∧ v.ownBlock ≠ some b) w base l v
variable {K}
theorem MineK.nil (w : World) (base : Nat) : MineK K w base [] (.slice none 0 0) := ⟨[], World.ownsRow_nil _ _ _ _, fun i hi => by simp at hi⟩
theorem OwnK.form {S : Nat → Prop} {w : World} {base : Nat} {l : List α} {v : Value} (h : OwnK K S w base l v) : ∃ a cap, v = .slice a l.length cap := by
 obtain ⟨xs, ⟨-, ho⟩, -⟩ := h
 rcases ho with ⟨rfl, hn⟩ | ⟨g, cap, cur, rfl, -⟩
 ·exact ⟨none, 0, by rw [hn]⟩
 ·exact ⟨_, _, rfl⟩
theorem OwnK.lies {S : Nat → Prop} {w : World} {base : Nat} {l : List α} {v : Value} (h : OwnK K S w base l v) (k : Nat) (hk : v.ownBlock = some k) : base ≤ k ∧ k < w.heap.size := by
 obtain ⟨xs, ⟨_, hown⟩, _⟩ := h
 rcases hown with ⟨rfl, hn⟩ | ⟨g, cap, cur, rfl, hbg, hh, _⟩
 ·simp [Value.ownBlock] at hk
 ·simp [Value.ownBlock] at hk
  subst hk
  exact ⟨hbg, (Array.getElem?_eq_some_iff.1 hh).1⟩
theorem OwnK.on {S S' : Nat → Prop} {w w' : World} {base : Nat} {l : List α} {v : Value} (h : OwnK K S w base l v) (hS : ∀ k, S k → S' k) (hw : ∀ k, S k → w'.heap[k]? = w.heap[k]?) (ho : ∀ k, base ≤ k → k < w.heap.size → v.ownBlock = some k → w'.heap[k]? = w.heap[k]?) : OwnK K S' w' base l v := by
 obtain ⟨xs, hown, hr⟩ := h
 refine ⟨xs, ownsRow_on hown ho, fun i hi => ?_⟩
 obtain ⟨c, hc, hR⟩ := hr i hi
 exact ⟨c, hc, K.on hS hw hR⟩
theorem MineK.kept {w w' : World} {base : Nat} {l : List α} {v : Value} (h : MineK K w base l v) (hsz : w.heap.size ≤ w'.heap.size) (hw : ∀ k, base ≤ k → k < w.heap.size → w'.heap[k]? = w.heap[k]?) : MineK K w' base l v :=
 OwnK.on h (fun k hk => ⟨hk.1, by omega, hk.2.2⟩) (fun k hk => hw k hk.1 hk.2.1) (fun k h1 h2 _ => hw k h1 h2)
theorem MineK.stands {w w' : World} {base : Nat} {l : List α} {v : Value} (h : MineK K w base l v) (hb : Below w.heap.size w w') : MineK K w' base l v :=
 h.kept hb.size (fun k _ hk => hb.block k hk)
theorem MineK.far {w : World} {base : Nat} {l : List α} {v : Value} (h : MineK K w base l v) {p : Addr} (hp : p.block < base) (c : Value) : MineK K (w.setCell p c) base l v :=
 h.kept (by simp) (fun k hk _ => Below.heap_setCell _ _ _ _ (by omega))
theorem MineK.down {w : World} {base base' : Nat} {l : List α} {v : Value} (h : MineK K w base l v) (hb : base' ≤ base) : MineK K w base' l v := by
 obtain ⟨xs, hown, hr⟩ := h
 refine ⟨xs, ownsRow_down hown hb, fun i hi => ?_⟩
 obtain ⟨c, hc, hR⟩ := hr i hi
 exact ⟨c, hc, K.on (fun k hk => ⟨by omega, hk.2⟩) (fun _ _ => rfl) hR⟩
theorem MineK.slg {S' : Nat → Prop} {w : World} {base : Nat} {l : List α} {v : Value} (h : MineK K w base l v) (hS : ∀ k, base ≤ k → k < w.heap.size → S' k) (hl : l.length ≤ 100000) : SlG S' w K.n K.bytes (K.R S' w) l v := by
 obtain ⟨xs, ⟨hlen, hown⟩, hr⟩ := h
 have hby : l.length * K.bytes ≤ 140737488355328 := by
  have := Nat.mul_le_mul hl K.few
  omega
 rcases hown with ⟨rfl, hn⟩ | ⟨g, cap, cur, rfl, hbg, hh, hnc, hcm, hcs, htk⟩
 ·obtain rfl : l = [] := List.length_eq_zero_iff.1 hn
  exact ⟨none, 0, 0, 0, rfl, Nat.le_refl _, by simp, fun h => by omega, fun h => by simp at h, fun i hi => by simp at hi⟩
 ·have hgl := (Array.getElem?_eq_some_iff.1 hh).1
  refine ⟨_, g, 0, cap, rfl, hnc, hby, fun _ => rfl, fun _ => hS g hbg hgl, fun i hi => ?_⟩
  obtain ⟨c, hc, hR⟩ := hr i hi
  refine ⟨c, fun j hj => ?_, K.on (fun k hk => hS k hk.1 hk.2.1) (fun _ _ => rfl) hR⟩
  have h1 := hc j hj
  rw [← htk, List.getElem?_take] at h1
  have hlt : i * K.n + j < l.length * K.n := by
   have : (i + 1) * K.n ≤ l.length * K.n := Nat.mul_le_mul_right _ hi
   rw [Nat.succ_mul] at this; omega
  rw [if_pos hlt] at h1
  rw [show 0 + i * K.n + j = i * K.n + j by omega]
  exact cell_of_block' hh _ (by rw [← Array.getElem?_toList]; exact h1)
theorem own_append {w : World} {base : Nat} {L : List α} {lv : Value} {y : α} {c : Nat → Value} {cs : Array Value} {b : Nat} {t : TypeId} {fz : Nat × Nat} (hown : MineK K w base L lv) (hbase : base ≤ w.heap.size) (hlen : L.length ≤ 1000)
  (hb : w.heap[b]? = some (.cells cs t fz)) (hcs : cs.size = K.n) (hc : ∀ j, j < K.n → cs[j]? = some (c j)) (hrep : K.R (fun b' => base ≤ b' ∧ b' < w.heap.size ∧ lv.ownBlock ≠ some b') w y c) (ty : TypeId) :
  ∃ (a : Option Addr) (cap : Nat) (w6 : World), (Builtin.append_ #[K.ST, K.ST] ty #[lv, .slice (some ⟨b, 0, none⟩) 1 1]).run Tryz.prog w = .ok (.slice a (L.length + 1) cap) w6 ∧
   MineK K w6 base (L ++ [y]) (.slice a (L.length + 1) cap) ∧ w.grownBy w6 lv.ownBlock := by
 obtain ⟨i0, z, hi, hz0, hz1, hz2, hz3⟩ := K.info
 obtain ⟨xs, hrow, hr⟩ := hown
 have hby : (L.length + 1) * K.bytes ≤ 140737488355328 := by
  have := Nat.mul_le_mul (show L.length + 1 ≤ 1001 by omega) K.few
  omega
 obtain ⟨v', w6, hrun, h1, h2, _, h5⟩ := run_append_own_at (P := Tryz.prog) w base K.ST ty K.T i0 z K.n K.bytes K.und hi hz0 hz1 hz2 hz3 K.pos lv L.length xs hrow ⟨b, 0, none⟩ 1 1 cs.toList (by simp [hcs])
  (fun j u hj => by
   have e : ((⟨b, 0, none⟩ : Addr).add j) = ⟨b, 0 + j, none⟩ := add_lit' _ _ _
   rw [e, Nat.zero_add]
   exact cell_of_block' hb u (by rw [← Array.getElem?_toList]; exact hj))
  (fun u hu => by
   obtain ⟨j, hj, rfl⟩ := List.getElem_of_mem hu
   have hjn : j < K.n := by rw [← hcs]; simpa using hj
   have h1 := hc j hjn
   have h2 : cs[j]? = some (cs.toList[j]) := by rw [← Array.getElem?_toList]; exact List.getElem?_eq_getElem hj
   rw [Option.some.inj (h2.symm.trans h1)]
   exact K.one hrep j hjn) (by unfold maxLen; omega) hby hbase
 have hsub : ∀ k, (base ≤ k ∧ k < w.heap.size ∧ lv.ownBlock ≠ some k) → (base ≤ k ∧ k < w6.heap.size ∧ v'.ownBlock ≠ some k) := fun k hk => by
  have := h2.size
  refine ⟨hk.1, by omega, fun e => ?_⟩
  rcases h5 with h5 | h5
  ·exact hk.2.2 (h5.symm.trans e)
  ·rw [h5] at e; have := Option.some.inj e; omega
 have hsame : ∀ k, (base ≤ k ∧ k < w.heap.size ∧ lv.ownBlock ≠ some k) → w6.heap[k]? = w.heap[k]? := fun k hk => h2.block k hk.2.1 (fun e => hk.2.2 e.symm)
 have hm : MineK K w6 base (L ++ [y]) v' := by
  refine ⟨xs ++ cs.toList, by rw [List.length_append]; exact h1, fun i hi => ?_⟩
  by_cases hlt : i < L.length
  ·obtain ⟨c', hc', hR⟩ := hr i hlt
   refine ⟨c', fun j hj => ?_, by rw [List.getElem_append_left hlt]; exact K.on hsub hsame hR⟩
   have hil : i * K.n + j < xs.length := by
    rw [hrow.1]
    have : (i + 1) * K.n ≤ L.length * K.n := Nat.mul_le_mul_right _ hlt
    rw [Nat.succ_mul] at this; omega
   rw [List.getElem?_append_left hil]; exact hc' j hj
  ·obtain rfl : i = L.length := by simp at hi; omega
   refine ⟨c, fun j hj => ?_, by rw [List.getElem_append_right (Nat.le_refl _)]; simpa using K.on hsub hsame hrep⟩
   rw [List.getElem?_append_right (by rw [hrow.1]; omega), hrow.1, show L.length * K.n + j - L.length * K.n = j by omega, Array.getElem?_toList]
   exact hc j hj
 obtain ⟨a, cap, rfl⟩ := OwnK.form hm
 rw [List.length_append] at hrun hm
 exact ⟨a, cap, w6, hrun, hm, h2⟩
theorem mk_append {w4 w5 : World} {base : Nat} {L : List α} {lv : Value} {y : α} {c : Nat → Value} {cs : Array Value} (hown : MineK K w4 base L lv) (hbase : base ≤ w4.heap.size) (hlen : L.length ≤ 1000)
  (hb : Below w4.heap.size w4 w5) (hcs : cs.size = K.n) (hc : ∀ j, j < K.n → cs[j]? = some (c j)) (hrep : K.R (fun b => w4.heap.size ≤ b ∧ b < w5.heap.size) w5 y c) (ty : TypeId) :
  ∃ (a : Option Addr) (cap : Nat) (w6 : World), (Builtin.append_ #[K.ST, K.ST] ty #[lv, .slice (some ⟨w5.heap.size, 0, none⟩) 1 1]).run Tryz.prog (w5.alloc (.cells cs K.T)) = .ok (.slice a (L.length + 1) cap) w6 ∧
   MineK K w6 base (L ++ [y]) (.slice a (L.length + 1) cap) ∧ Below base w4 w6 ∧ (∀ k, k < w4.heap.size → lv.ownBlock ≠ some k → w6.heap[k]? = w4.heap[k]?) := by
 have hbW := Below.step hb (below_alloc w5 (.cells cs K.T))
 have hsW := World.size_alloc w5 (.cells cs K.T)
 have hnew := alloc_new' w5 (.cells cs K.T)
 have hold : ∀ b, b < w5.heap.size → (w5.alloc (.cells cs K.T)).heap[b]? = w5.heap[b]? := fun b hb => Below.heap_alloc _ _ _ hb
 generalize w5.alloc (.cells cs K.T) = W at *
 have hs5 := hb.size
 have hm := hown.stands hbW
 obtain ⟨a, cap, w6, hrun, ho, hg⟩ := own_append hm (by omega) hlen hnew hcs hc (K.on (fun k hk => ⟨by omega, by omega, fun e => by have := (OwnK.lies hown k e).2; omega⟩) (fun k hk => hold k hk.2) hrep) ty
 have hgs := hg.size
 refine ⟨a, cap, w6, hrun, ho, ?_, ?_⟩
 ·refine ⟨hg.os.trans hbW.os, hg.tape.trans hbW.tape, hg.output.trans hbW.output, by omega, fun k hk => ?_⟩
  exact (hg.block k (by omega) (fun e => by have := (OwnK.lies hown k e.symm).1; omega)).trans (hbW.block k (by omega))
 ·intro k hk hne
  exact (hg.block k (by omega) (fun e => hne e.symm)).trans (hbW.block k hk)
end
theorem info_of {T : TypeId} {n bytes : Nat} (h : (Tryz.prog.info? T).map (fun i => (i.zero.map (fun z => z.cells.size), i.size, i.bytes)) = some (some n, n, bytes)) : ∃ (i : TypeInfo) (z : Value), Tryz.prog.info? T = some i ∧ i.zero = some z ∧ i.size = n ∧ i.bytes = bytes ∧ z.cells.size = n := by
 match hi : Tryz.prog.info? T, h with
 | some i, h =>
  simp only [Option.map_some, Option.some.injEq, Prod.mk.injEq] at h
  obtain ⟨h1, h2, h3⟩ := h
  match hz : i.zero, h1 with
  | some z, h1 => exact ⟨i, z, rfl, hz, h2, h3, by simpa using h1⟩
def kdTm : Kd Tm where
 T := 52
 ST := 40
 n := 7
 bytes := 104
 R := fun S w x c => RepM S w x (c 0) (c 1) (c 2) (c 3) (c 4) (c 5) (c 6)
 pos := by omega
 few := by omega
 on := fun hS hw h => RepM.on hS hw _ h
 one := fun h j hj => by
  obtain ⟨fa, fc, ga, gc, e0, e1, e2, e3, e4, e5, e6⟩ := h.form
  match j, hj with
  | 0, _ => rw [e0]; rfl
  | 1, _ => rw [e1]; rfl
  | 2, _ => rw [e2]; rfl
  | 3, _ => rw [e3]; rfl
  | 4, _ => rw [e4]; rfl
  | 5, _ => rw [e5]; rfl
  | 6, _ => rw [e6]; rfl
 und := Tryz.underlying40
 info := info_of (by kernel_rfl)
def kdLi : Kd Li where
 T := 46
 ST := 41
 n := 3
 bytes := 48
 R := fun S w x c => RepLi S w x (c 0) (c 1) (c 2)
 pos := by omega
 few := by omega
 on := fun hS hw h => RepLi.on hS hw h
 one := fun h j hj => by
  obtain ⟨ga, gc, e0, e1, e2⟩ := h.form
  match j, hj with
  | 0, _ => rw [e0]; rfl
  | 1, _ => rw [e1]; rfl
  | 2, _ => rw [e2]; rfl
 und := Tryz.underlying41
 info := info_of (by kernel_rfl)
def kdRu : Kd Ru where
 T := 43
 ST := 24
 n := 6
 bytes := 104
 R := fun S w x c => RepRu S w x (c 0) (c 1) (c 2) (c 3) (c 4) (c 5)
 pos := by omega
 few := by omega
 on := fun hS hw h => RepRu.on hS hw h
 one := fun h j hj => by
  obtain ⟨fa, fc, ga, gc, e0, e1, e2, e3, e4, e5⟩ := h.form
  match j, hj with
  | 0, _ => rw [e0]; rfl
  | 1, _ => rw [e1]; rfl
  | 2, _ => rw [e2]; rfl
  | 3, _ => rw [e3]; rfl
  | 4, _ => rw [e4]; rfl
  | 5, _ => rw [e5]; rfl
 und := Tryz.underlying24
 info := info_of (by kernel_rfl)
def kdFa : Kd Fa where
 T := 70
 ST := 23
 n := 2
 bytes := 40
 R := fun S w x c => RepFa S w x (c 0) (c 1)
 pos := by omega
 few := by omega
 on := fun hS hw h => RepFa.on hS hw h
 one := fun h j hj => by
  obtain ⟨ga, gc, e0, e1⟩ := h.form
  match j, hj with
  | 0, _ => rw [e0]; rfl
  | 1, _ => rw [e1]; rfl
 und := Tryz.underlying23
 info := info_of (by kernel_rfl)
def kdV : Kd V where
 T := 50
 ST := 48
 n := 4
 bytes := 56
 R := fun S w x c => RepG S w x (c 0) (c 1) (c 2) (c 3)
 pos := by omega
 few := by omega
 on := fun hS hw h => RepG.on hS hw _ h
 one := fun h j hj => by
  obtain ⟨ga, gc, e0, e1, e2, e3⟩ := h.form
  match j, hj with
  | 0, _ => rw [e0]; rfl
  | 1, _ => rw [e1]; rfl
  | 2, _ => rw [e2]; rfl
  | 3, _ => rw [e3]; rfl
 und := Tryz.underlying48
 info := info_of (by kernel_rfl)
end Go.Proofs.YtjohcnhiblfbnaaGreatDoor
namespace Go.Proofs.YtjohcnhiblfbnaaGreatDoor
open Go.RowKit
def vVal (i : Nat) : Value := .agg #[.int .i64 1, .string (vName i), .int .i64 0, .int .i64 0, .string ⟨#[]⟩, .slice none 0 0, .slice none 0 0]
def numVal (n : Int) : Value := .agg #[.int .i64 2, .string ⟨#[]⟩, .int .i64 1, .int .i64 n, .string ⟨#[]⟩, .slice none 0 0, .slice none 0 0]
theorem decls6_ok : ∀ d ∈ decls6, d.name.size ≤ maxLen ∧ (0 ≤ d.arity ∧ d.arity ≤ 100) := by
 intro d hd
 simp only [decls6, List.mem_cons, List.not_mem_nil, or_false] at hd
 rcases hd with rfl | rfl | rfl | rfl | rfl | rfl <;> exact ⟨by decide, by decide⟩
set_option maxRecDepth 100000 in
set_option maxHeartbeats 1000000 in
theorem num_any (n : Int) (w : World) : Calls Tryz.prog 97 #[.int .i64 n] w fun e w' => e = .returned (numVal n) ∧ Below w.heap.size w w' := by
 go_enter Tryz.func97, Tryz.ntmps97
 go_wp2_with fail
 exact bodyPost_ret (v := numVal n) (by simp [results, Tryz.results97, go_sem, numVal]) rfl ⟨rfl, below_alloc _ _⟩
set_option maxRecDepth 100000 in
set_option maxHeartbeats 1000000 in
theorem v_any (c : Int) (w : World) (hc : I64 c) : Calls Tryz.prog 96 #[.int .i64 c] w fun e w' => e = .returned (vVal (pickZ c 6).toNat) ∧ Below w.heap.size w w' := by
 go_enter Tryz.func96, Tryz.ntmps96
 go_wp2_with fail
 refine (pick6_any c 6 _ hc (by omega) (by omega)).mono ?_
 rintro e w' ⟨rfl, rfl⟩
 have hbd := pickZ_bd c 6 (by omega)
 obtain ⟨i, hi⟩ := Int.eq_ofNat_of_zero_le hbd.1
 rw [hi] at hbd ⊢
 have hj : i = 0 ∨ i = 1 ∨ i = 2 ∨ i = 3 ∨ i = 4 ∨ i = 5 := by omega
 have HZ : Hid ((pickZ c 6).toNat = i) := by show _ = _; rw [hi]; simp
 clear hbd hi
 rcases hj with rfl | rfl | rfl | rfl | rfl | rfl
 all_goals
  go_wp2_with fail
  refine bodyPost_ret (v := vVal (pickZ c 6).toNat) ?_ rfl ⟨rfl, ((Below.refl _ w).alloc (Nat.le_refl _) _).alloc (by simp) _⟩
  rw [HZ.out]
  simp [results, Tryz.results96, go_sem, vVal, vName]
set_option maxRecDepth 100000 in
set_option maxHeartbeats 1000000 in
theorem relations_any (w : World) : Calls Tryz.prog 33 #[] w fun e w' => e = .returned (.slice (some ⟨w.heap.size, 0, none⟩) 6 6) ∧ RepDes (fun k => w.heap.size ≤ k ∧ k < w'.heap.size) w' decls6 (.slice (some ⟨w.heap.size, 0, none⟩) 6 6) ∧ Below w.heap.size w w' := by
 go_enter Tryz.func33, Tryz.ntmps33
 go_wp2_with fail
 go_ret
 refine ⟨rfl, slg_row (n := 2) (bytes := 24) (l := decls6) (alloc_new' w _) ⟨Nat.le_refl _, by simp⟩ rfl (by decide) (fun i h => ?_), below_alloc _ _⟩
 match i, h with
 | 0, h => exact ⟨rfl, rfl, (decls6_ok _ (List.getElem_mem h)).1, small64 (decls6_ok _ (List.getElem_mem h)).2⟩
 | 1, h => exact ⟨rfl, rfl, (decls6_ok _ (List.getElem_mem h)).1, small64 (decls6_ok _ (List.getElem_mem h)).2⟩
 | 2, h => exact ⟨rfl, rfl, (decls6_ok _ (List.getElem_mem h)).1, small64 (decls6_ok _ (List.getElem_mem h)).2⟩
 | 3, h => exact ⟨rfl, rfl, (decls6_ok _ (List.getElem_mem h)).1, small64 (decls6_ok _ (List.getElem_mem h)).2⟩
 | 4, h => exact ⟨rfl, rfl, (decls6_ok _ (List.getElem_mem h)).1, small64 (decls6_ok _ (List.getElem_mem h)).2⟩
 | 5, h => exact ⟨rfl, rfl, (decls6_ok _ (List.getElem_mem h)).1, small64 (decls6_ok _ (List.getElem_mem h)).2⟩
end Go.Proofs.YtjohcnhiblfbnaaGreatDoor
namespace Go.Proofs.YtjohcnhiblfbnaaGreatDoor
open Go.RowKit
theorem decl6_get {i : Nat} (h : i < 6) : decl6 i = decls6[i]'h := by
 match i, h with
 | 0, _ => rfl
 | 1, _ => rfl
 | 2, _ => rfl
 | 3, _ => rfl
 | 4, _ => rfl
 | 5, _ => rfl
theorem decl6_ok {i : Nat} (h : i < 6) : (decl6 i).name.size ≤ maxLen ∧ 1 ≤ (decl6 i).arity ∧ (decl6 i).arity ≤ 3 := by
 match i, h with
 | 0, _ => decide
 | 1, _ => decide
 | 2, _ => decide
 | 3, _ => decide
 | 4, _ => decide
 | 5, _ => decide
def RelAt (B : Nat) (w : World) (v : Value) : Prop := ∃ b, v = .slice (some ⟨b, 0, none⟩) 6 6 ∧ B ≤ b ∧ RepDes (fun k => B ≤ k ∧ k < w.heap.size) w decls6 v
theorem RelAt.stay {B : Nat} {w w' : World} {v : Value} (hb : Below w.heap.size w w') (h : RelAt B w v) : RelAt B w' v := by
 obtain ⟨b, e, hB, h⟩ := h
 exact ⟨b, e, hB, RepDes.on (fun k hk => ⟨hk.1, Nat.lt_of_lt_of_le hk.2 hb.size⟩) (fun k hk => hb.block k hk.2) h⟩
def DeclPtr (i : Nat) (w : World) (v : Value) : Prop := ∃ b, v = .pointer (some ⟨b, i * 2, none⟩) ∧ b < w.heap.size ∧ w.cell? ⟨b, i * 2, none⟩ = some (.string (decl6 i).name) ∧ w.cell? ⟨b, i * 2 + 1, none⟩ = some (.int .i64 (decl6 i).arity)
theorem DeclPtr.stay {i : Nat} {w w' : World} {v : Value} (hb : Below w.heap.size w w') (h : DeclPtr i w v) : DeclPtr i w' v := by
 obtain ⟨b, e, hB, h1, h2⟩ := h
 exact ⟨b, e, Nat.lt_of_lt_of_le hB hb.size, (hb.cell (p := ⟨b, i * 2, none⟩) hB).trans h1, (hb.cell (p := ⟨b, i * 2 + 1, none⟩) hB).trans h2⟩
theorem RelAt.ptr {B i : Nat} {w : World} {b : Nat} (hi : i < 6) (h : RepDes (fun k => B ≤ k ∧ k < w.heap.size) w decls6 (.slice (some ⟨b, 0, none⟩) 6 6)) : DeclPtr i w (.pointer (some ⟨b, i * 2, none⟩)) := by
 obtain ⟨-, -, b', o, e, hS, c0, c1, -⟩ := RepDes.at h i hi
 cases e
 rw [← decl6_get hi, Nat.zero_add] at c0 c1
 exact ⟨b, rfl, hS.2, c0, c1⟩
def ZeroDe (B : Nat) (w : World) (v : Value) : Prop := ∃ b, v = .pointer (some ⟨b, 0, none⟩) ∧ B ≤ b ∧ BoxDe w b (.string ⟨#[]⟩) (.int .i64 0)
theorem ZeroDe.stay {B : Nat} {w w' : World} {v : Value} (hb : Below w.heap.size w w') (h : ZeroDe B w v) : ZeroDe B w' v := by
 obtain ⟨b, e, hB, h1⟩ := h
 exact ⟨b, e, hB, h1.on hb⟩
theorem boxDe_set {w : World} {k : Nat} {c0 c1 : Value} (h : BoxDe w k c0 c1) (d0 d1 : Value) : BoxDe ((w.setCell ⟨k, 0, none⟩ d0).setCell ⟨k, 1, none⟩ d1) k d0 d1 :=
 heap_setCell_same _ _ _ _ _ _ (heap_setCell_same _ _ _ _ _ _ h)
def at7 (c0 c1 c2 c3 c4 c5 c6 : Value) : Nat → Value
 | 0 => c0 | 1 => c1 | 2 => c2 | 3 => c3 | 4 => c4 | 5 => c5 | _ => c6
theorem mineOne {w : World} {base b : Nat} {S : Nat → Prop} {y : Tm} {c0 c1 c2 c3 c4 c5 c6 : Value} (hb : w.heap[b]? = some (.cells #[c0, c1, c2, c3, c4, c5, c6] 52 (0, 0))) (hB : base ≤ b) (hS : ∀ k, S k → base ≤ k ∧ k < w.heap.size ∧ k ≠ b) (h : RepM S w y c0 c1 c2 c3 c4 c5 c6) :
  MineK kdTm w base [y] (.slice (some ⟨b, 0, none⟩) 1 1) := by
 refine ⟨[c0, c1, c2, c3, c4, c5, c6], ⟨rfl, .inr ⟨b, 1, _, rfl, hB, hb, Nat.le_refl _, by decide, rfl, rfl⟩⟩, fun i hi => ?_⟩
 obtain rfl : i = 0 := by simpa using hi
 exact ⟨at7 c0 c1 c2 c3 c4 c5 c6, fun j hj => match j, hj with | 0, _ => rfl | 1, _ => rfl | 2, _ => rfl | 3, _ => rfl | 4, _ => rfl | 5, _ => rfl | 6, _ => rfl,
  RepM.on (fun k hk => ⟨(hS k hk).1, (hS k hk).2.1, fun e => (hS k hk).2.2 (Option.some.inj e).symm⟩) (fun _ _ => rfl) y h⟩
theorem vName_size (i : Nat) : (vName i).size ≤ maxLen := by
 show 1 ≤ maxLen
 decide
theorem adrName_size (i : Nat) : (adrName i).size ≤ maxLen := by
 show 1 ≤ maxLen
 decide
theorem vTm_rep (S : Nat → Prop) (w : World) (i : Nat) : RepM S w (vTm i) (.int .i64 1) (.string (vName i)) (.int .i64 0) (.int .i64 0) (.string ⟨#[]⟩) (.slice none 0 0) (.slice none 0 0) :=
 repM_mk.2 ⟨rfl, rfl, small64 (by omega), vName_size i, zV_rep S w, slg_nil⟩
theorem numZ_rep (S : Nat → Prop) (w : World) {n : Int} (hn : I64 n) : RepM S w (numZ n) (.int .i64 2) (.string ⟨#[]⟩) (.int .i64 1) (.int .i64 n) (.string ⟨#[]⟩) (.slice none 0 0) (.slice none 0 0) :=
 repM_mk.2 ⟨rfl, rfl, small64 (by omega), by decide, flat_rep S w 1 n ⟨#[]⟩ (small64 (by omega)) hn (by decide), slg_nil⟩
theorem adrZ_rep (S : Nat → Prop) (w : World) (i : Nat) : RepM S w (adrZ i) (.int .i64 2) (.string ⟨#[]⟩) (.int .i64 3) (.int .i64 0) (.string (adrName i)) (.slice none 0 0) (.slice none 0 0) :=
 repM_mk.2 ⟨rfl, rfl, small64 (by omega), by decide, flat_rep S w 3 0 (adrName i) (small64 (by omega)) (small64 (by omega)) (adrName_size i), slg_nil⟩
theorem sumZ_rep {S : Nat → Prop} {w : World} {y z : Tm} {s : ByteArray} {b : Nat} {c0 c1 c2 c3 c4 c5 c6 d0 d1 d2 d3 d4 d5 d6 : Value} (hs : s.size ≤ maxLen) (hb : w.heap[b]? = some (.cells #[c0, c1, c2, c3, c4, c5, c6, d0, d1, d2, d3, d4, d5, d6] 52 (0, 0))) (hS : S b)
  (h1 : RepM S w y c0 c1 c2 c3 c4 c5 c6) (h2 : RepM S w z d0 d1 d2 d3 d4 d5 d6) :
  RepM S w (sumZ y z s) (.int .i64 4) (.string s) (.int .i64 0) (.int .i64 0) (.string ⟨#[]⟩) (.slice none 0 0) (.slice (some ⟨b, 0, none⟩) 2 2) :=
 repM_mk.2 ⟨rfl, rfl, small64 (by omega), hs, zV_rep S w, slg_row hb hS rfl (by simp) (fun i h => match i, h with
  | 0, _ => h1
  | 1, _ => h2)⟩
theorem atomTo_succ (x : Rw) (k : Nat) (hk : 1 ≤ k) : atomTo x (k + 1) = atomTo x k ++ [argZ (numOf x k)] := by
 obtain ⟨m, rfl⟩ : ∃ m, k = m + 1 := ⟨k - 1, by omega⟩
 rw [atomTo, atomTo, Nat.add_sub_cancel, Nat.add_sub_cancel, List.range_succ, List.map_append]
 rfl
theorem numOf_i64 {x : Rw} (h : RwOk x) (k : Nat) : I64 (numOf x k) := by
 obtain ⟨-, -, h0, h1, h2, h3⟩ := h
 match k with
 | 0 => exact h0
 | 1 => exact h1
 | 2 => exact h2
 | 3 => exact h3
 | _ + 4 => exact ⟨by show (_ : Int) ≤ 0; omega, by show (0 : Int) ≤ _; omega⟩
theorem abc_at {r : Nat} (h : r < 3) : (#[.string ⟨#[97]⟩, .string ⟨#[98]⟩, .string ⟨#[99]⟩] : Array Value)[r]? = some (.string (adrName r)) := by
 match r, h with
 | 0, _ => rfl
 | 1, _ => rfl
 | 2, _ => rfl
theorem tdiv_i64 {k : Int} (h : I64 k) (n : Int) (hn : 1 ≤ n) : I64 (k.tdiv n) := by
 obtain ⟨h1, h2⟩ := h
 by_cases hk : 0 ≤ k
 ·rw [Int.tdiv_eq_ediv_of_nonneg hk]
  have a1 := Int.ediv_nonneg hk (show 0 ≤ n by omega)
  have a2 := Int.ediv_le_self n hk
  exact ⟨by omega, by omega⟩
 ·have e : k.tdiv n = -((-k).tdiv n) := by rw [Int.neg_tdiv, Int.neg_neg]
  have hk' : 0 ≤ -k := by omega
  rw [e, Int.tdiv_eq_ediv_of_nonneg hk']
  have a1 := Int.ediv_nonneg hk' (show 0 ≤ n by omega)
  have a2 := Int.ediv_le_self n hk'
  refine ⟨by omega, by omega⟩
end Go.Proofs.YtjohcnhiblfbnaaGreatDoor
