/-
  Literals, rules, facts and relations where they lie, one of a slice.
-/
import Derived.Test.YtgjemmdhamkngaaGreatDoorJ04
import Derived.Test.YtgjemmdhamkngaaGreatDoorJ02
import Derived.Test.YtgjemmdhamkngaaGreatDoorJ07
import Derived.Test.YtgjemmdhamkngaaGreatDoorJ03
import Derived.Deep.RegionLaw
namespace Go.Proofs.YtgjemmdhamkngaaGreatDoor
open Go.RowKit


theorem RepLi.form {S : Nat → Prop} {w : World} {x : Li} {c0 c1 c2 : Value} (h : RepLi S w x c0 c1 c2) : ∃ (ga : Option Addr) (gc : Nat), c0 = .int .i64 x.kind ∧ c1 = .string x.name ∧ c2 = .slice ga x.args.length gc := by
  obtain ⟨h0, h1, -, -, h4⟩ := h
  obtain ⟨ga, gc, e⟩ := SlG.form h4
  exact ⟨ga, gc, h0, h1, e⟩

theorem RepLis.at {S : Nat → Prop} {w : World} {l : List Li} {a : Option Addr} {len cap : Nat} (h : RepLis S w l (.slice a len cap)) (i : Nat) (hi : i < l.length) :
    len = l.length ∧ l.length ≤ cap ∧ ∃ (b o : Nat) (ga : Option Addr) (gc : Nat), a = some ⟨b, o, none⟩ ∧ S b ∧ w.cell? ⟨b, o + i * 3, none⟩ = some (.int .i64 l[i].kind) ∧ w.cell? ⟨b, o + i * 3 + 1, none⟩ = some (.string l[i].name) ∧ w.cell? ⟨b, o + i * 3 + 2, none⟩ = some (.slice ga l[i].args.length gc) ∧ RepLi S w l[i] (.int .i64 l[i].kind) (.string l[i].name) (.slice ga l[i].args.length gc) := by
  obtain ⟨h1, h2, b, o, h3, h4, c, hc, hr⟩ := SlG.at h i hi
  obtain ⟨ga, gc, e0, e1, e2⟩ := hr.form
  rw [e0, e1, e2] at hr
  exact ⟨h1, h2, b, o, ga, gc, h3, h4, by rw [← e0]; exact hc 0 (by omega), by rw [← e1]; exact hc 1 (by omega), by rw [← e2]; exact hc 2 (by omega), hr⟩

theorem RepDe.form {S : Nat → Prop} {w : World} {x : De} {c0 c1 : Value} (h : RepDe S w x c0 c1) : c0 = .string x.name ∧ c1 = .int .i64 x.arity := by
  exact ⟨h.1, h.2.1⟩

theorem RepDes.at {S : Nat → Prop} {w : World} {l : List De} {a : Option Addr} {len cap : Nat} (h : RepDes S w l (.slice a len cap)) (i : Nat) (hi : i < l.length) :
    len = l.length ∧ l.length ≤ cap ∧ ∃ (b o : Nat) , a = some ⟨b, o, none⟩ ∧ S b ∧ w.cell? ⟨b, o + i * 2, none⟩ = some (.string l[i].name) ∧ w.cell? ⟨b, o + i * 2 + 1, none⟩ = some (.int .i64 l[i].arity) ∧ RepDe S w l[i] (.string l[i].name) (.int .i64 l[i].arity) := by
  obtain ⟨h1, h2, b, o, h3, h4, c, hc, hr⟩ := SlG.at h i hi
  obtain ⟨e0, e1⟩ := hr.form
  rw [e0, e1] at hr
  exact ⟨h1, h2, b, o, h3, h4, by rw [← e0]; exact hc 0 (by omega), by rw [← e1]; exact hc 1 (by omega), hr⟩

theorem RepFa.form {S : Nat → Prop} {w : World} {x : Fa} {c0 c1 : Value} (h : RepFa S w x c0 c1) : ∃ (ga : Option Addr) (gc : Nat), c0 = .string x.name ∧ c1 = .slice ga x.args.length gc := by
  obtain ⟨ga, -, -, gc, e, -⟩ := id h.2.2
  exact ⟨ga, gc, h.1, e⟩

theorem RepFas.at {S : Nat → Prop} {w : World} {l : List Fa} {a : Option Addr} {len cap : Nat} (h : RepFas S w l (.slice a len cap)) (i : Nat) (hi : i < l.length) :
    len = l.length ∧ l.length ≤ cap ∧ ∃ (b o : Nat) (ga : Option Addr) (gc : Nat), a = some ⟨b, o, none⟩ ∧ S b ∧ w.cell? ⟨b, o + i * 2, none⟩ = some (.string l[i].name) ∧ w.cell? ⟨b, o + i * 2 + 1, none⟩ = some (.slice ga l[i].args.length gc) ∧ RepFa S w l[i] (.string l[i].name) (.slice ga l[i].args.length gc) := by
  obtain ⟨h1, h2, b, o, h3, h4, c, hc, hr⟩ := SlG.at h i hi
  obtain ⟨ga, gc, e0, e1⟩ := hr.form
  rw [e0, e1] at hr
  exact ⟨h1, h2, b, o, ga, gc, h3, h4, by rw [← e0]; exact hc 0 (by omega), by rw [← e1]; exact hc 1 (by omega), hr⟩

theorem RepRu.form {S : Nat → Prop} {w : World} {x : Ru} {c0 c1 c2 c3 c4 c5 : Value} (h : RepRu S w x c0 c1 c2 c3 c4 c5) : ∃ (fa : Option Addr) (fc : Nat) (ga : Option Addr) (gc : Nat), c0 = .string x.label ∧ c1 = .string x.head ∧ c2 = .slice fa x.args.length fc ∧ c3 = .string x.agg ∧ c4 = .int .i64 x.at' ∧ c5 = .slice ga x.body.length gc := by
  obtain ⟨h0, h1, h3, h4, -, -, -, -, h8, h9⟩ := h
  obtain ⟨fa, fc, e⟩ := SlG.form h8
  obtain ⟨ga, gc, e'⟩ := SlG.form h9
  exact ⟨fa, fc, ga, gc, h0, h1, e, h3, h4, e'⟩

theorem RepRus.at {S : Nat → Prop} {w : World} {l : List Ru} {a : Option Addr} {len cap : Nat} (h : RepRus S w l (.slice a len cap)) (i : Nat) (hi : i < l.length) :
    len = l.length ∧ l.length ≤ cap ∧ ∃ (b o : Nat) (fa : Option Addr) (fc : Nat) (ga : Option Addr) (gc : Nat), a = some ⟨b, o, none⟩ ∧ S b ∧ w.cell? ⟨b, o + i * 6, none⟩ = some (.string l[i].label) ∧ w.cell? ⟨b, o + i * 6 + 1, none⟩ = some (.string l[i].head) ∧ w.cell? ⟨b, o + i * 6 + 2, none⟩ = some (.slice fa l[i].args.length fc) ∧ w.cell? ⟨b, o + i * 6 + 3, none⟩ = some (.string l[i].agg) ∧ w.cell? ⟨b, o + i * 6 + 4, none⟩ = some (.int .i64 l[i].at') ∧ w.cell? ⟨b, o + i * 6 + 5, none⟩ = some (.slice ga l[i].body.length gc) ∧ RepRu S w l[i] (.string l[i].label) (.string l[i].head) (.slice fa l[i].args.length fc) (.string l[i].agg) (.int .i64 l[i].at') (.slice ga l[i].body.length gc) := by
  obtain ⟨h1, h2, b, o, h3, h4, c, hc, hr⟩ := SlG.at h i hi
  obtain ⟨fa, fc, ga, gc, e0, e1, e2, e3, e4, e5⟩ := hr.form
  rw [e0, e1, e2, e3, e4, e5] at hr
  exact ⟨h1, h2, b, o, fa, fc, ga, gc, h3, h4, by rw [← e0]; exact hc 0 (by omega), by rw [← e1]; exact hc 1 (by omega), by rw [← e2]; exact hc 2 (by omega), by rw [← e3]; exact hc 3 (by omega), by rw [← e4]; exact hc 4 (by omega), by rw [← e5]; exact hc 5 (by omega), hr⟩


end Go.Proofs.YtgjemmdhamkngaaGreatDoor

/-
  Rows that a call itself has made and appends to, whatever their elements: a kind of element and its laws.
-/
namespace Go.Proofs.YtgjemmdhamkngaaGreatDoor
open Go.RowKit

/-- A kind of element: its type, its slice's type, how many cells and bytes, and what cells hold one. -/
structure Kd (α : Type) where
  T : TypeId
  ST : TypeId
  n : Nat
  bytes : Nat
  R : (Nat → Prop) → World → α → (Nat → Value) → Prop
  pos : 0 < n
  few : bytes ≤ 1000
  on : ∀ {S S' : Nat → Prop} {w w' : World} {x : α} {c : Nat → Value}, (∀ k, S k → S' k) → (∀ k, S k → w'.heap[k]? = w.heap[k]?) → R S w x c → R S' w' x c
  one : ∀ {S : Nat → Prop} {w : World} {x : α} {c : Nat → Value}, R S w x c → ∀ j, j < n → (c j).oneCell' = true
  und : Tryz.prog.underlying ST = some (.slice T)
  info : ∃ (i : TypeInfo) (z : Value), Tryz.prog.info? T = some i ∧ i.zero = some z ∧ i.size = n ∧ i.bytes = bytes ∧ z.cells.size = n

theorem ownsRow_on {w w' : World} {base : Nat} {e : TypeId} {n k : Nat} {v : Value} {xs : List Value} (h : w.ownsRow base e n v k xs) (hw : ∀ g, base ≤ g → g < w.heap.size → v.ownBlock = some g → w'.heap[g]? = w.heap[g]?) : w'.ownsRow base e n v k xs := by
  refine ⟨h.1, ?_⟩
  rcases h.2 with hn | ⟨g, cap, cur, hv, hb, hg, rest⟩
  · exact .inl hn
  · subst hv
    exact .inr ⟨g, cap, cur, rfl, hb, (hw g hb (Array.getElem?_eq_some_iff.1 hg).1 rfl).trans hg, rest⟩
theorem ownsRow_down {w : World} {base base' : Nat} {e : TypeId} {n k : Nat} {v : Value} {xs : List Value} (h : w.ownsRow base e n v k xs) (hb : base' ≤ base) : w.ownsRow base' e n v k xs := by
  refine ⟨h.1, ?_⟩
  rcases h.2 with hn | ⟨g, cap, cur, hv, hg, rest⟩
  · exact .inl hn
  · exact .inr ⟨g, cap, cur, hv, Nat.le_trans hb hg, rest⟩

section
variable {α : Type} (K : Kd α)

def OwnK (S : Nat → Prop) (w : World) (base : Nat) (l : List α) (v : Value) : Prop :=
  ∃ xs, w.ownsRow base K.T K.n v l.length xs ∧ ∀ i (h : i < l.length), ∃ c : Nat → Value, (∀ j, j < K.n → xs[i * K.n + j]? = some (c j)) ∧ K.R S w l[i] c
/-- The call's own list, in blocks from 'base' on, and never in its own row. -/
def MineK (w : World) (base : Nat) (l : List α) (v : Value) : Prop := OwnK K (fun b => base ≤ b ∧ b < w.heap.size ∧ v.ownBlock ≠ some b) w base l v

variable {K}
theorem MineK.nil (w : World) (base : Nat) : MineK K w base [] (.slice none 0 0) := ⟨[], World.ownsRow_nil _ _ _ _, fun i hi => by simp at hi⟩
theorem OwnK.form {S : Nat → Prop} {w : World} {base : Nat} {l : List α} {v : Value} (h : OwnK K S w base l v) : ∃ a cap, v = .slice a l.length cap := by
  obtain ⟨xs, ⟨-, ho⟩, -⟩ := h
  rcases ho with ⟨rfl, hn⟩ | ⟨g, cap, cur, rfl, -⟩
  · exact ⟨none, 0, by rw [hn]⟩
  · exact ⟨_, _, rfl⟩
theorem OwnK.lies {S : Nat → Prop} {w : World} {base : Nat} {l : List α} {v : Value} (h : OwnK K S w base l v) (k : Nat) (hk : v.ownBlock = some k) : base ≤ k ∧ k < w.heap.size := by
  obtain ⟨xs, ⟨_, hown⟩, _⟩ := h
  rcases hown with ⟨rfl, hn⟩ | ⟨g, cap, cur, rfl, hbg, hh, _⟩
  · simp [Value.ownBlock] at hk
  · simp [Value.ownBlock] at hk
    subst hk
    exact ⟨hbg, (Array.getElem?_eq_some_iff.1 hh).1⟩
theorem OwnK.on {S S' : Nat → Prop} {w w' : World} {base : Nat} {l : List α} {v : Value} (h : OwnK K S w base l v) (hS : ∀ k, S k → S' k) (hw : ∀ k, S k → w'.heap[k]? = w.heap[k]?) (ho : ∀ k, base ≤ k → k < w.heap.size → v.ownBlock = some k → w'.heap[k]? = w.heap[k]?) : OwnK K S' w' base l v := by
  obtain ⟨xs, hown, hr⟩ := h
  refine ⟨xs, ownsRow_on hown ho, fun i hi => ?_⟩
  obtain ⟨c, hc, hR⟩ := hr i hi
  exact ⟨c, hc, K.on hS hw hR⟩
theorem MineK.kept {w w' : World} {base : Nat} {l : List α} {v : Value} (h : MineK K w base l v) (hsz : w.heap.size ≤ w'.heap.size) (hw : ∀ k, base ≤ k → k < w.heap.size → w'.heap[k]? = w.heap[k]?) : MineK K w' base l v :=
  OwnK.on h (fun k hk => ⟨hk.1, by omega, hk.2.2⟩) (fun k hk => hw k hk.1 hk.2.1) (fun k h1 h2 _ => hw k h1 h2)
theorem MineK.stands {w w' : World} {base : Nat} {l : List α} {v : Value} (h : MineK K w base l v) (hb : Below w.heap.size w w') : MineK K w' base l v :=
  h.kept hb.size (fun k _ hk => hb.block k hk)
theorem MineK.far {w : World} {base : Nat} {l : List α} {v : Value} (h : MineK K w base l v) {p : Addr} (hp : p.block < base) (c : Value) : MineK K (w.setCell p c) base l v :=
  h.kept (by simp) (fun k hk _ => Below.heap_setCell _ _ _ _ (by omega))
theorem MineK.down {w : World} {base base' : Nat} {l : List α} {v : Value} (h : MineK K w base l v) (hb : base' ≤ base) : MineK K w base' l v := by
  obtain ⟨xs, hown, hr⟩ := h
  refine ⟨xs, ownsRow_down hown hb, fun i hi => ?_⟩
  obtain ⟨c, hc, hR⟩ := hr i hi
  exact ⟨c, hc, K.on (fun k hk => ⟨by omega, hk.2⟩) (fun _ _ => rfl) hR⟩
/-- The row as a slice. -/
theorem MineK.slg {S' : Nat → Prop} {w : World} {base : Nat} {l : List α} {v : Value} (h : MineK K w base l v) (hS : ∀ k, base ≤ k → k < w.heap.size → S' k) (hl : l.length ≤ 100000) : SlG S' w K.n K.bytes (K.R S' w) l v := by
  obtain ⟨xs, ⟨hlen, hown⟩, hr⟩ := h
  have hby : l.length * K.bytes ≤ 140737488355328 := by
    have := Nat.mul_le_mul hl K.few
    omega
  rcases hown with ⟨rfl, hn⟩ | ⟨g, cap, cur, rfl, hbg, hh, hnc, hcm, hcs, htk⟩
  · obtain rfl : l = [] := List.length_eq_zero_iff.1 hn
    exact ⟨none, 0, 0, 0, rfl, Nat.le_refl _, by simp, fun h => by omega, fun h => by simp at h, fun i hi => by simp at hi⟩
  · have hgl := (Array.getElem?_eq_some_iff.1 hh).1
    refine ⟨_, g, 0, cap, rfl, hnc, hby, fun _ => rfl, fun _ => hS g hbg hgl, fun i hi => ?_⟩
    obtain ⟨c, hc, hR⟩ := hr i hi
    refine ⟨c, fun j hj => ?_, K.on (fun k hk => hS k hk.1 hk.2.1) (fun _ _ => rfl) hR⟩
    have h1 := hc j hj
    rw [← htk, List.getElem?_take] at h1
    have hlt : i * K.n + j < l.length * K.n := by
      have : (i + 1) * K.n ≤ l.length * K.n := Nat.mul_le_mul_right _ hi
      rw [Nat.succ_mul] at this; omega
    rw [if_pos hlt] at h1
    rw [show 0 + i * K.n + j = i * K.n + j by omega]
    exact cell_of_block' hh _ (by rw [← Array.getElem?_toList]; exact h1)
/-- The elements in the row's own block, one by one. -/
theorem own_append {w : World} {base : Nat} {L : List α} {lv : Value} {y : α} {c : Nat → Value} {cs : Array Value} {b : Nat} {t : TypeId} {fz : Nat × Nat} (hown : MineK K w base L lv) (hbase : base ≤ w.heap.size) (hlen : L.length ≤ 1000)
    (hb : w.heap[b]? = some (.cells cs t fz)) (hcs : cs.size = K.n) (hc : ∀ j, j < K.n → cs[j]? = some (c j)) (hrep : K.R (fun b' => base ≤ b' ∧ b' < w.heap.size ∧ lv.ownBlock ≠ some b') w y c) (ty : TypeId) :
    ∃ (a : Option Addr) (cap : Nat) (w6 : World), (Builtin.append_ #[K.ST, K.ST] ty #[lv, .slice (some ⟨b, 0, none⟩) 1 1]).run Tryz.prog w = .ok (.slice a (L.length + 1) cap) w6 ∧
      MineK K w6 base (L ++ [y]) (.slice a (L.length + 1) cap) ∧ w.grownBy w6 lv.ownBlock := by
  obtain ⟨i0, z, hi, hz0, hz1, hz2, hz3⟩ := K.info
  obtain ⟨xs, hrow, hr⟩ := hown
  have hby : (L.length + 1) * K.bytes ≤ 140737488355328 := by
    have := Nat.mul_le_mul (show L.length + 1 ≤ 1001 by omega) K.few
    omega
  obtain ⟨v', w6, hrun, h1, h2, _, h5⟩ := run_append_own_at (P := Tryz.prog) w base K.ST ty K.T i0 z K.n K.bytes K.und hi hz0 hz1 hz2 hz3 K.pos lv L.length xs hrow ⟨b, 0, none⟩ 1 1 cs.toList (by simp [hcs])
    (fun j u hj => by
      have e : ((⟨b, 0, none⟩ : Addr).add j) = ⟨b, 0 + j, none⟩ := add_lit' _ _ _
      rw [e, Nat.zero_add]
      exact cell_of_block' hb u (by rw [← Array.getElem?_toList]; exact hj))
    (fun u hu => by
      obtain ⟨j, hj, rfl⟩ := List.getElem_of_mem hu
      have hjn : j < K.n := by rw [← hcs]; simpa using hj
      have h1 := hc j hjn
      have h2 : cs[j]? = some (cs.toList[j]) := by rw [← Array.getElem?_toList]; exact List.getElem?_eq_getElem hj
      rw [Option.some.inj (h2.symm.trans h1)]
      exact K.one hrep j hjn) (by unfold maxLen; omega) hby hbase
  have hsub : ∀ k, (base ≤ k ∧ k < w.heap.size ∧ lv.ownBlock ≠ some k) → (base ≤ k ∧ k < w6.heap.size ∧ v'.ownBlock ≠ some k) := fun k hk => by
    have := h2.size
    refine ⟨hk.1, by omega, fun e => ?_⟩
    rcases h5 with h5 | h5
    · exact hk.2.2 (h5.symm.trans e)
    · rw [h5] at e; have := Option.some.inj e; omega
  have hsame : ∀ k, (base ≤ k ∧ k < w.heap.size ∧ lv.ownBlock ≠ some k) → w6.heap[k]? = w.heap[k]? := fun k hk => h2.block k hk.2.1 (fun e => hk.2.2 e.symm)
  have hm : MineK K w6 base (L ++ [y]) v' := by
    refine ⟨xs ++ cs.toList, by rw [List.length_append]; exact h1, fun i hi => ?_⟩
    by_cases hlt : i < L.length
    · obtain ⟨c', hc', hR⟩ := hr i hlt
      refine ⟨c', fun j hj => ?_, by rw [List.getElem_append_left hlt]; exact K.on hsub hsame hR⟩
      have hil : i * K.n + j < xs.length := by
        rw [hrow.1]
        have : (i + 1) * K.n ≤ L.length * K.n := Nat.mul_le_mul_right _ hlt
        rw [Nat.succ_mul] at this; omega
      rw [List.getElem?_append_left hil]; exact hc' j hj
    · obtain rfl : i = L.length := by simp at hi; omega
      refine ⟨c, fun j hj => ?_, by rw [List.getElem_append_right (Nat.le_refl _)]; simpa using K.on hsub hsame hrep⟩
      rw [List.getElem?_append_right (by rw [hrow.1]; omega), hrow.1, show L.length * K.n + j - L.length * K.n = j by omega, Array.getElem?_toList]
      exact hc j hj
  obtain ⟨a, cap, rfl⟩ := OwnK.form hm
  rw [List.length_append] at hrun hm
  exact ⟨a, cap, w6, hrun, hm, h2⟩
/-- 'append(v, y)' behind a call that made y: its row is laid at the end. -/
theorem mk_append {w4 w5 : World} {base : Nat} {L : List α} {lv : Value} {y : α} {c : Nat → Value} {cs : Array Value} (hown : MineK K w4 base L lv) (hbase : base ≤ w4.heap.size) (hlen : L.length ≤ 1000)
    (hb : Below w4.heap.size w4 w5) (hcs : cs.size = K.n) (hc : ∀ j, j < K.n → cs[j]? = some (c j)) (hrep : K.R (fun b => w4.heap.size ≤ b ∧ b < w5.heap.size) w5 y c) (ty : TypeId) :
    ∃ (a : Option Addr) (cap : Nat) (w6 : World), (Builtin.append_ #[K.ST, K.ST] ty #[lv, .slice (some ⟨w5.heap.size, 0, none⟩) 1 1]).run Tryz.prog (w5.alloc (.cells cs K.T)) = .ok (.slice a (L.length + 1) cap) w6 ∧
      MineK K w6 base (L ++ [y]) (.slice a (L.length + 1) cap) ∧ Below base w4 w6 ∧ (∀ k, k < w4.heap.size → lv.ownBlock ≠ some k → w6.heap[k]? = w4.heap[k]?) := by
  have hbW := Below.step hb (below_alloc w5 (.cells cs K.T))
  have hsW := World.size_alloc w5 (.cells cs K.T)
  have hnew := alloc_new' w5 (.cells cs K.T)
  have hold : ∀ b, b < w5.heap.size → (w5.alloc (.cells cs K.T)).heap[b]? = w5.heap[b]? := fun b hb => Below.heap_alloc _ _ _ hb
  generalize w5.alloc (.cells cs K.T) = W at *
  have hs5 := hb.size
  have hm := hown.stands hbW
  obtain ⟨a, cap, w6, hrun, ho, hg⟩ := own_append hm (by omega) hlen hnew hcs hc (K.on (fun k hk => ⟨by omega, by omega, fun e => by have := (OwnK.lies hown k e).2; omega⟩) (fun k hk => hold k hk.2) hrep) ty
  have hgs := hg.size
  refine ⟨a, cap, w6, hrun, ho, ?_, ?_⟩
  · refine ⟨hg.os.trans hbW.os, hg.tape.trans hbW.tape, hg.output.trans hbW.output, by omega, fun k hk => ?_⟩
    exact (hg.block k (by omega) (fun e => by have := (OwnK.lies hown k e.symm).1; omega)).trans (hbW.block k (by omega))
  · intro k hk hne
    exact (hg.block k (by omega) (fun e => hne e.symm)).trans (hbW.block k hk)
end

theorem info_of {T : TypeId} {n bytes : Nat} (h : (Tryz.prog.info? T).map (fun i => (i.zero.map (fun z => z.cells.size), i.size, i.bytes)) = some (some n, n, bytes)) : ∃ (i : TypeInfo) (z : Value), Tryz.prog.info? T = some i ∧ i.zero = some z ∧ i.size = n ∧ i.bytes = bytes ∧ z.cells.size = n := by
  match hi : Tryz.prog.info? T, h with
  | some i, h =>
    simp only [Option.map_some, Option.some.injEq, Prod.mk.injEq] at h
    obtain ⟨h1, h2, h3⟩ := h
    match hz : i.zero, h1 with
    | some z, h1 => exact ⟨i, z, rfl, hz, h2, h3, by simpa using h1⟩

def kdTm : Kd Tm where
  T := 46
  ST := 34
  n := 7
  bytes := 104
  R := fun S w x c => RepM S w x (c 0) (c 1) (c 2) (c 3) (c 4) (c 5) (c 6)
  pos := by omega
  few := by omega
  on := fun hS hw h => RepM.on hS hw _ h
  one := fun h j hj => by
    obtain ⟨fa, fc, ga, gc, e0, e1, e2, e3, e4, e5, e6⟩ := h.form
    match j, hj with
    | 0, _ => rw [e0]; rfl
    | 1, _ => rw [e1]; rfl
    | 2, _ => rw [e2]; rfl
    | 3, _ => rw [e3]; rfl
    | 4, _ => rw [e4]; rfl
    | 5, _ => rw [e5]; rfl
    | 6, _ => rw [e6]; rfl
  und := Tryz.underlying34
  info := info_of (by kernel_rfl)
def kdLi : Kd Li where
  T := 41
  ST := 35
  n := 3
  bytes := 48
  R := fun S w x c => RepLi S w x (c 0) (c 1) (c 2)
  pos := by omega
  few := by omega
  on := fun hS hw h => RepLi.on hS hw h
  one := fun h j hj => by
    obtain ⟨ga, gc, e0, e1, e2⟩ := h.form
    match j, hj with
    | 0, _ => rw [e0]; rfl
    | 1, _ => rw [e1]; rfl
    | 2, _ => rw [e2]; rfl
  und := Tryz.underlying35
  info := info_of (by kernel_rfl)
def kdRu : Kd Ru where
  T := 37
  ST := 24
  n := 6
  bytes := 104
  R := fun S w x c => RepRu S w x (c 0) (c 1) (c 2) (c 3) (c 4) (c 5)
  pos := by omega
  few := by omega
  on := fun hS hw h => RepRu.on hS hw h
  one := fun h j hj => by
    obtain ⟨fa, fc, ga, gc, e0, e1, e2, e3, e4, e5⟩ := h.form
    match j, hj with
    | 0, _ => rw [e0]; rfl
    | 1, _ => rw [e1]; rfl
    | 2, _ => rw [e2]; rfl
    | 3, _ => rw [e3]; rfl
    | 4, _ => rw [e4]; rfl
    | 5, _ => rw [e5]; rfl
  und := Tryz.underlying24
  info := info_of (by kernel_rfl)
def kdDe : Kd De where
  T := 57
  ST := 22
  n := 2
  bytes := 24
  R := fun S w x c => RepDe S w x (c 0) (c 1)
  pos := by omega
  few := by omega
  on := fun _ _ h => h
  one := fun h j hj => by
    obtain ⟨e0, e1⟩ := h.form
    match j, hj with
    | 0, _ => rw [e0]; rfl
    | 1, _ => rw [e1]; rfl
  und := Tryz.underlying22
  info := info_of (by kernel_rfl)
def kdFa : Kd Fa where
  T := 33
  ST := 23
  n := 2
  bytes := 40
  R := fun S w x c => RepFa S w x (c 0) (c 1)
  pos := by omega
  few := by omega
  on := fun hS hw h => RepFa.on hS hw h
  one := fun h j hj => by
    obtain ⟨ga, gc, e0, e1⟩ := h.form
    match j, hj with
    | 0, _ => rw [e0]; rfl
    | 1, _ => rw [e1]; rfl
  und := Tryz.underlying23
  info := info_of (by kernel_rfl)
def kdV : Kd V where
  T := 44
  ST := 31
  n := 4
  bytes := 56
  R := fun S w x c => RepG S w x (c 0) (c 1) (c 2) (c 3)
  pos := by omega
  few := by omega
  on := fun hS hw h => RepG.on hS hw _ h
  one := fun h j hj => by
    obtain ⟨ga, gc, e0, e1, e2, e3⟩ := h.form
    match j, hj with
    | 0, _ => rw [e0]; rfl
    | 1, _ => rw [e1]; rfl
    | 2, _ => rw [e2]; rfl
    | 3, _ => rw [e3]; rfl
  und := Tryz.underlying31
  info := info_of (by kernel_rfl)

end Go.Proofs.YtgjemmdhamkngaaGreatDoor

/-
  The law's own 'fit' of any value.
-/
namespace Go.Proofs.YtgjemmdhamkngaaGreatDoor
open Go.RowKit

/-- What 'fit' is known to do at a depth. -/
def FitAt (d : Nat) : Prop := ∀ (x : V) (B : Nat) (w : World) (c0 c1 c2 c3 : Value), B ≤ w.heap.size → RepV B w x c0 c1 c2 c3 → (d = 0 → pickZ x.kind 4 ≠ 3) →
  Calls Tryz.prog 100 #[.agg #[c0, c1, c2, c3], .int .i64 d] w (FitPost (fitV d x) w)

theorem OwnL.form {S : Nat → Prop} {w : World} {base : Nat} {l : List V} {v : Value} (h : OwnL S w base l v) : ∃ a cap, v = .slice a l.length cap := by
  obtain ⟨xs, ⟨_, hown⟩, _⟩ := h
  rcases hown with ⟨rfl, hn⟩ | ⟨g, cap, cur, rfl, _⟩
  · exact ⟨none, 0, by rw [hn]⟩
  · exact ⟨_, _, rfl⟩
theorem OwnL.lies {S : Nat → Prop} {w : World} {base : Nat} {l : List V} {v : Value} (h : OwnL S w base l v) (k : Nat) (hk : v.ownBlock = some k) : base ≤ k ∧ k < w.heap.size := by
  obtain ⟨xs, ⟨_, hown⟩, _⟩ := h
  rcases hown with ⟨rfl, hn⟩ | ⟨g, cap, cur, rfl, hbg, hh, _⟩
  · simp [Value.ownBlock] at hk
  · simp [Value.ownBlock] at hk
    subst hk
    exact ⟨hbg, (Array.getElem?_eq_some_iff.1 hh).1⟩

theorem take_min {α : Type} (l : List α) : l.take (min l.length 16) = l.take 16 := by
  by_cases h : l.length ≤ 16
  · rw [Nat.min_eq_left h, List.take_length, List.take_of_length_le h]
  · rw [Nat.min_eq_right (by omega)]

/-- The call's own list, in blocks from 'base' on, and never in its own row. -/
def Mine (w : World) (base : Nat) (l : List V) (v : Value) : Prop := OwnL (fun b => base ≤ b ∧ b < w.heap.size ∧ v.ownBlock ≠ some b) w base l v
theorem Mine.stands {w w' : World} {base : Nat} {l : List V} {v : Value} (h : Mine w base l v) (hb : Below w.heap.size w w') : Mine w' base l v :=
  OwnL.stands h (fun _ hk => ⟨⟨hk.1, Nat.lt_of_lt_of_le hk.2.1 hb.size, hk.2.2⟩, hk.2.1⟩) hb
theorem Mine.far {w : World} {base : Nat} {l : List V} {v : Value} (h : Mine w base l v) {p : Addr} (hp : p.block < base) (c : Value) : Mine (w.setCell p c) base l v :=
  OwnL.on h (fun k hk => ⟨hk.1, by simp; exact hk.2.1, hk.2.2⟩) (fun k hk => Below.heap_setCell _ _ _ _ (by omega)) (fun k hk _ _ => Below.heap_setCell _ _ _ _ (by omega))

/-- 'append(v, y)' behind a call that made y. -/
theorem fit_append {w4 w5 : World} {base : Nat} {L : List V} {lv : Value} {y : V} {c0 c1 c2 c3 : Value} (hown : Mine w4 base L lv) (hbase : base ≤ w4.heap.size) (hlen : L.length ≤ 1000)
    (hb : Below w4.heap.size w4 w5) (hrep : RepG (fun b => w4.heap.size ≤ b ∧ b < w5.heap.size) w5 y c0 c1 c2 c3) (ty : TypeId) :
    ∃ (a : Option Addr) (n cap : Nat) (w6 : World), (Builtin.append_ #[31, 31] ty #[lv, .slice (some ⟨w5.heap.size, 0, none⟩) 1 1]).run Tryz.prog (w5.alloc (.cells #[c0, c1, c2, c3] 44)) = .ok (.slice a n cap) w6 ∧
      Mine w6 base (L ++ [y]) (.slice a n cap) ∧ Below base w4 w6 ∧ (∀ k, k < w4.heap.size → lv.ownBlock ≠ some k → w6.heap[k]? = w4.heap[k]?) := by
  have hbW := Below.step hb (stands_alloc w5 (.cells #[c0, c1, c2, c3] 44))
  have hsW := World.size_alloc w5 (.cells #[c0, c1, c2, c3] 44)
  have hnew := alloc_new w5 (.cells #[c0, c1, c2, c3] 44)
  have hold : ∀ b, b < w5.heap.size → (w5.alloc (.cells #[c0, c1, c2, c3] 44)).heap[b]? = w5.heap[b]? := fun b hb => Below.heap_alloc _ _ _ hb
  generalize w5.alloc (.cells #[c0, c1, c2, c3] 44) = W at *
  have hs5 := hb.size
  have hm := hown.stands hbW
  have hrow : RepRow (fun b => base ≤ b ∧ b < W.heap.size ∧ lv.ownBlock ≠ some b) W [y] #[c0, c1, c2, c3] := by
    intro i hi
    obtain rfl : i = 0 := by simpa using hi
    refine ⟨c0, c1, c2, c3, rfl, rfl, rfl, rfl, hrep.on (fun b hb => ⟨by omega, by omega, fun e => ?_⟩) (fun b hb => hold b hb.2)⟩
    have := (OwnL.lies hown b e).2
    omega
  have hsl := hrow.slice hnew ⟨by omega, by omega, fun e => by have := (OwnL.lies hown _ e).2; omega⟩ (Nat.le_refl 1) (by simp)
  obtain ⟨v', w6, hrun, ho, hg, hv⟩ := append_run W base ty hm hsl (fun k hk => ⟨hk.2.1, hk.2.2⟩) (by simp; omega) (by omega)
  obtain ⟨a, cap, rfl⟩ := ho.form
  have hgs := hg.size
  refine ⟨a, _, cap, w6, hrun, ho.on (fun k hk => ⟨hk.1, by omega, fun e => ?_⟩) (fun _ _ => rfl) (fun _ _ _ _ => rfl), ?_, ?_⟩
  · rcases hv with hv | hv
    · exact hk.2.2 (hv.symm.trans e)
    · rw [hv] at e
      have := Option.some.inj e
      omega
  · refine ⟨hg.os.trans hbW.os, hg.tape.trans hbW.tape, hg.output.trans hbW.output, by omega, fun k hk => ?_⟩
    exact (hg.block k (by omega) (fun e => by have := (OwnL.lies hown k e.symm).1; omega)).trans (hbW.block k (by omega))
  · intro k hk hne
    exact (hg.block k (by omega) (fun e => hne e.symm)).trans (hbW.block k hk)

/-- The operation itself, as a step of a region that draws its order. -/
theorem step_append_by {P : Program} {ops : Array Oper} {o : Oper} {a : Act} {w w' : World} {K : Act → World → Prop} {Q : Exit → Act → World → Prop} {E : Prop} (hgd : o.guard = none) (s x : Operand) (t : TypeId)
    (ho : o.op = .call { callee := .builtin .append, args := #[s, x], argTypes := #[t, t] }) {v xv v' : Value} (hs : a.eval s = v) (hx : a.eval x = xv) (hrun : (Builtin.append_ #[t, t] o.type #[v, xv]).run P w = .ok v' w')
    (h : K (a.put o.dst v') w') : if Region.wanted o (yielded ops a.tmps) = true then Oper.wp P o a w K Q else E := by
  have hw : Region.wanted o (yielded ops a.tmps) = true := by simp [Region.wanted, hgd]
  rw [if_pos hw]
  unfold Oper.wp execOp
  simp only [ho, resolve, invoke, builtin, Sem.run_bind, Sem.run_pure, Result.andThen_ok, List.map_toArray, List.map_cons, List.map_nil, hs, hx, hrun]
  exact h

set_option maxRecDepth 100000 in
set_option maxHeartbeats 16000000 in
theorem fit_list (d : Nat) (hd : d < 1000) (ih : FitAt d) (x : V) (B : Nat) (w : World) (fa : Option Addr) (fc : Nat) (hB : B ≤ w.heap.size) (hx : RepV B w x (.int .i64 x.kind) (.int .i64 x.num) (.string x.text) (.slice fa x.list.length fc)) (h : pickZ x.kind 4 = 3) :
    Calls Tryz.prog 100 #[.agg #[.int .i64 x.kind, .int .i64 x.num, .string x.text, .slice fa x.list.length fc], .int .i64 (d + 1 : Nat)] w (FitPost (fitV (d + 1) x) w) := by
  have HE : Hid (fitV (d + 1) x = .mk 4 0 ⟨#[]⟩ (fitTo d x.list 16)) := by show _ = _; rw [fitV, if_pos h]; rfl
  have HP := Lib.hid h; clear h
  have HX := Lib.hid hx
  obtain ⟨hk, -, -⟩ := RepG.bounds hx
  clear hx
  go_enter Tryz.func100, Tryz.ntmps100
  go_wp2_with fail
  refine (pick_any _ 4 _ hk (by omega) (by omega)).mono ?_
  rintro e w' ⟨rfl, rfl⟩
  rw [HP.out]
  have b1 := (Below.refl _ w).alloc (Nat.le_refl _) (.cells #[.int .i64 x.kind, .int .i64 x.num, .string x.text, .slice fa x.list.length fc] 44)
  have s1 := World.size_alloc w (.cells #[.int .i64 x.kind, .int .i64 x.num, .string x.text, .slice fa x.list.length fc] 44)
  have x1 := boxed_new w (.int .i64 x.kind) (.int .i64 x.num) (.string x.text) (.slice fa x.list.length fc)
  generalize w.alloc (.cells #[.int .i64 x.kind, .int .i64 x.num, .string x.text, .slice fa x.list.length fc] 44) = w1 at *
  go_wp2_with fail
  have r2 := boxed_new w1 (.int .i64 0) (.int .i64 0) (.string ⟨#[]⟩) (.slice none 0 0)
  have b2 := stands_alloc w1 (.cells #[.int .i64 0, .int .i64 0, .string ⟨#[]⟩, .slice none 0 0] 44)
  have s2 := World.size_alloc w1 (.cells #[.int .i64 0, .int .i64 0, .string ⟨#[]⟩, .slice none 0 0] 44)
  generalize w1.alloc (.cells #[.int .i64 0, .int .i64 0, .string ⟨#[]⟩, .slice none 0 0] 44) = w2 at *
  have o3 := boxed_new w2 (.int .i64 4) (.int .i64 0) (.string ⟨#[]⟩) (.slice none 0 0)
  have b3 := stands_alloc w2 (.cells #[.int .i64 4, .int .i64 0, .string ⟨#[]⟩, .slice none 0 0] 44)
  have s3 := World.size_alloc w2 (.cells #[.int .i64 4, .int .i64 0, .string ⟨#[]⟩, .slice none 0 0] 44)
  generalize w2.alloc (.cells #[.int .i64 4, .int .i64 0, .string ⟨#[]⟩, .slice none 0 0] 44) = w3 at *
  rw [s1] at r2
  rw [s2, s1] at o3
  have X3 := Lib.hid ((x1.on b2).on b3)
  have R3 := Lib.hid (r2.on b3)
  have B3 := Lib.hid (Below.step (Below.step b1 b2) b3)
  have hs3 : w3.heap.size = w.heap.size + 3 := by omega
  clear x1 r2 b1 b2 b3 s1 s2 s3
  obtain ⟨n, hn⟩ : ∃ n, n = min x.list.length 16 := ⟨_, rfl⟩
  go_loopw [9] (fun i wr => ∃ k : Nat, k ≤ n ∧ i = .int .i64 k ∧ (∃ lv, Boxed wr (w.heap.size + 1 + 1) (.int .i64 4) (.int .i64 0) (.string ⟨#[]⟩) lv ∧ Mine wr (w.heap.size + 3) (fitTo d x.list k) lv) ∧ Below (w.heap.size + 2) w3 wr) (fun i _ => n - (intOf i).toNat)
  case atStart => exact ⟨0, Nat.zero_le _, rfl, ⟨_, o3, OwnL.nil _ _ _⟩, Below.refl _ _⟩
  case round =>
    obtain ⟨k, hk2, rfl, ⟨lv, hob, hmine⟩, hbel⟩ := hrel
    clear o3
    by_cases hlt : k < n
    · have hl : k < x.list.length := by omega
      have h16 : k < 16 := by omega
      have HOB := Lib.hid hob
      have HM := Lib.hid hmine
      have HBEL := Lib.hid hbel
      have XR : Boxed wr w.heap.size (.int .i64 x.kind) (.int .i64 x.num) (.string x.text) (.slice fa x.list.length fc) := (hbel.block w.heap.size (by omega)).trans X3.out
      have hwr : w.heap.size + 3 ≤ wr.heap.size := by have := hbel.size; omega
      obtain ⟨p0, p1, p2, p3⟩ := XR.cells
      have hxl : RepL B wr x.list (.slice fa x.list.length fc) := RepL.below (fun j hj => (hbel.block j (by omega)).trans (B3.out.block j (by omega))) HX.out.lst
      obtain ⟨aa, ab, ao, ac, he, hlc, -, haa, hab, hrow⟩ := hxl
      cases he
      obtain ⟨x0, x1, x2, x3, g0, g1, g2, g3, gr⟩ := hrow k hl
      have hab' := hab (by omega)
      obtain rfl := haa (by omega)
      obtain ⟨ea, ec, rfl, rfl, rfl, rfl⟩ := gr.form
      have HN : Hid (fitTo d x.list (k + 1) = fitTo d x.list k ++ [fitV d (unlist (d + 1) x.list[k])]) := by
        show _ = _
        rw [fitTo, List.take_succ_eq_append_getElem hl, List.map_append]; rfl
      generalize x.list[k] = z at *
      obtain ⟨hzk, hzn, hzs⟩ := gr.bounds
      have GR := Lib.hid gr
      clear hrow hab haa hob hmine hbel XR gr p0 p1 p2
      obtain ⟨la, ln, lc, rfl⟩ : ∃ a n c, lv = .slice a n c := ⟨_, _, _, HM.out.form.choose_spec.choose_spec⟩
      have HLL : Hid ((fitTo d x.list k).length ≤ 1000) := by
        show _ ≤ _
        rw [fitTo, List.length_map, List.length_take]; omega
      generalize fitTo d x.list k = L at *
      have HZA : Hid (z = .mk z.kind z.num z.text z.list) := by cases z; rfl
      have key : (d = 0 ∧ pickZ z.kind 4 = 3) ∨ (d = 0 ∧ pickZ z.kind 4 ≠ 3) ∨ 0 < d := by omega
      rcases key with hc | hc | hdp
      case inl =>
        obtain ⟨hd0, hz3⟩ := hc
        subst hd0
        have HY : Hid (unlist (0 + 1) z = .mk 0 z.num z.text z.list) := by show _ = _; rw [unlist, if_pos ⟨Nat.le_refl _, hz3⟩]
        have HZ3 := Lib.hid hz3; clear hz3
        go_wp2_with fail
        refine (pick_any _ 4 _ hzk (by omega) (by omega)).mono ?_
        rintro e w' ⟨rfl, rfl⟩
        rw [HZ3.out]
        go_wp2_with fail
        have hy0 : (0 = 0 → pickZ 0 4 ≠ 3) := fun _ => by decide
        have GY : Hid (RepV B wr (.mk 0 z.num z.text z.list) (.int .i64 0) (.int .i64 z.num) (.string z.text) (.slice ea z.list.length ec)) := repV_mk.2 ⟨rfl, rfl, rfl, ⟨by omega, by omega⟩, hzn, hzs, GR.out.lst⟩
        have XB := boxed_new wr (.int .i64 0) (.int .i64 z.num) (.string z.text) (.slice ea z.list.length ec)
        have HB4 := stands_alloc wr (.cells #[.int .i64 0, .int .i64 z.num, .string z.text, .slice ea z.list.length ec] 44)
        have hs4 := World.size_alloc wr (.cells #[.int .i64 0, .int .i64 z.num, .string z.text, .slice ea z.list.length ec] 44)
        generalize wr.alloc (.cells #[.int .i64 0, .int .i64 z.num, .string z.text, .slice ea z.list.length ec] 44) = w4 at *
        have X4 := Lib.hid (XB.on (Below.drew (Below.refl _ w4)))
        have HB4d := Lib.hid (HB4.trans (Below.drew (Below.refl _ w4)))
        have hs4d : w4.drew.heap.size = wr.heap.size + 1 := hs4
        have OB4 := Lib.hid (HOB.out.on HB4d.out)
        have M4 := Lib.hid (HM.out.stands HB4d.out)
        have GY4 := Lib.hid (RepV.on HB4d.out (by omega) GY.out)
        have q4 := OB4.out.cells.2.2.2
        obtain ⟨y0, y1, y2, y3⟩ := X4.out.cells
        clear XB HB4 HOB GY GR p3
        have HWD : Hid (IntKind.i64.wrap 0 = ((0 : Nat) : Int)) := by show _ = _; rw [IntKind.wrap_i64]; omega
        have HWE : Hid (IntKind.i64.wrap ((0 : Nat) : Int) = ((0 : Nat) : Int)) := by show _ = _; rw [IntKind.wrap_i64]; omega
        have HY0 := Lib.hid hy0; clear hy0
        go_region_law
          (first
            | (refine step_append_by rfl _ _ _ rfl rfl rfl HRUN.out ?_)
            | (go_simp; go_at_call 100; (try rw [HWD.out]); (try rw [HWE.out]); refine (ih (.mk 0 z.num z.text z.list) B _ _ _ _ _ (by omega) GY4.out HY0.out).mono ?_; rintro e w5 ⟨c0, c1, c2, c3, rfl, hrep, hb⟩; obtain ⟨va, vn, vc, w6, hrun, hm6, hb6, hfar⟩ := fit_append M4.out (by omega) HLL.out hb hrep 31
               have HRUN := Lib.hid hrun
               have HM6 := Lib.hid hm6
               have HB6 := Lib.hid hb6
               have OB6 : Hid (Boxed w6 (w.heap.size + 1 + 1) (.int .i64 4) (.int .i64 0) (.string ⟨#[]⟩) (.slice la ln lc)) := (hb6.block _ (by omega)).trans OB4.out
               have q5 := (OB4.out.on hb).cells.2.2.2
               have q5a := ((OB4.out.on hb).on (stands_alloc w5 (.cells #[c0, c1, c2, c3] 44))).cells.2.2.2
               have z6 := frozen_of_row w6 _ 3 _ _ OB6.out
               have q6 := OB6.out.cells.2.2.2
               clear hrun hm6 hb6 hfar hrep hb))
        all_goals
          have HF : Hid ((∃ lv, Boxed (w6.setCell ⟨w.heap.size + 1 + 1, 3, none⟩ (.slice va vn vc)) (w.heap.size + 1 + 1) (.int .i64 4) (.int .i64 0) (.string ⟨#[]⟩) lv ∧ Mine (w6.setCell ⟨w.heap.size + 1 + 1, 3, none⟩ (.slice va vn vc)) (w.heap.size + 3) (fitTo 0 x.list (k + 1)) lv) ∧ Below (w.heap.size + 2) w3 (w6.setCell ⟨w.heap.size + 1 + 1, 3, none⟩ (.slice va vn vc))) :=
            ⟨⟨_, heap_setCell_same _ _ _ _ _ _ OB6.out, by rw [HN.out, HY.out]; exact HM6.out.far (by simp) _⟩, ((HBEL.out.trans (HB4d.out.mono (by omega))).trans (HB6.out.mono (by omega))).setCell (p := ⟨w.heap.size + 1 + 1, 3, none⟩) (by simp) _⟩
          clear OB4 M4 GY4 q4 y0 y1 y2 y3 X4 HB4d HRUN HM6 HB6 OB6 q5 q5a z6 q6
          go_wp2_with fail
          go_roundw
          case rel => exact ⟨k + 1, by omega, by go_num, HF.out.1, HF.out.2⟩
          case measure => simp [intOf]; omega
      case inr.inl =>
        obtain ⟨hd0, hz3⟩ := hc
        subst hd0
        have HY : Hid (unlist (0 + 1) z = .mk z.kind z.num z.text z.list) := by show _ = _; rw [unlist, if_neg (fun h => hz3 h.2)]; exact HZA.out
        have HQ : Hid (pickZ z.kind 4 ≠ 3) := hz3
        have HZ3 := Lib.hid hz3
        have hz4 : (pickZ z.kind 4 == 3) = false := beq_eq_false_iff_ne.2 hz3
        clear hz3
        go_wp2_with fail
        refine (pick_any _ 4 _ hzk (by omega) (by omega)).mono ?_
        rintro e w' ⟨rfl, rfl⟩
        go_wp2_with fail
        have hy0 : (0 = 0 → pickZ z.kind 4 ≠ 3) := fun _ => HQ.out
        have GY : Hid (RepV B wr (.mk z.kind z.num z.text z.list) (.int .i64 z.kind) (.int .i64 z.num) (.string z.text) (.slice ea z.list.length ec)) := HZA.out ▸ GR.out
        have XB := boxed_new wr (.int .i64 z.kind) (.int .i64 z.num) (.string z.text) (.slice ea z.list.length ec)
        have HB4 := stands_alloc wr (.cells #[.int .i64 z.kind, .int .i64 z.num, .string z.text, .slice ea z.list.length ec] 44)
        have hs4 := World.size_alloc wr (.cells #[.int .i64 z.kind, .int .i64 z.num, .string z.text, .slice ea z.list.length ec] 44)
        generalize wr.alloc (.cells #[.int .i64 z.kind, .int .i64 z.num, .string z.text, .slice ea z.list.length ec] 44) = w4 at *
        have X4 := Lib.hid (XB.on (Below.drew (Below.refl _ w4)))
        have HB4d := Lib.hid (HB4.trans (Below.drew (Below.refl _ w4)))
        have hs4d : w4.drew.heap.size = wr.heap.size + 1 := hs4
        have OB4 := Lib.hid (HOB.out.on HB4d.out)
        have M4 := Lib.hid (HM.out.stands HB4d.out)
        have GY4 := Lib.hid (RepV.on HB4d.out (by omega) GY.out)
        have q4 := OB4.out.cells.2.2.2
        obtain ⟨y0, y1, y2, y3⟩ := X4.out.cells
        clear XB HB4 HOB GY GR p3
        have HWD : Hid (IntKind.i64.wrap 0 = ((0 : Nat) : Int)) := by show _ = _; rw [IntKind.wrap_i64]; omega
        have HWE : Hid (IntKind.i64.wrap ((0 : Nat) : Int) = ((0 : Nat) : Int)) := by show _ = _; rw [IntKind.wrap_i64]; omega
        have HY0 := Lib.hid hy0; clear hy0
        go_region_law
          (first
            | (refine step_append_by rfl _ _ _ rfl rfl rfl HRUN.out ?_)
            | (go_simp; go_at_call 100; (try rw [HWD.out]); (try rw [HWE.out]); refine (ih (.mk z.kind z.num z.text z.list) B _ _ _ _ _ (by omega) GY4.out HY0.out).mono ?_; rintro e w5 ⟨c0, c1, c2, c3, rfl, hrep, hb⟩; obtain ⟨va, vn, vc, w6, hrun, hm6, hb6, hfar⟩ := fit_append M4.out (by omega) HLL.out hb hrep 31
               have HRUN := Lib.hid hrun
               have HM6 := Lib.hid hm6
               have HB6 := Lib.hid hb6
               have OB6 : Hid (Boxed w6 (w.heap.size + 1 + 1) (.int .i64 4) (.int .i64 0) (.string ⟨#[]⟩) (.slice la ln lc)) := (hb6.block _ (by omega)).trans OB4.out
               have q5 := (OB4.out.on hb).cells.2.2.2
               have q5a := ((OB4.out.on hb).on (stands_alloc w5 (.cells #[c0, c1, c2, c3] 44))).cells.2.2.2
               have z6 := frozen_of_row w6 _ 3 _ _ OB6.out
               have q6 := OB6.out.cells.2.2.2
               clear hrun hm6 hb6 hfar hrep hb))
        all_goals
          have HF : Hid ((∃ lv, Boxed (w6.setCell ⟨w.heap.size + 1 + 1, 3, none⟩ (.slice va vn vc)) (w.heap.size + 1 + 1) (.int .i64 4) (.int .i64 0) (.string ⟨#[]⟩) lv ∧ Mine (w6.setCell ⟨w.heap.size + 1 + 1, 3, none⟩ (.slice va vn vc)) (w.heap.size + 3) (fitTo 0 x.list (k + 1)) lv) ∧ Below (w.heap.size + 2) w3 (w6.setCell ⟨w.heap.size + 1 + 1, 3, none⟩ (.slice va vn vc))) :=
            ⟨⟨_, heap_setCell_same _ _ _ _ _ _ OB6.out, by rw [HN.out, HY.out]; exact HM6.out.far (by simp) _⟩, ((HBEL.out.trans (HB4d.out.mono (by omega))).trans (HB6.out.mono (by omega))).setCell (p := ⟨w.heap.size + 1 + 1, 3, none⟩) (by simp) _⟩
          clear OB4 M4 GY4 q4 y0 y1 y2 y3 X4 HB4d HRUN HM6 HB6 OB6 q5 q5a z6 q6
          go_wp2_with fail
          go_roundw
          case rel => exact ⟨k + 1, by omega, by go_num, HF.out.1, HF.out.2⟩
          case measure => simp [intOf]; omega
      case inr.inr =>
        have HY : Hid (unlist (d + 1) z = .mk z.kind z.num z.text z.list) := by show _ = _; rw [unlist, if_neg (by omega)]; exact HZA.out
        have hy0 : (d = 0 → pickZ z.kind 4 ≠ 3) := fun h => by omega
        have GY : Hid (RepV B wr (.mk z.kind z.num z.text z.list) (.int .i64 z.kind) (.int .i64 z.num) (.string z.text) (.slice ea z.list.length ec)) := HZA.out ▸ GR.out
        go_wp2_with fail
        have XB := boxed_new wr (.int .i64 z.kind) (.int .i64 z.num) (.string z.text) (.slice ea z.list.length ec)
        have HB4 := stands_alloc wr (.cells #[.int .i64 z.kind, .int .i64 z.num, .string z.text, .slice ea z.list.length ec] 44)
        have hs4 := World.size_alloc wr (.cells #[.int .i64 z.kind, .int .i64 z.num, .string z.text, .slice ea z.list.length ec] 44)
        generalize wr.alloc (.cells #[.int .i64 z.kind, .int .i64 z.num, .string z.text, .slice ea z.list.length ec] 44) = w4 at *
        have X4 := Lib.hid (XB.on (Below.drew (Below.refl _ w4)))
        have HB4d := Lib.hid (HB4.trans (Below.drew (Below.refl _ w4)))
        have hs4d : w4.drew.heap.size = wr.heap.size + 1 := hs4
        have OB4 := Lib.hid (HOB.out.on HB4d.out)
        have M4 := Lib.hid (HM.out.stands HB4d.out)
        have GY4 := Lib.hid (RepV.on HB4d.out (by omega) GY.out)
        have q4 := OB4.out.cells.2.2.2
        obtain ⟨y0, y1, y2, y3⟩ := X4.out.cells
        clear XB HB4 HOB GY GR p3
        have HWD : Hid (IntKind.i64.wrap ((d : Int) + 1 - 1) = ((d : Nat) : Int)) := by show _ = _; rw [IntKind.wrap_i64]; omega
        have HWE : Hid (IntKind.i64.wrap ((d : Nat) : Int) = ((d : Nat) : Int)) := by show _ = _; rw [IntKind.wrap_i64]; omega
        have HY0 := Lib.hid hy0; clear hy0
        go_region_law
          (first
            | (refine step_append_by rfl _ _ _ rfl rfl rfl HRUN.out ?_)
            | (go_simp; go_at_call 100; (try rw [HWD.out]); (try rw [HWE.out]); refine (ih (.mk z.kind z.num z.text z.list) B _ _ _ _ _ (by omega) GY4.out HY0.out).mono ?_; rintro e w5 ⟨c0, c1, c2, c3, rfl, hrep, hb⟩; obtain ⟨va, vn, vc, w6, hrun, hm6, hb6, hfar⟩ := fit_append M4.out (by omega) HLL.out hb hrep 31
               have HRUN := Lib.hid hrun
               have HM6 := Lib.hid hm6
               have HB6 := Lib.hid hb6
               have OB6 : Hid (Boxed w6 (w.heap.size + 1 + 1) (.int .i64 4) (.int .i64 0) (.string ⟨#[]⟩) (.slice la ln lc)) := (hb6.block _ (by omega)).trans OB4.out
               have q5 := (OB4.out.on hb).cells.2.2.2
               have q5a := ((OB4.out.on hb).on (stands_alloc w5 (.cells #[c0, c1, c2, c3] 44))).cells.2.2.2
               have z6 := frozen_of_row w6 _ 3 _ _ OB6.out
               have q6 := OB6.out.cells.2.2.2
               clear hrun hm6 hb6 hfar hrep hb))
        all_goals
          have HF : Hid ((∃ lv, Boxed (w6.setCell ⟨w.heap.size + 1 + 1, 3, none⟩ (.slice va vn vc)) (w.heap.size + 1 + 1) (.int .i64 4) (.int .i64 0) (.string ⟨#[]⟩) lv ∧ Mine (w6.setCell ⟨w.heap.size + 1 + 1, 3, none⟩ (.slice va vn vc)) (w.heap.size + 3) (fitTo d x.list (k + 1)) lv) ∧ Below (w.heap.size + 2) w3 (w6.setCell ⟨w.heap.size + 1 + 1, 3, none⟩ (.slice va vn vc))) :=
            ⟨⟨_, heap_setCell_same _ _ _ _ _ _ OB6.out, by rw [HN.out, HY.out]; exact HM6.out.far (by simp) _⟩, ((HBEL.out.trans (HB4d.out.mono (by omega))).trans (HB6.out.mono (by omega))).setCell (p := ⟨w.heap.size + 1 + 1, 3, none⟩) (by simp) _⟩
          clear OB4 M4 GY4 q4 y0 y1 y2 y3 X4 HB4d HRUN HM6 HB6 OB6 q5 q5a z6 q6
          go_wp2_with fail
          go_roundw
          case rel => exact ⟨k + 1, by omega, by go_num, HF.out.1, HF.out.2⟩
          case measure => simp [intOf]; omega
    · have hke : k = n := by omega
      have HT : Hid (fitTo d x.list k = fitTo d x.list 16) := by
        show _ = _
        rw [fitTo, fitTo, hke, hn, take_min]
      have HTL : Hid ((fitTo d x.list 16).length * 56 ≤ 140737488355328) := by
        show _ ≤ _
        rw [fitTo, List.length_map, List.length_take]; omega
      rw [HT.out] at hmine
      generalize fitTo d x.list 16 = L at *
      have HM := Lib.hid hmine
      obtain ⟨la, ln, lc, rfl⟩ : ∃ a n c, lv = .slice a n c := ⟨_, _, _, hmine.form.choose_spec.choose_spec⟩
      have RR : Boxed wr (w.heap.size + 1) (.int .i64 0) (.int .i64 0) (.string ⟨#[]⟩) (.slice none 0 0) := (hbel.block _ (by omega)).trans R3.out
      have XR : Boxed wr w.heap.size (.int .i64 x.kind) (.int .i64 x.num) (.string x.text) (.slice fa x.list.length fc) := (hbel.block w.heap.size (by omega)).trans X3.out
      have hwr : w.heap.size + 3 ≤ wr.heap.size := by have := hbel.size; omega
      have HB := Lib.hid (stored_below (k := w.heap.size + 1) (by omega) (B3.out.trans (hbel.mono (by omega))) (.int .i64 4) (.int .i64 0) (.string ⟨#[]⟩) (.slice la ln lc))
      have HM4 := Lib.hid ((((hmine.far (p := ⟨w.heap.size + 1, 0, none⟩) (by simp) (.int .i64 4)).far (p := ⟨w.heap.size + 1, 1, none⟩) (by simp) (.int .i64 0)).far (p := ⟨w.heap.size + 1, 2, none⟩) (by simp) (.string ⟨#[]⟩)).far (p := ⟨w.heap.size + 1, 3, none⟩) (by simp) (.slice la ln lc))
      obtain ⟨p0, p1, p2, p3⟩ := hob.cells
      obtain ⟨r0, r1, r2, r3⟩ := RR.cells
      have v3 := XR.cells.2.2.2
      have z0 := frozen_of_row wr _ 0 _ _ RR
      have z1 := frozen_of_row wr _ 1 _ _ RR
      have z2 := frozen_of_row wr _ 2 _ _ RR
      have z3 := frozen_of_row wr _ 3 _ _ RR
      clear hob hmine hbel HT
      have hcase : x.list.length ≤ k ∨ (k < x.list.length ∧ k = 16) := by omega
      clear hke hn hlt
      rcases hcase with hc | ⟨hc, hc'⟩
      case' inr => subst hc'
      all_goals
        clear RR XR
        go_wp2_with fail
        refine bodyPost_ret (v := .agg #[.int .i64 4, .int .i64 0, .string ⟨#[]⟩, .slice la ln lc]) (by simp [results, Tryz.results100, go_sem, r0, r1, r2, r3]) rfl ?_
        rw [HE.out]
        refine ⟨_, _, _, _, rfl, repG_mk.2 ⟨rfl, rfl, rfl, ⟨by omega, by omega⟩, ⟨by omega, by omega⟩, by unfold maxLen; simp [ByteArray.size], OwnL.rep HM4.out (fun k hk => ⟨by omega, hk.2.1⟩) (fun g h1 h2 => ⟨by omega, h2⟩) HTL.out⟩, HB.out⟩

theorem fit_any : ∀ d : Nat, d < 1000 → FitAt d
  | 0, _ => fun x B w c0 c1 c2 c3 hB hx h => by
    obtain ⟨fa, fc, rfl, rfl, rfl, rfl⟩ := hx.form
    obtain ⟨hk, hn, hs⟩ := RepG.bounds hx
    have hp := pickZ_bd x.kind 4 (by omega)
    have h3 := h rfl
    rcases (show pickZ x.kind 4 = 0 ∨ pickZ x.kind 4 = 1 ∨ pickZ x.kind 4 = 2 by omega) with e | e | e
    · exact fit_num x _ w _ _ _ hk hn e
    · exact fit_text x _ w _ _ _ hk hs e
    · exact fit_addr x _ w _ _ _ hk hs e
  | d + 1, hd => fun x B w c0 c1 c2 c3 hB hx _ => by
    obtain ⟨fa, fc, rfl, rfl, rfl, rfl⟩ := hx.form
    obtain ⟨hk, hn, hs⟩ := RepG.bounds hx
    have hp := pickZ_bd x.kind 4 (by omega)
    rcases (show pickZ x.kind 4 = 0 ∨ pickZ x.kind 4 = 1 ∨ pickZ x.kind 4 = 2 ∨ pickZ x.kind 4 = 3 by omega) with e | e | e | e
    · rw [fitV, if_neg (by omega)]; exact fit_num x _ w _ _ _ hk hn e
    · rw [fitV, if_neg (by omega)]; exact fit_text x _ w _ _ _ hk hs e
    · rw [fitV, if_neg (by omega)]; exact fit_addr x _ w _ _ _ hk hs e
    · exact fit_list d (by omega) (fit_any d (by omega)) x B w fa fc hB hx e

end Go.Proofs.YtgjemmdhamkngaaGreatDoor
