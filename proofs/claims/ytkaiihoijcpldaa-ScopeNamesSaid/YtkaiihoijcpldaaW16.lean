/-
  A program stored whole into a variable; a row of texts that a call has made, as a slice.
-/
import Derived.Test.YtkaiihoijcpldaaW15
import Derived.Test.YtkaiihoijcpldaaW10
import Derived.Test.YtkaiihoijcpldaaW02
import Derived.Test.YtkaiihoijcpldaaW09
import Derived.Test.YtkaiihoijcpldaaW11
namespace Go.Proofs.Ytkaiihoijcpldaa
open Go.RowKit

def put3 (w : World) (g : Nat) (c0 c1 c2 : Value) : World := ((w.setCell ⟨g, 0, none⟩ c0).setCell ⟨g, 1, none⟩ c1).setCell ⟨g, 2, none⟩ c2
theorem put3_size (w : World) (g : Nat) (c0 c1 c2 : Value) : (put3 w g c0 c1 c2).heap.size = w.heap.size := by simp [put3, World.setCell]
theorem put3_other (w : World) (g : Nat) (c0 c1 c2 : Value) (k : Nat) (h : k ≠ g) : (put3 w g c0 c1 c2).heap[k]? = w.heap[k]? := by
  unfold put3
  rw [Below.heap_setCell _ _ _ _ h, Below.heap_setCell _ _ _ _ h, Below.heap_setCell _ _ _ _ h]
theorem put3_below {w0 w : World} {B g : Nat} (h : Below B w0 w) (hb : B ≤ g) (c0 c1 c2 : Value) : Below B w0 (put3 w g c0 c1 c2) :=
  ((h.setCell (p := ⟨g, 0, none⟩) hb c0).setCell (p := ⟨g, 1, none⟩) hb c1).setCell (p := ⟨g, 2, none⟩) hb c2
theorem put3_box {w : World} {g : Nat} {x0 x1 x2 : Value} (h : BoxPr w g x0 x1 x2) (c0 c1 c2 : Value) : BoxPr (put3 w g c0 c1 c2) g c0 c1 c2 := by
  have h0 : BoxPr (w.setCell ⟨g, 0, none⟩ c0) g c0 x1 x2 := heap_setCell_same _ _ _ _ _ _ h
  have h1 : BoxPr ((w.setCell ⟨g, 0, none⟩ c0).setCell ⟨g, 1, none⟩ c1) g c0 c1 x2 := heap_setCell_same _ _ _ _ _ _ h0
  exact heap_setCell_same _ _ _ _ _ _ h1
/-- A row that a call owns, of texts. -/
theorem txAt_of_row {S : Nat → Prop} {w : World} {base n : Nat} {t : TypeId} {v : Value} {l : List ByteArray} (h : w.ownsRow base t 1 v n (l.map Value.string)) (hS : ∀ k, base ≤ k → k < w.heap.size → S k) (hl : l.length ≤ 1000000) : TxAt S w l v ∧ n = l.length := by
  obtain ⟨hlen, hown⟩ := h
  have hn : n = l.length := by rw [List.length_map] at hlen; omega
  refine ⟨?_, hn⟩
  subst hn
  rcases hown with ⟨rfl, h0⟩ | ⟨g, cap, cur, rfl, hbg, hh, hnc, hcm, hcs, htk⟩
  · obtain rfl : l = [] := List.length_eq_zero_iff.1 h0
    exact ⟨none, 0, 0, 0, rfl, Nat.le_refl _, by simp, fun h => by omega, fun h => by simp at h, fun i hi => by simp at hi⟩
  · have hgl := (Array.getElem?_eq_some_iff.1 hh).1
    refine ⟨_, g, 0, cap, rfl, hnc, by omega, fun _ => rfl, fun _ => hS g hbg hgl, fun i hi => ⟨fun _ => .string l[i], fun j hj => ?_, rfl⟩⟩
    obtain rfl : j = 0 := by omega
    have h1 : (l.map Value.string)[i]? = some (.string l[i]) := by rw [List.getElem?_map, List.getElem?_eq_getElem hi]; rfl
    rw [← htk, List.getElem?_take] at h1
    rw [if_pos (by omega)] at h1
    rw [show 0 + i * 1 + 0 = i by omega]
    exact cell_of_block' hh _ (by rw [← Array.getElem?_toList]; exact h1)

end Go.Proofs.Ytkaiihoijcpldaa

/-
  'append(v, x...)' of rows of any kind: what v owns, and behind it what x holds. A slice's beginning, and its rest.
-/
namespace Go.Proofs.Ytkaiihoijcpldaa
open Go.RowKit

theorem mod_of' {i j n : Nat} (hj : j < n) : (i * n + j) / n = i ∧ (i * n + j) % n = j := by
  have hn : 0 < n := by omega
  constructor
  · rw [Nat.mul_comm, Nat.mul_add_div hn, Nat.div_eq_of_lt hj, Nat.add_zero]
  · rw [Nat.mul_comm, Nat.mul_add_mod, Nat.mod_eq_of_lt hj]
theorem SlG.front {α : Type} {S : Nat → Prop} {w : World} {n bytes : Nat} {R : α → (Nat → Value) → Prop} {l : List α} {a : Option Addr} {c len : Nat} (h : SlG S w n bytes R l (.slice a len c)) {k : Nat} (hk : k ≤ l.length) :
    SlG S w n bytes R (l.take k) (.slice a k c) := by
  obtain ⟨a', b, o, cap, e, h6, h7, h8, h9, h10⟩ := h
  cases e
  have hlen : (l.take k).length = k := by rw [List.length_take]; omega
  refine ⟨a, b, o, c, by rw [hlen], by omega, ?_, h8, fun h0 => h9 (by omega), fun i hi => ?_⟩
  · rw [hlen]; exact Nat.le_trans (Nat.mul_le_mul_right _ hk) h7
  · obtain ⟨f, hf, hr⟩ := h10 i (by omega)
    exact ⟨f, hf, by rw [List.getElem_take]; exact hr⟩
theorem SlG.behind {α : Type} {S : Nat → Prop} {w : World} {n bytes : Nat} {R : α → (Nat → Value) → Prop} {l : List α} {b o c len : Nat} (h : SlG S w n bytes R l (.slice (some ⟨b, o, none⟩) len c)) {k : Nat} (hk : k ≤ l.length) (h0 : 0 < l.length) :
    SlG S w n bytes R (l.drop k) (.slice (some ⟨b, o + k * n, none⟩) (l.length - k) (c - k)) := by
  obtain ⟨a', b', o', cap, e, h6, h7, h8, h9, h10⟩ := h
  cases e
  obtain ⟨rfl, rfl⟩ : b = b' ∧ o = o' := by have := h8 (by omega); injection this with e; injection e with e1 e2; exact ⟨e1, e2⟩
  refine ⟨_, b, o + k * n, c - k, by rw [List.length_drop], by rw [List.length_drop]; omega, ?_, fun _ => rfl, fun _ => h9 h0, fun i hi => ?_⟩
  · rw [List.length_drop]; exact Nat.le_trans (Nat.mul_le_mul_right _ (Nat.sub_le _ _)) h7
  · rw [List.length_drop] at hi
    obtain ⟨f, hf, hr⟩ := h10 (k + i) (by omega)
    refine ⟨f, fun j hj => ?_, by rw [List.getElem_drop]; exact hr⟩
    have := hf j hj
    rw [Nat.add_mul] at this
    rw [show o + k * n + i * n + j = o + (k * n + i * n) + j by omega]
    exact this
/-- The rest as the slice operation makes it. -/
theorem SlG.rest {α : Type} {S : Nat → Prop} {w : World} {n bytes : Nat} {R : α → (Nat → Value) → Prop} {l : List α} {b o c len : Nat} (h : SlG S w n bytes R l (.slice (some ⟨b, o, none⟩) len c)) {k : Nat} (hk : k ≤ l.length) (h0 : 0 < l.length) :
    SlG S w n bytes R (l.drop k) (.slice (if c = k then some ⟨b, o, none⟩ else some ⟨b, o + k * n, none⟩) (l.length - k) (c - k)) := by
  have hb := SlG.behind h hk h0
  split
  · rename_i hc
    obtain ⟨h1, h2⟩ : len = l.length ∧ len ≤ c := by
      obtain ⟨a', b', o', cap, e, h6, -⟩ := h
      cases e
      exact ⟨rfl, h6⟩
    have hl : l.drop k = [] := List.length_eq_zero_iff.1 (by rw [List.length_drop]; omega)
    have hlk : l.length - k = 0 := by omega
    have hck : c - k = 0 := by omega
    rw [hl, hlk, hck]
    exact ⟨_, 0, 0, 0, rfl, Nat.le_refl _, by simp, fun h => by omega, fun h => by simp at h, fun i hi => by simp at hi⟩
  · exact hb
/-- The cells of a slice as one list. -/
theorem SlG.flat {α : Type} {S : Nat → Prop} {w : World} {n bytes : Nat} {R : α → (Nat → Value) → Prop} {l : List α} {b o c len : Nat} (hn : 0 < n) (h : SlG S w n bytes R l (.slice (some ⟨b, o, none⟩) len c)) :
    len = l.length ∧ len ≤ c ∧ ∃ ys : List Value, ys.length = l.length * n ∧ (∀ m u, ys[m]? = some u → w.cell? ⟨b, o + m, none⟩ = some u) ∧ (∀ i (h : i < l.length), ∃ f : Nat → Value, (∀ j, j < n → ys[i * n + j]? = some (f j)) ∧ R l[i] f) ∧ (∀ u ∈ ys, ∃ i, ∃ (h : i < l.length) (f : Nat → Value) (j : Nat), j < n ∧ u = f j ∧ R l[i] f) := by
  obtain ⟨a', b', o', cap, e, h6, h7, h8, h9, h10⟩ := h
  cases e
  refine ⟨rfl, h6, ?_⟩
  have hob : 0 < l.length → b = b' ∧ o = o' := fun h0 => by have := h8 (by omega); injection this with e; injection e with e1 e2; exact ⟨e1, e2⟩
  have hch : ∃ C : Nat → Nat → Value, ∀ i (h : i < l.length), (∀ j, j < n → w.cell? ⟨b', o' + i * n + j, none⟩ = some (C i j)) ∧ R l[i] (C i) := by
    refine ⟨fun i => if h : i < l.length then (h10 i h).choose else fun _ => .int .i64 0, fun i h => ?_⟩
    simp only [dif_pos h]
    exact (h10 i h).choose_spec
  obtain ⟨C, hC⟩ := hch
  have hgm : ∀ (m : Nat) (u : Value), ((List.range (l.length * n)).map (fun m => C (m / n) (m % n)))[m]? = some u → ∃ i j, i < l.length ∧ j < n ∧ m = i * n + j ∧ u = C i j := fun m u hu => by
    have hm : m < l.length * n := by
      by_cases hm : m < l.length * n
      · exact hm
      · rw [List.getElem?_eq_none (by simp; omega)] at hu
        cases hu
    rw [List.getElem?_map, List.getElem?_range hm] at hu
    refine ⟨m / n, m % n, Nat.div_lt_of_lt_mul (by rw [Nat.mul_comm]; exact hm), Nat.mod_lt _ hn, ?_, (Option.some.inj hu).symm⟩
    rw [Nat.mul_comm]; exact (Nat.div_add_mod m n).symm
  refine ⟨(List.range (l.length * n)).map (fun m => C (m / n) (m % n)), by simp, fun m u hu => ?_, fun i hi => ⟨C i, fun j hj => ?_, (hC i hi).2⟩, fun u hu => ?_⟩
  · obtain ⟨i, j, hi, hj, rfl, rfl⟩ := hgm m u hu
    obtain ⟨rfl, rfl⟩ := hob (by omega)
    rw [← Nat.add_assoc]
    exact (hC i hi).1 j hj
  · obtain ⟨m1, m2⟩ := mod_of' (i := i) hj
    have hlt : i * n + j < l.length * n := by
      have : (i + 1) * n ≤ l.length * n := Nat.mul_le_mul_right _ hi
      rw [Nat.succ_mul] at this; omega
    rw [List.getElem?_map, List.getElem?_range hlt, Option.map_some, m1, m2]
  · obtain ⟨m, hm, rfl⟩ := List.getElem_of_mem hu
    obtain ⟨i, j, hi, hj, -, e⟩ := hgm m _ (List.getElem?_eq_getElem hm)
    exact ⟨i, hi, C i, j, hj, e, (hC i hi).2⟩
/-- 'append(v, x...)'. -/
theorem own_many {α : Type} {K : Kd α} {S : Nat → Prop} {w : World} {base : Nat} {L m : List α} {lv x : Value} (hown : OwnK K S w base L lv) (hm : SlG S w K.n K.bytes (K.R S w) m x) (hS : ∀ k, S k → k < w.heap.size ∧ lv.ownBlock ≠ some k)
    (hbase : base ≤ w.heap.size) (hlen : L.length + m.length ≤ 100000) (ty : TypeId) :
    ∃ (v' : Value) (w6 : World), (Builtin.append_ #[K.ST, K.ST] ty #[lv, x]).run Try.prog w = .ok v' w6 ∧ OwnK K S w6 base (L ++ m) v' ∧ w.grownBy w6 lv.ownBlock := by
  obtain ⟨i0, z, hi, hz0, hz1, hz2, hz3⟩ := K.info
  obtain ⟨xs, hrow, hr⟩ := hown
  have hby : (L.length + m.length) * K.bytes ≤ 140737488355328 := by
    have := Nat.mul_le_mul hlen K.few
    omega
  have keep : ∀ w6 : World, w.grownBy w6 lv.ownBlock → ∀ k, S k → w6.heap[k]? = w.heap[k]? := fun w6 hg k hk => hg.block k (hS k hk).1 (fun e => (hS k hk).2 e.symm)
  obtain ⟨a, cap, rfl⟩ := SlG.form hm
  rcases a with _ | ⟨b, o, sp⟩
  · obtain ⟨a', b', o', cap', e, h6, h7, h8, h9, h10⟩ := id hm
    cases e
    have hc0 : cap = 0 := by
      by_cases hc : 0 < cap
      · have := h8 hc; cases this
      · omega
    subst hc0
    obtain rfl : m = [] := List.length_eq_zero_iff.1 (by omega)
    have hrun := run_append_owned_none (P := Try.prog) (w := w) base K.ST ty K.T i0 K.n K.und hi lv L.length xs hrow
    exact ⟨lv, w, hrun, ⟨xs, by simpa using hrow, fun i hi' => by
      have hi2 : i < L.length := by simpa using hi'
      obtain ⟨c, hc, hR⟩ := hr i hi2
      exact ⟨c, hc, by simpa using hR⟩⟩, World.grownBy.refl w _⟩
  · have hsp : sp = none ∨ m = [] ∧ cap = 0 := by
      obtain ⟨a', b', o', cap', e, h6, h7, h8, h9, h10⟩ := id hm
      cases e
      by_cases hc : 0 < cap
      · have := h8 hc
        injection this with e; injection e with e1 e2 e3
        exact .inl e3
      · exact .inr ⟨List.length_eq_zero_iff.1 (by omega), by omega⟩
    have main : ∀ (ys : List Value), ys.length = m.length * K.n → (∀ j u, ys[j]? = some u → w.cell? ((⟨b, o, sp⟩ : Addr).add j) = some u) → (∀ i (h : i < m.length), ∃ f : Nat → Value, (∀ j, j < K.n → ys[i * K.n + j]? = some (f j)) ∧ K.R S w m[i] f) → (∀ u ∈ ys, u.oneCell' = true) → m.length ≤ cap →
        ∃ (v' : Value) (w6 : World), (Builtin.append_ #[K.ST, K.ST] ty #[lv, .slice (some ⟨b, o, sp⟩) m.length cap]).run Try.prog w = .ok v' w6 ∧ OwnK K S w6 base (L ++ m) v' ∧ w.grownBy w6 lv.ownBlock := by
      intro ys hy1 hy2 hy3 hy4 hcap
      obtain ⟨v', w6, hrun, h1, h2, _, h5⟩ := run_append_own_at (P := Try.prog) w base K.ST ty K.T i0 z K.n K.bytes K.und hi hz0 hz1 hz2 hz3 K.pos lv L.length xs hrow ⟨b, o, sp⟩ m.length cap ys hy1 hy2 hy4 (by unfold maxLen; omega) hby hbase
      refine ⟨v', w6, hrun, ⟨xs ++ ys, by rw [List.length_append]; exact h1, fun i hi' => ?_⟩, h2⟩
      by_cases hlt : i < L.length
      · obtain ⟨c', hc', hR⟩ := hr i hlt
        refine ⟨c', fun j hj => ?_, by rw [List.getElem_append_left hlt]; exact K.on (fun _ h => h) (keep w6 h2) hR⟩
        have hil : i * K.n + j < xs.length := by
          rw [hrow.1]
          have : (i + 1) * K.n ≤ L.length * K.n := Nat.mul_le_mul_right _ hlt
          rw [Nat.succ_mul] at this; omega
        rw [List.getElem?_append_left hil]; exact hc' j hj
      · have hi2 : i - L.length < m.length := by rw [List.length_append] at hi'; omega
        obtain ⟨c, hc, hR⟩ := hy3 (i - L.length) hi2
        refine ⟨c, fun j hj => ?_, by rw [List.getElem_append_right (by omega)]; exact K.on (fun _ h => h) (keep w6 h2) hR⟩
        have hge : L.length * K.n ≤ i * K.n := Nat.mul_le_mul_right _ (by omega)
        rw [List.getElem?_append_right (by rw [hrow.1]; omega), hrow.1, show i * K.n + j - L.length * K.n = (i - L.length) * K.n + j by rw [Nat.sub_mul]; omega]
        exact hc j hj
    rcases hsp with rfl | ⟨rfl, rfl⟩
    · obtain ⟨-, f2, ys, f3, f4, f5, f6⟩ := SlG.flat K.pos hm
      exact main ys f3 (fun j u hu => by rw [add_lit']; exact f4 j u hu) f5 (fun u hu => by
        obtain ⟨i, hi', f, j, hj, rfl, hR⟩ := f6 u hu
        exact K.one hR j hj) f2
    · exact main [] (by simp) (fun j u hu => by simp at hu) (fun i h => by simp at h) (fun u hu => by cases hu) (Nat.le_refl _)
theorem OwnK.nil {α : Type} {K : Kd α} (S : Nat → Prop) (w : World) (base : Nat) : OwnK K S w base [] (.slice none 0 0) := ⟨[], World.ownsRow_nil _ _ _ _, fun i hi => by simp at hi⟩
/-- The row as a slice. -/
theorem OwnK.slg' {α : Type} {K : Kd α} {S S' : Nat → Prop} {w : World} {base : Nat} {l : List α} {v : Value} (h : OwnK K S w base l v) (hSS : ∀ k, S k → S' k) (hS : ∀ k, base ≤ k → k < w.heap.size → S' k) (hl : l.length ≤ 100000) : SlG S' w K.n K.bytes (K.R S' w) l v := by
  obtain ⟨xs, ⟨hlen, hown⟩, hr⟩ := h
  have hby : l.length * K.bytes ≤ 140737488355328 := by
    have := Nat.mul_le_mul hl K.few
    omega
  rcases hown with ⟨rfl, hn⟩ | ⟨g, cap, cur, rfl, hbg, hh, hnc, hcm, hcs, htk⟩
  · obtain rfl : l = [] := List.length_eq_zero_iff.1 hn
    exact ⟨none, 0, 0, 0, rfl, Nat.le_refl _, by simp, fun h => by omega, fun h => by simp at h, fun i hi => by simp at hi⟩
  · have hgl := (Array.getElem?_eq_some_iff.1 hh).1
    refine ⟨_, g, 0, cap, rfl, hnc, hby, fun _ => rfl, fun _ => hS g hbg hgl, fun i hi => ?_⟩
    obtain ⟨c, hc, hR⟩ := hr i hi
    refine ⟨c, fun j hj => ?_, K.on hSS (fun _ _ => rfl) hR⟩
    have h1 := hc j hj
    rw [← htk, List.getElem?_take] at h1
    have hlt : i * K.n + j < l.length * K.n := by
      have : (i + 1) * K.n ≤ l.length * K.n := Nat.mul_le_mul_right _ hi
      rw [Nat.succ_mul] at this; omega
    rw [if_pos hlt] at h1
    rw [show 0 + i * K.n + j = i * K.n + j by omega]
    exact cell_of_block' hh _ (by rw [← Array.getElem?_toList]; exact h1)

end Go.Proofs.Ytkaiihoijcpldaa

/-
  Layer 6's own first calls: chapter 6's example.
-/
namespace Go.Proofs.Ytkaiihoijcpldaa
open Go.RowKit

def ru6 : Ru := ⟨⟨#[114, 49]⟩, ⟨#[112]⟩, [vTm 0, vTm 2], ⟨#[]⟩, 0, [⟨1, ⟨#[114]⟩, [vTm 0]⟩]⟩
def pr6 : Pr := ⟨decls6, [], [ru6]⟩
theorem pr6_check : checkZ pr6 = (61, 0) := by kernel_rfl
theorem pr0_check : checkZ ⟨decls6, [], []⟩ = (0, -1) := by kernel_rfl
theorem pr6_link : arityL decls6 ⟨#[108, 105, 110, 107]⟩ = 3 := by kernel_rfl
theorem v6_vars : (ddN (namesL [vTm 0])).map (fun x => Value.string x.1) = [.string ⟨#[83]⟩] := by
  have h : (nm ⟨#[83]⟩).1 = ⟨#[83]⟩ := nm_of (by decide)
  simp [namesL, varsL, vTm, varsM, vName, ddN, inB, h]
def Aw6 (B : Nat) (w : World) : Nat → Value → Prop
  | 0, v => RepDes (fun k => B ≤ k ∧ k < w.heap.size) w decls6 v
  | 1, v => v = (.agg #[.int .i64 1, .string (vName 0), .int .i64 0, .int .i64 0, .string ⟨#[]⟩, .slice none 0 0, .slice none 0 0])
  | 2, v => v = (.agg #[.int .i64 1, .string (vName 2), .int .i64 0, .int .i64 0, .string ⟨#[]⟩, .slice none 0 0, .slice none 0 0])
  | 3, v => RepMs (fun k => B ≤ k ∧ k < w.heap.size) w [vTm 0, vTm 2] v
  | 4, v => v = (.agg #[.int .i64 1, .string (vName 0), .int .i64 0, .int .i64 0, .string ⟨#[]⟩, .slice none 0 0, .slice none 0 0])
  | 5, v => RepMs (fun k => B ≤ k ∧ k < w.heap.size) w [vTm 0] v
  | 6, v => ∃ c, v = .agg #[.int .i64 1, .string ⟨#[114]⟩, c] ∧ RepMs (fun k => B ≤ k ∧ k < w.heap.size) w [vTm 0] c
  | 7, v => RepLis (fun k => B ≤ k ∧ k < w.heap.size) w [⟨1, ⟨#[114]⟩, [vTm 0]⟩] v
  | 8, v => ∃ c2 c5, v = .agg #[.string ru6.label, .string ru6.head, c2, .string ru6.agg, .int .i64 ru6.at', c5] ∧ RepRu (fun k => B ≤ k ∧ k < w.heap.size) w ru6 (.string ru6.label) (.string ru6.head) c2 (.string ru6.agg) (.int .i64 ru6.at') c5
  | 9, v => RepRus (fun k => B ≤ k ∧ k < w.heap.size) w [ru6] v
  | 10, v => ∃ c0 c2, v = .agg #[c0, .slice none 0 0, c2] ∧ RepDes (fun k => B ≤ k ∧ k < w.heap.size) w decls6 c0 ∧ RepRus (fun k => B ≤ k ∧ k < w.heap.size) w [ru6] c2
  | 11, v => ∃ b, v = .pointer (some ⟨b, 0, none⟩) ∧ B ≤ b ∧ BoxPr w b (.slice none 0 0) (.slice none 0 0) (.slice none 0 0)
  | _ + 12, _ => True
theorem Aw6.stay (B : Nat) {w w' : World} (hb : Below w.heap.size w w') : ∀ i v, Aw6 B w i v → Aw6 B w' i v
  | 0, _, h => RepDes.on (fun _k hk => ⟨hk.1, Nat.lt_of_lt_of_le hk.2 hb.size⟩) (fun k hk => hb.block k hk.2) h
  | 1, _, h => h
  | 2, _, h => h
  | 3, _, h => RepMs.on (fun _k hk => ⟨hk.1, Nat.lt_of_lt_of_le hk.2 hb.size⟩) (fun k hk => hb.block k hk.2) h
  | 4, _, h => h
  | 5, _, h => RepMs.on (fun _k hk => ⟨hk.1, Nat.lt_of_lt_of_le hk.2 hb.size⟩) (fun k hk => hb.block k hk.2) h
  | 6, _, h => let ⟨c, e, h⟩ := h; ⟨c, e, RepMs.on (fun _k hk => ⟨hk.1, Nat.lt_of_lt_of_le hk.2 hb.size⟩) (fun k hk => hb.block k hk.2) h⟩
  | 7, _, h => RepLis.on (fun _k hk => ⟨hk.1, Nat.lt_of_lt_of_le hk.2 hb.size⟩) (fun k hk => hb.block k hk.2) h
  | 8, _, h => let ⟨c2, c5, e, h⟩ := h; ⟨c2, c5, e, RepRu.on (fun _k hk => ⟨hk.1, Nat.lt_of_lt_of_le hk.2 hb.size⟩) (fun k hk => hb.block k hk.2) h⟩
  | 9, _, h => RepRus.on (fun _k hk => ⟨hk.1, Nat.lt_of_lt_of_le hk.2 hb.size⟩) (fun k hk => hb.block k hk.2) h
  | 10, _, h => let ⟨c0, c2, e, h, h'⟩ := h; ⟨c0, c2, e, RepDes.on (fun _k hk => ⟨hk.1, Nat.lt_of_lt_of_le hk.2 hb.size⟩) (fun k hk => hb.block k hk.2) h, RepRus.on (fun _k hk => ⟨hk.1, Nat.lt_of_lt_of_le hk.2 hb.size⟩) (fun k hk => hb.block k hk.2) h'⟩
  | 11, _, h => let ⟨b, e, h1, h2⟩ := h; ⟨b, e, h1, h2.on hb⟩
  | _ + 12, _, _ => trivial

set_option maxRecDepth 100000 in
set_option maxHeartbeats 8000000 in
theorem awake6_any (w : World) : Calls Try.prog 8 #[] w fun e w' => e = .returned (.bool true) ∧ Below w.heap.size w w' := by
  go_enter Try.func8, Try.ntmps8
  go_wp2_with fail
  refine (v_any 0 _ (small64 (by omega))).mono ?_
  rintro e w0 ⟨rfl, hb0⟩
  rw [show vVal (pickZ 0 6).toNat = .agg #[.int .i64 1, .string (vName 0), .int .i64 0, .int .i64 0, .string ⟨#[]⟩, .slice none 0 0, .slice none 0 0] from rfl]
  go_upto_region 2 with fail
  have xs := boxM_new w0 (.int .i64 1) (.string (vName 0)) (.int .i64 0) (.int .i64 0) (.string ⟨#[]⟩) (.slice none 0 0) (.slice none 0 0)
  have b1 := Below.step hb0 (below_alloc w0 (.cells #[.int .i64 1, .string (vName 0), .int .i64 0, .int .i64 0, .string ⟨#[]⟩, .slice none 0 0, .slice none 0 0] 48))
  generalize w0.alloc (.cells #[.int .i64 1, .string (vName 0), .int .i64 0, .int .i64 0, .string ⟨#[]⟩, .slice none 0 0, .slice none 0 0] 48) = w1 at *
  obtain ⟨ks, hks⟩ : ∃ k, w0.heap.size = k := ⟨_, rfl⟩
  rw [hks] at xs ⊢
  have XS := Lib.hid xs; have B1 := Lib.hid b1
  clear xs b1 hks hb0
  refine wp_region_factsL (by rfl) 55 (by rfl) (by kernel_rfl) (fun wz iz vz => Aw6 w1.heap.size wz iz vz) (fun w' => Below w1.heap.size w1 w') (Below.drew (Below.refl _ _)) ⟨?s0, ?s1, ?s2, ?s3, ?s4, ?s5, ?s6, ?s7, ?s8, ?s9, ?s10, ?s11, trivial⟩ (by rfl) ?last (by decide)
  case s0 =>
    intro a w' hoff hg hdep K hK
    replace hg : Below w1.heap.size w1 w' := hg
    rw [if_pos (by rfl)]
    go_simp
    refine (relations_any w').mono ?_
    rintro e w2' ⟨rfl, hr, hb⟩
    exact hK.out _ _ (Below.step hg hb) (RepDes.on (S' := fun k => w1.heap.size ≤ k ∧ k < w2'.heap.size) (fun k hk => ⟨Nat.le_trans hg.size hk.1, hk.2⟩) (fun _ _ => rfl) hr) (fun j u h => Aw6.stay _ hb j u h)
  case s1 =>
    intro a w' hoff hg hdep K hK
    replace hg : Below w1.heap.size w1 w' := hg
    have h1 := off_at hoff 1 (v := .pointer (some ⟨ks, 0, none⟩)) (by kernel_rfl) rfl
    rw [if_pos (by rfl)]
    obtain ⟨p0, p1, p2, p3, p4, p5, p6⟩ := (XS.out.on hg).cells
    go_simp
    exact hK.out _ _ hg rfl (fun _ _ h => h)
  case s2 =>
    intro a w' hoff hg hdep K hK
    replace hg : Below w1.heap.size w1 w' := hg
    rw [if_pos (by rfl)]
    go_simp
    refine (v_any 2 w' (small64 (by omega))).mono ?_
    rintro e w2' ⟨rfl, hb⟩
    exact hK.out _ _ (Below.step hg hb) rfl (fun j u h => Aw6.stay _ hb j u h)
  case s3 =>
    intro a w' hoff hg hdep K hK
    replace hg : Below w1.heap.size w1 w' := hg
    obtain ⟨v1, e1, f1⟩ := hdep 1 _ 9 (by kernel_rfl) rfl rfl
    obtain rfl : v1 = (.agg #[.int .i64 1, .string (vName 0), .int .i64 0, .int .i64 0, .string ⟨#[]⟩, .slice none 0 0, .slice none 0 0]) := f1
    obtain ⟨v2, e2, f2⟩ := hdep 2 _ 10 (by kernel_rfl) rfl rfl
    obtain rfl : v2 = (.agg #[.int .i64 1, .string (vName 2), .int .i64 0, .int .i64 0, .string ⟨#[]⟩, .slice none 0 0, .slice none 0 0]) := f2
    rw [if_pos (by rfl)]
    go_simp
    have hb := below_alloc w' (.cells #[.int .i64 1, .string (vName 0), .int .i64 0, .int .i64 0, .string ⟨#[]⟩, .slice none 0 0, .slice none 0 0, .int .i64 1, .string (vName 2), .int .i64 0, .int .i64 0, .string ⟨#[]⟩, .slice none 0 0, .slice none 0 0] 48)
    have hp : RepMs (fun k => w1.heap.size ≤ k ∧ k < (w'.alloc (.cells #[.int .i64 1, .string (vName 0), .int .i64 0, .int .i64 0, .string ⟨#[]⟩, .slice none 0 0, .slice none 0 0, .int .i64 1, .string (vName 2), .int .i64 0, .int .i64 0, .string ⟨#[]⟩, .slice none 0 0, .slice none 0 0] 48)).heap.size) (w'.alloc (.cells #[.int .i64 1, .string (vName 0), .int .i64 0, .int .i64 0, .string ⟨#[]⟩, .slice none 0 0, .slice none 0 0, .int .i64 1, .string (vName 2), .int .i64 0, .int .i64 0, .string ⟨#[]⟩, .slice none 0 0, .slice none 0 0] 48)) [vTm 0, vTm 2] (.slice (some ⟨w'.heap.size, 0, none⟩) 2 2) := slg_row (n := 7) (bytes := 104) (l := [vTm 0, vTm 2]) (alloc_new' w' _) ⟨hg.size, by simp⟩ rfl (by decide) (fun i h => match i, h with
      | 0, _ => vTm_rep _ _ 0
      | 1, _ => vTm_rep _ _ 2)
    exact hK.out _ _ (Below.step hg hb) hp (fun j u h => Aw6.stay _ hb j u h)
  case s4 =>
    intro a w' hoff hg hdep K hK
    replace hg : Below w1.heap.size w1 w' := hg
    have h1 := off_at hoff 1 (v := .pointer (some ⟨ks, 0, none⟩)) (by kernel_rfl) rfl
    rw [if_pos (by rfl)]
    obtain ⟨p0, p1, p2, p3, p4, p5, p6⟩ := (XS.out.on hg).cells
    go_simp
    exact hK.out _ _ hg rfl (fun _ _ h => h)
  case s5 =>
    intro a w' hoff hg hdep K hK
    replace hg : Below w1.heap.size w1 w' := hg
    obtain ⟨v4, e4, f4⟩ := hdep 4 _ 12 (by kernel_rfl) rfl rfl
    obtain rfl : v4 = (.agg #[.int .i64 1, .string (vName 0), .int .i64 0, .int .i64 0, .string ⟨#[]⟩, .slice none 0 0, .slice none 0 0]) := f4
    rw [if_pos (by rfl)]
    go_simp
    have hb := below_alloc w' (.cells #[.int .i64 1, .string (vName 0), .int .i64 0, .int .i64 0, .string ⟨#[]⟩, .slice none 0 0, .slice none 0 0] 48)
    have hp : RepMs (fun k => w1.heap.size ≤ k ∧ k < (w'.alloc (.cells #[.int .i64 1, .string (vName 0), .int .i64 0, .int .i64 0, .string ⟨#[]⟩, .slice none 0 0, .slice none 0 0] 48)).heap.size) (w'.alloc (.cells #[.int .i64 1, .string (vName 0), .int .i64 0, .int .i64 0, .string ⟨#[]⟩, .slice none 0 0, .slice none 0 0] 48)) [vTm 0] (.slice (some ⟨w'.heap.size, 0, none⟩) 1 1) := slg_row (n := 7) (bytes := 104) (l := [vTm 0]) (alloc_new' w' _) ⟨hg.size, by simp⟩ rfl (by decide) (fun i h => match i, h with
      | 0, _ => vTm_rep _ _ 0)
    exact hK.out _ _ (Below.step hg hb) hp (fun j u h => Aw6.stay _ hb j u h)
  case s6 =>
    intro a w' hoff hg hdep K hK
    replace hg : Below w1.heap.size w1 w' := hg
    obtain ⟨v5, e5, f5⟩ := hdep 5 _ 13 (by kernel_rfl) rfl rfl
    replace f5 : RepMs (fun k => w1.heap.size ≤ k ∧ k < w'.heap.size) w' [vTm 0] v5 := f5
    rw [if_pos (by rfl)]
    obtain ⟨xa, xc, rfl⟩ := SlG.form f5
    go_simp
    exact hK.out _ _ hg ⟨_, rfl, f5⟩ (fun _ _ h => h)
  case s7 =>
    intro a w' hoff hg hdep K hK
    replace hg : Below w1.heap.size w1 w' := hg
    obtain ⟨v6, e6, f6⟩ := hdep 6 _ 14 (by kernel_rfl) rfl rfl
    replace f6 : ∃ c, v6 = .agg #[.int .i64 1, .string ⟨#[114]⟩, c] ∧ RepMs (fun k => w1.heap.size ≤ k ∧ k < w'.heap.size) w' [vTm 0] c := f6
    rw [if_pos (by rfl)]
    obtain ⟨c, rfl, kv⟩ := f6
    obtain ⟨xa, xc, rfl⟩ := SlG.form kv
    go_simp
    have hb := below_alloc w' (.cells #[.int .i64 1, .string ⟨#[114]⟩, .slice xa [vTm 0].length xc] 42)
    have kv2 : RepMs (fun k => w1.heap.size ≤ k ∧ k < (w'.alloc (.cells #[.int .i64 1, .string ⟨#[114]⟩, .slice xa [vTm 0].length xc] 42)).heap.size) (w'.alloc (.cells #[.int .i64 1, .string ⟨#[114]⟩, .slice xa [vTm 0].length xc] 42)) [vTm 0] (.slice xa [vTm 0].length xc) := RepMs.on (fun k hk => ⟨hk.1, Nat.lt_of_lt_of_le hk.2 hb.size⟩) (fun k hk => hb.block k hk.2) kv
    have hp : RepLis (fun k => w1.heap.size ≤ k ∧ k < (w'.alloc (.cells #[.int .i64 1, .string ⟨#[114]⟩, .slice xa [vTm 0].length xc] 42)).heap.size) (w'.alloc (.cells #[.int .i64 1, .string ⟨#[114]⟩, .slice xa [vTm 0].length xc] 42)) [⟨1, ⟨#[114]⟩, [vTm 0]⟩] (.slice (some ⟨w'.heap.size, 0, none⟩) 1 1) := slg_row (n := 3) (bytes := 48) (l := ([⟨1, ⟨#[114]⟩, [vTm 0]⟩] : List Li)) (alloc_new' w' _) ⟨hg.size, by simp⟩ rfl (by decide) (fun i h => match i, h with
      | 0, _ => ⟨rfl, rfl, small64 (show (0 : Int) ≤ 1 ∧ (1 : Int) ≤ 100 by decide), (show (⟨#[114]⟩ : ByteArray).size ≤ maxLen by decide), kv2⟩)
    exact hK.out _ _ (Below.step hg hb) hp (fun j u h => Aw6.stay _ hb j u h)
  case s8 =>
    intro a w' hoff hg hdep K hK
    replace hg : Below w1.heap.size w1 w' := hg
    obtain ⟨v3, e3, f3⟩ := hdep 3 _ 11 (by kernel_rfl) rfl rfl
    replace f3 : RepMs (fun k => w1.heap.size ≤ k ∧ k < w'.heap.size) w' [vTm 0, vTm 2] v3 := f3
    obtain ⟨v7, e7, f7⟩ := hdep 7 _ 15 (by kernel_rfl) rfl rfl
    replace f7 : RepLis (fun k => w1.heap.size ≤ k ∧ k < w'.heap.size) w' [⟨1, ⟨#[114]⟩, [vTm 0]⟩] v7 := f7
    rw [if_pos (by rfl)]
    obtain ⟨xa, xc, rfl⟩ := SlG.form f3
    obtain ⟨ya, yc, rfl⟩ := SlG.form f7
    go_simp
    exact hK.out _ _ hg ⟨_, _, rfl, rfl, rfl, rfl, rfl, by decide, by decide, by decide, small64 (by decide), f3, f7⟩ (fun _ _ h => h)
  case s9 =>
    intro a w' hoff hg hdep K hK
    replace hg : Below w1.heap.size w1 w' := hg
    obtain ⟨v8, e8, f8⟩ := hdep 8 _ 16 (by kernel_rfl) rfl rfl
    replace f8 : ∃ c2 c5, v8 = .agg #[.string ru6.label, .string ru6.head, c2, .string ru6.agg, .int .i64 ru6.at', c5] ∧ RepRu (fun k => w1.heap.size ≤ k ∧ k < w'.heap.size) w' ru6 (.string ru6.label) (.string ru6.head) c2 (.string ru6.agg) (.int .i64 ru6.at') c5 := f8
    rw [if_pos (by rfl)]
    obtain ⟨c2, c5, rfl, kv⟩ := f8
    go_simp
    have hb := below_alloc w' (.cells #[.string ru6.label, .string ru6.head, c2, .string ru6.agg, .int .i64 ru6.at', c5] 39)
    have kv2 := RepRu.on (S' := fun k => w1.heap.size ≤ k ∧ k < (w'.alloc (.cells #[.string ru6.label, .string ru6.head, c2, .string ru6.agg, .int .i64 ru6.at', c5] 39)).heap.size) (fun k hk => ⟨hk.1, Nat.lt_of_lt_of_le hk.2 hb.size⟩) (fun k hk => hb.block k hk.2) kv
    have hp : RepRus (fun k => w1.heap.size ≤ k ∧ k < (w'.alloc (.cells #[.string ru6.label, .string ru6.head, c2, .string ru6.agg, .int .i64 ru6.at', c5] 39)).heap.size) (w'.alloc (.cells #[.string ru6.label, .string ru6.head, c2, .string ru6.agg, .int .i64 ru6.at', c5] 39)) [ru6] (.slice (some ⟨w'.heap.size, 0, none⟩) 1 1) := slg_row (n := 6) (bytes := 104) (l := [ru6]) (alloc_new' w' _) ⟨hg.size, by simp⟩ rfl (by decide) (fun i h => match i, h with
      | 0, _ => kv2)
    exact hK.out _ _ (Below.step hg hb) hp (fun j u h => Aw6.stay _ hb j u h)
  case s10 =>
    intro a w' hoff hg hdep K hK
    replace hg : Below w1.heap.size w1 w' := hg
    obtain ⟨v0, e0, f0⟩ := hdep 0 _ 8 (by kernel_rfl) rfl rfl
    replace f0 : RepDes (fun k => w1.heap.size ≤ k ∧ k < w'.heap.size) w' decls6 v0 := f0
    obtain ⟨v9, e9, f9⟩ := hdep 9 _ 17 (by kernel_rfl) rfl rfl
    replace f9 : RepRus (fun k => w1.heap.size ≤ k ∧ k < w'.heap.size) w' [ru6] v9 := f9
    rw [if_pos (by rfl)]
    obtain ⟨xa, xc, rfl⟩ := SlG.form f0
    obtain ⟨ya, yc, rfl⟩ := SlG.form f9
    go_simp
    exact hK.out _ _ hg ⟨_, _, rfl, f0, f9⟩ (fun _ _ h => h)
  case s11 =>
    intro a w' hoff hg hdep K hK
    replace hg : Below w1.heap.size w1 w' := hg
    rw [if_pos (by rfl)]
    go_simp
    have hb := below_alloc w' (.cells #[.slice none 0 0, .slice none 0 0, .slice none 0 0] 29)
    exact hK.out _ _ (Below.step hg hb) ⟨_, rfl, hg.size, boxPr_new w' _ _ _⟩ (fun j u h => Aw6.stay _ hb j u h)
  case last =>
    intro a w' hoff hg hf
    replace hg : Below w1.heap.size w1 w' := hg
    obtain ⟨v0, e0, f0⟩ := hf 0 _ 8 (by decide) rfl rfl
    replace f0 : RepDes (fun k => w1.heap.size ≤ k ∧ k < w'.heap.size) w' decls6 v0 := f0
    obtain ⟨v1, e1, f1⟩ := hf 1 _ 9 (by decide) rfl rfl
    obtain rfl : v1 = (.agg #[.int .i64 1, .string (vName 0), .int .i64 0, .int .i64 0, .string ⟨#[]⟩, .slice none 0 0, .slice none 0 0]) := f1
    obtain ⟨v2, e2, f2⟩ := hf 2 _ 10 (by decide) rfl rfl
    obtain rfl : v2 = (.agg #[.int .i64 1, .string (vName 2), .int .i64 0, .int .i64 0, .string ⟨#[]⟩, .slice none 0 0, .slice none 0 0]) := f2
    obtain ⟨v3, e3, f3⟩ := hf 3 _ 11 (by decide) rfl rfl
    replace f3 : RepMs (fun k => w1.heap.size ≤ k ∧ k < w'.heap.size) w' [vTm 0, vTm 2] v3 := f3
    obtain ⟨v4, e4, f4⟩ := hf 4 _ 12 (by decide) rfl rfl
    obtain rfl : v4 = (.agg #[.int .i64 1, .string (vName 0), .int .i64 0, .int .i64 0, .string ⟨#[]⟩, .slice none 0 0, .slice none 0 0]) := f4
    obtain ⟨v5, e5, f5⟩ := hf 5 _ 13 (by decide) rfl rfl
    replace f5 : RepMs (fun k => w1.heap.size ≤ k ∧ k < w'.heap.size) w' [vTm 0] v5 := f5
    obtain ⟨v6, e6, f6⟩ := hf 6 _ 14 (by decide) rfl rfl
    replace f6 : ∃ c, v6 = .agg #[.int .i64 1, .string ⟨#[114]⟩, c] ∧ RepMs (fun k => w1.heap.size ≤ k ∧ k < w'.heap.size) w' [vTm 0] c := f6
    obtain ⟨v7, e7, f7⟩ := hf 7 _ 15 (by decide) rfl rfl
    replace f7 : RepLis (fun k => w1.heap.size ≤ k ∧ k < w'.heap.size) w' [⟨1, ⟨#[114]⟩, [vTm 0]⟩] v7 := f7
    obtain ⟨v8, e8, f8⟩ := hf 8 _ 16 (by decide) rfl rfl
    replace f8 : ∃ c2 c5, v8 = .agg #[.string ru6.label, .string ru6.head, c2, .string ru6.agg, .int .i64 ru6.at', c5] ∧ RepRu (fun k => w1.heap.size ≤ k ∧ k < w'.heap.size) w' ru6 (.string ru6.label) (.string ru6.head) c2 (.string ru6.agg) (.int .i64 ru6.at') c5 := f8
    obtain ⟨v9, e9, f9⟩ := hf 9 _ 17 (by decide) rfl rfl
    replace f9 : RepRus (fun k => w1.heap.size ≤ k ∧ k < w'.heap.size) w' [ru6] v9 := f9
    obtain ⟨v10, e10, f10⟩ := hf 10 _ 18 (by decide) rfl rfl
    replace f10 : ∃ c0 c2, v10 = .agg #[c0, .slice none 0 0, c2] ∧ RepDes (fun k => w1.heap.size ≤ k ∧ k < w'.heap.size) w' decls6 c0 ∧ RepRus (fun k => w1.heap.size ≤ k ∧ k < w'.heap.size) w' [ru6] c2 := f10
    obtain ⟨v11, e11, f11⟩ := hf 11 _ 2 (by decide) rfl rfl
    replace f11 : ∃ b, v11 = .pointer (some ⟨b, 0, none⟩) ∧ w1.heap.size ≤ b ∧ BoxPr w' b (.slice none 0 0) (.slice none 0 0) (.slice none 0 0) := f11
    obtain ⟨c0, c2, rfl, kd, kr⟩ := f10
    obtain ⟨pb, rfl, hpb, hbox⟩ := f11
    have hal := allSl_pr hbox
    replace kd := RepDes.offS hal kd
    replace kr := RepRus.offS hal kr
    obtain ⟨da, dc, rfl⟩ := SlG.form kd
    obtain ⟨ra, rc, rfl⟩ := SlG.form kr
    obtain ⟨o0, o1, o2⟩ := hbox.cells
    have z0 := frozen_of_row w' pb 0 _ _ hbox
    have z1 := frozen_of_row w' pb 1 _ _ hbox
    have z2 := frozen_of_row w' pb 2 _ _ hbox
    clear f0 f3 f5 f6 f7 f8 f9
    rw [if_pos (by rfl)]
    rw [hoff.sets [(8, v0), (9, (.agg #[.int .i64 1, .string (vName 0), .int .i64 0, .int .i64 0, .string ⟨#[]⟩, .slice none 0 0, .slice none 0 0])), (10, (.agg #[.int .i64 1, .string (vName 2), .int .i64 0, .int .i64 0, .string ⟨#[]⟩, .slice none 0 0, .slice none 0 0])), (11, v3), (12, (.agg #[.int .i64 1, .string (vName 0), .int .i64 0, .int .i64 0, .string ⟨#[]⟩, .slice none 0 0, .slice none 0 0])), (13, v5), (14, v6), (15, v7), (16, v8), (17, v9), (18, .agg #[.slice da decls6.length dc, .slice none 0 0, .slice ra [ru6].length rc]), (2, .pointer (some ⟨pb, 0, none⟩))] (by kernel_rfl) (by intro p hp; simp only [List.mem_cons, List.not_mem_nil, or_false] at hp; rcases hp with rfl | rfl | rfl | rfl | rfl | rfl | rfl | rfl | rfl | rfl | rfl | rfl <;> assumption)]
    clear hoff hf e0 e1 e2 e3 e4 e5 e6 e7 e8 e9 e10 e11 
    simp only [List.foldl_cons, List.foldl_nil, List.setIfInBounds_toArray, List.set_cons_zero, List.set_cons_succ]
    go_simp
    have x2 := put3_box hbox (.slice da decls6.length dc) (.slice none 0 0) (.slice ra 1 rc)
    have b2 : Below w1.heap.size w1 (put3 w' pb (.slice da decls6.length dc) (.slice none 0 0) (.slice ra 1 rc)) := put3_below hg hpb _ _ _
    have hp2 : RepPr (fun k => k < (put3 w' pb (.slice da decls6.length dc) (.slice none 0 0) (.slice ra 1 rc)).heap.size) (put3 w' pb (.slice da decls6.length dc) (.slice none 0 0) (.slice ra 1 rc)) pr6 (.slice da decls6.length dc) (.slice none 0 0) (.slice ra 1 rc) := by
      rw [put3_size]
      exact ⟨RepDes.on (fun k hk => hk.1.2) (fun k hk => put3_other _ _ _ _ _ _ hk.2) kd, slg_nil, RepRus.on (fun k hk => hk.1.2) (fun k hk => put3_other _ _ _ _ _ _ hk.2) kr⟩
    have X2 := Lib.hid x2; have P2 := Lib.hid hp2; have B2 := Lib.hid (Below.step B1.out b2); have XS2 := Lib.hid (XS.out.on b2)
    clear x2 b2 hp2 kd kr hbox hal hg hpb o0 o1 o2 z0 z1 z2
    rw [show ((w'.setCell ⟨pb, 0, none⟩ (.slice da decls6.length dc)).setCell ⟨pb, 1, none⟩ (.slice none 0 0)).setCell ⟨pb, 2, none⟩ (.slice ra 1 rc) = (put3 w' pb (.slice da decls6.length dc) (.slice none 0 0) (.slice ra 1 rc)) from rfl]
    generalize (put3 w' pb (.slice da decls6.length dc) (.slice none 0 0) (.slice ra 1 rc)) = w2 at *
    obtain ⟨o0, o1, o2⟩ := X2.out.cells
    go_wp2_with fail
    refine (check_any pr6 (fun k => k < w2.heap.size) w2 _ _ _ (fun _ h => h) P2.out).mono ?_
    rw [pr6_check]
    rintro e w3 ⟨rfl, hb⟩
    have X3 := Lib.hid (X2.out.on hb); have P3 := Lib.hid (RepPr.on (S' := fun k => k < w3.heap.size) (fun k hk => Nat.lt_of_lt_of_le hk hb.size) (fun k hk => hb.block k hk) P2.out); have B3 := Lib.hid (Below.step B2.out hb); have XS3 := Lib.hid (XS2.out.on hb)
    clear hb X2 P2 B2 XS2 o0 o1 o2
    go_wp2_with fail
    refine (relations_any w3).mono ?_
    rintro e w4 ⟨rfl, hr, hb⟩
    have X4 := Lib.hid (X3.out.on hb); have P4 := Lib.hid (RepPr.on (S' := fun k => k < w4.heap.size) (fun k hk => Nat.lt_of_lt_of_le hk hb.size) (fun k hk => hb.block k hk) P3.out); have B4 := Lib.hid (Below.step B3.out hb); have XS4 := Lib.hid (XS3.out.on hb); have HR := Lib.hid hr
    clear hb hr X3 P3 B3 XS3
    go_wp2_with fail
    refine (check_any ⟨decls6, [], []⟩ (fun k => k < w4.heap.size) w4 _ _ _ (fun _ h => h) ⟨RepDes.on (fun k hk => hk.2) (fun _ _ => rfl) HR.out, slg_nil, slg_nil⟩).mono ?_
    rw [pr0_check]
    rintro e w5 ⟨rfl, hb⟩
    have X5 := Lib.hid (X4.out.on hb); have P5 := Lib.hid (RepPr.on (S' := fun k => k < w5.heap.size) (fun k hk => Nat.lt_of_lt_of_le hk hb.size) (fun k hk => hb.block k hk) P4.out); have B5 := Lib.hid (Below.step B4.out hb); have XS5 := Lib.hid (XS4.out.on hb)
    clear hb HR X4 P4 B4 XS4
    obtain ⟨o0, o1, o2⟩ := X5.out.cells
    go_wp2_with fail
    refine (relArity_any pr6 _ (fun k => k < w5.heap.size) w5 _ _ _ (fun _ h => h) P5.out).mono ?_
    rw [show arityL pr6.decls ⟨#[108, 105, 110, 107]⟩ = 3 from pr6_link]
    rintro e w6 ⟨rfl, hb⟩
    have B6 := Lib.hid (Below.step B5.out hb); have XS6 := Lib.hid (XS5.out.on hb)
    clear hb X5 P5 B5 XS5 o0 o1 o2
    obtain ⟨p0, p1, p2, p3, p4, p5, p6⟩ := XS6.out.cells
    go_wp2_with fail
    refine (vars_any (vTm 0) (fun _ => False) w6 _ _ _ _ _ _ _ (fun _ h => h.elim) (vTm_rep _ _ 0) (by simp [vTm, varsM, varsL])).mono ?_
    rintro e w7 ⟨v7, rfl, hrow, hb⟩
    rw [v6_vars] at hrow
    obtain ⟨ht, -⟩ := txAt_of_row (S := fun k => w6.heap.size + 1 ≤ k ∧ k < w7.heap.size) (l := [⟨#[83]⟩]) hrow (fun k h1 h2 => ⟨h1, h2⟩) (by decide)
    obtain ⟨ta, tc, rfl⟩ := SlG.form ht
    have HT := Lib.hid ht; have B7 := Lib.hid (Below.step B6.out hb)
    clear hb hrow ht B6 XS6 p0 p1 p2 p3 p4 p5 p6
    go_wp2_with fail
    have ba := below_alloc w7 (.cells #[.string ⟨#[83]⟩] 9)
    have sa := World.size_alloc w7 (.cells #[.string ⟨#[83]⟩] 9)
    have na := alloc_new' w7 (.cells #[.string ⟨#[83]⟩] 9)
    generalize w7.alloc (.cells #[.string ⟨#[83]⟩] 9) = w8 at *
    refine (texts_any [⟨#[83]⟩] [⟨#[83]⟩] (fun k => k < w8.heap.size) w8 _ _ (fun _ h => h) (SlG.on (fun k hk => by omega) (fun k hk => ba.block k hk.2) (fun _ _ _ h => h) HT.out) (slg_row (n := 1) (bytes := 16) na (show w7.heap.size < w8.heap.size by omega) rfl (by decide) (fun i h => match i, h with
      | 0, _ => rfl))).mono ?_
    rw [decide_eq_true rfl]
    rintro e w9 ⟨rfl, hb⟩
    have B9 := Lib.hid (Below.step (Below.step B7.out ba) hb)
    clear ba sa na hb
    go_wp2_with fail
    go_ret
    exact ⟨rfl, B9.out⟩

end Go.Proofs.Ytkaiihoijcpldaa

/-
  Of ScopeLess: a rule less.
-/
namespace Go.Proofs.Ytkaiihoijcpldaa
open Go.RowKit

theorem rules_cases (ds : List De) : ∀ (l : List Ru) (i : Nat), rulesErr ds l i = (0, -1) ∨ ((rulesErr ds l i).1 ≠ 0 ∧ (i : Int) ≤ (rulesErr ds l i).2)
  | [], _ => .inl rfl
  | r :: l, i => by
    rw [rulesErr]
    split
    · rcases rules_cases ds l (i + 1) with h | ⟨h1, h2⟩
      · exact .inl h
      · exact .inr ⟨h1, by omega⟩
    · rename_i h
      exact .inr ⟨h, by simp⟩
theorem rules_shift (ds : List De) : ∀ (l : List Ru) (i : Nat), (rulesErr ds l i = (0, -1) → rulesErr ds l (i + 1) = (0, -1)) ∧ ((rulesErr ds l i).1 ≠ 0 → rulesErr ds l (i + 1) = ((rulesErr ds l i).1, (rulesErr ds l i).2 + 1))
  | [], _ => ⟨fun _ => rfl, fun h => absurd rfl h⟩
  | r :: l, i => by
    rw [rulesErr, rulesErr]
    split
    · exact rules_shift ds l (i + 1)
    · rename_i h
      exact ⟨fun e => absurd (congrArg Prod.fst e) h, fun _ => by simp⟩
/-- Of all rules, and of all but the k-th: the first that is wrong. -/
theorem rules_less (ds : List De) : ∀ (l : List Ru) (k i : Nat), k < l.length →
    (rulesErr ds l i = (0, -1) → rulesErr ds (l.take k ++ l.drop (k + 1)) i = (0, -1)) ∧
    ((rulesErr ds l i).1 ≠ 0 → (rulesErr ds l i).2 < (i : Int) + k → rulesErr ds (l.take k ++ l.drop (k + 1)) i = rulesErr ds l i) ∧
    ((rulesErr ds l i).1 ≠ 0 → (i : Int) + k < (rulesErr ds l i).2 → rulesErr ds (l.take k ++ l.drop (k + 1)) i = ((rulesErr ds l i).1, (rulesErr ds l i).2 - 1)) ∧
    ((rulesErr ds l i).1 ≠ 0 → (rulesErr ds l i).2 = (i : Int) + k → rulesErr ds (l.take k ++ l.drop (k + 1)) i = (0, -1) ∨ (i : Int) + k ≤ (rulesErr ds (l.take k ++ l.drop (k + 1)) i).2)
  | [], _, _, h => by simp at h
  | r :: l, 0, i, _ => by
    simp only [List.take_zero, List.nil_append, List.drop_succ_cons, List.drop_zero, Int.natCast_zero, Int.add_zero]
    have hc := rules_cases ds l i
    obtain ⟨s1, s2⟩ := rules_shift ds l i
    rw [rulesErr]
    split
    · rename_i h
      rcases hc with hc | ⟨h1, h2⟩
      · rw [s1 hc]
        exact ⟨fun _ => hc, fun h => absurd rfl h, fun h => absurd rfl h, fun h => absurd rfl h⟩
      · rw [s2 h1]
        refine ⟨fun e => absurd (congrArg Prod.fst e) h1, fun _ e => ?_, fun _ _ => ?_, fun _ e => ?_⟩
        · simp only at e; omega
        · exact Prod.ext rfl (by simp)
        · simp only at e; omega
    · rename_i h
      refine ⟨fun e => absurd (congrArg Prod.fst e) h, fun _ e => ?_, fun _ e => ?_, fun _ _ => ?_⟩
      · simp only at e; omega
      · simp only at e; omega
      · rcases hc with hc | ⟨h1, h2⟩
        · exact .inl hc
        · exact .inr h2
  | r :: l, k + 1, i, hk => by
    obtain ⟨a1, a2, a3, a4⟩ := rules_less ds l k (i + 1) (by simpa using hk)
    rw [List.take_succ_cons, List.drop_succ_cons, List.cons_append, rulesErr, rulesErr]
    split
    · have e : ((i + 1 : Nat) : Int) + (k : Int) = (i : Int) + ((k + 1 : Nat) : Int) := by omega
      rw [e] at a2 a3 a4
      exact ⟨a1, a2, a3, a4⟩
    · rename_i h
      refine ⟨fun e => absurd (congrArg Prod.fst e) h, fun _ _ => rfl, fun _ e => ?_, fun _ e => ?_⟩
      · simp only at e; omega
      · simp only at e; omega
theorem prB_less {p : Pr} (h : prB p = true) (k : Nat) : prB { p with rules := p.rules.take k ++ p.rules.drop (k + 1) } = true := by
  rw [prB] at h ⊢
  simp only [Bool.and_eq_true] at h ⊢
  obtain ⟨h1, h2, h3⟩ := h
  obtain ⟨g1, g2, g3⟩ := listB_bounds h3
  refine ⟨h1, h2, listB_of (by omega) (by simp; omega) (fun x hx => g3 x ?_)⟩
  rcases List.mem_append.1 hx with hx | hx
  · exact List.mem_of_mem_take hx
  · exact List.mem_of_mem_drop hx
/-- Of a program and of it with a rule less: what Check answers. -/
theorem check_less (p : Pr) (hp : prB p = true) (k : Nat) (hk : k < p.rules.length) :
    ((checkZ p).1 = 0 → checkZ { p with rules := p.rules.take k ++ p.rules.drop (k + 1) } = (0, -1)) ∧
    ((checkZ p).1 ≠ 0 → (checkZ p).2 = -1 ∨ (checkZ p).2 < (k : Int) → checkZ { p with rules := p.rules.take k ++ p.rules.drop (k + 1) } = checkZ p) ∧
    ((checkZ p).1 ≠ 0 → (k : Int) < (checkZ p).2 → checkZ { p with rules := p.rules.take k ++ p.rules.drop (k + 1) } = ((checkZ p).1, (checkZ p).2 - 1)) ∧
    ((checkZ p).1 ≠ 0 → (checkZ p).2 = (k : Int) → (checkZ { p with rules := p.rules.take k ++ p.rules.drop (k + 1) }).2 = -1 ∨ (k : Int) ≤ (checkZ { p with rules := p.rules.take k ++ p.rules.drop (k + 1) }).2) := by
  have hq := prB_less hp k
  have e1 : checkZ p = if onceB [] p.decls = true ∧ p.facts.all (factB p.decls) = true then rulesErr p.decls p.rules 0 else (60, -1) := by rw [checkZ, if_pos hp]
  have e2 : checkZ { p with rules := p.rules.take k ++ p.rules.drop (k + 1) } = if onceB [] p.decls = true ∧ p.facts.all (factB p.decls) = true then rulesErr p.decls (p.rules.take k ++ p.rules.drop (k + 1)) 0 else (60, -1) := by rw [checkZ, if_pos hq]
  rw [e1, e2]
  clear e1 e2 hq
  split
  · obtain ⟨a1, a2, a3, a4⟩ := rules_less p.decls p.rules k 0 hk
    have hc := rules_cases p.decls p.rules 0
    simp only [Int.natCast_zero, Int.zero_add] at a2 a3 a4 hc
    refine ⟨fun h => ?_, fun h e => ?_, fun h e => a3 h e, fun h e => ?_⟩
    · rcases hc with hc | ⟨h1, -⟩
      · exact a1 hc
      · exact absurd h h1
    · rcases hc with hc | ⟨h1, h2⟩
      · exact absurd (congrArg Prod.fst hc) h
      · exact a2 h (by omega)
    · rcases a4 h e with h4 | h4
      · exact .inl (congrArg Prod.snd h4)
      · exact .inr h4
  · exact ⟨fun h => absurd h (by decide), fun _ _ => rfl, fun _ e => by simp only at e; omega, fun _ e => by simp only at e; omega⟩

end Go.Proofs.Ytkaiihoijcpldaa
