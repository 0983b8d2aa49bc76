/-
  A row of rules laid anew by 'append', one of it set; and rules that are not right.
-/
import Derived.Test.YtgjemmdhamkngaaGreatDoorJ20
namespace Go.Proofs.YtgjemmdhamkngaaGreatDoor
open Go.RowKit

theorem mod_of {n i j : Nat} (hj : j < n) : (i * n + j) / n = i ∧ (i * n + j) % n = j := by
  have hn : 0 < n := by omega
  constructor
  · rw [Nat.mul_comm, Nat.mul_add_div hn, Nat.div_eq_of_lt hj, Nat.add_zero]
  · rw [Nat.mul_comm, Nat.mul_add_mod, Nat.mod_eq_of_lt hj]
/-- 'append([]T(nil), l...)'. -/
theorem clone_run {α : Type} {K : Kd α} {S : Nat → Prop} {w : World} {l : List α} {a : Option Addr} {n c : Nat} (h : SlG S w K.n K.bytes (K.R S w) l (.slice a n c)) (hS : ∀ k, S k → k < w.heap.size) (hpos : 0 < l.length) (hlen : l.length ≤ 1000) (ty : TypeId) :
    ∃ (g cap : Nat) (w6 : World), (Builtin.append_ #[K.ST, K.ST] ty #[.slice none 0 0, .slice a n c]).run Tryz.prog w = .ok (.slice (some ⟨g, 0, none⟩) l.length cap) w6 ∧ OwnK K S w6 w.heap.size l (.slice (some ⟨g, 0, none⟩) l.length cap) ∧ Below w.heap.size w w6 := by
  obtain ⟨i0, z, hi, hz0, hz1, hz2, hz3⟩ := K.info
  obtain ⟨a', b, o, cap', e, h6, h7, h8, h9, h10⟩ := h
  cases e
  obtain rfl := h8 (by omega)
  have hch : ∃ C : Nat → Nat → Value, ∀ i (h : i < l.length), (∀ j, j < K.n → w.cell? ⟨b, o + i * K.n + j, none⟩ = some (C i j)) ∧ K.R S w l[i] (C i) := by
    refine ⟨fun i => if h : i < l.length then (h10 i h).choose else fun _ => .int .i64 0, fun i h => ?_⟩
    simp only [dif_pos h]
    exact (h10 i h).choose_spec
  obtain ⟨C, hC⟩ := hch
  have hnp := K.pos
  have hgm : ∀ (m : Nat) (u : Value), ((List.range (l.length * K.n)).map (fun m => C (m / K.n) (m % K.n)))[m]? = some u → ∃ i j, i < l.length ∧ j < K.n ∧ m = i * K.n + j ∧ u = C i j := fun m u hu => by
    have hm : m < l.length * K.n := by
      by_cases hm : m < l.length * K.n
      · exact hm
      · rw [List.getElem?_eq_none (by simp; omega)] at hu
        cases hu
    rw [List.getElem?_map, List.getElem?_range hm] at hu
    refine ⟨m / K.n, m % K.n, Nat.div_lt_of_lt_mul (by rw [Nat.mul_comm]; exact hm), Nat.mod_lt _ hnp, ?_, (Option.some.inj hu).symm⟩
    rw [Nat.mul_comm]; exact (Nat.div_add_mod m K.n).symm
  obtain ⟨v', w6, hrun, h1, h2, h3, h5⟩ := run_append_own_at (P := Tryz.prog) w w.heap.size K.ST ty K.T i0 z K.n K.bytes K.und hi hz0 hz1 hz2 hz3 K.pos (.slice none 0 0) 0 [] (World.ownsRow_nil _ _ _ _) ⟨b, o, none⟩ l.length c ((List.range (l.length * K.n)).map (fun m => C (m / K.n) (m % K.n))) (by simp)
    (fun m u hu => by
      obtain ⟨i, j, hi', hj, rfl, rfl⟩ := hgm m u hu
      have e : ((⟨b, o, none⟩ : Addr).add (i * K.n + j)) = ⟨b, o + (i * K.n + j), none⟩ := add_lit' _ _ _
      rw [e, ← Nat.add_assoc]
      exact (hC i hi').1 j hj)
    (fun u hu => by
      obtain ⟨m, hm, rfl⟩ := List.getElem_of_mem hu
      obtain ⟨i, j, hi', hj, -, e⟩ := hgm m _ (List.getElem?_eq_getElem hm)
      rw [e]
      exact K.one (hC i hi').2 j hj) (by unfold maxLen; omega) (by rw [Nat.zero_add]; exact h7) (Nat.le_refl _)
  rw [Nat.zero_add, List.nil_append] at h1
  have hgb : Below w.heap.size w w6 := ⟨h2.os, h2.tape, h2.output, h2.size, fun k hk => h2.block k hk (by simp [Value.ownBlock])⟩
  have hown : OwnK K S w6 w.heap.size l v' := by
    refine ⟨_, h1, fun i hi' => ⟨C i, fun j hj => ?_, K.on (fun _ h => h) (fun k hk => hgb.block k (hS k hk)) (hC i hi').2⟩⟩
    obtain ⟨m1, m2⟩ := mod_of (i := i) hj
    have hlt : i * K.n + j < l.length * K.n := by
      have : (i + 1) * K.n ≤ l.length * K.n := Nat.mul_le_mul_right _ hi'
      rw [Nat.succ_mul] at this; omega
    rw [List.getElem?_map, List.getElem?_range hlt, Option.map_some, m1, m2]
  rcases h1.2 with ⟨-, hn⟩ | ⟨g, cap, cur, rfl, -⟩
  · omega
  · exact ⟨g, cap, w6, hrun, hown, hgb⟩

/-- A rule stored whole into a row. -/
def put6 (w : World) (g o : Nat) (c0 c1 c2 c3 c4 c5 : Value) : World := (((((w.setCell ⟨g, o, none⟩ c0).setCell ⟨g, o + 1, none⟩ c1).setCell ⟨g, o + 2, none⟩ c2).setCell ⟨g, o + 3, none⟩ c3).setCell ⟨g, o + 4, none⟩ c4).setCell ⟨g, o + 5, none⟩ c5
theorem put6_size (w : World) (g o : Nat) (c0 c1 c2 c3 c4 c5 : Value) : (put6 w g o c0 c1 c2 c3 c4 c5).heap.size = w.heap.size := by simp [put6, World.setCell]
theorem put6_other (w : World) (g o : Nat) (c0 c1 c2 c3 c4 c5 : Value) (k : Nat) (h : k ≠ g) : (put6 w g o c0 c1 c2 c3 c4 c5).heap[k]? = w.heap[k]? := by
  unfold put6
  rw [Below.heap_setCell _ _ _ _ h, Below.heap_setCell _ _ _ _ h, Below.heap_setCell _ _ _ _ h, Below.heap_setCell _ _ _ _ h, Below.heap_setCell _ _ _ _ h, Below.heap_setCell _ _ _ _ h]
theorem put6_below {w0 w : World} {B g : Nat} (h : Below B w0 w) (hb : B ≤ g) (o : Nat) (c0 c1 c2 c3 c4 c5 : Value) : Below B w0 (put6 w g o c0 c1 c2 c3 c4 c5) :=
  (((((h.setCell (p := ⟨g, o, none⟩) hb c0).setCell (p := ⟨g, o + 1, none⟩) hb c1).setCell (p := ⟨g, o + 2, none⟩) hb c2).setCell (p := ⟨g, o + 3, none⟩) hb c3).setCell (p := ⟨g, o + 4, none⟩) hb c4).setCell (p := ⟨g, o + 5, none⟩) hb c5
theorem OwnK.row {S : Nat → Prop} {w : World} {base g cap : Nat} {l : List Ru} (h : OwnK kdRu S w base l (.slice (some ⟨g, 0, none⟩) l.length cap)) (hl : 0 < l.length) : ∃ cur, base ≤ g ∧ w.heap[g]? = some (.cells cur 37 (0, 0)) ∧ l.length * 6 ≤ cur.size := by
  obtain ⟨xs, ⟨hlen, hown⟩, -⟩ := h
  rcases hown with ⟨h1, hn⟩ | ⟨g', cap', cur, h1, hbg, hh, hnc, hcm, hcs, htk⟩
  · omega
  · cases h1
    exact ⟨cur, hbg, hh, by have hcs' : cur.size = cap * 6 := hcs; rw [hcs']; exact Nat.mul_le_mul_right _ hnc⟩
set_option maxHeartbeats 4000000 in
theorem OwnK.put {S : Nat → Prop} {w : World} {base g cap : Nat} {L : List Ru} (h : OwnK kdRu S w base L (.slice (some ⟨g, 0, none⟩) L.length cap)) (hS : ∀ k, S k → k ≠ g) {i : Nat} (hi : i < L.length) {y : Ru} {c0 c1 c2 c3 c4 c5 : Value} (hy : RepRu S w y c0 c1 c2 c3 c4 c5) :
    OwnK kdRu S (put6 w g (i * 6) c0 c1 c2 c3 c4 c5) base (L.set i y) (.slice (some ⟨g, 0, none⟩) L.length cap) := by
  obtain ⟨xs, ⟨hlen, hown⟩, hr⟩ := h
  rcases hown with ⟨h1, hn⟩ | ⟨g', cap', cur, h1, hbg, hh, hnc, hcm, hcs, htk⟩
  · omega
  cases h1
  have hcs' : cur.size = cap * 6 := hcs
  have hsz : L.length * 6 ≤ cur.size := by rw [hcs']; exact Nat.mul_le_mul_right _ hnc
  have hh6 := heap_setCell_same _ g (i * 6 + 5) _ _ c5 (heap_setCell_same _ g (i * 6 + 4) _ _ c4 (heap_setCell_same _ g (i * 6 + 3) _ _ c3 (heap_setCell_same _ g (i * 6 + 2) _ _ c2 (heap_setCell_same _ g (i * 6 + 1) _ _ c1 (heap_setCell_same _ g (i * 6) _ _ c0 hh)))))
  refine ⟨_, ⟨?_, .inr ⟨g, cap, _, by rw [List.length_set], hbg, hh6, by rw [List.length_set]; exact hnc, hcm, by simpa using hcs, rfl⟩⟩, fun i' hi' => ?_⟩
  · rw [List.length_take, List.length_set]
    simp only [Array.length_toList, Array.size_setIfInBounds]
    exact Nat.min_eq_left hsz
  · rw [List.length_set] at hi'
    obtain ⟨c, hc, hR⟩ := hr i' hi'
    by_cases e : i' = i
    · subst e
      refine ⟨at6v c0 c1 c2 c3 c4 c5, fun j hj => ?_, ?_⟩
      · have hj6 : j < 6 := hj
        show ((_ : List Value).take ((L.set i' _).length * 6))[i' * 6 + j]? = _
        rw [List.length_set, List.getElem?_take_of_lt (by omega), Array.getElem?_toList]
        match j, hj6 with
        | 0, _ => simp [Array.getElem?_setIfInBounds, at6v]; omega
        | 1, _ => simp [Array.getElem?_setIfInBounds, at6v]; omega
        | 2, _ => simp [Array.getElem?_setIfInBounds, at6v]; omega
        | 3, _ => simp [Array.getElem?_setIfInBounds, at6v]; omega
        | 4, _ => simp [Array.getElem?_setIfInBounds, at6v]; omega
        | 5, _ => simp [Array.getElem?_setIfInBounds, at6v]; omega
      · rw [List.getElem_set_self]
        exact RepRu.on (fun _ h => h) (fun k hk => put6_other _ _ _ _ _ _ _ _ _ k (hS k hk)) hy
    · refine ⟨c, fun j hj => ?_, ?_⟩
      · have hj6 : j < 6 := hj
        have h1 := hc j hj
        have hlt : i' * 6 + j < L.length * 6 := by omega
        show ((_ : List Value).take ((L.set i _).length * 6))[i' * 6 + j]? = _
        rw [← htk] at h1
        have h1' : (cur.toList.take (L.length * 6))[i' * 6 + j]? = some (c j) := h1
        rw [List.getElem?_take_of_lt hlt, Array.getElem?_toList] at h1'
        rw [List.length_set, List.getElem?_take_of_lt hlt, Array.getElem?_toList, Array.getElem?_setIfInBounds_ne (by omega), Array.getElem?_setIfInBounds_ne (by omega), Array.getElem?_setIfInBounds_ne (by omega), Array.getElem?_setIfInBounds_ne (by omega), Array.getElem?_setIfInBounds_ne (by omega), Array.getElem?_setIfInBounds_ne (by omega)]
        exact h1'
      · rw [List.getElem_set_ne (fun e' => e e'.symm)]
        exact RepRu.on (fun _ h => h) (fun k hk => put6_other _ _ _ _ _ _ _ _ _ k (hS k hk)) hR

theorem bad_agg {r : Ru} (h : aggB r = false) : ruB r = false := by rw [ruB, h]; simp
theorem bad_body {r : Ru} (h : r.body = []) : ruB r = false := by
  rw [ruB, h, show listB 1 8 liB [] = false from listB_few (by decide)]; simp
theorem bad_args {r : Ru} (h : r.args = []) : ruB r = false := by
  rw [ruB, atomB, h, show listB 1 8 (rightM 8) [] = false from listB_few (by decide)]; simp
theorem bad_head {r : Ru} (h : relB r.head = false) : ruB r = false := by rw [ruB, atomB, h]; simp
theorem bad_sum (r : Ru) : ruB { r with agg := ⟨#[115, 117, 109]⟩ } = false := bad_agg (by
  rw [aggB]
  simp only
  rw [if_neg (by rw [Lib.toList_data]; decide), show aggNameB ⟨#[115, 117, 109]⟩ = false by kernel_rfl]
  rfl)
theorem bad_most (r : Ru) : ruB { r with agg := ⟨#[109, 105, 110]⟩, at' := (r.args.length : Int) } = false := bad_agg (by
  rw [aggB]
  simp only
  rw [if_neg (by rw [Lib.toList_data]; decide), show decide ((r.args.length : Int) < (r.args.length : Int)) = false from decide_eq_false (by omega)]
  simp)
theorem bad_least (r : Ru) : ruB { r with agg := ⟨#[109, 105, 110]⟩, at' := 0 } = false := bad_agg (by
  rw [aggB]
  simp only
  rw [if_neg (by rw [Lib.toList_data]; decide), show decide ((1 : Int) ≤ 0) = false by decide]
  simp)
theorem bad_cons (r : Ru) : ruB { r with head := ⟨#[102, 95, 99, 111, 110, 115]⟩ } = false := bad_head (by kernel_rfl)
theorem bad_set {q : Pr} {k : Nat} (hk : k < q.rules.length) {y : Ru} (hy : ruB y = false) : prB ⟨q.decls, q.facts, q.rules.set k y⟩ = false := by
  rw [prB]
  simp only
  have : listB 0 64 ruB (q.rules.set k y) = false := by
    have h : (q.rules.set k y).all ruB = false := by
      rw [List.all_eq_false]
      exact ⟨y, List.mem_set hk y, by simp [hy]⟩
    unfold listB
    rw [h]; simp
  rw [this]; simp

end Go.Proofs.YtgjemmdhamkngaaGreatDoor
