/-
  What Call answers of lists of right values.
-/
import Derived.Test.YtaomlkglodeaoaaDoorW13
import Derived.Test.YtaomlkglodeaoaaDoorW08
import Derived.Test.YtaomlkglodeaoaaDoorW10
import Derived.Test.YtaomlkglodeaoaaDoorW11
import Derived.Test.YtaomlkglodeaoaaDoorW01
import Derived.Test.YtaomlkglodeaoaaDoorW09
import Derived.Test.YtaomlkglodeaoaaDoorW02
import Derived.Test.YtaomlkglodeaoaaDoorCards
import Derived.Test.YtaomlkglodeaoaaDoorTie
import Derived.ProofKit
import Derived.Lib.SmallJoins
import Derived.Deep.Slices
import Derived.OpenShut
import Derived.Deep.DeepHandedRow
import Derived.Lib.LaidTab
namespace Go.Proofs.YtaomlkglodeaoaaDoor
open Go.RowKit

theorem right_up : ∀ (d : Nat) (x : V), rightV d x = true → rightV (d + 1) x = true
  | d, .mk k n s l, h => by
    rw [rightV_mk] at h ⊢
    rcases baseB_cases h with ⟨rfl, h1, rfl, h2, h3⟩ | ⟨rfl, rfl, rfl, h1⟩ | ⟨rfl, rfl, rfl, h1⟩ | ⟨rfl, rfl, h1, h2⟩
    · simp [baseB, h1, h2, h3]
    · simp [baseB, h1]
    · simp [baseB, h1]
    · have : rightL (d + 1) l = true := by
        match d, h2 with
        | d + 1, h2 =>
          simp only [rightL, Bool.and_eq_true, decide_eq_true_eq, List.all_eq_true] at h2 ⊢
          exact ⟨h2.1, fun x hx => right_up d x (h2.2 x hx)⟩
      simp [baseB, h1, this]
/-- Right values that may stand in a list. -/
def All3 (l : List V) : Prop := ∀ x ∈ l, rightV 3 x = true
theorem right_flat (z : V) : rightV 3 (flatV (fitV 4 z)) = true := by
  have h := fit_right 4 z
  generalize fitV 4 z = y at *
  unfold flatV
  cases y with
  | mk k n s l =>
    rw [rightV_mk] at h
    split
    · rename_i hk
      obtain rfl : k = 4 := hk
      rcases baseB_cases h with ⟨e, _⟩ | ⟨e, _⟩ | ⟨e, _⟩ | ⟨_, rfl, h1, _⟩
      · exact absurd e (by decide)
      · exact absurd e (by decide)
      · exact absurd e (by decide)
      · show rightV 3 (.mk 4 0 s []) = true
        rw [rightV_mk]; simp [baseB, h1, rightL]
    · rename_i hk
      have hk' : k ≠ 4 := hk
      rw [rightV_mk]
      rcases baseB_cases h with ⟨rfl, h1, rfl, h2, h3⟩ | ⟨rfl, rfl, rfl, h1⟩ | ⟨rfl, rfl, rfl, h1⟩ | ⟨e, _⟩
      · simp [baseB, h1, h2, h3]
      · simp [baseB, h1]
      · simp [baseB, h1]
      · exact absurd e hk'
theorem all3_to (l : List V) (k : Nat) : All3 (listTo l k) := by
  intro x hx
  obtain ⟨z, _, rfl⟩ := List.mem_map.1 hx
  exact right_flat z
theorem right_list {l : List V} (h : All3 l) (hl : l.length ≤ 16) : rightV 4 (listV l) = true := by
  rw [right_listV, Bool.and_eq_true, decide_eq_true_eq, List.all_eq_true]
  exact ⟨hl, h⟩
theorem right_long {l : List V} (hl : 16 < l.length) : rightV 4 (listV l) = false := by
  rw [right_listV, Bool.and_eq_false_iff]
  exact .inl (by simp; omega)
theorem takes_list {k : Nat} {l : List V} (hk : fnArity k = 1) (h2 : fnList k 0 = true) (h : All3 l) (hl : l.length ≤ 16) : takesB k [listV l] = true := by
  rw [takesB, hk, h2, argB, right_list h hl]; rfl
theorem call_is {k : Nat} {args : List V} {r : V} (ht : takesB k args = true) (hd : doV k args = r) (hr : rightV 4 r = true) : callV k args = some r := by
  unfold callV; rw [hd, if_pos ⟨ht, hr⟩]
theorem takes_cons {v : V} {l : List V} (hv : rightV 3 v = true) (h : All3 l) (hl : l.length ≤ 16) : takesB 0 [v, listV l] = true := by
  show (fnArity 0 == 2 && (argB false v && argB true (listV l))) = true
  rw [argB_any (right_up 3 v hv), argB_list (right_list h hl)]; rfl
theorem takes_two' {k : Nat} {v : V} {l : List V} (hk : fnArity k = 2) (h0 : fnList k 0 = true) (h1 : fnList k 1 = false) (hv : rightV 4 v = true) (h : All3 l) (hl : l.length ≤ 16) : takesB k [listV l, v] = true := by
  rw [takesB, hk, h0, h1, argB_any hv, argB_list (right_list h hl)]; rfl
theorem all3_cons {v : V} {l : List V} (hv : rightV 3 v = true) (h : All3 l) : All3 (v :: l) := by
  intro x hx
  rcases List.mem_cons.1 hx with rfl | hx
  · exact hv
  · exact h x hx
theorem all3_append {l m : List V} (h : All3 l) (h' : All3 m) : All3 (l ++ m) := by
  intro x hx
  rcases List.mem_append.1 hx with hx | hx
  · exact h x hx
  · exact h' x hx
theorem all3_reverse {l : List V} (h : All3 l) : All3 l.reverse := fun x hx => h x (List.mem_reverse.1 hx)
theorem call_cons {v : V} {l : List V} (hv : rightV 3 v = true) (h : All3 l) (hl : l.length ≤ 15) : callV 0 [v, listV l] = some (listV (v :: l)) :=
  call_is (takes_cons hv h (by omega)) rfl (right_list (all3_cons hv h) (by simp; omega))
theorem call_append {v : V} {l : List V} (hv : rightV 3 v = true) (h : All3 l) (hl : l.length ≤ 15) : callV 1 [listV l, v] = some (listV (l ++ [v])) :=
  call_is (takes_two' rfl rfl rfl (right_up 3 v hv) h (by omega)) rfl (right_list (all3_append h (fun x hx => by simp at hx; rw [hx]; exact hv)) (by simp; omega))
theorem call_first {v : V} {l : List V} (hv : rightV 3 v = true) (h : All3 l) (hl : l.length ≤ 15) : callV 5 [listV (v :: l)] = some v :=
  call_is (takes_list rfl rfl (all3_cons hv h) (by simp; omega)) rfl (right_up 3 v hv)
theorem call_rest {v : V} {l : List V} (hv : rightV 3 v = true) (h : All3 l) (hl : l.length ≤ 15) : callV 7 [listV (v :: l)] = some (listV l) :=
  call_is (takes_list rfl rfl (all3_cons hv h) (by simp; omega)) rfl (right_list h (by omega))
theorem call_rest_none : callV 7 [listV []] = none := by
  have h0 : doV 7 [listV []] = zeroV := rfl
  unfold callV
  rw [h0, if_neg]
  rintro ⟨_, h⟩
  rw [zeroV, rightV_mk] at h
  simp [baseB] at h
theorem call_last {v : V} {l : List V} (hv : rightV 3 v = true) (h : All3 l) (hl : l.length ≤ 15) : callV 6 [listV (l ++ [v])] = some v := by
  refine call_is (takes_list rfl rfl (all3_append h (fun x hx => by simp at hx; rw [hx]; exact hv)) (by simp; omega)) ?_ (right_up 3 v hv)
  show lastV (listV (l ++ [v])) = v
  simp [lastV, listV, V.list]
theorem call_reverse {l : List V} (h : All3 l) (hl : l.length ≤ 16) : callV 8 [listV l] = some (listV l.reverse) :=
  call_is (takes_list rfl rfl h hl) rfl (right_list (all3_reverse h) (by simp; omega))
theorem call_size {l : List V} (h : All3 l) (hl : l.length ≤ 16) : callV 4 [listV l] = some (numV l.length) :=
  call_is (takes_list rfl rfl h hl) rfl (by rw [right_numV]; simp; omega)
theorem call_member {v : V} {l : List V} (hv : rightV 4 v = true) (h : All3 l) (hl : l.length ≤ 16) : callV 3 [listV l, v] = some (numV (memZ l v)) := by
  refine call_is (takes_two' rfl rfl rfl hv h hl) rfl ?_
  rw [right_numV]
  rcases memZ_range l v with e | e <;> rw [e] <;> decide
theorem takes_concat {l m : List V} (h : All3 l) (h' : All3 m) (hl : l.length ≤ 16) (hm : m.length ≤ 16) : takesB 2 [listV l, listV m] = true := by
  show (fnArity 2 == 2 && (argB true (listV l) && argB true (listV m))) = true
  rw [argB_list (right_list h hl), argB_list (right_list h' hm)]; rfl
theorem call_concat {l m : List V} (h : All3 l) (h' : All3 m) (hl : l.length + m.length ≤ 16) : callV 2 [listV l, listV m] = some (listV (l ++ m)) :=
  call_is (takes_concat h h' (by omega) (by omega)) rfl (right_list (all3_append h h') (by simp; omega))
theorem call_concat_none {l m : List V} (hl : 16 < l.length + m.length) : callV 2 [listV l, listV m] = none := by
  unfold callV
  rw [if_neg]
  rintro ⟨_, hr⟩
  have e : doV 2 [listV l, listV m] = listV (l ++ m) := rfl
  rw [e, right_long (by simp; omega)] at hr
  cases hr
theorem memZ_append (l m : List V) (v : V) : memZ (l ++ m) v = max (memZ l v) (memZ m v) := by
  unfold memZ
  rw [List.any_append]
  cases l.any (fun z => cmpV z v == 0) <;> cases m.any (fun z => cmpV z v == 0) <;> decide
theorem memZ_in {l : List V} {k : Nat} (hk : k < l.length) : memZ l l[k] = 1 := by
  have h0 : cmpV l[k] l[k] = 0 := by have := (ord_value l[k] l[k] l[k]).sym; omega
  rw [memZ, if_pos]
  rw [List.any_eq_true]
  exact ⟨l[k], List.getElem_mem hk, by rw [h0]; rfl⟩

end Go.Proofs.YtaomlkglodeaoaaDoor

/-
  Layer 2's own 'pick': which of n things a raw number speaks of.
-/
namespace Go.Proofs.YtaomlkglodeaoaaDoor
open Go.RowKit

theorem pick2_any (c n : Int) (w : World) (hc : I64 c) (hn : 1 ≤ n) (hn2 : n ≤ 9223372036854775807) :
    Calls Tryd.prog 15 #[.int .i64 c, .int .i64 n] w fun e w' => e = .returned (.int .i64 (pickZ c n)) ∧ w = w' := by
  obtain ⟨h1, h2⟩ := hc
  by_cases h : c < 0
  · have HF : Hid (pickZ c n = (-(c + 1)) % n) := by show _ = _; rw [pickZ, if_pos h]
    have h3 : 0 ≤ -(c + 1) := by omega
    have hne : (n == 0) = false := beq_eq_false_iff_ne.2 (by omega)
    go_enter Tryd.func15, Tryd.ntmps15
    go_wp2_with fail
    go_ret
    refine ⟨?_, rfl⟩
    rw [HF.out]
    refine ret_int' ?_
    rw [← Int.neg_tmod, Int.tmod_eq_emod_of_nonneg h3]
  · have HF : Hid (pickZ c n = c % n) := by show _ = _; rw [pickZ, if_neg h]
    have h3 : 0 ≤ c := by omega
    have hne : (n == 0) = false := beq_eq_false_iff_ne.2 (by omega)
    go_enter Tryd.func15, Tryd.ntmps15
    go_wp2_with fail
    go_ret
    refine ⟨?_, rfl⟩
    rw [HF.out]
    rfl

end Go.Proofs.YtaomlkglodeaoaaDoor

/-
  What an api.Value, or a slice of them, that came in reads as: a tree of values in memory.
-/
namespace Go.Proofs.YtaomlkglodeaoaaDoor
open Go.ChangeShapes Go.WideShapes Go.ChangeAt Go.RowKit Go.Deep Go.Joins

theorem cellsValue : Tryd.prog.cellsOf 24 = 4 := by kernel_rfl
theorem bytesValue : Tryd.prog.bytesOf 24 = 56 := by kernel_rfl
theorem cellsInt : Tryd.prog.cellsOf 3 = 1 := by kernel_rfl
theorem cellsString : Tryd.prog.cellsOf 9 = 1 := by kernel_rfl
theorem cellsValues : Tryd.prog.cellsOf 22 = 1 := by kernel_rfl

theorem i64_wf {n : Int} (h : (Lit.int .i64 n).wf = true) : I64 n := bounds_i64 h

section
variable {H : Type} {enc : TypeId × Value → H} {W : World}

theorem weightsAll_mem {P : Program} {e : TypeId} {ds : List (DataW H)} {d : DataW H} (h : d ∈ ds) (n : Nat) (hn : n ∈ d.weights P e) : n ∈ DataW.weightsAll P e ds := by
  induction ds with
  | nil => cases h
  | cons x r ih =>
    rw [DataW.weightsAll, List.mem_append]
    rcases List.mem_cons.1 h with rfl | h
    · exact Or.inl hn
    · exact Or.inr (ih h)

def Fits (P : Program) (t : TypeId) (d : DataW H) : Prop := ∀ n ∈ d.weights P t, n ≤ reachBytes

theorem fits_value {a b c e : DataW H} (h : Fits Tryd.prog 24 (.agg [a, b, c, e])) : Fits Tryd.prog 22 e := fun n hn => h n (by
  simp only [DataW.weights, Tryd.underlying24, List.map_cons, List.map_nil, DataW.weightsEach, List.mem_append]
  exact Or.inr (Or.inr (Or.inr (Or.inl hn))))
theorem fits_values {elems spare : List (DataW H)} (h : Fits Tryd.prog 22 (.slice elems spare)) : (elems.length + spare.length) * 56 ≤ 140737488351232 ∧ ∀ d ∈ elems, Fits Tryd.prog 24 d := by
  simp only [Fits, DataW.weights, Tryd.underlying22, bytesValue] at h
  refine ⟨h _ (List.mem_cons_self), fun d hd n hn => h n (List.mem_cons_of_mem _ (List.mem_append_left _ (weightsAll_mem hd n hn)))⟩

theorem cell_lt {w : World} {a : Addr} {v : Value} (h : w.cell? a = some v) : a.block < w.heap.size := by
  by_cases hlt : a.block < w.heap.size
  · exact hlt
  · have hn : w.heap[a.block]? = none := by simp; omega
    simp [World.cell?, hn] at h

theorem cells4 {w : World} {a : Addr} {cs : List Value} (h : w.cells? 0 a 4 = some cs) : ∃ c0 c1 c2 c3, cs = [c0, c1, c2, c3] ∧ a.spot = none ∧ w.cell? ⟨a.block, a.off, none⟩ = some c0 ∧ w.cell? ⟨a.block, a.off + 1, none⟩ = some c1 ∧ w.cell? ⟨a.block, a.off + 2, none⟩ = some c2 ∧ w.cell? ⟨a.block, a.off + 3, none⟩ = some c3 := by
  obtain ⟨_, hlen, hcell⟩ := World.cells?_some h
  obtain ⟨b, o, sp⟩ := a
  match cs, hlen with
  | [c0, c1, c2, c3], _ =>
    have hsp : sp = none := by simpa [Addr.add] using World.cell?_spot (hcell 0 (by omega))
    subst hsp
    exact ⟨c0, c1, c2, c3, rfl, rfl, by simpa [Addr.add] using hcell 0 (by omega), by simpa [Addr.add] using hcell 1 (by omega), by simpa [Addr.add] using hcell 2 (by omega), by simpa [Addr.add] using hcell 3 (by omega)⟩

theorem add_block (a : Addr) (n : Nat) : (a.add n).block = a.block := by unfold Addr.add; split <;> simp_all
theorem add_off (a : Addr) (n : Nat) : (a.add n).off = a.off + n := by unfold Addr.add; split <;> simp_all

theorem sizeOf_mem {D : Nat → DataW H} {len i : Nat} (h : i < len) {sp : List (DataW H)} : SizeOf.sizeOf (D i) < SizeOf.sizeOf (DataW.slice ((List.range len).map D) sp) := by
  have := List.sizeOf_lt_of_mem (List.mem_map_of_mem (f := D) (List.mem_range.2 h))
  simp only [DataW.slice.sizeOf_spec]
  omega

set_option maxRecDepth 100000 in
mutual
theorem rep_of_trod (d : DataW H) (fuel : Nat) (cs : List Value) (ps : List MemPlace) (h : DataW.trod enc Tryd.prog W 0 (fun _ => true) true fuel 24 cs = some (d, ps)) (hf : Fits Tryd.prog 24 d) :
    ∃ x c0 c1 c2 c3, cs = [c0, c1, c2, c3] ∧ RepV W.heap.size W x c0 c1 c2 c3 := by
  obtain ⟨y0, y1, y2, y3, n, hx, hlen, h0, h1, h2, h3⟩ := trod_struct4 Tryd.underlying24 h
  rw [cellsValue] at hlen
  match cs, hlen with
  | [c0, c1, c2, c3], _ =>
    simp only [Prod.mk.injEq] at hx
    simp [cellsInt] at h0 h1
    simp [cellsString] at h2
    simp [cellsValues] at h3
    obtain ⟨k, e0, r0, w0⟩ := DataW.trod_int Tryd.underlying3 h0
    obtain ⟨m, e1, r1, w1⟩ := DataW.trod_int Tryd.underlying3 h1
    obtain ⟨s, e2, r2, w2⟩ := DataW.trod_string Tryd.underlying9 h2
    simp at e0 e1 e2
    subst e0 e1 e2
    have hd : d = .agg [y0.1, y1.1, y2.1, y3.1] := by simpa using hx.1
    have hsz : SizeOf.sizeOf y3.1 < SizeOf.sizeOf d := by rw [hd]; simp; omega
    subst hd
    obtain ⟨l, hl, -⟩ := repL_of_trod y3.1 n c3 y3.2 h3 (fits_value hf)
    exact ⟨.mk k m s l, _, _, _, _, rfl, repV_mk.2 ⟨rfl, rfl, rfl, i64_wf w0, i64_wf w1, w2, hl⟩⟩
  termination_by SizeOf.sizeOf d
theorem repL_of_trod (d : DataW H) (fuel : Nat) (v : Value) (ps : List MemPlace) (h : DataW.trod enc Tryd.prog W 0 (fun _ => true) true fuel 22 [v] = some (d, ps)) (hf : Fits Tryd.prog 22 d) :
    ∃ l, RepL W.heap.size W l v ∧ l.length * 56 ≤ 140737488351232 := by
  rcases open_slice Tryd.underlying22 h with ⟨hc, hx⟩ | ⟨a, len, cap, mm, n, D, Pl, hc, _, hl, hm, hmm, hx, hall⟩
  · simp only [List.cons.injEq, and_true] at hc
    subst hc
    exact ⟨[], ⟨none, 0, 0, 0, rfl, Nat.le_refl _, by simp, fun h => by omega, fun h => by simp at h, fun i hi => by simp at hi⟩, by simp⟩
  · simp only [List.cons.injEq, and_true] at hc
    subst hc
    simp only [if_true] at hmm
    subst hmm
    simp only [Prod.mk.injEq] at hx
    obtain ⟨hd, _⟩ := hx
    rw [cellsValue] at hall
    have hfv := hf
    rw [hd] at hfv
    obtain ⟨hcap, hfe⟩ := fits_values hfv
    have hcap' : mm * 56 ≤ 140737488351232 := by
      simp only [List.length_map, List.length_range] at hcap
      have : len + (mm - len) = mm := by omega
      rw [this] at hcap
      exact hcap
    have hsz : ∀ i, i < len → SizeOf.sizeOf (D i) < SizeOf.sizeOf d := fun i hi => by rw [hd]; exact sizeOf_mem hi
    have key : ∀ i : Nat, ∃ x : V, i < len → ∃ c0 c1 c2 c3, W.cell? ⟨a.block, a.off + i * 4, none⟩ = some c0 ∧ W.cell? ⟨a.block, a.off + i * 4 + 1, none⟩ = some c1 ∧ W.cell? ⟨a.block, a.off + i * 4 + 2, none⟩ = some c2 ∧ W.cell? ⟨a.block, a.off + i * 4 + 3, none⟩ = some c3 ∧ RepV W.heap.size W x c0 c1 c2 c3 := by
      intro i
      by_cases hi : i < len
      · obtain ⟨cs', g1, g2⟩ := hall i (by omega)
        have := hsz i hi
        obtain ⟨x, c0, c1, c2, c3, rfl, hr⟩ := rep_of_trod (D i) n cs' (Pl i) g2 (hfe _ (List.mem_map_of_mem (List.mem_range.2 hi)))
        obtain ⟨d0, d1, d2, d3, he, hsp, q0, q1, q2, q3⟩ := cells4 g1
        simp only [List.cons.injEq, and_true] at he
        obtain ⟨rfl, rfl, rfl, rfl⟩ := he
        rw [add_block, add_off] at q0 q1 q2 q3
        exact ⟨x, fun _ => ⟨_, _, _, _, q0, q1, q2, q3, hr⟩⟩
      · exact ⟨.mk 0 0 ⟨#[]⟩ [], fun h => absurd h hi⟩
    obtain ⟨X, hX⟩ := Classical.axiomOfChoice key
    have hspot : 0 < mm → a.spot = none := fun h0 => by
      obtain ⟨cs', g1, g2⟩ := hall 0 h0
      obtain ⟨d0, d1, d2, d3, he, hsp, _⟩ := cells4 g1
      simpa [Addr.add] using hsp
    refine ⟨(List.range len).map X, ⟨some a, a.block, a.off, mm, by simp, by simpa using hl, by simp; omega, fun h0 => ?_, fun h0 => ?_, fun i hi => ?_⟩, by simp; omega⟩
    · have := hspot h0
      obtain ⟨b, o, sp⟩ := a
      simp at this
      subst this
      rfl
    · simp at h0
      obtain ⟨c0, _, _, _, q, _⟩ := hX 0 (by omega)
      exact cell_lt (a := ⟨a.block, _, none⟩) q
    · have hi' : i < len := by simpa using hi
      obtain ⟨c0, c1, c2, c3, q0, q1, q2, q3, hr⟩ := hX i hi'
      exact ⟨c0, c1, c2, c3, q0, q1, q2, q3, by rw [List.getElem_map, List.getElem_range]; exact hr⟩
  termination_by SizeOf.sizeOf d
end

end
end Go.Proofs.YtaomlkglodeaoaaDoor

/-
  From 'the call returns true, and what lay there stands' to a law's row: the same lines for every law of a seat.
-/
namespace Go.Proofs.YtaomlkglodeaoaaDoor
open Go.ChangeShapes Go.WideShapes Go.ChangeAt Go.RowKit

theorem own : ownKnob Tryd.prog.godebug = none := by kernel_rfl
theorem laidOut : laidOutB Tryd.prog = true := by kernel_rfl
theorem gTabType : (Tryd.prog.globals[0]?).map (·.type) = some 93 := by kernel_rfl
theorem cellsTab : Tryd.prog.cellsOf 93 = 20 := by kernel_rfl
theorem cellsU64 : Tryd.prog.cellsOf 86 = 1 := by kernel_rfl

theorem tab_of_laid {P : Program} {W : World} {name : String} {k : IntKind} {zs : List Int} {g : Nat} {t e : TypeId} {n : Nat}
    (hg : P.globalNamed name = some g) (hty : (P.globals[g]?).map (·.type) = some t) (ht : P.underlying t = some (.array n e)) (he : P.underlying e = some (.int k)) (hce : P.cellsOf e = 1) (hct : P.cellsOf t = n) :
    ∀ (laid : List (String × DataW Unit)) (ps : List MemPlace), DataW.LaidVars P W laid ps → (name, Lib.tabData k zs) ∈ laid → Lib.TabIs P W name k zs
  | [], _, _, hm => by cases hm
  | x :: rest, ps, h, hm => by
    obtain ⟨g', t', cs, fuel, p, q, hg', ht', hvar, hd, hq, _⟩ := h
    rcases List.mem_cons.1 hm with rfl | hm
    · obtain rfl := Option.some.inj (hg.symm.trans hg')
      obtain rfl := Option.some.inj (hty.symm.trans ht')
      unfold Lib.TabIs
      rw [hvar, ← Lib.cells_of_tab ht he hce hct hd]
    · exact tab_of_laid hg hty ht he hce hct rest q hq hm

theorem tabOk_of_laid {W : World} {laid : List (String × DataW Unit)} (h : laidMet Tryd.prog laid W) (hm : ("internal/strconv.uint64pow10", Rows.laid_internal_strconv_uint64pow10) ∈ laid) : TabOk W := by
  obtain ⟨ps, h1, _⟩ := h
  exact tab_of_laid gTab gTabType Tryd.underlying93 Tryd.underlying86 cellsU64 cellsTab laid ps h1 hm

theorem tab_lt {W : World} (h : TabOk W) : 0 < W.heap.size := by
  have := Lib.TabIs.cell h gTab 0 (by decide)
  exact cell_lt this

section
variable {H : Type} {enc : TypeId × Value → H}

theorem trodAll_below {W W' : World} (hb : Below W.heap.size W W') : ∀ (ts : List TypeId) (vs : List Value) (ds : List (DataW H)) (ps : List MemPlace), DataW.TrodAll enc Tryd.prog W 0 (fun _ => true) true ts vs ds ps →
    (∀ t ∈ ts, Tryd.prog.readableRec t = true ∧ t < Tryd.prog.types.size) → (∀ x ∈ ps, x.block < W.heap.size) → DataW.TrodAll enc Tryd.prog W' 0 (fun b => decide (b < W.heap.size)) true ts vs ds ps
  | [], [], [], ps, h, _, _ => h
  | t :: ts, v :: vs, d :: ds, ps, h, ht, hp => by
    obtain ⟨p, q, h1, h2, rfl⟩ := h
    obtain ⟨r1, r2⟩ := ht t (by simp)
    exact ⟨p, q, Below.trod laidOut r1 r2 h1 hb (fun x hx => hp x (by simp [hx])), trodAll_below hb ts vs ds q h2 (fun t' h' => ht t' (by simp [h'])) (fun x hx => hp x (by simp [hx])), rfl⟩
  | [], _ :: _, _, _, h, _, _ => by cases h
  | _ :: _, [], _, _, h, _, _ => by cases h
  | [], [], _ :: _, _, h, _, _ => by cases h
  | _ :: _, _ :: _, [], _, h, _, _ => by cases h

/-- THE ROW's POST of a law that returned true and left what lay there. -/
theorem law_post {fn : Func} {s : ChangeSpec} {W W' : World} {args : Array Value} {ds gs : List (DataW H)} {before : List MemPlace}
    (hvars : s.vars = []) (hres : fn.resultTypes = #[4]) (hread : ∀ t ∈ fn.params.toList, Tryd.prog.readableRec t = true ∧ t < Tryd.prog.types.size)
    (hW : DataW.Whole enc Tryd.prog fn.params.toList s.vars false W args.toList ds gs before)
    (hs : s.fn H (ds ++ gs) = { results := [.lit (.bool true)], args := ds })
    (hb : Below W.heap.size W W') : s.post enc Tryd.prog fn false true false false W args (.bool true) W' := by
  have hW' := hW
  obtain ⟨p, q, hA, hV, rfl, hfz, hnd⟩ := hW
  rw [hvars] at hV
  obtain ⟨rfl, rfl⟩ := trodVars_none hV
  refine ⟨ds, [], p ++ [], [], p, [], hW', ?_, ?_, ?_, hb.frame _, fun h => by cases h⟩
  · rw [hres, hs]
    exact trodAll_cons_mk (shut_bool Tryd.underlying4 _) trodAll_mk0
  · rw [hs]
    exact trodAll_below hb _ _ _ _ hA hread (fun x hx => hW'.lt x (by simp [hx]))
  · rw [hs, hvars]
    rfl

/-- The reach, argument by argument. -/
theorem fits_cons {t : TypeId} {ts : List TypeId} {d : DataW H} {ds : List (DataW H)} (h : (DataW.weightsEach Tryd.prog (t :: ts) (d :: ds)).all (· ≤ reachBytes) = true) :
    Fits Tryd.prog t d ∧ (DataW.weightsEach Tryd.prog ts ds).all (· ≤ reachBytes) = true := by
  rw [DataW.weightsEach, List.all_append, Bool.and_eq_true] at h
  exact ⟨fun n hn => by simpa using (List.all_eq_true.1 h.1) n hn, h.2⟩

set_option maxRecDepth 100000 in
/-- A value that came in. -/
theorem open_value {W : World} {base : Nat} {v : Value} {d : DataW H} {p : List MemPlace} (hv : Value.okWide Tryd.prog W .any base 24 v) (h : DataW.Trod enc Tryd.prog W 0 (fun _ => true) true 24 v d p) (hf : Fits Tryd.prog 24 d) :
    ∃ x c0 c1 c2 c3, v = .agg #[c0, c1, c2, c3] ∧ RepV W.heap.size W x c0 c1 c2 c3 := by
  obtain ⟨cs, rfl, hsz⟩ := okWide_struct Tryd.underlying24 hv
  obtain ⟨fuel, hf'⟩ := h
  obtain ⟨x, c0, c1, c2, c3, he, hr⟩ := rep_of_trod d fuel _ p hf' hf
  refine ⟨x, c0, c1, c2, c3, ?_, hr⟩
  have : cs.toList = [c0, c1, c2, c3] := by simpa [Value.cells] using he
  congr 1
  exact Array.toList_inj.1 (by simpa using this)
set_option maxRecDepth 100000 in
/-- A slice of values that came in. -/
theorem open_values {W : World} {base : Nat} {v : Value} {d : DataW H} {p : List MemPlace} (hv : Value.okWide Tryd.prog W .any base 22 v) (h : DataW.Trod enc Tryd.prog W 0 (fun _ => true) true 22 v d p) (hf : Fits Tryd.prog 22 d) :
    ∃ l, RepL W.heap.size W l v ∧ l.length * 56 ≤ 140737488351232 := by
  obtain ⟨a0, len, cap, rfl⟩ := okWide_slice Tryd.underlying22 hv
  obtain ⟨fuel, hf'⟩ := h
  exact repL_of_trod d fuel _ p (by simpa [Value.cells] using hf') hf
end

/-- A package-level table laid with its numbers. -/
def setTab (w : World) (g : Nat) (cs : Array Value) : World :=
  { w with heap := w.heap.modify g fun
      | .cells _ t frozen => .cells cs t frozen
      | o => o }
/-- A WORLD FOR THE WITNESSES: the settled one, the listed tables holding what their initialisers lay. -/
noncomputable def laidWorld (os : Os) : World :=
  setTab (setTab (setTab (World.holding Tryd.prog os ⟨#[], #[], []⟩)
    0 #[.int .u64 1, .int .u64 10, .int .u64 100, .int .u64 1000, .int .u64 10000, .int .u64 100000, .int .u64 1000000, .int .u64 10000000, .int .u64 100000000, .int .u64 1000000000, .int .u64 10000000000, .int .u64 100000000000, .int .u64 1000000000000, .int .u64 10000000000000, .int .u64 100000000000000, .int .u64 1000000000000000, .int .u64 10000000000000000, .int .u64 100000000000000000, .int .u64 1000000000000000000, .int .u64 10000000000000000000])
    1 #[.int .u8 0, .int .u8 1, .int .u8 28, .int .u8 2, .int .u8 29, .int .u8 14, .int .u8 24, .int .u8 3, .int .u8 30, .int .u8 22, .int .u8 20, .int .u8 15, .int .u8 25, .int .u8 17, .int .u8 4, .int .u8 8, .int .u8 31, .int .u8 27, .int .u8 13, .int .u8 23, .int .u8 21, .int .u8 19, .int .u8 16, .int .u8 7, .int .u8 26, .int .u8 12, .int .u8 18, .int .u8 6, .int .u8 11, .int .u8 5, .int .u8 10, .int .u8 9])
    2 #[.int .u8 0, .int .u8 1, .int .u8 56, .int .u8 2, .int .u8 57, .int .u8 49, .int .u8 28, .int .u8 3, .int .u8 61, .int .u8 58, .int .u8 42, .int .u8 50, .int .u8 38, .int .u8 29, .int .u8 17, .int .u8 4, .int .u8 62, .int .u8 47, .int .u8 59, .int .u8 36, .int .u8 45, .int .u8 43, .int .u8 51, .int .u8 22, .int .u8 53, .int .u8 39, .int .u8 33, .int .u8 30, .int .u8 24, .int .u8 18, .int .u8 12, .int .u8 5, .int .u8 63, .int .u8 55, .int .u8 48, .int .u8 27, .int .u8 60, .int .u8 41, .int .u8 37, .int .u8 16, .int .u8 46, .int .u8 35, .int .u8 44, .int .u8 21, .int .u8 52, .int .u8 32, .int .u8 23, .int .u8 11, .int .u8 54, .int .u8 26, .int .u8 40, .int .u8 15, .int .u8 34, .int .u8 20, .int .u8 31, .int .u8 10, .int .u8 25, .int .u8 14, .int .u8 19, .int .u8 9, .int .u8 13, .int .u8 8, .int .u8 7, .int .u8 6]

end Go.Proofs.YtaomlkglodeaoaaDoor
