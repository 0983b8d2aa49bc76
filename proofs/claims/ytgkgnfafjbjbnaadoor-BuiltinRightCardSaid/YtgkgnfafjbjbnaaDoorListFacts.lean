/-
  What Call answers of lists of right values.
-/
import Derived.Test.YtgkgnfafjbjbnaaDoorLawList
import Derived.Test.YtgkgnfafjbjbnaaDoorCall
import Derived.Test.YtgkgnfafjbjbnaaDoorAwakeTwo
import Derived.Test.YtgkgnfafjbjbnaaDoorFitRight
import Derived.Test.YtgkgnfafjbjbnaaDoorOrder
namespace Go.Proofs.YtgkgnfafjbjbnaaDoor
open Go.RowKit

theorem right_up : ∀ (d : Nat) (x : V), rightV d x = true → rightV (d + 1) x = true
  | d, .mk k n s l, h => by
    rw [rightV_mk] at h ⊢
    rcases baseB_cases h with ⟨rfl, h1, rfl, h2, h3⟩ | ⟨rfl, rfl, rfl, h1⟩ | ⟨rfl, rfl, rfl, h1⟩ | ⟨rfl, rfl, h1, h2⟩
    · simp [baseB, h1, h2, h3]
    · simp [baseB, h1]
    · simp [baseB, h1]
    · have : rightL (d + 1) l = true := by
        match d, h2 with
        | d + 1, h2 =>
          simp only [rightL, Bool.and_eq_true, decide_eq_true_eq, List.all_eq_true] at h2 ⊢
          exact ⟨h2.1, fun x hx => right_up d x (h2.2 x hx)⟩
      simp [baseB, h1, this]
/-- Right values that may stand in a list. -/
def All3 (l : List V) : Prop := ∀ x ∈ l, rightV 3 x = true
theorem right_flat (z : V) : rightV 3 (flatV (fitV 4 z)) = true := by
  have h := fit_right 4 z
  generalize fitV 4 z = y at *
  unfold flatV
  cases y with
  | mk k n s l =>
    rw [rightV_mk] at h
    split
    · rename_i hk
      obtain rfl : k = 4 := hk
      rcases baseB_cases h with ⟨e, _⟩ | ⟨e, _⟩ | ⟨e, _⟩ | ⟨_, rfl, h1, _⟩
      · exact absurd e (by decide)
      · exact absurd e (by decide)
      · exact absurd e (by decide)
      · show rightV 3 (.mk 4 0 s []) = true
        rw [rightV_mk]; simp [baseB, h1, rightL]
    · rename_i hk
      have hk' : k ≠ 4 := hk
      rw [rightV_mk]
      rcases baseB_cases h with ⟨rfl, h1, rfl, h2, h3⟩ | ⟨rfl, rfl, rfl, h1⟩ | ⟨rfl, rfl, rfl, h1⟩ | ⟨e, _⟩
      · simp [baseB, h1, h2, h3]
      · simp [baseB, h1]
      · simp [baseB, h1]
      · exact absurd e hk'
theorem all3_to (l : List V) (k : Nat) : All3 (listTo l k) := by
  intro x hx
  obtain ⟨z, _, rfl⟩ := List.mem_map.1 hx
  exact right_flat z
theorem right_list {l : List V} (h : All3 l) (hl : l.length ≤ 16) : rightV 4 (listV l) = true := by
  rw [right_listV, Bool.and_eq_true, decide_eq_true_eq, List.all_eq_true]
  exact ⟨hl, h⟩
theorem right_long {l : List V} (hl : 16 < l.length) : rightV 4 (listV l) = false := by
  rw [right_listV, Bool.and_eq_false_iff]
  exact .inl (by simp; omega)
theorem takes_list {k : Nat} {l : List V} (hk : fnArity k = 1) (h2 : fnList k 0 = true) (h : All3 l) (hl : l.length ≤ 16) : takesB k [listV l] = true := by
  rw [takesB, hk, h2, argB, right_list h hl]; rfl
theorem call_is {k : Nat} {args : List V} {r : V} (ht : takesB k args = true) (hd : doV k args = r) (hr : rightV 4 r = true) : callV k args = some r := by
  unfold callV; rw [hd, if_pos ⟨ht, hr⟩]
theorem takes_cons {v : V} {l : List V} (hv : rightV 3 v = true) (h : All3 l) (hl : l.length ≤ 16) : takesB 0 [v, listV l] = true := by
  show (fnArity 0 == 2 && (argB false v && argB true (listV l))) = true
  rw [argB_any (right_up 3 v hv), argB_list (right_list h hl)]; rfl
theorem takes_two' {k : Nat} {v : V} {l : List V} (hk : fnArity k = 2) (h0 : fnList k 0 = true) (h1 : fnList k 1 = false) (hv : rightV 4 v = true) (h : All3 l) (hl : l.length ≤ 16) : takesB k [listV l, v] = true := by
  rw [takesB, hk, h0, h1, argB_any hv, argB_list (right_list h hl)]; rfl
theorem all3_cons {v : V} {l : List V} (hv : rightV 3 v = true) (h : All3 l) : All3 (v :: l) := by
  intro x hx
  rcases List.mem_cons.1 hx with rfl | hx
  · exact hv
  · exact h x hx
theorem all3_append {l m : List V} (h : All3 l) (h' : All3 m) : All3 (l ++ m) := by
  intro x hx
  rcases List.mem_append.1 hx with hx | hx
  · exact h x hx
  · exact h' x hx
theorem all3_reverse {l : List V} (h : All3 l) : All3 l.reverse := fun x hx => h x (List.mem_reverse.1 hx)
theorem call_cons {v : V} {l : List V} (hv : rightV 3 v = true) (h : All3 l) (hl : l.length ≤ 15) : callV 0 [v, listV l] = some (listV (v :: l)) :=
  call_is (takes_cons hv h (by omega)) rfl (right_list (all3_cons hv h) (by simp; omega))
theorem call_append {v : V} {l : List V} (hv : rightV 3 v = true) (h : All3 l) (hl : l.length ≤ 15) : callV 1 [listV l, v] = some (listV (l ++ [v])) :=
  call_is (takes_two' rfl rfl rfl (right_up 3 v hv) h (by omega)) rfl (right_list (all3_append h (fun x hx => by simp at hx; rw [hx]; exact hv)) (by simp; omega))
theorem call_first {v : V} {l : List V} (hv : rightV 3 v = true) (h : All3 l) (hl : l.length ≤ 15) : callV 5 [listV (v :: l)] = some v :=
  call_is (takes_list rfl rfl (all3_cons hv h) (by simp; omega)) rfl (right_up 3 v hv)
theorem call_rest {v : V} {l : List V} (hv : rightV 3 v = true) (h : All3 l) (hl : l.length ≤ 15) : callV 7 [listV (v :: l)] = some (listV l) :=
  call_is (takes_list rfl rfl (all3_cons hv h) (by simp; omega)) rfl (right_list h (by omega))
theorem call_rest_none : callV 7 [listV []] = none := by
  have h0 : doV 7 [listV []] = zeroV := rfl
  unfold callV
  rw [h0, if_neg]
  rintro ⟨_, h⟩
  rw [zeroV, rightV_mk] at h
  simp [baseB] at h
theorem call_last {v : V} {l : List V} (hv : rightV 3 v = true) (h : All3 l) (hl : l.length ≤ 15) : callV 6 [listV (l ++ [v])] = some v := by
  refine call_is (takes_list rfl rfl (all3_append h (fun x hx => by simp at hx; rw [hx]; exact hv)) (by simp; omega)) ?_ (right_up 3 v hv)
  show lastV (listV (l ++ [v])) = v
  simp [lastV, listV, V.list]
theorem call_reverse {l : List V} (h : All3 l) (hl : l.length ≤ 16) : callV 8 [listV l] = some (listV l.reverse) :=
  call_is (takes_list rfl rfl h hl) rfl (right_list (all3_reverse h) (by simp; omega))
theorem call_size {l : List V} (h : All3 l) (hl : l.length ≤ 16) : callV 4 [listV l] = some (numV l.length) :=
  call_is (takes_list rfl rfl h hl) rfl (by rw [right_numV]; simp; omega)
theorem call_member {v : V} {l : List V} (hv : rightV 4 v = true) (h : All3 l) (hl : l.length ≤ 16) : callV 3 [listV l, v] = some (numV (memZ l v)) := by
  refine call_is (takes_two' rfl rfl rfl hv h hl) rfl ?_
  rw [right_numV]
  rcases memZ_range l v with e | e <;> rw [e] <;> decide
theorem takes_concat {l m : List V} (h : All3 l) (h' : All3 m) (hl : l.length ≤ 16) (hm : m.length ≤ 16) : takesB 2 [listV l, listV m] = true := by
  show (fnArity 2 == 2 && (argB true (listV l) && argB true (listV m))) = true
  rw [argB_list (right_list h hl), argB_list (right_list h' hm)]; rfl
theorem call_concat {l m : List V} (h : All3 l) (h' : All3 m) (hl : l.length + m.length ≤ 16) : callV 2 [listV l, listV m] = some (listV (l ++ m)) :=
  call_is (takes_concat h h' (by omega) (by omega)) rfl (right_list (all3_append h h') (by simp; omega))
theorem call_concat_none {l m : List V} (hl : 16 < l.length + m.length) : callV 2 [listV l, listV m] = none := by
  unfold callV
  rw [if_neg]
  rintro ⟨_, hr⟩
  have e : doV 2 [listV l, listV m] = listV (l ++ m) := rfl
  rw [e, right_long (by simp; omega)] at hr
  cases hr
theorem memZ_append (l m : List V) (v : V) : memZ (l ++ m) v = max (memZ l v) (memZ m v) := by
  unfold memZ
  rw [List.any_append]
  cases l.any (fun z => cmpV z v == 0) <;> cases m.any (fun z => cmpV z v == 0) <;> decide
theorem memZ_in {l : List V} {k : Nat} (hk : k < l.length) : memZ l l[k] = 1 := by
  have h0 : cmpV l[k] l[k] = 0 := by have := (ord_value l[k] l[k] l[k]).sym; omega
  rw [memZ, if_pos]
  rw [List.any_eq_true]
  exact ⟨l[k], List.getElem_mem hk, by rw [h0]; rfl⟩

end Go.Proofs.YtgkgnfafjbjbnaaDoor
