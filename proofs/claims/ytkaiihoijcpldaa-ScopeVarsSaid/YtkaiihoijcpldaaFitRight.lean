/-
  What 'fit' makes is right.
-/
import Derived.Test.YtkaiihoijcpldaaFitDef
import Derived.Test.YtkaiihoijcpldaaW10
import Derived.Test.YtkaiihoijcpldaaNameOf
namespace Go.Proofs.Ytkaiihoijcpldaa
open Go.RowKit

theorem fitByte_ok (c : UInt8) : okText ((fitByte c).toNat : Int) = true := by
  by_cases h : 32 + c.toNat % 95 = 34 ∨ 32 + c.toNat % 95 = 92
  · rw [fitByte_blank c h]; decide
  · rw [fitByte_plain c (fun e => h (Or.inl e)) (fun e => h (Or.inr e))]
    have := Nat.mod_lt c.toNat (show 0 < 95 by omega)
    simp only [okText, decide_eq_true_eq]
    omega
theorem textOf_ok (s : ByteArray) : textB ⟨(textOf s).toArray⟩ = true := by
  refine textB_true (by rw [size_mk', textOf_length]; omega) (fun i h => ?_)
  have h' : i < (textOf s).length := by rw [size_mk'] at h; exact h
  rw [valueNames.ba_get _ i h h']
  have hr : i < (rawText s).length := by rw [textOf, List.length_map] at h'; exact h'
  have : (textOf s)[i] = fitByte (rawText s)[i] := by simp [textOf]
  rw [this]
  exact fitByte_ok _
theorem none_empty : (⟨#[]⟩ : ByteArray).toList.isEmpty = true := by rw [isEmpty_size]; rfl
theorem flat_right (d : Nat) (x : V) : rightV d (fitFlat x) = true := by
  obtain ⟨h1, h2⟩ := pickZ_bd x.num 4294967295 (by omega)
  unfold fitFlat
  split
  · rw [rightV_mk]
    simp only [baseB, none_empty, List.isEmpty_nil, if_pos, Bool.and_eq_true, decide_eq_true_eq, Bool.true_and]
    omega
  · split
    · rw [rightV_mk]; simp [baseB, textOf_ok]
    · rw [rightV_mk]; simp [baseB, valueNames.name_of]
theorem unlist_flat (x : V) : pickZ (unlist 1 x).kind 4 ≠ 3 := by
  unfold unlist
  split
  · show pickZ 0 4 ≠ 3; decide
  · rename_i h; exact fun e => h ⟨Nat.le_refl _, e⟩
theorem fit_right : ∀ (d : Nat) (x : V), rightV d (fitV d x) = true
  | 0, x => flat_right 0 x
  | d + 1, x => by
    unfold fitV
    split
    · rw [rightV_mk]
      have hl : ((x.list.take 16).map fun y => fitV d (unlist (d + 1) y)).length ≤ 16 := by simp; omega
      have ha : (((x.list.take 16).map fun y => fitV d (unlist (d + 1) y)).all (rightV d)) = true := by
        rw [List.all_eq_true]
        intro y hy
        obtain ⟨z, _, rfl⟩ := List.mem_map.1 hy
        exact fit_right d _
      simp only [baseB, none_empty, rightL, ha, hl, decide_true]
      simp
    · exact flat_right _ x


end Go.Proofs.Ytkaiihoijcpldaa
