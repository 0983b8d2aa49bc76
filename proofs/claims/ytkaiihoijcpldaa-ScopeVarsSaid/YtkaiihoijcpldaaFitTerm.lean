/-
  Layer 4's own 'Term' of every depth.
-/
import Derived.Test.YtkaiihoijcpldaaTermDeep
import Derived.Test.YtkaiihoijcpldaaTermOp
import Derived.Test.YtkaiihoijcpldaaTermCall
namespace Go.Proofs.Ytkaiihoijcpldaa
open Go.RowKit

theorem term_succ (d : Nat) (hd : 1 ≤ d) (hdm : d ≤ 100) (ih : FitTmAt d) : FitTmAt (d + 1) := by
  intro x S w c0 c1 c2 c3 c4 c5 c6 hS hx
  by_cases hl : x.args.length < 2
  · exact term_few d hd hdm x S w c0 c1 c2 c3 c4 c5 c6 hS hx hl
  · have hb := pickZ_bd x.kind 4 (by omega)
    rw [show ((d + 1 : Nat) : Int) = (d : Int) + 1 by omega]
    by_cases h0 : pickZ x.kind 4 = 0
    · exact term_deep0 d hd hdm x S w c0 c1 c2 c3 c4 c5 c6 hS hx hl h0
    by_cases h1 : pickZ x.kind 4 = 1
    · exact term_deep1 d hd hdm x S w c0 c1 c2 c3 c4 c5 c6 hS hx hl h1
    by_cases h2 : pickZ x.kind 4 = 2
    · exact term_call d hd hdm ih x S w c0 c1 c2 c3 c4 c5 c6 hS hx hl h2
    · exact term_op d hd hdm ih x S w c0 c1 c2 c3 c4 c5 c6 hS hx hl (by omega)
theorem term_any : ∀ d, d ≤ 100 → FitTmAt (d + 1)
  | 0, _ => term_one
  | d + 1, h => term_succ (d + 1) (by omega) h (term_any d (by omega))
theorem term8_any (x : Tm) (S : Nat → Prop) (w : World) (c0 c1 c2 c3 c4 c5 c6 : Value) (hS : ∀ k, S k → k < w.heap.size) (hx : RepM S w x c0 c1 c2 c3 c4 c5 c6) :
    Calls Try.prog 13 #[.agg #[c0, c1, c2, c3, c4, c5, c6], .int .i64 8] w (MadeM (fitTm 8 x) w) := term_any 7 (by omega) x S w c0 c1 c2 c3 c4 c5 c6 hS hx

def argsTo (l : List Tm) (k : Nat) : List Tm := fitHead l :: ((l.take k).drop 1).map (fitTm 8)
theorem argsTo_one (l : List Tm) : argsTo l 1 = [fitHead l] := by
  have : (l.take 1).drop 1 = [] := List.drop_of_length_le (by rw [List.length_take]; omega)
  simp [argsTo, this]
theorem argsTo_succ (l : List Tm) (k : Nat) (h1 : 1 ≤ k) (h : k < l.length) : argsTo l (k + 1) = argsTo l k ++ [fitTm 8 l[k]] := by
  rw [argsTo, argsTo, List.take_succ_eq_append_getElem h, List.drop_append_of_le_length (by rw [List.length_take]; omega), List.map_append]
  rfl
theorem argsTo_end (l : List Tm) (k : Nat) (h : k = 8 ∨ l.length ≤ k ∧ k ≤ 8) : argsTo l k = fitArgs l := by
  rcases h with rfl | ⟨h1, h2⟩
  · rfl
  · rw [argsTo, fitArgs, List.take_of_length_le h1, List.take_of_length_le (by omega)]
theorem argsTo_len (l : List Tm) (k : Nat) (h : k ≤ 8) : (argsTo l k).length ≤ 8 := by
  rw [argsTo, List.length_cons, List.length_map, List.length_drop, List.length_take]; omega
theorem mine_one {w : World} {base b : Nat} {y : Tm} {c0 c1 c2 c3 c4 c5 c6 : Value} (hb : w.heap[b]? = some (.cells #[c0, c1, c2, c3, c4, c5, c6] 48 (0, 0))) (hB : base ≤ b) (h : RepM (fun _ => False) w y c0 c1 c2 c3 c4 c5 c6) :
    MineK kdTm w base [y] (.slice (some ⟨b, 0, none⟩) 1 1) := by
  refine ⟨[c0, c1, c2, c3, c4, c5, c6], ⟨rfl, .inr ⟨b, 1, _, rfl, hB, hb, Nat.le_refl _, by decide, rfl, rfl⟩⟩, fun i hi => ?_⟩
  obtain rfl : i = 0 := by simpa using hi
  exact ⟨at7v c0 c1 c2 c3 c4 c5 c6, fun j hj => match j, hj with | 0, _ => rfl | 1, _ => rfl | 2, _ => rfl | 3, _ => rfl | 4, _ => rfl | 5, _ => rfl | 6, _ => rfl, RepM.on (fun _ h => h.elim) (fun _ h => h.elim) y h⟩
theorem tmS_rep (S : Nat → Prop) (w : World) : RepM S w tmS (.int .i64 1) (.string ⟨#[83]⟩) (.int .i64 0) (.int .i64 0) (.string ⟨#[]⟩) (.slice none 0 0) (.slice none 0 0) := exA_rep S w
theorem tmX_rep (S : Nat → Prop) (w : World) : RepM S w tmX (.int .i64 1) (.string ⟨#[88]⟩) (.int .i64 0) (.int .i64 0) (.string ⟨#[]⟩) (.slice none 0 0) (.slice none 0 0) := repM_mk.2 ⟨rfl, rfl, small64 (by omega), by decide, zV_rep S w, slg_nil⟩
theorem addr_rep (S : Nat → Prop) (w : World) (s : ByteArray) : RepM S w (.mk 2 ⟨#[]⟩ (.mk 3 0 (relOf s) []) []) (.int .i64 2) (.string ⟨#[]⟩) (.int .i64 3) (.int .i64 0) (.string (relOf s)) (.slice none 0 0) (.slice none 0 0) :=
  repM_mk.2 ⟨rfl, rfl, small64 (by omega), by decide, flat_rep S w 3 0 (relOf s) (small64 (by omega)) (small64 (by omega)) (Nat.le_trans (relOf_size s) (by decide)), slg_nil⟩

end Go.Proofs.Ytkaiihoijcpldaa
