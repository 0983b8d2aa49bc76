/-
  Layer 2's own 'list': of a raw list at most so many right values, none of them a list with elements.
-/
import Derived.Test.YtgkgnfafjbjbnaaDoorFit
import Derived.Test.YtgkgnfafjbjbnaaDoorDo
namespace Go.Proofs.YtgkgnfafjbjbnaaDoor
open Go.RowKit

def flatV (x : V) : V := if x.kind = 4 then .mk x.kind x.num x.text [] else x
def listTo (l : List V) (k : Nat) : List V := (l.take k).map fun z => flatV (fitV 4 z)
theorem listTo_length (l : List V) (k : Nat) : (listTo l k).length = min k l.length := by simp [listTo]

set_option maxRecDepth 100000 in
set_option maxHeartbeats 1000000 in
theorem list2_any (l : List V) (B : Nat) (w : World) (a : Value) (most : Nat) (hmost : most ≤ 16) (hB : B ≤ w.heap.size) (ha : RepL B w l a) :
    Calls Tryd.prog 29 #[a, .int .i64 most] w (FitPost (listV (listTo l most)) w) := by
  have HA := Lib.hid ha
  have hlen : l.length * 56 ≤ 140737488355328 := by obtain ⟨_, _, _, _, _, _, h, _⟩ := ha; exact h
  obtain ⟨aa, ab, ao, ac, rfl, -⟩ := ha
  go_enter Tryd.func29, Tryd.ntmps29
  go_wp2_with fail
  have b1 : Below w.heap.size w (w.alloc (.cells #[.int .i64 0, .int .i64 0, .string ⟨#[]⟩, .slice none 0 0] 24)) := (Below.refl _ w).alloc (Nat.le_refl _) _
  have x1 := boxed_new w (.int .i64 0) (.int .i64 0) (.string ⟨#[]⟩) (.slice none 0 0)
  have s1 := World.size_alloc w (.cells #[.int .i64 0, .int .i64 0, .string ⟨#[]⟩, .slice none 0 0] 24)
  generalize (w.alloc (.cells #[.int .i64 0, .int .i64 0, .string ⟨#[]⟩, .slice none 0 0] 24)) = w1 at *
  have HX1 := Lib.hid x1; have HB1 := Lib.hid b1; have HS1 := Lib.hid s1
  clear b1 x1 s1
  obtain ⟨n, hn⟩ : ∃ n, n = min most l.length := ⟨_, rfl⟩
  go_loopw [5, 6] (fun o i wr => ∃ k : Nat, k ≤ n ∧ i = .int .i64 k ∧ Mine wr (w.heap.size + 1) (listTo l k) o ∧ Below (w.heap.size + 1) w1 wr) (fun _ i _ => n - (intOf i).toNat)
  case atStart => exact ⟨0, Nat.zero_le _, rfl, OwnL.nil _ _ _, Below.refl _ _⟩
  case round =>
    obtain ⟨k, hk, rfl, hmine, hbel⟩ := hrel
    have HM := Lib.hid hmine
    have HBEL := Lib.hid hbel
    have hsr : w.heap.size + 1 ≤ wr.heap.size := by have := hbel.size; have := HS1.out; omega
    by_cases hlt : k < n
    · have hl : k < l.length := by omega
      have hkm : k < most := by omega
      obtain ⟨-, -, b, o, fa, fc, rfl, hSb, g0, g1, g2, g3, g⟩ := RepLG.at (HA.out.on (w' := wr) (fun _ h => h) (fun j hj => (hbel.block j (by omega)).trans (HB1.out.block j (by omega)))) k hl
      have HN : Hid (listTo l (k + 1) = listTo l k ++ [flatV (fitV 4 l[k])]) := by
        show _ = _
        rw [listTo, List.take_succ_eq_append_getElem hl, List.map_append]; rfl
      have HLL : Hid ((listTo l k).length ≤ 1000) := by show _ ≤ _; rw [listTo_length]; omega
      generalize l[k] = z at *
      have HG := Lib.hid g
      obtain ⟨la, lc, rfl⟩ := hmine.form
      generalize listTo l k = L at *
      generalize hLn : L.length = ln at *
      have HLN : Hid (L.length ≤ 1000) := by show _ ≤ _; rw [hLn]; exact HLL.out
      clear hLn HLL
      clear g hmine hbel hn
      go_wp2_with fail
      refine (Fit_any z B _ _ _ _ _ (by omega) HG.out).mono ?_
      rintro e w5 ⟨c0, c1, c2, c3, rfl, hr5, hb5⟩
      obtain ⟨pa, pc, rfl, rfl, rfl, rfl⟩ := hr5.form
      generalize fitV 4 z = y at *
      have HR5 := Lib.hid hr5; have HB5 := Lib.hid hb5
      have hs5 := hb5.size
      clear hr5 hb5 g0 g1 g2 g3
      by_cases hk4 : y.kind = 4
      · have HY : Hid (flatV y = .mk y.kind y.num y.text []) := by show _ = _; rw [flatV, if_pos hk4]
        have HR6 : Hid (RepG (fun b => wr.heap.size ≤ b ∧ b < (w5.alloc (.cells #[.int .i64 y.kind, .int .i64 y.num, .string y.text, .slice none 0 0] 24)).heap.size) (w5.alloc (.cells #[.int .i64 y.kind, .int .i64 y.num, .string y.text, .slice none 0 0] 24)) (.mk y.kind y.num y.text []) (.int .i64 y.kind) (.int .i64 y.num) (.string y.text) (.slice none 0 0)) := by
          obtain ⟨h1, h2, h3⟩ := RepG.bounds HR5.out
          exact repG_mk.2 ⟨rfl, rfl, rfl, h1, h2, h3, rep_nil⟩
        obtain ⟨va, vn, vc, w6, hrun, hm6, hb6, -⟩ := fit_append HM.out (by omega) HLN.out (HB5.out.alloc hs5 _) HR6.out 22
        rw [World.size_alloc] at hrun
        have HRUN := Lib.hid hrun; have HM6 := Lib.hid hm6; have HB6 := Lib.hid (Below.trans HBEL.out hb6)
        have hk4b : (y.kind == 4) = true := by simpa using hk4
        clear hrun hm6 hb6 HR6
        have HK4 := Lib.hid hk4; clear hk4
        go_wp2_with (at_builtin; refine Lib.wpList_append_run _ rfl _ _ _ _ rfl _ _ rfl rfl _ _ HRUN.out ?_)
        go_roundw
        case rel => exact ⟨k + 1, by omega, by go_num, by rw [HN.out, HY.out]; exact HM6.out, HB6.out⟩
        case measure => simp [intOf]; omega
      · have HY : Hid (flatV y = y) := by show _ = _; rw [flatV, if_neg hk4]
        obtain ⟨va, vn, vc, w6, hrun, hm6, hb6, -⟩ := fit_append HM.out (by omega) HLN.out (HB5.out.alloc hs5 (.cells #[.int .i64 y.kind, .int .i64 y.num, .string y.text, .slice pa y.list.length pc] 24)) (HR5.out.on (fun b hb => ⟨hb.1, by simp; omega⟩) (fun b hb => Below.heap_alloc _ _ _ hb.2)) 22
        rw [World.size_alloc] at hrun
        have HRUN := Lib.hid hrun; have HM6 := Lib.hid hm6; have HB6 := Lib.hid (Below.trans HBEL.out hb6)
        have hk4b : (y.kind == 4) = false := by simpa using hk4
        clear hrun hm6 hb6
        go_wp2_with (at_builtin; refine Lib.wpList_append_run _ rfl _ _ _ _ rfl _ _ rfl rfl _ _ HRUN.out ?_)
        go_roundw
        case rel => exact ⟨k + 1, by omega, by go_num, by rw [HN.out, HY.out]; exact HM6.out, HB6.out⟩
        case measure => simp [intOf]; omega
    · have hke : k = n := by omega
      have HE : Hid (listTo l k = listTo l most) := by
        show _ = _
        rw [hke, hn, listTo, listTo]
        congr 1
        by_cases h : most ≤ l.length
        · rw [Nat.min_eq_left h]
        · rw [Nat.min_eq_right (by omega), List.take_length, List.take_of_length_le (by omega)]
      rw [HE.out] at HM
      have HLL : Hid ((listTo l most).length * 56 ≤ 140737488355328) := by show _ ≤ _; rw [listTo_length]; omega
      generalize listTo l most = L at *
      obtain ⟨la, lc, hof⟩ := HM.out.form
      subst hof
      generalize hLn : L.length = ln at *
      have HLN : Hid (L.length * 56 ≤ 140737488355328) := by show _ ≤ _; rw [hLn]; exact HLL.out
      clear hLn HLL
      have XR : Boxed wr w.heap.size (.int .i64 0) (.int .i64 0) (.string ⟨#[]⟩) (.slice none 0 0) := (hbel.block w.heap.size (by omega)).trans HX1.out
      obtain ⟨r0, r1, r2, r3⟩ := XR.cells
      have z0 := frozen_of_row wr _ 0 _ _ XR
      have z1 := frozen_of_row wr _ 1 _ _ XR
      have z2 := frozen_of_row wr _ 2 _ _ XR
      have z3 := frozen_of_row wr _ 3 _ _ XR
      have HBW := Lib.hid (HB1.out.trans (hbel.mono (by omega)))
      have HM4 := Lib.hid ((((HM.out.far (p := ⟨w.heap.size, 0, none⟩) (by simp) (.int .i64 4)).far (p := ⟨w.heap.size, 1, none⟩) (by simp) (.int .i64 0)).far (p := ⟨w.heap.size, 2, none⟩) (by simp) (.string ⟨#[]⟩)).far (p := ⟨w.heap.size, 3, none⟩) (by simp) (.slice la ln lc))
      clear XR hmine hbel HE
      have hcase : l.length ≤ k ∨ (k < l.length ∧ most ≤ k) := by omega
      clear hke hn hlt
      rcases hcase with hc | ⟨hc, hc'⟩
      all_goals
        go_wp2_with fail
        refine bodyPost_ret (v := .agg #[.int .i64 4, .int .i64 0, .string ⟨#[]⟩, .slice la ln lc]) (by simp [results, Tryd.results29, go_sem, r0, r1, r2, r3]) rfl ?_
        exact ⟨_, _, _, _, rfl, rep_list (OwnL.rep HM4.out (fun k hk => ⟨by omega, hk.2.1⟩) (fun g h1 h2 => ⟨by omega, h2⟩) HLN.out), stored4 HBW.out w.heap.size (Nat.le_refl _) _ _ _ _⟩

end Go.Proofs.YtgkgnfafjbjbnaaDoor
