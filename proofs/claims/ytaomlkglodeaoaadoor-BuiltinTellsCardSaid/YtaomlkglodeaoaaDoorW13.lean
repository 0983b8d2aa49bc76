/-
  The law's own 'Fit'.
-/
import Derived.Test.YtaomlkglodeaoaaDoorW12
import Derived.Test.YtaomlkglodeaoaaDoorW03
import Derived.Test.YtaomlkglodeaoaaDoorW05
import Derived.Test.YtaomlkglodeaoaaDoorW07
import Derived.Test.YtaomlkglodeaoaaDoorW11
import Derived.Test.YtaomlkglodeaoaaDoorW06
import Derived.Test.YtaomlkglodeaoaaDoorW08
import Derived.Test.YtaomlkglodeaoaaDoorW04
namespace Go.Proofs.YtaomlkglodeaoaaDoor
open Go.RowKit

/-- 'Fit' of any value. -/
theorem Fit_any (x : V) (B : Nat) (w : World) (c0 c1 c2 c3 : Value) (hB : B ≤ w.heap.size) (hx : RepV B w x c0 c1 c2 c3) :
    Calls Tryd.prog 17 #[.agg #[c0, c1, c2, c3]] w (FitPost (fitV 4 x) w) := by
  obtain ⟨fa, fc, rfl, rfl, rfl, rfl⟩ := hx.form
  have HX := Lib.hid hx; clear hx
  go_enter Tryd.func17, Tryd.ntmps17
  go_wp2_with fail
  have b1 := stands_alloc w (.cells #[.int .i64 x.kind, .int .i64 x.num, .string x.text, .slice fa x.list.length fc] 24)
  have s1 := World.size_alloc w (.cells #[.int .i64 x.kind, .int .i64 x.num, .string x.text, .slice fa x.list.length fc] 24)
  generalize w.alloc (.cells #[.int .i64 x.kind, .int .i64 x.num, .string x.text, .slice fa x.list.length fc] 24) = w1 at *
  have r2 := boxed_new w1 (.int .i64 0) (.int .i64 0) (.string ⟨#[]⟩) (.slice none 0 0)
  have b2 := stands_alloc w1 (.cells #[.int .i64 0, .int .i64 0, .string ⟨#[]⟩, .slice none 0 0] 24)
  have s2 := World.size_alloc w1 (.cells #[.int .i64 0, .int .i64 0, .string ⟨#[]⟩, .slice none 0 0] 24)
  generalize w1.alloc (.cells #[.int .i64 0, .int .i64 0, .string ⟨#[]⟩, .slice none 0 0] 24) = w2 at *
  rw [s1] at r2
  have B2 := Below.step b1 b2
  refine (fit_any 4 (by omega) x B _ _ _ _ _ (by omega) (RepV.on B2 hB HX.out) (fun h => by omega)).mono ?_
  rintro e w3 ⟨c0, c1, c2, c3, rfl, hrep, hb⟩
  have RR := r2.on hb
  have HR := Lib.hid hrep
  have HB := Lib.hid (stored_below (k := w.heap.size + 1) (by omega) (Below.step B2 hb) c0 c1 c2 c3)
  obtain ⟨fa', fc', rfl, rfl, rfl, rfl⟩ := hrep.form
  generalize fitV 4 x = y at *
  clear r2 b1 b2 B2 hb hrep
  obtain ⟨r0, r1, r2, r3⟩ := RR.cells
  have z0 := frozen_of_row w3 _ 0 _ _ RR
  have z1 := frozen_of_row w3 _ 1 _ _ RR
  have z2 := frozen_of_row w3 _ 2 _ _ RR
  have z3 := frozen_of_row w3 _ 3 _ _ RR
  clear RR
  go_wp2_with fail
  refine bodyPost_ret (v := .agg #[.int .i64 y.kind, .int .i64 y.num, .string y.text, .slice fa' y.list.length fc']) (by simp [results, Tryd.results17, go_sem, r0, r1, r2, r3]) rfl ?_
  refine ⟨_, _, _, _, rfl, HR.out.on (fun b hb => ⟨by omega, by simp [World.setCell]; exact hb.2⟩) (fun b hb => ?_), HB.out⟩
  rw [Below.heap_setCell _ _ _ _ (by simp; omega), Below.heap_setCell _ _ _ _ (by simp; omega), Below.heap_setCell _ _ _ _ (by simp; omega), Below.heap_setCell _ _ _ _ (by simp; omega)]

end Go.Proofs.YtaomlkglodeaoaaDoor

/-
  Layer 2's own 'list': of a raw list at most so many right values, none of them a list with elements.
-/
namespace Go.Proofs.YtaomlkglodeaoaaDoor
open Go.RowKit

def flatV (x : V) : V := if x.kind = 4 then .mk x.kind x.num x.text [] else x
def listTo (l : List V) (k : Nat) : List V := (l.take k).map fun z => flatV (fitV 4 z)
theorem listTo_length (l : List V) (k : Nat) : (listTo l k).length = min k l.length := by simp [listTo]

set_option maxRecDepth 100000 in
set_option maxHeartbeats 1000000 in
theorem list2_any (l : List V) (B : Nat) (w : World) (a : Value) (most : Nat) (hmost : most ≤ 16) (hB : B ≤ w.heap.size) (ha : RepL B w l a) :
    Calls Tryd.prog 16 #[a, .int .i64 most] w (FitPost (listV (listTo l most)) w) := by
  have HA := Lib.hid ha
  have hlen : l.length * 56 ≤ 140737488355328 := by obtain ⟨_, _, _, _, _, _, h, _⟩ := ha; exact h
  obtain ⟨aa, ab, ao, ac, rfl, -⟩ := ha
  go_enter Tryd.func16, Tryd.ntmps16
  go_wp2_with fail
  have b1 : Below w.heap.size w (w.alloc (.cells #[.int .i64 0, .int .i64 0, .string ⟨#[]⟩, .slice none 0 0] 24)) := (Below.refl _ w).alloc (Nat.le_refl _) _
  have x1 := boxed_new w (.int .i64 0) (.int .i64 0) (.string ⟨#[]⟩) (.slice none 0 0)
  have s1 := World.size_alloc w (.cells #[.int .i64 0, .int .i64 0, .string ⟨#[]⟩, .slice none 0 0] 24)
  generalize (w.alloc (.cells #[.int .i64 0, .int .i64 0, .string ⟨#[]⟩, .slice none 0 0] 24)) = w1 at *
  have HX1 := Lib.hid x1; have HB1 := Lib.hid b1; have HS1 := Lib.hid s1
  clear b1 x1 s1
  obtain ⟨n, hn⟩ : ∃ n, n = min most l.length := ⟨_, rfl⟩
  go_loopw [5, 6] (fun o i wr => ∃ k : Nat, k ≤ n ∧ i = .int .i64 k ∧ Mine wr (w.heap.size + 1) (listTo l k) o ∧ Below (w.heap.size + 1) w1 wr) (fun _ i _ => n - (intOf i).toNat)
  case atStart => exact ⟨0, Nat.zero_le _, rfl, OwnL.nil _ _ _, Below.refl _ _⟩
  case round =>
    obtain ⟨k, hk, rfl, hmine, hbel⟩ := hrel
    have HM := Lib.hid hmine
    have HBEL := Lib.hid hbel
    have hsr : w.heap.size + 1 ≤ wr.heap.size := by have := hbel.size; have := HS1.out; omega
    by_cases hlt : k < n
    · have hl : k < l.length := by omega
      have hkm : k < most := by omega
      obtain ⟨-, -, b, o, fa, fc, rfl, hSb, g0, g1, g2, g3, g⟩ := RepLG.at (HA.out.on (w' := wr) (fun _ h => h) (fun j hj => (hbel.block j (by omega)).trans (HB1.out.block j (by omega)))) k hl
      have HN : Hid (listTo l (k + 1) = listTo l k ++ [flatV (fitV 4 l[k])]) := by
        show _ = _
        rw [listTo, List.take_succ_eq_append_getElem hl, List.map_append]; rfl
      have HLL : Hid ((listTo l k).length ≤ 1000) := by show _ ≤ _; rw [listTo_length]; omega
      generalize l[k] = z at *
      have HG := Lib.hid g
      obtain ⟨la, lc, rfl⟩ := hmine.form
      generalize listTo l k = L at *
      generalize hLn : L.length = ln at *
      have HLN : Hid (L.length ≤ 1000) := by show _ ≤ _; rw [hLn]; exact HLL.out
      clear hLn HLL
      clear g hmine hbel hn
      go_wp2_with fail
      refine (Fit_any z B _ _ _ _ _ (by omega) HG.out).mono ?_
      rintro e w5 ⟨c0, c1, c2, c3, rfl, hr5, hb5⟩
      obtain ⟨pa, pc, rfl, rfl, rfl, rfl⟩ := hr5.form
      generalize fitV 4 z = y at *
      have HR5 := Lib.hid hr5; have HB5 := Lib.hid hb5
      have hs5 := hb5.size
      clear hr5 hb5 g0 g1 g2 g3
      by_cases hk4 : y.kind = 4
      · have HY : Hid (flatV y = .mk y.kind y.num y.text []) := by show _ = _; rw [flatV, if_pos hk4]
        have HR6 : Hid (RepG (fun b => wr.heap.size ≤ b ∧ b < (w5.alloc (.cells #[.int .i64 y.kind, .int .i64 y.num, .string y.text, .slice none 0 0] 24)).heap.size) (w5.alloc (.cells #[.int .i64 y.kind, .int .i64 y.num, .string y.text, .slice none 0 0] 24)) (.mk y.kind y.num y.text []) (.int .i64 y.kind) (.int .i64 y.num) (.string y.text) (.slice none 0 0)) := by
          obtain ⟨h1, h2, h3⟩ := RepG.bounds HR5.out
          exact repG_mk.2 ⟨rfl, rfl, rfl, h1, h2, h3, rep_nil⟩
        obtain ⟨va, vn, vc, w6, hrun, hm6, hb6, -⟩ := fit_append HM.out (by omega) HLN.out (HB5.out.alloc hs5 _) HR6.out 22
        rw [World.size_alloc] at hrun
        have HRUN := Lib.hid hrun; have HM6 := Lib.hid hm6; have HB6 := Lib.hid (Below.trans HBEL.out hb6)
        have hk4b : (y.kind == 4) = true := by simpa using hk4
        clear hrun hm6 hb6 HR6
        have HK4 := Lib.hid hk4; clear hk4
        go_wp2_with (at_builtin; refine Lib.wpList_append_run _ rfl _ _ _ _ rfl _ _ rfl rfl _ _ HRUN.out ?_)
        go_roundw
        case rel => exact ⟨k + 1, by omega, by go_num, by rw [HN.out, HY.out]; exact HM6.out, HB6.out⟩
        case measure => simp [intOf]; omega
      · have HY : Hid (flatV y = y) := by show _ = _; rw [flatV, if_neg hk4]
        obtain ⟨va, vn, vc, w6, hrun, hm6, hb6, -⟩ := fit_append HM.out (by omega) HLN.out (HB5.out.alloc hs5 (.cells #[.int .i64 y.kind, .int .i64 y.num, .string y.text, .slice pa y.list.length pc] 24)) (HR5.out.on (fun b hb => ⟨hb.1, by simp; omega⟩) (fun b hb => Below.heap_alloc _ _ _ hb.2)) 22
        rw [World.size_alloc] at hrun
        have HRUN := Lib.hid hrun; have HM6 := Lib.hid hm6; have HB6 := Lib.hid (Below.trans HBEL.out hb6)
        have hk4b : (y.kind == 4) = false := by simpa using hk4
        clear hrun hm6 hb6
        go_wp2_with (at_builtin; refine Lib.wpList_append_run _ rfl _ _ _ _ rfl _ _ rfl rfl _ _ HRUN.out ?_)
        go_roundw
        case rel => exact ⟨k + 1, by omega, by go_num, by rw [HN.out, HY.out]; exact HM6.out, HB6.out⟩
        case measure => simp [intOf]; omega
    · have hke : k = n := by omega
      have HE : Hid (listTo l k = listTo l most) := by
        show _ = _
        rw [hke, hn, listTo, listTo]
        congr 1
        by_cases h : most ≤ l.length
        · rw [Nat.min_eq_left h]
        · rw [Nat.min_eq_right (by omega), List.take_length, List.take_of_length_le (by omega)]
      rw [HE.out] at HM
      have HLL : Hid ((listTo l most).length * 56 ≤ 140737488355328) := by show _ ≤ _; rw [listTo_length]; omega
      generalize listTo l most = L at *
      obtain ⟨la, lc, hof⟩ := HM.out.form
      subst hof
      generalize hLn : L.length = ln at *
      have HLN : Hid (L.length * 56 ≤ 140737488355328) := by show _ ≤ _; rw [hLn]; exact HLL.out
      clear hLn HLL
      have XR : Boxed wr w.heap.size (.int .i64 0) (.int .i64 0) (.string ⟨#[]⟩) (.slice none 0 0) := (hbel.block w.heap.size (by omega)).trans HX1.out
      obtain ⟨r0, r1, r2, r3⟩ := XR.cells
      have z0 := frozen_of_row wr _ 0 _ _ XR
      have z1 := frozen_of_row wr _ 1 _ _ XR
      have z2 := frozen_of_row wr _ 2 _ _ XR
      have z3 := frozen_of_row wr _ 3 _ _ XR
      have HBW := Lib.hid (HB1.out.trans (hbel.mono (by omega)))
      have HM4 := Lib.hid ((((HM.out.far (p := ⟨w.heap.size, 0, none⟩) (by simp) (.int .i64 4)).far (p := ⟨w.heap.size, 1, none⟩) (by simp) (.int .i64 0)).far (p := ⟨w.heap.size, 2, none⟩) (by simp) (.string ⟨#[]⟩)).far (p := ⟨w.heap.size, 3, none⟩) (by simp) (.slice la ln lc))
      clear XR hmine hbel HE
      have hcase : l.length ≤ k ∨ (k < l.length ∧ most ≤ k) := by omega
      clear hke hn hlt
      rcases hcase with hc | ⟨hc, hc'⟩
      all_goals
        go_wp2_with fail
        refine bodyPost_ret (v := .agg #[.int .i64 4, .int .i64 0, .string ⟨#[]⟩, .slice la ln lc]) (by simp [results, Tryd.results16, go_sem, r0, r1, r2, r3]) rfl ?_
        exact ⟨_, _, _, _, rfl, rep_list (OwnL.rep HM4.out (fun k hk => ⟨by omega, hk.2.1⟩) (fun g h1 h2 => ⟨by omega, h2⟩) HLN.out), stored4 HBW.out w.heap.size (Nat.le_refl _) _ _ _ _⟩

end Go.Proofs.YtaomlkglodeaoaaDoor

/-
  What the law's own 'Name' makes is a name.
-/
namespace Go.Proofs.YtaomlkglodeaoaaDoor.valueNames
open Go.RowKit

theorem nameByte_ok (i : Nat) (h : 1 ≤ i) (c : UInt8) : okAt i ((nameByte c).toNat : Int) = true := by
  have hi : decide (i = 0) = false := by simp; omega
  by_cases h1 : c.toNat % 37 < 26
  · simp only [okAt, smallB, nameByte_small c h1, hi, Bool.or_eq_true, decide_eq_true_eq]; omega
  · by_cases h2 : c.toNat % 37 < 36
    · simp only [okAt, smallB, digitB, nameByte_digit c h1 h2, hi, Bool.or_eq_true, Bool.and_eq_true, decide_eq_true_eq, Bool.not_false]
      right; refine ⟨trivial, Or.inl ?_⟩; omega
    · simp [okAt, smallB, digitB, nameByte_low c h1 h2, hi]
theorem ba_get (l : List UInt8) (i : Nat) (_h : i < (⟨l.toArray⟩ : ByteArray).size) (h' : i < l.length) : (⟨l.toArray⟩ : ByteArray)[i] = l[i] := by
  show l.toArray[i] = l[i]
  simp
/-- A list of bytes is a name just if its length is one, and each byte may stand where it stands. -/
theorem nameB_list (l : List UInt8) : nameB ⟨l.toArray⟩ = true ↔ (1 ≤ l.length ∧ l.length ≤ 16 ∧ ∀ i (h : i < l.length), okAt i (l[i].toNat : Int) = true) := by
  rw [nameB, decide_eq_true_eq]
  have hsz := size_mk l
  constructor
  · rintro ⟨h1, h2, h3⟩
    exact ⟨by omega, by omega, fun i h => by have := h3 i (by omega); rwa [ba_get l i (by omega) h] at this⟩
  · rintro ⟨h1, h2, h3⟩
    exact ⟨by omega, by omega, fun i h => by rw [ba_get l i h (by omega)]; exact h3 i _⟩
theorem nameOf_ok (s : ByteArray) : ∀ i (h : i < (nameOf s).length), okAt i ((nameOf s)[i].toNat : Int) = true := by
  intro i h
  match i, h with
  | 0, _ => simp [nameOf, okAt, smallB]
  | i + 1, h =>
    have : (nameOf s)[i + 1] = nameByte ((s.data.toList.take 15)[i]'(by simp [nameOf] at h; simp; omega)) := by simp [nameOf]
    rw [this]
    exact nameByte_ok (i + 1) (by omega) _
theorem name_of (s : ByteArray) : nameB ⟨(nameOf s).toArray⟩ = true :=
  (nameB_list _).2 ⟨by rw [nameOf_length]; omega, by rw [nameOf_length]; omega, nameOf_ok s⟩

end Go.Proofs.YtaomlkglodeaoaaDoor.valueNames

/-
  What 'fit' makes is right.
-/
namespace Go.Proofs.YtaomlkglodeaoaaDoor
open Go.RowKit

theorem fitByte_ok (c : UInt8) : okText ((fitByte c).toNat : Int) = true := by
  by_cases h : 32 + c.toNat % 95 = 34 ∨ 32 + c.toNat % 95 = 92
  · rw [fitByte_blank c h]; decide
  · rw [fitByte_plain c (fun e => h (Or.inl e)) (fun e => h (Or.inr e))]
    have := Nat.mod_lt c.toNat (show 0 < 95 by omega)
    simp only [okText, decide_eq_true_eq]
    omega
theorem textOf_ok (s : ByteArray) : textB ⟨(textOf s).toArray⟩ = true := by
  refine textB_true (by rw [size_mk', textOf_length]; omega) (fun i h => ?_)
  have h' : i < (textOf s).length := by rw [size_mk'] at h; exact h
  rw [valueNames.ba_get _ i h h']
  have hr : i < (rawText s).length := by rw [textOf, List.length_map] at h'; exact h'
  have : (textOf s)[i] = fitByte (rawText s)[i] := by simp [textOf]
  rw [this]
  exact fitByte_ok _
theorem none_empty : (⟨#[]⟩ : ByteArray).toList.isEmpty = true := by rw [isEmpty_size]; rfl
theorem flat_right (d : Nat) (x : V) : rightV d (fitFlat x) = true := by
  obtain ⟨h1, h2⟩ := pickZ_bd x.num 4294967295 (by omega)
  unfold fitFlat
  split
  · rw [rightV_mk]
    simp only [baseB, none_empty, List.isEmpty_nil, if_pos, Bool.and_eq_true, decide_eq_true_eq, Bool.true_and]
    omega
  · split
    · rw [rightV_mk]; simp [baseB, textOf_ok]
    · rw [rightV_mk]; simp [baseB, valueNames.name_of]
theorem unlist_flat (x : V) : pickZ (unlist 1 x).kind 4 ≠ 3 := by
  unfold unlist
  split
  · show pickZ 0 4 ≠ 3; decide
  · rename_i h; exact fun e => h ⟨Nat.le_refl _, e⟩
theorem fit_right : ∀ (d : Nat) (x : V), rightV d (fitV d x) = true
  | 0, x => flat_right 0 x
  | d + 1, x => by
    unfold fitV
    split
    · rw [rightV_mk]
      have hl : ((x.list.take 16).map fun y => fitV d (unlist (d + 1) y)).length ≤ 16 := by simp; omega
      have ha : (((x.list.take 16).map fun y => fitV d (unlist (d + 1) y)).all (rightV d)) = true := by
        rw [List.all_eq_true]
        intro y hy
        obtain ⟨z, _, rfl⟩ := List.mem_map.1 hy
        exact fit_right d _
      simp only [baseB, none_empty, rightL, ha, hl, decide_true]
      simp
    · exact flat_right _ x
theorem fit_printed (x : V) : printB (fitV 4 x) ≠ [] := by
  rw [printB, if_pos (fit_right 4 x)]
  exact (prV_le 4 _ (fit_right 4 x)).2

end Go.Proofs.YtaomlkglodeaoaaDoor

/-
  Compare, as a plain function, is an order of any three values.
-/
namespace Go.Proofs.YtaomlkglodeaoaaDoor

/-- What an order tells of three things, seen from the first one. -/
structure Ord3 {α : Type} (f : α → α → Int) (a b c : α) : Prop where
  rng : f a b = -1 ∨ f a b = 0 ∨ f a b = 1
  sym : f b a = - f a b
  eqv : f a b = 0 → f b c = f a c
  lt : f a b < 0 → f b c ≤ 0 → f a c < 0
  gt : 0 < f a b → 0 ≤ f b c → 0 < f a c

theorem ord_int (a b c : Int) : Ord3 Lib.compareInt a b c := by
  unfold Lib.compareInt
  constructor
  · (repeat' split) <;> first | exact Or.inl rfl | exact Or.inr (Or.inl rfl) | exact Or.inr (Or.inr rfl)
  · (repeat' split) <;> omega
  · intro h
    have : a = b := by (repeat' split at h) <;> omega
    subst this; rfl
  · intro h1 h2; (repeat' split at h1) <;> (repeat' split at h2) <;> (repeat' split) <;> omega
  · intro h1 h2; (repeat' split at h1) <;> (repeat' split at h2) <;> (repeat' split) <;> omega

/-- Lists by a comparison of their elements, a beginning of another one first. -/
def lex {α : Type} (f : α → α → Int) : List α → List α → Int
  | [], [] => 0
  | [], _ :: _ => -1
  | _ :: _, [] => 1
  | x :: l, y :: m => if f x y ≠ 0 then f x y else lex f l m

theorem ord_lex {α : Type} (f : α → α → Int) : ∀ (l : List α), (∀ x, x ∈ l → ∀ y z, Ord3 f x y z) → ∀ m k, Ord3 (lex f) l m k
  | [], _, [], [] => ⟨by simp [lex], by simp [lex], by simp [lex], by simp [lex], by simp [lex]⟩
  | [], _, [], _ :: _ => ⟨by simp [lex], by simp [lex], by simp [lex], by simp [lex], by simp [lex]⟩
  | [], _, _ :: _, [] => ⟨by simp [lex], by simp [lex], by simp [lex], by simp [lex], by simp [lex]⟩
  | [], _, _ :: _, _ :: _ => ⟨by simp [lex], by simp [lex], by simp [lex], by simp [lex], by simp [lex]⟩
  | _ :: _, _, [], [] => ⟨by simp [lex], by simp [lex], by simp [lex], by simp [lex], by simp [lex]⟩
  | _ :: _, _, [], _ :: _ => ⟨by simp [lex], by simp [lex], by simp [lex], by simp [lex], by simp [lex]⟩
  | x :: l, h, y :: m, [] => by
    have h1 := h x (by simp) y x
    have h2 := ord_lex f l (fun z hz => h z (by simp [hz])) m []
    have r1 := h1.rng; have s1 := h1.sym; have r2 := h2.rng; have s2 := h2.sym
    constructor <;> simp only [lex]
    · split <;> omega
    · rw [s1, s2]; split <;> split <;> omega
    · intro _; trivial
    · intro _ h; omega
    · intro _ _; omega
  | x :: l, h, y :: m, z :: k => by
    have h1 := h x (by simp) y z
    have h2 := ord_lex f l (fun z hz => h z (by simp [hz])) m k
    have hz := h x (by simp) z y
    obtain ⟨r1, s1, e1, l1, g1⟩ := h1
    obtain ⟨r2, s2, e2, l2, g2⟩ := h2
    have rz := hz.rng
    have ez := hz.eqv
    have lz := hz.lt
    have gz := hz.gt
    constructor <;> simp only [lex]
    · split <;> omega
    · rw [s1, s2]; split <;> split <;> omega
    · intro h
      by_cases e : f x y = 0
      · rw [if_neg (by omega)] at h
        rw [e1 e, e2 h]
      · rw [if_pos e] at h; omega
    · intro h h'
      by_cases e : f x y = 0
      · rw [if_neg (by omega)] at h
        rw [e1 e] at h'
        by_cases e' : f x z = 0
        · rw [if_neg (by omega)] at h' ⊢; exact l2 h h'
        · rw [if_pos e'] at h' ⊢; omega
      · rw [if_pos e] at h
        by_cases e' : f y z = 0
        · have := l1 h (by omega)
          rw [if_pos (by omega)]; exact this
        · rw [if_pos e'] at h'
          have := l1 h h'
          rw [if_pos (by omega)]; exact this
    · intro h h'
      by_cases e : f x y = 0
      · rw [if_neg (by omega)] at h
        rw [e1 e] at h'
        by_cases e' : f x z = 0
        · rw [if_neg (by omega)] at h' ⊢; exact g2 h h'
        · rw [if_pos e'] at h' ⊢; omega
      · rw [if_pos e] at h
        by_cases e' : f y z = 0
        · have := g1 h (by omega)
          rw [if_pos (by omega)]; exact this
        · rw [if_pos e'] at h'
          have := g1 h h'
          rw [if_pos (by omega)]; exact this

def cmpByte (a b : UInt8) : Int := Lib.compareInt a.toNat b.toNat
theorem cmpS_lex_aux : ∀ (x y : List UInt8), (if Op.bytesLess x y = true then -1 else if (x == y) = true then 0 else 1) = lex cmpByte x y
  | [], [] => by simp [Op.bytesLess, lex]
  | [], _ :: _ => by simp [Op.bytesLess, lex]
  | _ :: _, [] => by simp [Op.bytesLess, lex]
  | a :: x, b :: y => by
    have ih := cmpS_lex_aux x y
    simp only [lex, Op.bytesLess]
    by_cases h1 : a < b
    · have h1' : a.toNat < b.toNat := by simpa [UInt8.lt_iff_toNat_lt] using h1
      have hc : cmpByte a b = -1 := by unfold cmpByte Lib.compareInt; rw [if_pos (by omega)]
      simp [h1, hc]
    · have h1' : ¬ a.toNat < b.toNat := by simpa [UInt8.lt_iff_toNat_lt] using h1
      by_cases h2 : a = b
      · subst h2
        have hc : cmpByte a a = 0 := by unfold cmpByte Lib.compareInt; rw [if_neg (by omega), if_neg (by omega)]
        simp only [h1, decide_false, Bool.false_or, beq_self_eq_true, Bool.true_and, hc, ne_eq, not_true, if_false, List.cons_beq_cons]
        exact ih
      · have h3 : a.toNat ≠ b.toNat := fun e => h2 (UInt8.toNat_inj.1 e)
        have hc : cmpByte a b = 1 := by unfold cmpByte Lib.compareInt; rw [if_neg (by omega), if_pos (by omega)]
        simp [h1, h2, hc]
theorem cmpS_lex (a b : ByteArray) : cmpS a b = lex cmpByte a.toList b.toList := cmpS_lex_aux _ _
theorem ord_bytes (a b c : ByteArray) : Ord3 cmpS a b c := by
  have h := ord_lex cmpByte a.toList (fun x _ y z => by
    have := ord_int x.toNat y.toNat z.toNat
    exact ⟨this.rng, this.sym, this.eqv, this.lt, this.gt⟩) b.toList c.toList
  constructor <;> simp only [cmpS_lex]
  · exact h.rng
  · exact h.sym
  · exact h.eqv
  · exact h.lt
  · exact h.gt

theorem cmpL_lex : ∀ (l m : List V), cmpL l m = lex cmpV l m
  | [], [] => by simp [cmpL, lex]
  | [], _ :: _ => by simp [cmpL, lex]
  | _ :: _, [] => by simp [cmpL, lex]
  | x :: l, y :: m => by simp only [cmpL, lex]; rw [cmpL_lex l m]

theorem cmpV_mk (k n : Int) (s : ByteArray) (l : List V) (k' n' : Int) (s' : ByteArray) (l' : List V) : cmpV (.mk k n s l) (.mk k' n' s' l') =
    if Lib.compareInt k k' ≠ 0 then Lib.compareInt k k' else if k = 1 then Lib.compareInt n n' else if k = 2 ∨ k = 3 then cmpS s s' else if k = 4 then lex cmpV l l' else 0 := by
  rw [cmpV, cmpL_lex]
  by_cases e : k = k'
  · subst e; simp [Lib.compareInt]
  · have : Lib.compareInt k k' ≠ 0 := by unfold Lib.compareInt; (repeat' split) <;> omega
    rw [if_pos e, if_pos this]

theorem ord_value (a b c : V) : Ord3 cmpV a b c := by
  match a, b, c with
  | .mk k n s l, .mk k2 n2 s2 l2, .mk k3 n3 s3 l3 =>
  have hl := ord_lex cmpV l (fun x hx y z => ord_value x y z) l2 l3
  have hi := ord_int n n2 n3
  have hs := ord_bytes s s2 s3
  have hk := ord_int k k2 k3
  by_cases e : k = k2
  · subst e
    have h0 : Lib.compareInt k k = 0 := by simp [Lib.compareInt]
    by_cases e3 : k = k3
    · subst e3
      by_cases f1 : k = 1
      · have E : ∀ n s l n' s' l', cmpV (.mk k n s l) (.mk k n' s' l') = Lib.compareInt n n' := fun n s l n' s' l' => by rw [cmpV_mk, if_neg (by omega), if_pos f1]
        constructor <;> simp only [E]
        · exact hi.rng
        · exact hi.sym
        · exact hi.eqv
        · exact hi.lt
        · exact hi.gt
      by_cases f2 : k = 2 ∨ k = 3
      · have E : ∀ n s l n' s' l', cmpV (.mk k n s l) (.mk k n' s' l') = cmpS s s' := fun n s l n' s' l' => by rw [cmpV_mk, if_neg (by omega), if_neg f1, if_pos f2]
        constructor <;> simp only [E]
        · exact hs.rng
        · exact hs.sym
        · exact hs.eqv
        · exact hs.lt
        · exact hs.gt
      by_cases f4 : k = 4
      · have E : ∀ n s l n' s' l', cmpV (.mk k n s l) (.mk k n' s' l') = lex cmpV l l' := fun n s l n' s' l' => by rw [cmpV_mk, if_neg (by omega), if_neg f1, if_neg f2, if_pos f4]
        constructor <;> simp only [E]
        · exact hl.rng
        · exact hl.sym
        · exact hl.eqv
        · exact hl.lt
        · exact hl.gt
      · have E : ∀ n s l n' s' l', cmpV (.mk k n s l) (.mk k n' s' l') = 0 := fun n s l n' s' l' => by rw [cmpV_mk, if_neg (by omega), if_neg f1, if_neg f2, if_neg f4]
        constructor <;> simp only [E] <;> simp
    · have h3 : Lib.compareInt k k3 ≠ 0 := by unfold Lib.compareInt; (repeat' split) <;> omega
      have r0 : cmpV (.mk k n s l) (.mk k n2 s2 l2) = -1 ∨ cmpV (.mk k n s l) (.mk k n2 s2 l2) = 0 ∨ cmpV (.mk k n s l) (.mk k n2 s2 l2) = 1 := by
        simp only [cmpV_mk, h0, ne_eq, not_true, if_false]
        (repeat' split) <;> first | exact hi.rng | exact hs.rng | exact hl.rng | simp
      refine ⟨r0, ?_, ?_, ?_, ?_⟩
      · simp only [cmpV_mk, h0, ne_eq, not_true, if_false]
        (repeat' split) <;> first | exact hi.sym | exact hs.sym | exact hl.sym | simp
      · intro _; simp only [cmpV_mk, h3, ne_eq, not_false_iff, if_true]
      · intro _ h; rw [cmpV_mk, if_pos h3] at h ⊢; omega
      · intro _ h; rw [cmpV_mk, if_pos h3] at h ⊢; omega
  · have h2 : Lib.compareInt k k2 ≠ 0 := by unfold Lib.compareInt; (repeat' split) <;> omega
    have h2' : Lib.compareInt k2 k ≠ 0 := by rw [hk.sym]; omega
    refine ⟨by rw [cmpV_mk, if_pos h2]; exact hk.rng, by rw [cmpV_mk, if_pos h2', cmpV_mk, if_pos h2]; exact hk.sym, ?_, ?_, ?_⟩
    · intro h; rw [cmpV_mk, if_pos h2] at h; exact absurd h h2
    · intro h h'
      rw [cmpV_mk, if_pos h2] at h
      by_cases e3 : k2 = k3
      · subst e3; rw [cmpV_mk, if_pos h2]; exact h
      · have h3 : Lib.compareInt k2 k3 ≠ 0 := by unfold Lib.compareInt; (repeat' split) <;> omega
        rw [cmpV_mk, if_pos h3] at h'
        have := hk.lt h h'
        rw [cmpV_mk, if_pos (by omega)]; exact this
    · intro h h'
      rw [cmpV_mk, if_pos h2] at h
      by_cases e3 : k2 = k3
      · subst e3; rw [cmpV_mk, if_pos h2]; exact h
      · have h3 : Lib.compareInt k2 k3 ≠ 0 := by unfold Lib.compareInt; (repeat' split) <;> omega
        rw [cmpV_mk, if_pos h3] at h'
        have := hk.gt h h'
        rw [cmpV_mk, if_pos (by omega)]; exact this
  termination_by SizeOf.sizeOf a
  decreasing_by
    have := List.sizeOf_lt_of_mem hx
    simp only [V.mk.sizeOf_spec]
    omega

end Go.Proofs.YtaomlkglodeaoaaDoor
