/-
  The document's own 'shown': a right term's text.
-/
import Derived.Test.YtgjemmdhamkngaaGreatDoorW10
import Derived.Deep.RegionHeld3
import Derived.WalkKit
import Derived.WalkSpells
import Derived.Lib.FrozenHead2
import Derived.Lib.OthersKept
namespace Go.Proofs.YtgjemmdhamkngaaGreatDoor
open Go.RowKit

theorem strAdd (a b : ByteArray) (h : a.size + b.size ≤ 140737488355328) : Op.stringOp .add a b = pure (.string (a ++ b)) := by
  simp only [Op.stringOp]
  rw [if_neg (by rw [show IntKind.i64.max = 9223372036854775807 from by decide]; omega)]
theorem sepL_mem_le (sep : List UInt8) : ∀ (l : List (List UInt8)) (x : List UInt8), x ∈ l → x.length ≤ (sepL sep l).length
  | [], x, h => by cases h
  | y :: l, x, h => by
    rw [sepL, List.length_append]
    rcases List.mem_cons.1 h with rfl | h
    · omega
    · have key : ∀ m : List (List UInt8), x ∈ m → x.length ≤ ((m.map fun y => sep ++ y).flatten).length := by
        intro m
        induction m with
        | nil => intro h; cases h
        | cons z m ih =>
          intro h
          simp only [List.map_cons, List.flatten_cons, List.length_append]
          rcases List.mem_cons.1 h with rfl | h
          · omega
          · have := ih h; omega
      have := key l h
      omega
theorem showB_list (l : List Tm) : ((l.map showB).map fun x => x.data.toList) = l.map showM := by
  rw [List.map_map]; apply List.map_congr_left; intro t _; simp [showB]
theorem joinedTm_any (l : List Tm) (s J : ByteArray) (v : Value) (b : Nat) (w : World) (h : OwnS w b v (l.map showB)) (hl : l.length ≤ 100) (hlen : (sepL s.data.toList (l.map showM)).length ≤ 140737488355328) (hJ : (⟨(sepL s.data.toList (l.map showM)).toArray⟩ : ByteArray) = J) :
    Calls Tryz.prog 44 #[v, .string s] w fun e w' => e = .returned (.string J) ∧ w = w' := by
  have h1 := joined_any (l.map showB) s v w h.rows (by rw [List.length_map]; exact hl) (by rw [showB_list]; exact hlen)
  rw [showB_list, hJ] at h1
  exact h1

set_option maxRecDepth 100000 in
set_option maxHeartbeats 8000000 in
theorem shown_of (t : Tm) (hP : ∀ y ∈ t.args, ShownAt y) : ShownAt t := by
  intro d0 S w c0 c1 c2 c3 c4 c5 c6 hS ht hr hle
  obtain ⟨d, rfl⟩ : ∃ d, d0 = d + 1 := by
    cases d0 with
    | zero => rw [rightM_zero] at hr; cases hr
    | succ d => exact ⟨d, rfl⟩
  have HP := Lib.hid hP; clear hP
  have HV := Lib.hid ht.value; have HL := Lib.hid ht.lst
  have HF0 : Hid (rightM (d + 1) t = if t.kind = 1 then varB t.name && (noneB t.val && t.args.isEmpty)
    else if t.kind = 2 then t.name.toList.isEmpty && (valB t.val && t.args.isEmpty)
    else if t.kind = 3 then noneB t.val && listB (fnArity (fnOf t.name)) (fnArity (fnOf t.name)) (rightM d) t.args
    else if t.kind = 4 then opB t.name && (noneB t.val && listB 2 2 (rightM d) t.args)
    else false) := by cases t; exact rightM_succ _ _ _ _ _
  have HSH : Hid (showM t = if t.kind = 1 then t.name.data.toList
    else if t.kind = 2 then printB t.val
    else if t.kind = 3 then t.name.data.toList ++ (40 :: (sepL [44] (t.args.map showM) ++ [41]))
    else if t.kind = 4 then 40 :: (sepL t.name.data.toList (t.args.map showM) ++ [41])
    else []) := by
    cases t
    exact showM_mk _ _ _ _
  obtain ⟨fa, fc, ga, gc, rfl, rfl, rfl, rfl, rfl, rfl, rfl⟩ := ht.form
  clear ht
  rw [HF0.out] at hr
  by_cases e1 : t.kind = 1
  · have HF : Hid (showB t = t.name) := by show _ = _; rw [showB, HSH.out, if_pos e1]
    have k1 : (t.kind == 1) = true := by simp [e1]
    clear hr e1 hle
    go_enter Tryz.func56, Tryz.ntmps56
    go_wp2_with fail
    have x1 := boxM_new w (.int .i64 t.kind) (.string t.name) (.int .i64 t.val.kind) (.int .i64 t.val.num) (.string t.val.text) (.slice fa t.val.list.length fc) (.slice ga t.args.length gc)
    have b1 := below_alloc w (.cells #[.int .i64 t.kind, .string t.name, .int .i64 t.val.kind, .int .i64 t.val.num, .string t.val.text, .slice fa t.val.list.length fc, .slice ga t.args.length gc] 46)
    generalize w.alloc (.cells #[.int .i64 t.kind, .string t.name, .int .i64 t.val.kind, .int .i64 t.val.num, .string t.val.text, .slice fa t.val.list.length fc, .slice ga t.args.length gc] 46) = w1 at *
    have X1 := Lib.hid x1; have B1 := Lib.hid b1
    clear x1 b1
    obtain ⟨p0, p1, p2, p3, p4, p5, p6⟩ := X1.out.cells
    go_ret
    exact ⟨ret_ba HF.out.symm, B1.out⟩
  have k1 : (t.kind == 1) = false := by simp [e1]
  rw [if_neg e1] at hr
  by_cases e2 : t.kind = 2
  · have HF : Hid (showB t = ⟨(printB t.val).toArray⟩) := by show _ = _; rw [showB, HSH.out, if_neg e1, if_pos e2]
    have k2 : (t.kind == 2) = true := by simp [e2]
    clear hr e1 e2 hle
    go_enter Tryz.func56, Tryz.ntmps56
    go_wp2_with fail
    have x1 := boxM_new w (.int .i64 t.kind) (.string t.name) (.int .i64 t.val.kind) (.int .i64 t.val.num) (.string t.val.text) (.slice fa t.val.list.length fc) (.slice ga t.args.length gc)
    have b1 := below_alloc w (.cells #[.int .i64 t.kind, .string t.name, .int .i64 t.val.kind, .int .i64 t.val.num, .string t.val.text, .slice fa t.val.list.length fc, .slice ga t.args.length gc] 46)
    generalize w.alloc (.cells #[.int .i64 t.kind, .string t.name, .int .i64 t.val.kind, .int .i64 t.val.num, .string t.val.text, .slice fa t.val.list.length fc, .slice ga t.args.length gc] 46) = w1 at *
    have X1 := Lib.hid x1; have B1 := Lib.hid b1
    clear x1 b1
    obtain ⟨p0, p1, p2, p3, p4, p5, p6⟩ := X1.out.cells
    refine (refPrint_any t.val w1.heap.size w1 _ _ _ _ (Nat.le_refl _) (RepG.on (fun k hk => Nat.lt_of_lt_of_le (hS k hk) B1.out.size) (fun k hk => B1.out.block k (hS k hk)) t.val HV.out)).mono ?_
    rintro e w2 ⟨rfl, hb⟩
    have B2 := Lib.hid (Below.step B1.out hb)
    clear hb
    go_wp2_with fail
    go_ret
    exact ⟨ret_ba HF.out.symm, B2.out⟩
  have k2 : (t.kind == 2) = false := by simp [e2]
  rw [if_neg e2] at hr
  by_cases e3 : t.kind = 3
  · have k3 : (t.kind == 3) = true := by simp [e3]
    have hsh : showM t = t.name.data.toList ++ (40 :: (sepL [44] (t.args.map showM) ++ [41])) := by rw [HSH.out, if_neg e1, if_neg e2, if_pos e3]
    rw [if_pos e3, Bool.and_eq_true] at hr
    obtain ⟨g1, g2, g3⟩ := listB_bounds hr.2
    have har := fnArity_range (fnOf t.name)
    have hn : t.args.length ≤ 100 := by omega
    have HRA := Lib.hid g3
    have hsl := hle
    rw [hsh] at hsl
    simp only [List.length_append, List.length_cons, List.length_nil] at hsl
    have HSA : Hid (∀ y ∈ t.args, (showM y).length ≤ 140737488355328) := by
      show ∀ _, _
      intro y hy
      have := sepL_mem_le [44] (t.args.map showM) (showM y) (List.mem_map_of_mem hy)
      omega
    have HJL : Hid ((sepL (⟨#[44]⟩ : ByteArray).data.toList (t.args.map showM)).length ≤ 140737488355328) := by show (sepL [44] _).length ≤ _; omega
    obtain ⟨J, hJ⟩ : ∃ J : ByteArray, (⟨(sepL (⟨#[44]⟩ : ByteArray).data.toList (t.args.map showM)).toArray⟩ : ByteArray) = J := ⟨_, rfl⟩
    have HJ := Lib.hid hJ
    have hz1 : t.name.data.toList.length = t.name.size := by rw [Array.length_toList]; rfl
    have hz2 : (sepL [44] (t.args.map showM)).length = J.size := by rw [← hJ, size_mk]
    have hsum : t.name.size + J.size + 2 ≤ 140737488355328 := by omega
    have HF : Hid (showB t = t.name ++ ⟨#[40]⟩ ++ J ++ ⟨#[41]⟩) := by
      show _ = _
      rw [showB, hsh, ← hJ]
      apply ByteArray.ext
      simp only [ByteArray.data_append]
      simp
    have z1 := strAdd t.name ⟨#[40]⟩ (by show t.name.size + 1 ≤ _; omega)
    have z2 := strAdd (t.name ++ ⟨#[40]⟩) J (by rw [ByteArray.size_append]; show t.name.size + 1 + J.size ≤ _; omega)
    have z3 := strAdd (t.name ++ ⟨#[40]⟩ ++ J) ⟨#[41]⟩ (by rw [ByteArray.size_append, ByteArray.size_append]; show t.name.size + 1 + J.size + 1 ≤ _; omega)
    clear hr g1 g2 g3 har hsl hsh hz1 hz2 hJ e1 e2 e3 hle
    go_enter Tryz.func56, Tryz.ntmps56
    go_wp2_with fail
    have x1 := boxM_new w (.int .i64 t.kind) (.string t.name) (.int .i64 t.val.kind) (.int .i64 t.val.num) (.string t.val.text) (.slice fa t.val.list.length fc) (.slice ga t.args.length gc)
    have b1 := below_alloc w (.cells #[.int .i64 t.kind, .string t.name, .int .i64 t.val.kind, .int .i64 t.val.num, .string t.val.text, .slice fa t.val.list.length fc, .slice ga t.args.length gc] 46)
    generalize w.alloc (.cells #[.int .i64 t.kind, .string t.name, .int .i64 t.val.kind, .int .i64 t.val.num, .string t.val.text, .slice fa t.val.list.length fc, .slice ga t.args.length gc] 46) = w1 at *
    have X1 := Lib.hid x1; have B1 := Lib.hid b1
    clear x1 b1
    obtain ⟨p0, p1, p2, p3, p4, p5, p6⟩ := X1.out.cells
    generalize w.heap.size = bt at X1 ⊢
    have HK := Lib.hid (Below.drew (Below.refl w1.heap.size w1))
    go_region_held3 (fun w' => w'.cell? ⟨bt, 0, none⟩ = some (.int .i64 t.kind) ∧ w'.cell? ⟨bt, 1, none⟩ = some (.string t.name) ∧ w'.cell? ⟨bt, 2, none⟩ = some (.int .i64 t.val.kind) ∧ w'.cell? ⟨bt, 3, none⟩ = some (.int .i64 t.val.num) ∧ w'.cell? ⟨bt, 4, none⟩ = some (.string t.val.text) ∧ w'.cell? ⟨bt, 5, none⟩ = some (.slice fa t.val.list.length fc) ∧ w'.cell? ⟨bt, 6, none⟩ = some (.slice ga t.args.length gc))
      (first | exact ⟨(X1.out.on HK.out).cells.1, (X1.out.on HK.out).cells.2.1, (X1.out.on HK.out).cells.2.2.1, (X1.out.on HK.out).cells.2.2.2.1, (X1.out.on HK.out).cells.2.2.2.2.1, (X1.out.on HK.out).cells.2.2.2.2.2.1, (X1.out.on HK.out).cells.2.2.2.2.2.2⟩ | exact ⟨(X1.out.on HBP.out).cells.1, (X1.out.on HBP.out).cells.2.1, (X1.out.on HBP.out).cells.2.2.1, (X1.out.on HBP.out).cells.2.2.2.1, (X1.out.on HBP.out).cells.2.2.2.2.1, (X1.out.on HBP.out).cells.2.2.2.2.2.1, (X1.out.on HBP.out).cells.2.2.2.2.2.2⟩)
      (first
        | (go_at_call 47; refine (printed_any t.args HP.out d S _ _ (fun k hk => Nat.lt_of_lt_of_le (hS k hk) (Nat.le_trans B1.out.size HK.out.size)) (RepMs.on (fun _ h => h) (fun k hk => (Below.step B1.out HK.out).block k (hS k hk)) HL.out) HRA.out HSA.out (by omega)).mono ?_; rintro e wp ⟨v, rfl, hov, hbp⟩; have OV := Lib.hid hov; have HBP := Lib.hid (Below.step HK.out hbp); clear hov hbp)
        | (go_at_call 44; refine (joinedTm_any t.args ⟨#[44]⟩ J _ _ _ OV.out (by omega) HJL.out HJ.out).mono ?_; rintro e w' ⟨rfl, rfl⟩))
    go_wp2_with fail
    go_ret
    exact ⟨ret_ba HF.out.symm, Below.step B1.out HBP.out⟩
  have k3 : (t.kind == 3) = false := by simp [e3]
  rw [if_neg e3] at hr
  by_cases e4 : t.kind = 4
  case neg => rw [if_neg e4] at hr; cases hr
  have hsh : showM t = 40 :: (sepL t.name.data.toList (t.args.map showM) ++ [41]) := by rw [HSH.out, if_neg e1, if_neg e2, if_neg e3, if_pos e4]
  rw [if_pos e4, Bool.and_eq_true, Bool.and_eq_true] at hr
  obtain ⟨g1, g2, g3⟩ := listB_bounds hr.2.2
  have hn : t.args.length ≤ 100 := by omega
  have HRA := Lib.hid g3
  have hsl := hle
  rw [hsh] at hsl
  simp only [List.length_append, List.length_cons, List.length_nil] at hsl
  have HSA : Hid (∀ y ∈ t.args, (showM y).length ≤ 140737488355328) := by
    show ∀ _, _
    intro y hy
    have := sepL_mem_le t.name.data.toList (t.args.map showM) (showM y) (List.mem_map_of_mem hy)
    omega
  have HJL : Hid ((sepL t.name.data.toList (t.args.map showM)).length ≤ 140737488355328) := by show _ ≤ _; omega
  obtain ⟨J, hJ⟩ : ∃ J : ByteArray, (⟨(sepL t.name.data.toList (t.args.map showM)).toArray⟩ : ByteArray) = J := ⟨_, rfl⟩
  have HJ := Lib.hid hJ
  have hz2 : (sepL t.name.data.toList (t.args.map showM)).length = J.size := by rw [← hJ, size_mk]
  have hsum : J.size + 2 ≤ 140737488355328 := by omega
  have HF : Hid (showB t = ⟨#[40]⟩ ++ J ++ ⟨#[41]⟩) := by
    show _ = _
    rw [showB, hsh, ← hJ]
    apply ByteArray.ext
    simp only [ByteArray.data_append]
    simp
  have z1 := strAdd ⟨#[40]⟩ J (by show 1 + J.size ≤ _; omega)
  have z2 := strAdd (⟨#[40]⟩ ++ J) ⟨#[41]⟩ (by rw [ByteArray.size_append]; show 1 + J.size + 1 ≤ _; omega)
  clear hr g1 g2 g3 hsl hsh hz2 hJ e1 e2 e3 e4 hle
  go_enter Tryz.func56, Tryz.ntmps56
  go_wp2_with fail
  have x1 := boxM_new w (.int .i64 t.kind) (.string t.name) (.int .i64 t.val.kind) (.int .i64 t.val.num) (.string t.val.text) (.slice fa t.val.list.length fc) (.slice ga t.args.length gc)
  have b1 := below_alloc w (.cells #[.int .i64 t.kind, .string t.name, .int .i64 t.val.kind, .int .i64 t.val.num, .string t.val.text, .slice fa t.val.list.length fc, .slice ga t.args.length gc] 46)
  generalize w.alloc (.cells #[.int .i64 t.kind, .string t.name, .int .i64 t.val.kind, .int .i64 t.val.num, .string t.val.text, .slice fa t.val.list.length fc, .slice ga t.args.length gc] 46) = w1 at *
  have X1 := Lib.hid x1; have B1 := Lib.hid b1
  clear x1 b1
  obtain ⟨p0, p1, p2, p3, p4, p5, p6⟩ := X1.out.cells
  generalize w.heap.size = bt at X1 ⊢
  have HK := Lib.hid (Below.drew (Below.refl w1.heap.size w1))
  go_region_held3 (fun w' => w'.cell? ⟨bt, 0, none⟩ = some (.int .i64 t.kind) ∧ w'.cell? ⟨bt, 1, none⟩ = some (.string t.name) ∧ w'.cell? ⟨bt, 2, none⟩ = some (.int .i64 t.val.kind) ∧ w'.cell? ⟨bt, 3, none⟩ = some (.int .i64 t.val.num) ∧ w'.cell? ⟨bt, 4, none⟩ = some (.string t.val.text) ∧ w'.cell? ⟨bt, 5, none⟩ = some (.slice fa t.val.list.length fc) ∧ w'.cell? ⟨bt, 6, none⟩ = some (.slice ga t.args.length gc))
    (first | exact ⟨(X1.out.on HK.out).cells.1, (X1.out.on HK.out).cells.2.1, (X1.out.on HK.out).cells.2.2.1, (X1.out.on HK.out).cells.2.2.2.1, (X1.out.on HK.out).cells.2.2.2.2.1, (X1.out.on HK.out).cells.2.2.2.2.2.1, (X1.out.on HK.out).cells.2.2.2.2.2.2⟩ | exact ⟨(X1.out.on HBP.out).cells.1, (X1.out.on HBP.out).cells.2.1, (X1.out.on HBP.out).cells.2.2.1, (X1.out.on HBP.out).cells.2.2.2.1, (X1.out.on HBP.out).cells.2.2.2.2.1, (X1.out.on HBP.out).cells.2.2.2.2.2.1, (X1.out.on HBP.out).cells.2.2.2.2.2.2⟩)
    (first
      | (go_at_call 47; refine (printed_any t.args HP.out d S _ _ (fun k hk => Nat.lt_of_lt_of_le (hS k hk) (Nat.le_trans B1.out.size HK.out.size)) (RepMs.on (fun _ h => h) (fun k hk => (Below.step B1.out HK.out).block k (hS k hk)) HL.out) HRA.out HSA.out (by omega)).mono ?_; rintro e wp ⟨v, rfl, hov, hbp⟩; have OV := Lib.hid hov; have HBP := Lib.hid (Below.step HK.out hbp); clear hov hbp)
      | (go_at_call 44; refine (joinedTm_any t.args t.name J _ _ _ OV.out (by omega) HJL.out HJ.out).mono ?_; rintro e w' ⟨rfl, rfl⟩))
  go_wp2_with fail
  go_ret
  exact ⟨ret_ba HF.out.symm, Below.step B1.out HBP.out⟩

theorem shown_any (t : Tm) : ShownAt t := by
  cases t with
  | mk k s x l => exact shown_of (.mk k s x l) (fun y hy => shown_any y)
  termination_by SizeOf.sizeOf t
  decreasing_by
    have := List.sizeOf_lt_of_mem (show y ∈ l from hy)
    simp only [Tm.mk.sizeOf_spec]
    omega

end Go.Proofs.YtgjemmdhamkngaaGreatDoor

/-
  The two writers and the reader of strings.Builder, embedded in printer's writer, over this program (its copyCheck is cut short by the loader, so the shelf's own contracts are not laid): what is held grows by what is written; what lay below, and every block that is no row of bytes, stands.
-/
namespace Go.Proofs.YtgjemmdhamkngaaGreatDoor.pw
open Go.RowKit

theorem infoBuilder : (Tryz.prog.info? 106).map (fun i => i.size) = some 2 := by kernel_rfl
theorem infoByte : (Tryz.prog.info? 5).map (fun i => (i.zero, i.size, i.bytes)) = some (some (.int .u8 0), 1, 1) := by kernel_rfl

set_option maxHeartbeats 1000000 in
set_option maxRecDepth 100000 in
theorem copyCheck_used (b : Nat) (w : World) (h0 : w.cell? ⟨b, 0, none⟩ = some (.pointer (some ⟨b, 0, none⟩))) :
    Calls Tryz.prog 108 #[.pointer (some ⟨b, 0, none⟩)] w fun e w' => e = .returned (.tuple #[]) ∧ w = w' := by
  obtain ⟨j, hj, _⟩ := Option.map_eq_some_iff.1 infoBuilder
  go_enter Tryz.func108, Tryz.ntmps108
  go_wp2
  rw [Lib.run_neq_ptr_same w _ Tryz.underlying103 hj]
  go_wp2
  go_end0
  exact ⟨rfl, rfl⟩

set_option maxHeartbeats 1000000 in
set_option maxRecDepth 100000 in
theorem copyCheck_fresh (b : Nat) (w : World) (h0 : w.cell? ⟨b, 0, none⟩ = some (.pointer none)) (hsh : w.shape? b = some (108, 2)) (hfz : w.frozen? ⟨b, 0, none⟩ = false) :
    Calls Tryz.prog 108 #[.pointer (some ⟨b, 0, none⟩)] w fun e w' => e = .returned (.tuple #[]) ∧ w' = w.setCell ⟨b, 0, none⟩ (.pointer (some ⟨b, 0, none⟩)) := by
  obtain ⟨j, hj, hjs⟩ := Option.map_eq_some_iff.1 infoBuilder
  go_enter Tryz.func108, Tryz.ntmps108
  go_wp2
  rw [Lib.run_to_unsafe w ⟨b, 0, none⟩ Tryz.underlying103 Tryz.underlying133 hj (by rw [hjs]; decide) hsh (Nat.zero_lt_succ 1)]
  simp only [Result.andThen]
  rw [Oper.upon_value]
  go_wp2
  rw [run_callFunc_extern Tryz.func125 (by kernel_rfl) (by kernel_rfl) (by kernel_rfl) (e := Extern.AbiNoEscape.same) (by kernel_rfl), Lib.run_noEscape]
  simp only [Result.andThen]
  rw [Oper.upon_value]
  go_wp2
  rw [Lib.run_from_unsafe w ⟨b, 0, none⟩ Tryz.underlying133 Tryz.underlying103 hj hsh (by kernel_rfl)]
  simp only [Result.andThen]
  rw [Oper.upon_value]
  go_wp2
  go_end0
  exact ⟨rfl, rfl⟩

/-- The builder b (base B) holds 'bs', its own address laid; what lay below B and every other block that is no row of bytes stands. -/
def Wrote' (B b : Nat) (bs : List Value) (w w' : World) : Prop :=
  Lib.BuilderAtF 108 5 B b (.pointer (some ⟨b, 0, none⟩)) bs w' ∧ Below B w w' ∧ Lib.OthersKept 5 (some b) w w'

theorem copyCheck_any (B b : Nat) (bs : List Value) (w : World) (h : Lib.IsBuilderF 108 5 B b bs w) :
    Calls Tryz.prog 108 #[.pointer (some ⟨b, 0, none⟩)] w fun e w' => e = .returned (.tuple #[]) ∧ Wrote' B b bs w w' := by
  rcases h with h | h
  · exact (copyCheck_fresh b w h.cell0 h.shape h.frozen0).mono fun e w' ⟨he, hw⟩ => ⟨he, hw ▸ ⟨h.used _, (Below.refl B w).setCell (p := ⟨b, 0, none⟩) h.1 _, (Lib.OthersKept.refl _ _ w).setCell ⟨b, 0, none⟩ rfl _⟩⟩
  · exact (copyCheck_used b w h.cell0).mono fun e w' ⟨he, hw⟩ => ⟨he, hw ▸ ⟨h, Below.refl B _, Lib.OthersKept.refl _ _ _⟩⟩

/-- What both writers do behind copyCheck: the buffer has grown from v to v', the new one is stored. -/
theorem wrote_of {B b : Nat} {bs news : List Value} {v v' : Value} {w w1 w1' w2 : World} (hB : B ≤ b) (hBw : B ≤ w1.heap.size) (hbk : w1.heap[b]? = some (.cells #[.pointer (some ⟨b, 0, none⟩), v] 108 (0, 0)))
    (hown : w1'.ownsRowF B 5 1 v bs.length bs) (hne : v.ownBlock ≠ some b) (h1 : Below B w w1) (k1 : Lib.OthersKept 5 (some b) w w1) (hst : Below w1.heap.size w1 w1')
    (hown' : w2.ownsRowF B 5 1 v' (bs.length + news.length) (bs ++ news)) (hg : w1'.grownBy w2 v.ownBlock) :
    w2.heap[b]? = some (.cells #[.pointer (some ⟨b, 0, none⟩), v] 108 (0, 0)) ∧ Wrote' B b (bs ++ news) w (w2.setCell ⟨b, 1, none⟩ v') := by
  have hlt : b < w1.heap.size := (Array.getElem?_eq_some_iff.1 hbk).1
  have hs := hst.size
  have hb2 : w2.heap[b]? = some (.cells #[.pointer (some ⟨b, 0, none⟩), v] 108 (0, 0)) := by
    rw [hg.block b (by omega) (fun e => hne e.symm), hst.block b hlt]; exact hbk
  have kk : Lib.OthersKept 5 (some b) w w1' := fun k o hk hkb ho => by
    have := k1 k o hk hkb ho
    rw [hst.block k (Array.getElem?_eq_some_iff.1 this).1]; exact this
  refine ⟨hb2, Lib.BuilderAtF.put hB hb2 (bs' := bs ++ news) (by simpa using hown') (by decide), ?_, (kk.grown hg (Lib.ownsRowF_kind hown)).setCell ⟨b, 1, none⟩ rfl _⟩
  exact (((h1.trans (hst.mono hBw))).grown hg (by omega) (fun k hk => (hown.lt k hk).1)).setCell (p := ⟨b, 1, none⟩) hB _

set_option maxHeartbeats 2000000 in
set_option maxRecDepth 100000 in
theorem writeByte_any (B b : Nat) (bs : List Value) (c : Int) (w : World) (h : Lib.IsBuilderF 108 5 B b bs w) (hlen : bs.length + 1 ≤ 140737488355328) (hBw : B ≤ w.heap.size) :
    Calls Tryz.prog 86 #[.pointer (some ⟨b, 0, none⟩), .int .u8 c] w fun e w' => e = .returned .nilIface ∧ Wrote' B b (bs ++ [.int .u8 c]) w w' := by
  obtain ⟨i0, hi, hz0, hz1, hz2⟩ := info_parts infoByte
  go_enter Tryz.func86, Tryz.ntmps86
  go_wp2_with fail
  refine (copyCheck_any B b bs _ h).mono ?_
  rintro e w1 ⟨rfl, ⟨hB, v, hbk, hown, hne⟩, hb1, hk1⟩
  have hsz := hb1.size
  have c0 : w1.cell? ⟨b, 0, none⟩ = some (.pointer (some ⟨b, 0, none⟩)) := by rw [Lib.cell_of_heap hbk]; rfl
  have c1 : w1.cell? ⟨b, 1, none⟩ = some v := by rw [Lib.cell_of_heap hbk]; rfl
  go_wp2_with (at_builtin; refine wpList_append_ownF _ rfl _ _ 104 rfl B 5 i0 (.int .u8 0) 1 1 Tryz.underlying104 hi hz0 hz1 hz2 rfl (by decide) _ _ _ rfl (hown.alloc _) ⟨w1.heap.size, 0, none⟩ 1 1 [.int .u8 c] rfl rfl ?c1 ?c2 ?c3 ?c4 ?c5 ?_)
  case c1 =>
    intro j u hj
    match j, hj with
    | 0, hj => simp at hj; subst hj; simp [Addr.add]
  case c2 => intro u hu; simp at hu; subst hu; rfl
  case c3 => unfold maxLen; omega
  case c4 => omega
  case c5 => simp; omega
  intro v' w2 hown' hgrow _
  obtain ⟨hb2, hfin⟩ := wrote_of (news := [.int .u8 c]) hB (by omega) hbk (hown.alloc _) hne hb1 hk1 ((Below.refl _ w1).alloc (Nat.le_refl _) _) hown' hgrow
  have d1 : w2.cell? ⟨b, 1, none⟩ = some v := by rw [Lib.cell_of_heap hb2]; rfl
  have d0 : w2.cell? ⟨b, 0, none⟩ = some (.pointer (some ⟨b, 0, none⟩)) := by rw [Lib.cell_of_heap hb2]; rfl
  have f1 : w2.frozen? ⟨b, 1, none⟩ = false := Lib.frozen_of_heap hb2 1
  obtain ⟨g, n', cap, rfl⟩ : ∃ g n' cap, v' = .slice g n' cap := by
    rcases hown'.2 with ⟨hv, _⟩ | ⟨g, cap, cur, fz, hv, _⟩
    · exact ⟨_, _, _, hv⟩
    · exact ⟨_, _, _, hv⟩
  have HF := Lib.hid hfin; clear hfin
  go_wp2
  go_ret
  exact ⟨rfl, HF.out⟩

set_option maxHeartbeats 2000000 in
set_option maxRecDepth 100000 in
theorem writeString_any (B b : Nat) (bs : List Value) (s : ByteArray) (w : World) (h : Lib.IsBuilderF 108 5 B b bs w) (hlen : bs.length + s.size ≤ 140737488355328) (hBw : B ≤ w.heap.size) :
    Calls Tryz.prog 84 #[.pointer (some ⟨b, 0, none⟩), .string s] w fun e w' => e = .returned (.tuple #[.int .i64 s.size, .nilIface]) ∧ Wrote' B b (bs ++ Lib.strCells s) w w' := by
  obtain ⟨i0, hi, hz0, hz1, hz2⟩ := info_parts infoByte
  go_enter Tryz.func84, Tryz.ntmps84
  go_wp2_with fail
  refine (copyCheck_any B b bs _ h).mono ?_
  rintro e w1 ⟨rfl, ⟨hB, v, hbk, hown, hne⟩, hb1, hk1⟩
  have hsz := hb1.size
  have c0 : w1.cell? ⟨b, 0, none⟩ = some (.pointer (some ⟨b, 0, none⟩)) := by rw [Lib.cell_of_heap hbk]; rfl
  have c1 : w1.cell? ⟨b, 1, none⟩ = some v := by rw [Lib.cell_of_heap hbk]; rfl
  go_wp2_with (at_builtin; refine Lib.wpList_append_own_stringF _ rfl _ _ 104 9 rfl B 5 i0 Tryz.underlying104 Tryz.underlying9 hi hz0 hz1 hz2 _ _ _ rfl hown s rfl ?c3 ?c4 ?c5 ?_)
  case c3 => unfold maxLen; omega
  case c4 => omega
  case c5 => omega
  intro v' w2 hown' hgrow _
  obtain ⟨hb2, hfin⟩ := wrote_of (news := Lib.strCells s) hB (by omega) hbk hown hne hb1 hk1 (Below.refl _ w1) (by rw [Lib.strCells_length]; exact hown') hgrow
  have d1 : w2.cell? ⟨b, 1, none⟩ = some v := by rw [Lib.cell_of_heap hb2]; rfl
  have d0 : w2.cell? ⟨b, 0, none⟩ = some (.pointer (some ⟨b, 0, none⟩)) := by rw [Lib.cell_of_heap hb2]; rfl
  have f1 : w2.frozen? ⟨b, 1, none⟩ = false := Lib.frozen_of_heap hb2 1
  obtain ⟨g, n', cap, rfl⟩ : ∃ g n' cap, v' = .slice g n' cap := by
    rcases hown'.2 with ⟨hv, _⟩ | ⟨g, cap, cur, fz, hv, _⟩
    · exact ⟨_, _, _, hv⟩
    · exact ⟨_, _, _, hv⟩
  have HF := Lib.hid hfin; clear hfin
  go_wp2
  go_ret2
  exact ⟨rfl, HF.out⟩

/-- What is written: the builder at b (its base B) holds so many bytes more; what lay below B, and every other block that is no row of bytes, stands. -/
def Wrote (B b : Nat) (acc : List UInt8) (w w' : World) : Prop :=
  Lib.IsBuilderF 108 5 B b (Lib.byteCells acc) w' ∧ Below B w w' ∧ Lib.OthersKept 5 (some b) w w'

/-- The two writers, over bytes. -/
theorem wbyte (B b : Nat) (acc : List UInt8) (c : UInt8) (w : World) (h : Lib.IsBuilderF 108 5 B b (Lib.byteCells acc) w) (hl : acc.length + 1 ≤ 140737488355328) (hB : B ≤ w.heap.size) :
    Calls Tryz.prog 86 #[.pointer (some ⟨b, 0, none⟩), .int .u8 c.toNat] w fun e w' => e = .returned .nilIface ∧ Wrote B b (acc ++ [c]) w w' :=
  (writeByte_any B b _ _ w h (by simpa [Lib.byteCells_length] using hl) hB).mono fun e w' ⟨he, h1, h2, h3⟩ => ⟨he, Or.inr (by rw [Lib.byteCells_append]; exact h1), h2, h3⟩
theorem wstr (B b : Nat) (acc : List UInt8) (s : ByteArray) (w : World) (h : Lib.IsBuilderF 108 5 B b (Lib.byteCells acc) w) (hl : acc.length + s.size ≤ 140737488355328) (hB : B ≤ w.heap.size) :
    Calls Tryz.prog 84 #[.pointer (some ⟨b, 0, none⟩), .string s] w fun e w' => e = .returned (.tuple #[.int .i64 s.size, .nilIface]) ∧ Wrote B b (acc ++ s.data.toList) w w' :=
  (writeString_any B b _ _ w h (by simpa [Lib.byteCells_length] using hl) hB).mono fun e w' ⟨he, h1, h2, h3⟩ => ⟨he, Or.inr (by rw [Lib.byteCells_append, ← Lib.strCells_eq]; exact h1), h2, h3⟩

theorem Wrote.trans {B b : Nat} {acc acc' : List UInt8} {w w1 w2 : World} (h : Wrote B b acc w w1) (k : Wrote B b acc' w1 w2) : Wrote B b acc' w w2 :=
  ⟨k.1, h.2.1.trans k.2.1, h.2.2.trans k.2.2⟩
theorem Wrote.start {B b : Nat} {acc : List UInt8} {w w' : World} (h : Lib.IsBuilderF 108 5 B b (Lib.byteCells acc) w) (hB : B ≤ w.heap.size) (hs : Stands w w') : Wrote B b acc w w' :=
  ⟨builder_kept h hs.kept, Below.mono hs hB, hs.others _ _⟩
/-- A block of values stands behind what is written. -/
theorem Wrote.box {B b : Nat} {acc : List UInt8} {w w' : World} (h : Wrote B b acc w w') {k : Nat} {cs : Array Value} {t : TypeId} {fz : Nat × Nat} (ht : t ≠ 5) (hk : k ≠ b) (hb : w.heap[k]? = some (.cells cs t fz)) : w'.heap[k]? = some (.cells cs t fz) :=
  h.2.2 k _ hb (fun e => hk (Option.some.inj e)) (fun c f e => ht (by cases e; rfl))

theorem neByte : (108 : TypeId) ≠ 5 := by decide
theorem cellsByte : Tryz.prog.cellsOf 5 = 1 := by kernel_rfl
set_option maxHeartbeats 1000000 in
set_option maxRecDepth 100000 in
/-- What was written, handed over: some bytes. -/
theorem string_some (B b : Nat) (l : List UInt8) (w : World) (h : Lib.IsBuilderF 108 5 B b (Lib.byteCells l) w) (h0 : l ≠ []) :
    Calls Tryz.prog 76 #[.pointer (some ⟨b, 0, none⟩)] w fun e w' => e = .returned (.string ⟨l.toArray⟩) ∧ Below B w w' := by
  obtain ⟨p, hp, hAt⟩ : ∃ p, (p = .pointer none ∨ p = .pointer (some ⟨b, 0, none⟩)) ∧ Lib.BuilderAtF 108 5 B b p (Lib.byteCells l) w := by
    rcases h with h | h
    · exact ⟨_, .inl rfl, h⟩
    · exact ⟨_, .inr rfl, h⟩
  obtain ⟨hB, v, hbk, hown, hne⟩ := hAt
  have hl0 : l.length ≠ 0 := by simpa using h0
  rw [Lib.byteCells_length] at hown
  obtain ⟨g, cap, cur, fz, rfl, hbg, hg, hfz, hnc, hcm, hcs, htake⟩ : ∃ g cap cur fz, v = .slice (some ⟨g, 0, none⟩) l.length cap ∧ B ≤ g ∧ w.heap[g]? = some (.cells cur 5 fz) ∧ fz.2 ≤ l.length * 1 ∧ l.length ≤ cap ∧ cap ≤ maxLen ∧ cur.size = cap * 1 ∧ cur.toList.take (l.length * 1) = Lib.byteCells l := by
    rcases hown.2 with ⟨_, hz⟩ | ⟨g, cap, cur, fz, hv, r⟩
    · exact absurd hz hl0
    · exact ⟨g, cap, cur, fz, hv, r⟩
  have c1 : w.drew.cell? ⟨b, 1, none⟩ = some (.slice (some ⟨g, 0, none⟩) l.length cap) := by
    have : w.drew.heap[b]? = some (.cells #[p, .slice (some ⟨g, 0, none⟩) l.length cap] 108 (0, 0)) := hbk
    rw [Lib.cell_of_heap this]; rfl
  have hSD : (Builtin.unsafeSliceData_ #[104] 128 #[.slice (some ⟨g, 0, none⟩) l.length cap]).run Tryz.prog w.drew = .ok (.pointer (some ⟨g, 0, none⟩)) w.drew :=
    Lib.run_unsafeSliceData_row _ _ _ _ _ _ (by omega)
  have hUS : (Builtin.unsafeString_ #[128, 3] 9 #[.pointer (some ⟨g, 0, none⟩), .int .i64 l.length]).run Tryz.prog w.drew = .ok (.string ⟨l.toArray⟩) (w.drew.freeze ⟨g, 0, none⟩ l.length) := by
    refine Lib.run_unsafeString_row w.drew 128 3 9 5 Tryz.underlying128 cellsByte g cur.size (by have hg' : w.drew.heap[g]? = some (.cells cur 5 fz) := hg; simp [World.shape?, hg']) l h0 (by omega) (by unfold maxLen at hcm; omega) ?_
    intro j x hx
    have := hown.cells (g := g) rfl j (.int .u8 x.toNat) (by simp [Lib.byteCells, hx])
    exact this
  have HG := Lib.hid hbg
  clear hown hne htake hcs hnc hcm hfz hbg hbk hp
  have mixed : Tryz.prog.follows .mixedOrders = true := by kernel_rfl
  go_enter Tryz.func76, Tryz.ntmps76
  go_wp2
  go_region_o
  all_goals (go_wp2; go_ret; exact ⟨rfl, Lib.below_freeze (Below.drew (Below.refl B w)) (p := ⟨g, 0, none⟩) HG.out _⟩)

end Go.Proofs.YtgjemmdhamkngaaGreatDoor.pw

/-
  printer's writer: lists and atoms, whose elements a closure tells.
-/
namespace Go.Proofs.YtgjemmdhamkngaaGreatDoor
open Go.RowKit

/-- Behind what has been written since w0, the closure F (over q1, q2) writes the i-th text. -/
def TellsAt (F : Nat) (q1 q2 : Value) (B b : Nat) (w0 : World) (L : List (List UInt8)) : Prop :=
  ∀ (i : Nat) (hi : i < L.length) (acc : List UInt8) (w : World), pw.Wrote B b acc w0 w → acc.length + L[i].length ≤ 140737488355328 →
    Calls Tryz.prog F #[.int .i64 i, q1, q2] w fun e w' => e = .returned (.tuple #[]) ∧ pw.Wrote B b (acc ++ L[i]) w w'

theorem size_list (s : ByteArray) : s.data.toList.length = s.size := by simp

set_option maxRecDepth 100000 in
set_option maxHeartbeats 2000000 in
theorem wlist_any (F : Nat) (q1 q2 : Value) (B b : Nat) (acc : List UInt8) (w : World) (sep : ByteArray) (L : List (List UInt8)) (hen : ∀ args w, Sem.run Tryz.prog (callFunc F args) w = .ok (.enter F args) w) (hB : B ≤ w.heap.size)
    (hbu : Lib.IsBuilderF 108 5 B b (Lib.byteCells acc) w) (hlen : acc.length + (sepL sep.data.toList L).length ≤ 140737488355328) (hn : L.length ≤ 140737488355328) (tells : TellsAt F q1 q2 B b w L) :
    Calls Tryz.prog 88 #[.pointer (some ⟨b, 0, none⟩), .int .i64 L.length, .string sep, .func (.func F) #[] #[q1, q2]] w fun e w' => e = .returned (.tuple #[]) ∧ pw.Wrote B b (acc ++ sepL sep.data.toList L) w w' := by
  have W0 := Lib.hid (pw.Wrote.start hbu hB (Below.refl _ w))
  have HT := Lib.hid tells; have HE := Lib.hid hen; have HLEN := Lib.hid hlen
  clear hbu tells hen hlen
  go_enter Tryz.func88, Tryz.ntmps88
  go_wp2_with fail
  go_loopw [10, 8] (fun i _ wx => ∃ k : Nat, k ≤ L.length ∧ i = .int .i64 k ∧ Hid (pw.Wrote B b (acc ++ sepL sep.data.toList (L.take k)) w wx)) (fun i _ _ => L.length - (intOf i).toNat)
  case atStart => exact ⟨0, Nat.zero_le _, rfl, by show pw.Wrote _ _ _ _ _; simpa [sepL] using W0.out⟩
  case round =>
    obtain ⟨k, hk, rfl, HW⟩ := hrel
    by_cases hl : k < L.length
    · have hts : L.take (k + 1) = L.take k ++ [L[k]] := List.take_succ_eq_append_getElem hl
      have hsn := sepL_snoc sep.data.toList (L.take k) L[k]
      have hle := sepL_take_le sep.data.toList L (k + 1)
      rw [hts, hsn] at hle
      have hw := HW.out
      have HX : Hid (sepL sep.data.toList (L.take (k + 1)) = sepL sep.data.toList (L.take k) ++ ((if L.take k = [] then [] else sep.data.toList) ++ L[k])) := by show _ = _; rw [hts, hsn]
      have HLE := Lib.hid hle
      have hne : ∀ args w, Sem.run Tryz.prog (callFunc F args) w = .ok (.enter F args) w := HE.out
      have hBx : B ≤ wr.heap.size := Nat.le_trans hB hw.2.1.size
      clear hts hsn hle hw
      by_cases h0 : k = 0
      · have HI : Hid ((if L.take k = [] then ([] : List UInt8) else sep.data.toList) = []) := by show _ = _; rw [if_pos (by simp [h0])]
        have h0' : decide (0 < (k : Int)) = false := by simp [h0]
        have h0n : decide (0 < k) = false := by simp [h0]
        clear h0
        go_wp2_with fail
        refine (HT.out k hl _ _ HW.out (by have h1 := HLE.out; have h2 := HLEN.out; simp only [List.length_append] at h1 ⊢; omega)).mono ?_
        rintro e w3 ⟨rfl, W3⟩
        have W4 := Lib.hid (HW.out.trans W3)
        clear W3
        go_wp2_with fail
        go_roundw
        case rel => exact ⟨k + 1, by omega, by go_num, by show pw.Wrote _ _ _ _ _; rw [HX.out, HI.out]; simpa [List.append_assoc] using W4.out⟩
        case measure => simp [intOf]; omega
      · have HI : Hid ((if L.take k = [] then ([] : List UInt8) else sep.data.toList) = sep.data.toList) := by show _ = _; rw [if_neg (by intro h; have := congrArg List.length h; rw [List.length_take, List.length_nil] at this; omega)]
        have h0' : decide (0 < (k : Int)) = true := by simp; omega
        have h0n : decide (0 < k) = true := by simp; omega
        clear h0
        go_wp2_with fail
        refine (pw.wstr B b _ sep _ HW.out.1 (by have h1 := HLE.out; have h2 := HLEN.out; rw [HI.out] at h1; rw [← size_list]; simp only [List.length_append] at h1 ⊢; omega) hBx).mono ?_
        rintro e w2 ⟨rfl, W2⟩
        have W2' := Lib.hid (HW.out.trans W2)
        clear W2
        go_wp2_with fail
        refine (HT.out k hl _ _ W2'.out (by have h1 := HLE.out; have h2 := HLEN.out; rw [HI.out] at h1; simp only [List.length_append] at h1 ⊢; omega)).mono ?_
        rintro e w3 ⟨rfl, W3⟩
        have W4 := Lib.hid (W2'.out.trans W3)
        clear W3
        go_wp2_with fail
        go_roundw
        case rel => exact ⟨k + 1, by omega, by go_num, by show pw.Wrote _ _ _ _ _; rw [HX.out, HI.out]; simpa [List.append_assoc] using W4.out⟩
        case measure => simp [intOf]; omega
    · have HF : Hid (L.take k = L) := List.take_of_length_le (by omega)
      rw [HF.out] at HW
      go_wp2_with fail
      go_end0
      exact ⟨rfl, HW.out⟩

set_option maxRecDepth 100000 in
set_option maxHeartbeats 2000000 in
theorem watom_any (F : Nat) (q1 q2 : Value) (B b : Nat) (acc : List UInt8) (w : World) (s : ByteArray) (L : List (List UInt8)) (hen : ∀ args w, Sem.run Tryz.prog (callFunc F args) w = .ok (.enter F args) w) (hB : B ≤ w.heap.size)
    (hbu : Lib.IsBuilderF 108 5 B b (Lib.byteCells acc) w) (hlen : acc.length + (showAtom s L).length ≤ 140737488355328) (hn : L.length ≤ 140737488355328) (tells : TellsAt F q1 q2 B b w L) :
    Calls Tryz.prog 82 #[.pointer (some ⟨b, 0, none⟩), .string s, .int .i64 L.length, .func (.func F) #[] #[q1, q2]] w fun e w' => e = .returned (.tuple #[]) ∧ pw.Wrote B b (acc ++ showAtom s L) w w' := by
  have HL : Hid (acc.length + s.size + 3 + (sepL [44] L).length ≤ 140737488355328) := by
    show _ ≤ _
    simp only [showAtom, List.length_append, List.length_cons, List.length_nil, size_list] at hlen
    omega
  have HBU := Lib.hid hbu; have HT := Lib.hid tells; have HE := Lib.hid hen
  clear hbu tells hen hlen
  go_enter Tryz.func82, Tryz.ntmps82
  go_wp2_with fail
  refine (pw.wstr B b acc s _ HBU.out (by have := HL.out; omega) hB).mono ?_
  rintro e w1 ⟨rfl, W1⟩
  have HW1 := Lib.hid W1; clear W1
  go_wp2_with fail
  refine (pw.wstr B b _ ⟨#[40, 64]⟩ _ HW1.out.1 (by have := HL.out; simp only [List.length_append, size_list]; show _ + 2 ≤ _; omega) (Nat.le_trans hB HW1.out.2.1.size)).mono ?_
  rintro e w2 ⟨rfl, W2⟩
  have HW2 := Lib.hid (HW1.out.trans W2); clear W2 HW1
  go_wp2_with fail
  refine (wlist_any F q1 q2 B b _ _ ⟨#[44]⟩ L HE.out (Nat.le_trans hB HW2.out.2.1.size) HW2.out.1 (by have := HL.out; simp only [List.length_append, size_list]; show _ + 2 + (sepL [44] L).length ≤ _; omega) hn (fun i hi a' w' hw hl => HT.out i hi a' w' (HW2.out.trans hw) hl)).mono ?_
  rintro e w3 ⟨rfl, W3⟩
  have HW3 := Lib.hid (HW2.out.trans W3); clear W3 HW2
  go_wp2_with fail
  refine (pw.wbyte B b _ 41 _ HW3.out.1 (by have := HL.out; simp only [List.length_append, size_list]; show _ + 2 + (sepL [44] L).length + 1 ≤ _; omega) (Nat.le_trans hB HW3.out.2.1.size)).mono ?_
  rintro e w4 ⟨rfl, W4⟩
  have HW4 := Lib.hid (HW3.out.trans W4); clear W4 HW3
  go_wp2_with fail
  go_end0
  refine ⟨rfl, ?_⟩
  have h := HW4.out
  simpa [showAtom, List.append_assoc] using h

end Go.Proofs.YtgjemmdhamkngaaGreatDoor
