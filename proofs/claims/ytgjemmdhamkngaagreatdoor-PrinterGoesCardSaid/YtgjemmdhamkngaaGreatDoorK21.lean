/-
  AwakeFour
-/
import Derived.Test.YtgjemmdhamkngaaGreatDoorK20
import Derived.Test.YtgjemmdhamkngaaGreatDoorK05
import Derived.Test.YtgjemmdhamkngaaGreatDoorK11
import Derived.Test.YtgjemmdhamkngaaGreatDoorK09
import Derived.Test.YtgjemmdhamkngaaGreatDoorK02
namespace Go.Proofs.YtgjemmdhamkngaaGreatDoor
open Go.RowKit
theorem allocs_at : ∀ (os : List Obj) (w : World) (i : Nat), i < os.length → (os.foldl World.alloc w).heap[w.heap.size + i]? = os[i]?
 | [], _, i, h => by simp at h
 | x :: os, w, 0, _ => by
  have key : ∀ (os : List Obj) (w : World) (k : Nat), k < w.heap.size → (os.foldl World.alloc w).heap[k]? = w.heap[k]? := by
   intro os
   induction os with
   | nil => intro w k _; rfl
   | cons y os ih =>
    intro w k hk
    rw [List.foldl_cons, ih _ _ (by simp; omega), Below.heap_alloc _ _ _ hk]
  rw [List.foldl_cons, key _ _ _ (by simp)]
  exact alloc_new' w x
 | x :: os, w, i + 1, h => by
  have := allocs_at os (w.alloc x) i (by simpa using h)
  rw [World.size_alloc, show w.heap.size + 1 + i = w.heap.size + (i + 1) by omega] at this
  rw [List.foldl_cons, this]; rfl
theorem allocs_size : ∀ (os : List Obj) (w : World), (os.foldl World.alloc w).heap.size = w.heap.size + os.length
 | [], _ => rfl
 | x :: os, w => by rw [List.foldl_cons, allocs_size os, World.size_alloc, List.length_cons]; omega
theorem allocs_below : ∀ (os : List Obj) (w : World) (B : Nat), B ≤ w.heap.size → Below B w (os.foldl World.alloc w)
 | [], w, B, _ => Below.refl B w
 | x :: os, w, B, h => by
  rw [List.foldl_cons]
  exact ((Below.refl B w).alloc h x).trans (allocs_below os (w.alloc x) B (by simp; omega))
theorem slg_row {α : Type} {S : Nat → Prop} {w : World} {n bytes : Nat} {R : α → (Nat → Value) → Prop} {l : List α} {b : Nat} {cs : Array Value} {t : TypeId} {fz : Nat × Nat} (hb : w.heap[b]? = some (.cells cs t fz)) (hS : S b) (hsz : cs.size = l.length * n) (hby : l.length * bytes ≤ 140737488355328)
  (hR : ∀ i (h : i < l.length), R l[i] (fun j => cs.getD (i * n + j) undef)) : SlG S w n bytes R l (.slice (some ⟨b, 0, none⟩) l.length l.length) := by
 refine ⟨_, b, 0, l.length, rfl, Nat.le_refl _, hby, fun _ => rfl, fun _ => hS, fun i hi => ⟨_, fun j hj => ?_, hR i hi⟩⟩
 have hlt : i * n + j < cs.size := by
  have : (i + 1) * n ≤ l.length * n := Nat.mul_le_mul_right n hi
  rw [Nat.succ_mul] at this; omega
 rw [show 0 + i * n + j = i * n + j by omega]
 exact cell_of_block' hb _ (by simp [Array.getD, hlt])
theorem slg_nil {α : Type} {S : Nat → Prop} {w : World} {n bytes : Nat} {R : α → (Nat → Value) → Prop} : SlG S w n bytes R [] (.slice none 0 0) :=
 ⟨none, 0, 0, 0, rfl, Nat.le_refl _, by simp, fun h => by omega, fun h => by simp at h, fun i hi => by simp at hi⟩
def zV : V := .mk 0 0 ⟨#[]⟩ []
def exA : Tm := .mk 1 ⟨#[83]⟩ zV []
def exC : Tm := .mk 1 ⟨#[67]⟩ zV []
def ex1 : Tm := .mk 2 ⟨#[]⟩ (.mk 1 1 ⟨#[]⟩ []) []
def exO : Tm := .mk 4 ⟨#[43]⟩ zV [exC, ex1]
def exR : Ru := ⟨⟨#[114, 49]⟩, ⟨#[112]⟩, [exA, exC], ⟨#[109, 105, 110]⟩, 1, [⟨1, ⟨#[108]⟩, [exA, exC]⟩, ⟨3, ⟨#[60]⟩, [exO, ex1]⟩]⟩
def exP : Pr := ⟨[⟨⟨#[108]⟩, 2⟩], [], [exR]⟩
theorem small64 {n : Int} (h : 0 ≤ n ∧ n ≤ 100) : I64 n := ⟨by omega, by omega⟩
theorem zV_rep (S : Nat → Prop) (w : World) : RepG S w zV (.int .i64 0) (.int .i64 0) (.string ⟨#[]⟩) (.slice none 0 0) := flat_rep S w 0 0 ⟨#[]⟩ (small64 (by omega)) (small64 (by omega)) (by decide)
theorem exA_rep (S : Nat → Prop) (w : World) : RepM S w exA (.int .i64 1) (.string ⟨#[83]⟩) (.int .i64 0) (.int .i64 0) (.string ⟨#[]⟩) (.slice none 0 0) (.slice none 0 0) := repM_mk.2 ⟨rfl, rfl, small64 (by omega), by decide, zV_rep S w, slg_nil⟩
theorem exC_rep (S : Nat → Prop) (w : World) : RepM S w exC (.int .i64 1) (.string ⟨#[67]⟩) (.int .i64 0) (.int .i64 0) (.string ⟨#[]⟩) (.slice none 0 0) (.slice none 0 0) := repM_mk.2 ⟨rfl, rfl, small64 (by omega), by decide, zV_rep S w, slg_nil⟩
theorem ex1_rep (S : Nat → Prop) (w : World) : RepM S w ex1 (.int .i64 2) (.string ⟨#[]⟩) (.int .i64 1) (.int .i64 1) (.string ⟨#[]⟩) (.slice none 0 0) (.slice none 0 0) := repM_mk.2 ⟨rfl, rfl, small64 (by omega), by decide, flat_rep S w 1 1 ⟨#[]⟩ (small64 (by omega)) (small64 (by omega)) (by decide), slg_nil⟩
theorem zT_rep (S : Nat → Prop) (w : World) : RepM S w (.mk 0 ⟨#[]⟩ zV []) (.int .i64 0) (.string ⟨#[]⟩) (.int .i64 0) (.int .i64 0) (.string ⟨#[]⟩) (.slice none 0 0) (.slice none 0 0) := repM_mk.2 ⟨rfl, rfl, small64 (by omega), by decide, zV_rep S w, slg_nil⟩
def exObjs (w : World) : List Obj := [.cells #[.int .i64 1, .string ⟨#[83]⟩, .int .i64 0, .int .i64 0, .string ⟨#[]⟩, .slice none 0 0, .slice none 0 0] 46,
 .cells #[.int .i64 1, .string ⟨#[67]⟩, .int .i64 0, .int .i64 0, .string ⟨#[]⟩, .slice none 0 0, .slice none 0 0] 46,
 .cells #[.int .i64 2, .string ⟨#[]⟩, .int .i64 1, .int .i64 1, .string ⟨#[]⟩, .slice none 0 0, .slice none 0 0] 46,
 .cells #[.int .i64 1, .string ⟨#[83]⟩, .int .i64 0, .int .i64 0, .string ⟨#[]⟩, .slice none 0 0, .slice none 0 0, .int .i64 1, .string ⟨#[67]⟩, .int .i64 0, .int .i64 0, .string ⟨#[]⟩, .slice none 0 0, .slice none 0 0] 46,
 .cells #[.int .i64 1, .string ⟨#[83]⟩, .int .i64 0, .int .i64 0, .string ⟨#[]⟩, .slice none 0 0, .slice none 0 0, .int .i64 1, .string ⟨#[67]⟩, .int .i64 0, .int .i64 0, .string ⟨#[]⟩, .slice none 0 0, .slice none 0 0] 46,
 .cells #[.int .i64 1, .string ⟨#[67]⟩, .int .i64 0, .int .i64 0, .string ⟨#[]⟩, .slice none 0 0, .slice none 0 0, .int .i64 2, .string ⟨#[]⟩, .int .i64 1, .int .i64 1, .string ⟨#[]⟩, .slice none 0 0, .slice none 0 0] 46,
 .cells #[.int .i64 4, .string ⟨#[43]⟩, .int .i64 0, .int .i64 0, .string ⟨#[]⟩, .slice none 0 0, .slice (some ⟨w.heap.size + 1 + 1 + 1 + 1 + 1, 0, none⟩) 2 2, .int .i64 2, .string ⟨#[]⟩, .int .i64 1, .int .i64 1, .string ⟨#[]⟩, .slice none 0 0, .slice none 0 0] 46,
 .cells #[.int .i64 1, .string ⟨#[108]⟩, .slice (some ⟨w.heap.size + 1 + 1 + 1 + 1, 0, none⟩) 2 2, .int .i64 3, .string ⟨#[60]⟩, .slice (some ⟨w.heap.size + 1 + 1 + 1 + 1 + 1 + 1, 0, none⟩) 2 2] 41,
 .cells #[.string ⟨#[114, 49]⟩, .string ⟨#[112]⟩, .slice (some ⟨w.heap.size + 1 + 1 + 1, 0, none⟩) 2 2, .string ⟨#[109, 105, 110]⟩, .int .i64 1, .slice (some ⟨w.heap.size + 1 + 1 + 1 + 1 + 1 + 1 + 1, 0, none⟩) 2 2] 37,
 .cells #[.string ⟨#[108]⟩, .int .i64 2] 57,
 .cells #[.string ⟨#[114, 49]⟩, .string ⟨#[112]⟩, .slice (some ⟨w.heap.size + 1 + 1 + 1, 0, none⟩) 2 2, .string ⟨#[109, 105, 110]⟩, .int .i64 1, .slice (some ⟨w.heap.size + 1 + 1 + 1 + 1 + 1 + 1 + 1, 0, none⟩) 2 2] 37,
 .cells #[.slice (some ⟨w.heap.size + 1 + 1 + 1 + 1 + 1 + 1 + 1 + 1 + 1, 0, none⟩) 1 1, .slice none 0 0, .slice (some ⟨w.heap.size + 1 + 1 + 1 + 1 + 1 + 1 + 1 + 1 + 1 + 1, 0, none⟩) 1 1] 26]
theorem ex_size (w : World) : ((exObjs w).foldl World.alloc w).heap.size = w.heap.size + 12 := allocs_size _ w
theorem ex_rep (w : World) : RepPr (fun k => w.heap.size ≤ k ∧ k < w.heap.size + 12) ((exObjs w).foldl World.alloc w) exP (.slice (some ⟨w.heap.size + 1 + 1 + 1 + 1 + 1 + 1 + 1 + 1 + 1, 0, none⟩) 1 1) (.slice none 0 0) (.slice (some ⟨w.heap.size + 1 + 1 + 1 + 1 + 1 + 1 + 1 + 1 + 1 + 1, 0, none⟩) 1 1) := by
 have n1 : I64 1 := small64 (by omega)
 have n2 : I64 2 := small64 (by omega)
 have n3 : I64 3 := small64 (by omega)
 have t1 : ∀ {c : UInt8}, (⟨#[c]⟩ : ByteArray).size ≤ maxLen := by intro c; show 1 ≤ maxLen; decide
 have t1' : (⟨#[60]⟩ : ByteArray).size ≤ maxLen := by decide
 have t2 : (⟨#[114, 49]⟩ : ByteArray).size ≤ maxLen := by decide
 have t3 : (⟨#[109, 105, 110]⟩ : ByteArray).size ≤ maxLen := by decide
 have at_ : ∀ i, i < 12 → ((exObjs w).foldl World.alloc w).heap[w.heap.size + i]? = (exObjs w)[i]? := fun i hi => allocs_at (exObjs w) w i hi
 have b3 := at_ 3 (by omega)
 have b4 := at_ 4 (by omega)
 have b5 := at_ 5 (by omega)
 have b6 := at_ 6 (by omega)
 have b7 := at_ 7 (by omega)
 have b9 := at_ 9 (by omega)
 have b10 := at_ 10 (by omega)
 clear at_
 generalize hz : (exObjs w).foldl World.alloc w = wz at *
 clear hz
 have r3 : RepMs (fun k => w.heap.size ≤ k ∧ k < w.heap.size + 12) wz [exA, exC] (.slice (some ⟨w.heap.size + 1 + 1 + 1, 0, none⟩) 2 2) := slg_row b3 (by omega) rfl (by decide) (fun i h => match i, h with
  | 0, _ => exA_rep _ _
  | 1, _ => exC_rep _ _)
 have r4 : RepMs (fun k => w.heap.size ≤ k ∧ k < w.heap.size + 12) wz [exA, exC] (.slice (some ⟨w.heap.size + 1 + 1 + 1 + 1, 0, none⟩) 2 2) := slg_row b4 (by omega) rfl (by decide) (fun i h => match i, h with
  | 0, _ => exA_rep _ _
  | 1, _ => exC_rep _ _)
 have r5 : RepMs (fun k => w.heap.size ≤ k ∧ k < w.heap.size + 12) wz [exC, ex1] (.slice (some ⟨w.heap.size + 1 + 1 + 1 + 1 + 1, 0, none⟩) 2 2) := slg_row b5 (by omega) rfl (by decide) (fun i h => match i, h with
  | 0, _ => exC_rep _ _
  | 1, _ => ex1_rep _ _)
 have r6 : RepMs (fun k => w.heap.size ≤ k ∧ k < w.heap.size + 12) wz [exO, ex1] (.slice (some ⟨w.heap.size + 1 + 1 + 1 + 1 + 1 + 1, 0, none⟩) 2 2) := slg_row b6 (by omega) rfl (by decide) (fun i h => match i, h with
  | 0, _ => repM_mk.2 ⟨rfl, rfl, small64 (by omega), by decide, zV_rep _ _, r5⟩
  | 1, _ => ex1_rep _ _)
 have r7 : RepLis (fun k => w.heap.size ≤ k ∧ k < w.heap.size + 12) wz [⟨1, ⟨#[108]⟩, [exA, exC]⟩, ⟨3, ⟨#[60]⟩, [exO, ex1]⟩] (.slice (some ⟨w.heap.size + 1 + 1 + 1 + 1 + 1 + 1 + 1, 0, none⟩) 2 2) := slg_row b7 (by omega) rfl (by decide) (fun i h => match i, h with
  | 0, _ => ⟨rfl, rfl, n1, t1, r4⟩
  | 1, _ => ⟨rfl, rfl, n3, t1', r6⟩)
 refine ⟨slg_row b9 (by omega) rfl (by decide) (fun i h => match i, h with
  | 0, _ => ⟨rfl, rfl, t1, n2⟩), slg_nil, slg_row b10 (by omega) rfl (by decide) (fun i h => match i, h with
  | 0, _ => ⟨rfl, rfl, rfl, rfl, t2, t1, t3, n1, r3, r7⟩)⟩
theorem ex_right : prB exP = true := by kernel_rfl
theorem itoa_one : Lib.itoa 1 = [49] := by rw [Lib.itoa, if_neg (by decide), Lib.decDigits, dif_pos (by decide)]; rfl
theorem itoa_two : Lib.itoa 2 = [50] := by rw [Lib.itoa, if_neg (by decide), Lib.decDigits, dif_pos (by decide)]; rfl
theorem print_one : printB (.mk 1 1 ⟨#[]⟩ []) = [49] := by
 rw [printB, if_pos (by kernel_rfl)]; simp [prV, itoa_one]
theorem ex_text : (⟨(told (prB exP) (showPr exP)).toArray⟩ : ByteArray) = ⟨#[109, 97, 116, 101, 114, 105, 97, 108, 105, 122, 101, 40, 108, 44, 50, 41, 46, 10, 114, 49, 32, 112, 40, 64, 83, 44, 109, 105, 110, 60, 67, 62, 41, 32, 58, 45, 32, 108, 40, 64, 83, 44, 67, 41, 44, 32, 40, 67, 43, 49, 41, 32, 60, 32, 49, 46, 10]⟩ := by
 rw [ex_right]
 have e1 : showM exA = [83] := by rw [exA, showM_mk]; rfl
 have e2 : showM exC = [67] := by rw [exC, showM_mk]; rfl
 have e3 : showM ex1 = [49] := by rw [ex1, showM_mk]; simp [print_one]
 have e4 : showM exO = [40, 67, 43, 49, 41] := by rw [exO, showM_mk]; simp [sepL, e2, e3]
 simp [told, showPr, exP, linesOf, showDe, showRu, showHead, showAtom, exR, showLi, sepL, e1, e2, e3, e4, itoa_two, aggAt, Lib.toList_data]
theorem exC_text : (⟨(told (rightM 8 exC) (showM exC)).toArray⟩ : ByteArray) = ⟨#[67]⟩ := by
 rw [show rightM 8 exC = true by kernel_rfl]
 rw [told, exC, showM_mk]; rfl
theorem zT_text : (⟨(told (rightM 8 (.mk 0 ⟨#[]⟩ zV [])) (showM (.mk 0 ⟨#[]⟩ zV []))).toArray⟩ : ByteArray) = ⟨#[]⟩ := by
 rw [show rightM 8 (.mk 0 ⟨#[]⟩ zV []) = false by kernel_rfl]; rfl
set_option maxRecDepth 100000 in
set_option maxHeartbeats 16000000 in
theorem awake4_any (w : World) (hg : 0 < w.heap.size) (htab : TabOk w) : Calls Tryz.prog 9 #[] w fun e w' => e = .returned (.bool true) ∧ Below w.heap.size w w' := by
 have HG := Lib.hid hg; have HT := Lib.hid htab
 clear hg htab
 go_enter Tryz.func9, Tryz.ntmps9
 go_wp2_with fail
 change Calls Tryz.prog 10 #[.agg #[.slice (some ⟨w.heap.size + 1 + 1 + 1 + 1 + 1 + 1 + 1 + 1 + 1, 0, none⟩) 1 1, .slice none 0 0, .slice (some ⟨w.heap.size + 1 + 1 + 1 + 1 + 1 + 1 + 1 + 1 + 1 + 1, 0, none⟩) 1 1]] ((exObjs w).foldl World.alloc w) _
 have HR := Lib.hid (ex_rep w)
 have HSZ := Lib.hid (ex_size w)
 have HB := Lib.hid (allocs_below (exObjs w) w w.heap.size (Nat.le_refl _))
 have at_ : ∀ i, i < 12 → ((exObjs w).foldl World.alloc w).heap[w.heap.size + i]? = (exObjs w)[i]? := fun i hi => allocs_at (exObjs w) w i hi
 have XC : Hid (BoxM ((exObjs w).foldl World.alloc w) (w.heap.size + 1) (.int .i64 1) (.string ⟨#[67]⟩) (.int .i64 0) (.int .i64 0) (.string ⟨#[]⟩) (.slice none 0 0) (.slice none 0 0)) := at_ 1 (by omega)
 have XP : Hid (BoxPr ((exObjs w).foldl World.alloc w) (w.heap.size + 1 + 1 + 1 + 1 + 1 + 1 + 1 + 1 + 1 + 1 + 1) (.slice (some ⟨w.heap.size + 1 + 1 + 1 + 1 + 1 + 1 + 1 + 1 + 1, 0, none⟩) 1 1) (.slice none 0 0) (.slice (some ⟨w.heap.size + 1 + 1 + 1 + 1 + 1 + 1 + 1 + 1 + 1 + 1, 0, none⟩) 1 1)) := at_ 11 (by omega)
 clear at_
 generalize (exObjs w).foldl World.alloc w = wz at *
 refine (prRight_any exP _ _ _ _ _ (fun k hk => by have := HSZ.out; omega) HR.out).mono ?_
 rw [ex_right]
 rintro e w2 ⟨rfl, hb⟩
 have B2 := Lib.hid (Below.step HB.out hb)
 have X2 := Lib.hid (XP.out.on hb); have C2 := Lib.hid (XC.out.on hb)
 have R2 := Lib.hid (RepPr.on (fun _ h => h) (fun k hk => hb.block k (by have := HSZ.out; omega)) HR.out)
 have Z2 : Hid (w.heap.size + 12 ≤ w2.heap.size) := by have := HSZ.out; have := hb.size; show _ ≤ _; omega
 clear hb
 obtain ⟨p0, p1, p2⟩ := X2.out.cells
 go_wp2_with fail
 refine (prPr_any exP _ _ _ _ _ (fun k hk => by have := Z2.out; omega) (by have := HG.out; have := B2.out.size; omega) (HT.out.below HG.out B2.out) R2.out (fun h => showPr_fits h)).mono ?_
 rw [ex_text]
 rintro e w3 ⟨rfl, hb⟩
 have B3 := Lib.hid (Below.step B2.out hb)
 have C3 := Lib.hid (C2.out.on hb)
 clear hb p0 p1 p2
 obtain ⟨p0, p1, p2, p3, p4, p5, p6⟩ := C3.out.cells
 go_wp2_with fail
 refine (prTm_any exC (fun _ => False) _ _ _ _ _ _ _ _ (fun k hk => hk.elim) (by have := HG.out; have := B3.out.size; omega) (HT.out.below HG.out B3.out) (exC_rep _ _) (fun h => showM_fits h)).mono ?_
 rw [exC_text]
 rintro e w4 ⟨rfl, hb⟩
 have B4 := Lib.hid (Below.step B3.out hb)
 clear hb p0 p1 p2 p3 p4 p5 p6
 go_wp2_with fail
 refine (prTm_any (.mk 0 ⟨#[]⟩ zV []) (fun _ => False) _ _ _ _ _ _ _ _ (fun k hk => hk.elim) (by have := HG.out; have := B4.out.size; omega) (HT.out.below HG.out B4.out) (zT_rep _ _) (fun h => showM_fits h)).mono ?_
 rw [zT_text]
 rintro e w5 ⟨rfl, hb⟩
 have B5 := Lib.hid (Below.step B4.out hb)
 clear hb
 go_wp2_with fail
 go_ret
 exact ⟨rfl, B5.out⟩
end Go.Proofs.YtgjemmdhamkngaaGreatDoor
