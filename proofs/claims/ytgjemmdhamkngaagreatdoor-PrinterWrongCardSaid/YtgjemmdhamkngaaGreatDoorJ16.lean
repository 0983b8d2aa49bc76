/-
  Chapter 4's example: the law's own first calls.
-/
import Derived.Test.YtgjemmdhamkngaaGreatDoorJ15
import Derived.Test.YtgjemmdhamkngaaGreatDoorJ05
import Derived.Test.YtgjemmdhamkngaaGreatDoorJ10
import Derived.Test.YtgjemmdhamkngaaGreatDoorJ09
import Derived.Test.YtgjemmdhamkngaaGreatDoorJ02
import Derived.Test.YtgjemmdhamkngaaGreatDoorJ07
import Derived.Test.YtgjemmdhamkngaaGreatDoorJ08
namespace Go.Proofs.YtgjemmdhamkngaaGreatDoor
open Go.RowKit

theorem allocs_at : ∀ (os : List Obj) (w : World) (i : Nat), i < os.length → (os.foldl World.alloc w).heap[w.heap.size + i]? = os[i]?
  | [], _, i, h => by simp at h
  | x :: os, w, 0, _ => by
    have key : ∀ (os : List Obj) (w : World) (k : Nat), k < w.heap.size → (os.foldl World.alloc w).heap[k]? = w.heap[k]? := by
      intro os
      induction os with
      | nil => intro w k _; rfl
      | cons y os ih =>
        intro w k hk
        rw [List.foldl_cons, ih _ _ (by simp; omega), Below.heap_alloc _ _ _ hk]
    rw [List.foldl_cons, key _ _ _ (by simp)]
    exact alloc_new' w x
  | x :: os, w, i + 1, h => by
    have := allocs_at os (w.alloc x) i (by simpa using h)
    rw [World.size_alloc, show w.heap.size + 1 + i = w.heap.size + (i + 1) by omega] at this
    rw [List.foldl_cons, this]; rfl
theorem allocs_size : ∀ (os : List Obj) (w : World), (os.foldl World.alloc w).heap.size = w.heap.size + os.length
  | [], _ => rfl
  | x :: os, w => by rw [List.foldl_cons, allocs_size os, World.size_alloc, List.length_cons]; omega
theorem allocs_below : ∀ (os : List Obj) (w : World) (B : Nat), B ≤ w.heap.size → Below B w (os.foldl World.alloc w)
  | [], w, B, _ => Below.refl B w
  | x :: os, w, B, h => by
    rw [List.foldl_cons]
    exact ((Below.refl B w).alloc h x).trans (allocs_below os (w.alloc x) B (by simp; omega))

/-- A row just laid, as a slice. -/
theorem slg_row {α : Type} {S : Nat → Prop} {w : World} {n bytes : Nat} {R : α → (Nat → Value) → Prop} {l : List α} {b : Nat} {cs : Array Value} {t : TypeId} {fz : Nat × Nat} (hb : w.heap[b]? = some (.cells cs t fz)) (hS : S b) (hsz : cs.size = l.length * n) (hby : l.length * bytes ≤ 140737488355328)
    (hR : ∀ i (h : i < l.length), R l[i] (fun j => cs.getD (i * n + j) undef)) : SlG S w n bytes R l (.slice (some ⟨b, 0, none⟩) l.length l.length) := by
  refine ⟨_, b, 0, l.length, rfl, Nat.le_refl _, hby, fun _ => rfl, fun _ => hS, fun i hi => ⟨_, fun j hj => ?_, hR i hi⟩⟩
  have hlt : i * n + j < cs.size := by
    have : (i + 1) * n ≤ l.length * n := Nat.mul_le_mul_right n hi
    rw [Nat.succ_mul] at this; omega
  rw [show 0 + i * n + j = i * n + j by omega]
  exact cell_of_block' hb _ (by simp [Array.getD, hlt])
theorem slg_nil {α : Type} {S : Nat → Prop} {w : World} {n bytes : Nat} {R : α → (Nat → Value) → Prop} : SlG S w n bytes R [] (.slice none 0 0) :=
  ⟨none, 0, 0, 0, rfl, Nat.le_refl _, by simp, fun h => by omega, fun h => by simp at h, fun i hi => by simp at hi⟩

def zV : V := .mk 0 0 ⟨#[]⟩ []
def exA : Tm := .mk 1 ⟨#[83]⟩ zV []
def exC : Tm := .mk 1 ⟨#[67]⟩ zV []
def ex1 : Tm := .mk 2 ⟨#[]⟩ (.mk 1 1 ⟨#[]⟩ []) []
def exO : Tm := .mk 4 ⟨#[43]⟩ zV [exC, ex1]
def exR : Ru := ⟨⟨#[114, 49]⟩, ⟨#[112]⟩, [exA, exC], ⟨#[109, 105, 110]⟩, 1, [⟨1, ⟨#[108]⟩, [exA, exC]⟩, ⟨3, ⟨#[60]⟩, [exO, ex1]⟩]⟩
def exP : Pr := ⟨[⟨⟨#[108]⟩, 2⟩], [], [exR]⟩
theorem small64 {n : Int} (h : 0 ≤ n ∧ n ≤ 100) : I64 n := ⟨by omega, by omega⟩
theorem zV_rep (S : Nat → Prop) (w : World) : RepG S w zV (.int .i64 0) (.int .i64 0) (.string ⟨#[]⟩) (.slice none 0 0) := flat_rep S w 0 0 ⟨#[]⟩ (small64 (by omega)) (small64 (by omega)) (by decide)
theorem exA_rep (S : Nat → Prop) (w : World) : RepM S w exA (.int .i64 1) (.string ⟨#[83]⟩) (.int .i64 0) (.int .i64 0) (.string ⟨#[]⟩) (.slice none 0 0) (.slice none 0 0) := repM_mk.2 ⟨rfl, rfl, small64 (by omega), by decide, zV_rep S w, slg_nil⟩
theorem exC_rep (S : Nat → Prop) (w : World) : RepM S w exC (.int .i64 1) (.string ⟨#[67]⟩) (.int .i64 0) (.int .i64 0) (.string ⟨#[]⟩) (.slice none 0 0) (.slice none 0 0) := repM_mk.2 ⟨rfl, rfl, small64 (by omega), by decide, zV_rep S w, slg_nil⟩
theorem ex1_rep (S : Nat → Prop) (w : World) : RepM S w ex1 (.int .i64 2) (.string ⟨#[]⟩) (.int .i64 1) (.int .i64 1) (.string ⟨#[]⟩) (.slice none 0 0) (.slice none 0 0) := repM_mk.2 ⟨rfl, rfl, small64 (by omega), by decide, flat_rep S w 1 1 ⟨#[]⟩ (small64 (by omega)) (small64 (by omega)) (by decide), slg_nil⟩
theorem zT_rep (S : Nat → Prop) (w : World) : RepM S w (.mk 0 ⟨#[]⟩ zV []) (.int .i64 0) (.string ⟨#[]⟩) (.int .i64 0) (.int .i64 0) (.string ⟨#[]⟩) (.slice none 0 0) (.slice none 0 0) := repM_mk.2 ⟨rfl, rfl, small64 (by omega), by decide, zV_rep S w, slg_nil⟩

def exObjs (w : World) : List Obj := [.cells #[.int .i64 1, .string ⟨#[83]⟩, .int .i64 0, .int .i64 0, .string ⟨#[]⟩, .slice none 0 0, .slice none 0 0] 46,
  .cells #[.int .i64 1, .string ⟨#[67]⟩, .int .i64 0, .int .i64 0, .string ⟨#[]⟩, .slice none 0 0, .slice none 0 0] 46,
  .cells #[.int .i64 2, .string ⟨#[]⟩, .int .i64 1, .int .i64 1, .string ⟨#[]⟩, .slice none 0 0, .slice none 0 0] 46,
  .cells #[.int .i64 1, .string ⟨#[83]⟩, .int .i64 0, .int .i64 0, .string ⟨#[]⟩, .slice none 0 0, .slice none 0 0, .int .i64 1, .string ⟨#[67]⟩, .int .i64 0, .int .i64 0, .string ⟨#[]⟩, .slice none 0 0, .slice none 0 0] 46,
  .cells #[.int .i64 1, .string ⟨#[83]⟩, .int .i64 0, .int .i64 0, .string ⟨#[]⟩, .slice none 0 0, .slice none 0 0, .int .i64 1, .string ⟨#[67]⟩, .int .i64 0, .int .i64 0, .string ⟨#[]⟩, .slice none 0 0, .slice none 0 0] 46,
  .cells #[.int .i64 1, .string ⟨#[67]⟩, .int .i64 0, .int .i64 0, .string ⟨#[]⟩, .slice none 0 0, .slice none 0 0, .int .i64 2, .string ⟨#[]⟩, .int .i64 1, .int .i64 1, .string ⟨#[]⟩, .slice none 0 0, .slice none 0 0] 46,
  .cells #[.int .i64 4, .string ⟨#[43]⟩, .int .i64 0, .int .i64 0, .string ⟨#[]⟩, .slice none 0 0, .slice (some ⟨w.heap.size + 1 + 1 + 1 + 1 + 1, 0, none⟩) 2 2, .int .i64 2, .string ⟨#[]⟩, .int .i64 1, .int .i64 1, .string ⟨#[]⟩, .slice none 0 0, .slice none 0 0] 46,
  .cells #[.int .i64 1, .string ⟨#[108]⟩, .slice (some ⟨w.heap.size + 1 + 1 + 1 + 1, 0, none⟩) 2 2, .int .i64 3, .string ⟨#[60]⟩, .slice (some ⟨w.heap.size + 1 + 1 + 1 + 1 + 1 + 1, 0, none⟩) 2 2] 41,
  .cells #[.string ⟨#[114, 49]⟩, .string ⟨#[112]⟩, .slice (some ⟨w.heap.size + 1 + 1 + 1, 0, none⟩) 2 2, .string ⟨#[109, 105, 110]⟩, .int .i64 1, .slice (some ⟨w.heap.size + 1 + 1 + 1 + 1 + 1 + 1 + 1, 0, none⟩) 2 2] 37,
  .cells #[.string ⟨#[108]⟩, .int .i64 2] 57,
  .cells #[.string ⟨#[114, 49]⟩, .string ⟨#[112]⟩, .slice (some ⟨w.heap.size + 1 + 1 + 1, 0, none⟩) 2 2, .string ⟨#[109, 105, 110]⟩, .int .i64 1, .slice (some ⟨w.heap.size + 1 + 1 + 1 + 1 + 1 + 1 + 1, 0, none⟩) 2 2] 37,
  .cells #[.slice (some ⟨w.heap.size + 1 + 1 + 1 + 1 + 1 + 1 + 1 + 1 + 1, 0, none⟩) 1 1, .slice none 0 0, .slice (some ⟨w.heap.size + 1 + 1 + 1 + 1 + 1 + 1 + 1 + 1 + 1 + 1, 0, none⟩) 1 1] 26]
theorem ex_size (w : World) : ((exObjs w).foldl World.alloc w).heap.size = w.heap.size + 12 := allocs_size _ w
theorem ex_rep (w : World) : RepPr (fun k => w.heap.size ≤ k ∧ k < w.heap.size + 12) ((exObjs w).foldl World.alloc w) exP (.slice (some ⟨w.heap.size + 1 + 1 + 1 + 1 + 1 + 1 + 1 + 1 + 1, 0, none⟩) 1 1) (.slice none 0 0) (.slice (some ⟨w.heap.size + 1 + 1 + 1 + 1 + 1 + 1 + 1 + 1 + 1 + 1, 0, none⟩) 1 1) := by
  have n1 : I64 1 := small64 (by omega)
  have n2 : I64 2 := small64 (by omega)
  have n3 : I64 3 := small64 (by omega)
  have t1 : ∀ {c : UInt8}, (⟨#[c]⟩ : ByteArray).size ≤ maxLen := by intro c; show 1 ≤ maxLen; decide
  have t1' : (⟨#[60]⟩ : ByteArray).size ≤ maxLen := by decide
  have t2 : (⟨#[114, 49]⟩ : ByteArray).size ≤ maxLen := by decide
  have t3 : (⟨#[109, 105, 110]⟩ : ByteArray).size ≤ maxLen := by decide
  have at_ : ∀ i, i < 12 → ((exObjs w).foldl World.alloc w).heap[w.heap.size + i]? = (exObjs w)[i]? := fun i hi => allocs_at (exObjs w) w i hi
  have b3 := at_ 3 (by omega)
  have b4 := at_ 4 (by omega)
  have b5 := at_ 5 (by omega)
  have b6 := at_ 6 (by omega)
  have b7 := at_ 7 (by omega)
  have b9 := at_ 9 (by omega)
  have b10 := at_ 10 (by omega)
  clear at_
  generalize hz : (exObjs w).foldl World.alloc w = wz at *
  clear hz
  have r3 : RepMs (fun k => w.heap.size ≤ k ∧ k < w.heap.size + 12) wz [exA, exC] (.slice (some ⟨w.heap.size + 1 + 1 + 1, 0, none⟩) 2 2) := slg_row b3 (by omega) rfl (by decide) (fun i h => match i, h with
    | 0, _ => exA_rep _ _
    | 1, _ => exC_rep _ _)
  have r4 : RepMs (fun k => w.heap.size ≤ k ∧ k < w.heap.size + 12) wz [exA, exC] (.slice (some ⟨w.heap.size + 1 + 1 + 1 + 1, 0, none⟩) 2 2) := slg_row b4 (by omega) rfl (by decide) (fun i h => match i, h with
    | 0, _ => exA_rep _ _
    | 1, _ => exC_rep _ _)
  have r5 : RepMs (fun k => w.heap.size ≤ k ∧ k < w.heap.size + 12) wz [exC, ex1] (.slice (some ⟨w.heap.size + 1 + 1 + 1 + 1 + 1, 0, none⟩) 2 2) := slg_row b5 (by omega) rfl (by decide) (fun i h => match i, h with
    | 0, _ => exC_rep _ _
    | 1, _ => ex1_rep _ _)
  have r6 : RepMs (fun k => w.heap.size ≤ k ∧ k < w.heap.size + 12) wz [exO, ex1] (.slice (some ⟨w.heap.size + 1 + 1 + 1 + 1 + 1 + 1, 0, none⟩) 2 2) := slg_row b6 (by omega) rfl (by decide) (fun i h => match i, h with
    | 0, _ => repM_mk.2 ⟨rfl, rfl, small64 (by omega), by decide, zV_rep _ _, r5⟩
    | 1, _ => ex1_rep _ _)
  have r7 : RepLis (fun k => w.heap.size ≤ k ∧ k < w.heap.size + 12) wz [⟨1, ⟨#[108]⟩, [exA, exC]⟩, ⟨3, ⟨#[60]⟩, [exO, ex1]⟩] (.slice (some ⟨w.heap.size + 1 + 1 + 1 + 1 + 1 + 1 + 1, 0, none⟩) 2 2) := slg_row b7 (by omega) rfl (by decide) (fun i h => match i, h with
    | 0, _ => ⟨rfl, rfl, n1, t1, r4⟩
    | 1, _ => ⟨rfl, rfl, n3, t1', r6⟩)
  refine ⟨slg_row b9 (by omega) rfl (by decide) (fun i h => match i, h with
    | 0, _ => ⟨rfl, rfl, t1, n2⟩), slg_nil, slg_row b10 (by omega) rfl (by decide) (fun i h => match i, h with
    | 0, _ => ⟨rfl, rfl, rfl, rfl, t2, t1, t3, n1, r3, r7⟩)⟩
theorem ex_right : prB exP = true := by kernel_rfl
theorem itoa_one : Lib.itoa 1 = [49] := by rw [Lib.itoa, if_neg (by decide), Lib.decDigits, dif_pos (by decide)]; rfl
theorem itoa_two : Lib.itoa 2 = [50] := by rw [Lib.itoa, if_neg (by decide), Lib.decDigits, dif_pos (by decide)]; rfl
theorem print_one : printB (.mk 1 1 ⟨#[]⟩ []) = [49] := by
  rw [printB, if_pos (by kernel_rfl)]; simp [prV, itoa_one]
theorem ex_text : (⟨(told (prB exP) (showPr exP)).toArray⟩ : ByteArray) = ⟨#[109, 97, 116, 101, 114, 105, 97, 108, 105, 122, 101, 40, 108, 44, 50, 41, 46, 10, 114, 49, 32, 112, 40, 64, 83, 44, 109, 105, 110, 60, 67, 62, 41, 32, 58, 45, 32, 108, 40, 64, 83, 44, 67, 41, 44, 32, 40, 67, 43, 49, 41, 32, 60, 32, 49, 46, 10]⟩ := by
  rw [ex_right]
  have e1 : showM exA = [83] := by rw [exA, showM_mk]; rfl
  have e2 : showM exC = [67] := by rw [exC, showM_mk]; rfl
  have e3 : showM ex1 = [49] := by rw [ex1, showM_mk]; simp [print_one]
  have e4 : showM exO = [40, 67, 43, 49, 41] := by rw [exO, showM_mk]; simp [sepL, e2, e3]
  simp [told, showPr, exP, linesOf, showDe, showRu, showHead, showAtom, exR, showLi, sepL, e1, e2, e3, e4, itoa_two, aggAt, Lib.toList_data]
theorem exC_text : (⟨(told (rightM 8 exC) (showM exC)).toArray⟩ : ByteArray) = ⟨#[67]⟩ := by
  rw [show rightM 8 exC = true by kernel_rfl]
  rw [told, exC, showM_mk]; rfl
theorem zT_text : (⟨(told (rightM 8 (.mk 0 ⟨#[]⟩ zV [])) (showM (.mk 0 ⟨#[]⟩ zV []))).toArray⟩ : ByteArray) = ⟨#[]⟩ := by
  rw [show rightM 8 (.mk 0 ⟨#[]⟩ zV []) = false by kernel_rfl]; rfl

set_option maxRecDepth 100000 in
set_option maxHeartbeats 16000000 in
theorem awake4_any (w : World) (hg : 0 < w.heap.size) (htab : TabOk w) : Calls Tryz.prog 9 #[] w fun e w' => e = .returned (.bool true) ∧ Below w.heap.size w w' := by
  have HG := Lib.hid hg; have HT := Lib.hid htab
  clear hg htab
  go_enter Tryz.func9, Tryz.ntmps9
  go_wp2_with fail
  change Calls Tryz.prog 10 #[.agg #[.slice (some ⟨w.heap.size + 1 + 1 + 1 + 1 + 1 + 1 + 1 + 1 + 1, 0, none⟩) 1 1, .slice none 0 0, .slice (some ⟨w.heap.size + 1 + 1 + 1 + 1 + 1 + 1 + 1 + 1 + 1 + 1, 0, none⟩) 1 1]] ((exObjs w).foldl World.alloc w) _
  have HR := Lib.hid (ex_rep w)
  have HSZ := Lib.hid (ex_size w)
  have HB := Lib.hid (allocs_below (exObjs w) w w.heap.size (Nat.le_refl _))
  have at_ : ∀ i, i < 12 → ((exObjs w).foldl World.alloc w).heap[w.heap.size + i]? = (exObjs w)[i]? := fun i hi => allocs_at (exObjs w) w i hi
  have XC : Hid (BoxM ((exObjs w).foldl World.alloc w) (w.heap.size + 1) (.int .i64 1) (.string ⟨#[67]⟩) (.int .i64 0) (.int .i64 0) (.string ⟨#[]⟩) (.slice none 0 0) (.slice none 0 0)) := at_ 1 (by omega)
  have XP : Hid (BoxPr ((exObjs w).foldl World.alloc w) (w.heap.size + 1 + 1 + 1 + 1 + 1 + 1 + 1 + 1 + 1 + 1 + 1) (.slice (some ⟨w.heap.size + 1 + 1 + 1 + 1 + 1 + 1 + 1 + 1 + 1, 0, none⟩) 1 1) (.slice none 0 0) (.slice (some ⟨w.heap.size + 1 + 1 + 1 + 1 + 1 + 1 + 1 + 1 + 1 + 1, 0, none⟩) 1 1)) := at_ 11 (by omega)
  clear at_
  generalize (exObjs w).foldl World.alloc w = wz at *
  refine (prRight_any exP _ _ _ _ _ (fun k hk => by have := HSZ.out; omega) HR.out).mono ?_
  rw [ex_right]
  rintro e w2 ⟨rfl, hb⟩
  have B2 := Lib.hid (Below.step HB.out hb)
  have X2 := Lib.hid (XP.out.on hb); have C2 := Lib.hid (XC.out.on hb)
  have R2 := Lib.hid (RepPr.on (fun _ h => h) (fun k hk => hb.block k (by have := HSZ.out; omega)) HR.out)
  have Z2 : Hid (w.heap.size + 12 ≤ w2.heap.size) := by have := HSZ.out; have := hb.size; show _ ≤ _; omega
  clear hb
  obtain ⟨p0, p1, p2⟩ := X2.out.cells
  go_wp2_with fail
  refine (prPr_any exP _ _ _ _ _ (fun k hk => by have := Z2.out; omega) (by have := HG.out; have := B2.out.size; omega) (HT.out.below HG.out B2.out) R2.out (fun h => showPr_fits h)).mono ?_
  rw [ex_text]
  rintro e w3 ⟨rfl, hb⟩
  have B3 := Lib.hid (Below.step B2.out hb)
  have C3 := Lib.hid (C2.out.on hb)
  clear hb p0 p1 p2
  obtain ⟨p0, p1, p2, p3, p4, p5, p6⟩ := C3.out.cells
  go_wp2_with fail
  refine (prTm_any exC (fun _ => False) _ _ _ _ _ _ _ _ (fun k hk => hk.elim) (by have := HG.out; have := B3.out.size; omega) (HT.out.below HG.out B3.out) (exC_rep _ _) (fun h => showM_fits h)).mono ?_
  rw [exC_text]
  rintro e w4 ⟨rfl, hb⟩
  have B4 := Lib.hid (Below.step B3.out hb)
  clear hb p0 p1 p2 p3 p4 p5 p6
  go_wp2_with fail
  refine (prTm_any (.mk 0 ⟨#[]⟩ zV []) (fun _ => False) _ _ _ _ _ _ _ _ (fun k hk => hk.elim) (by have := HG.out; have := B4.out.size; omega) (HT.out.below HG.out B4.out) (zT_rep _ _) (fun h => showM_fits h)).mono ?_
  rw [zT_text]
  rintro e w5 ⟨rfl, hb⟩
  have B5 := Lib.hid (Below.step B4.out hb)
  clear hb
  go_wp2_with fail
  go_ret
  exact ⟨rfl, B5.out⟩

end Go.Proofs.YtgjemmdhamkngaaGreatDoor

/-
  Layer 4's own 'Term': a raw term made right. Leaves.
-/
namespace Go.Proofs.YtgjemmdhamkngaaGreatDoor
open Go.RowKit

/-- A new term. -/
def MadeM (y : Tm) (w : World) (e : Ending) (w' : World) : Prop := ∃ c0 c1 c2 c3 c4 c5 c6, e = .returned (.agg #[c0, c1, c2, c3, c4, c5, c6]) ∧ RepM (fun b => w.heap.size ≤ b ∧ b < w'.heap.size) w' y c0 c1 c2 c3 c4 c5 c6 ∧ Below w.heap.size w w'
def FitTmAt (d : Nat) : Prop := ∀ (x : Tm) (S : Nat → Prop) (w : World) (c0 c1 c2 c3 c4 c5 c6 : Value), (∀ k, S k → k < w.heap.size) → RepM S w x c0 c1 c2 c3 c4 c5 c6 →
  Calls Tryz.prog 24 #[.agg #[c0, c1, c2, c3, c4, c5, c6], .int .i64 d] w (MadeM (fitTm d x) w)

/-- A term stored whole into a box. -/
def set7 (w : World) (b : Nat) (c0 c1 c2 c3 c4 c5 c6 : Value) : World := ((((((w.setCell ⟨b, 0, none⟩ c0).setCell ⟨b, 1, none⟩ c1).setCell ⟨b, 2, none⟩ c2).setCell ⟨b, 3, none⟩ c3).setCell ⟨b, 4, none⟩ c4).setCell ⟨b, 5, none⟩ c5).setCell ⟨b, 6, none⟩ c6
theorem set7_size (w : World) (b : Nat) (c0 c1 c2 c3 c4 c5 c6 : Value) : (set7 w b c0 c1 c2 c3 c4 c5 c6).heap.size = w.heap.size := by simp [set7, World.setCell]
theorem set7_other (w : World) (b : Nat) (c0 c1 c2 c3 c4 c5 c6 : Value) (k : Nat) (h : k ≠ b) : (set7 w b c0 c1 c2 c3 c4 c5 c6).heap[k]? = w.heap[k]? := by
  unfold set7
  rw [Below.heap_setCell _ _ _ _ h, Below.heap_setCell _ _ _ _ h, Below.heap_setCell _ _ _ _ h, Below.heap_setCell _ _ _ _ h, Below.heap_setCell _ _ _ _ h, Below.heap_setCell _ _ _ _ h, Below.heap_setCell _ _ _ _ h]
set_option maxHeartbeats 8000000 in
theorem set7_box {w : World} {b : Nat} {d0 d1 d2 d3 d4 d5 d6 : Value} (h : BoxM w b d0 d1 d2 d3 d4 d5 d6) (c0 c1 c2 c3 c4 c5 c6 : Value) : BoxM (set7 w b c0 c1 c2 c3 c4 c5 c6) b c0 c1 c2 c3 c4 c5 c6 :=
  heap_setCell_same _ _ _ _ _ _ (heap_setCell_same _ _ _ _ _ _ (heap_setCell_same _ _ _ _ _ _ (heap_setCell_same _ _ _ _ _ _ (heap_setCell_same _ _ _ _ _ _ (heap_setCell_same _ _ _ _ _ _ (heap_setCell_same _ _ _ _ _ _ h))))))
theorem set7_below {w0 w : World} {B b : Nat} (h : Below B w0 w) (hb : B ≤ b) (c0 c1 c2 c3 c4 c5 c6 : Value) : Below B w0 (set7 w b c0 c1 c2 c3 c4 c5 c6) :=
  ((((((h.setCell hb c0).setCell hb c1).setCell hb c2).setCell hb c3).setCell hb c4).setCell hb c5).setCell hb c6
theorem frozen7 {w : World} {b : Nat} {d0 d1 d2 d3 d4 d5 d6 : Value} (h : BoxM w b d0 d1 d2 d3 d4 d5 d6) (i : Nat) : w.frozen? ⟨b, i, none⟩ = false := frozen_of_row w b i _ _ h

set_option maxRecDepth 100000 in
set_option maxHeartbeats 16000000 in
theorem term_one : FitTmAt 1 := by
  intro x S w c0 c1 c2 c3 c4 c5 c6 hS hx
  have HS := hS
  have HN := Lib.hid hx.bounds.2; have HK1 := Lib.hid hx.bounds.1
  have HV := Lib.hid hx.value; have HL := Lib.hid hx.lst
  obtain ⟨fa, fc, ga, gc, rfl, rfl, rfl, rfl, rfl, rfl, rfl⟩ := hx.form
  have HBD := pickZ_bd x.kind 4 (by omega)
  have he : fitTm 1 x = fitLeaf (pickZ x.kind 4 % 2) x.name x.val := by
    cases x; rw [fitTm, if_pos (.inl rfl)]; rfl
  clear hx
  by_cases hp : pickZ x.kind 4 = 0
  · rw [hp] at he
    have HE : Hid (fitTm 1 x = .mk 1 (varOf x.name) nV []) := he
    have HP := Lib.hid hp
    clear hp he HBD
    go_enter Tryz.func24, Tryz.ntmps24
    go_wp2_with fail
    refine (pick4_any x.kind 4 _ HK1.out (by omega) (by omega)).mono ?_
    rintro e w' ⟨rfl, rfl⟩
    rw [HP.out]
    have x0 := boxM_new w (.int .i64 x.kind) (.string x.name) (.int .i64 x.val.kind) (.int .i64 x.val.num) (.string x.val.text) (.slice fa x.val.list.length fc) (.slice ga x.args.length gc)
    have b0 := below_alloc w (.cells #[.int .i64 x.kind, .string x.name, .int .i64 x.val.kind, .int .i64 x.val.num, .string x.val.text, .slice fa x.val.list.length fc, .slice ga x.args.length gc] 46)
    have s0 := World.size_alloc w (.cells #[.int .i64 x.kind, .string x.name, .int .i64 x.val.kind, .int .i64 x.val.num, .string x.val.text, .slice fa x.val.list.length fc, .slice ga x.args.length gc] 46)
    generalize w.alloc (.cells #[.int .i64 x.kind, .string x.name, .int .i64 x.val.kind, .int .i64 x.val.num, .string x.val.text, .slice fa x.val.list.length fc, .slice ga x.args.length gc] 46) = w0 at *
    have x1 := boxM_new w0 (.int .i64 0) (.string ⟨#[]⟩) (.int .i64 0) (.int .i64 0) (.string ⟨#[]⟩) (.slice none 0 0) (.slice none 0 0)
    have b1 := below_alloc w0 (.cells #[.int .i64 0, .string ⟨#[]⟩, .int .i64 0, .int .i64 0, .string ⟨#[]⟩, .slice none 0 0, .slice none 0 0] 46)
    have s1 := World.size_alloc w0 (.cells #[.int .i64 0, .string ⟨#[]⟩, .int .i64 0, .int .i64 0, .string ⟨#[]⟩, .slice none 0 0, .slice none 0 0] 46)
    generalize w0.alloc (.cells #[.int .i64 0, .string ⟨#[]⟩, .int .i64 0, .int .i64 0, .string ⟨#[]⟩, .slice none 0 0, .slice none 0 0] 46) = w1 at *
    rw [s0] at x1 s1
    have X1 := Lib.hid (x0.on b1); have R1 := Lib.hid x1; have B1 := Lib.hid (Below.step b0 b1); have HS1 : Hid (w1.heap.size = w.heap.size + 2) := by show _ = _; omega
    clear x0 b0 x1 b1 s0 s1
    obtain ⟨p0, p1, p2, p3, p4, p5, p6⟩ := X1.out.cells
    go_wp2_with fail
    refine (Variable_any x.name _ HN.out).mono ?_
    rintro e w2 ⟨rfl, hb⟩
    have R2 := Lib.hid (R1.out.on hb); have B2 := Lib.hid (Below.step B1.out hb)
    clear hb p0 p1 p2 p3 p4 p5 p6
    obtain ⟨r0, r1, r2, r3, r4, r5, r6⟩ := R2.out.cells
    have z0 := frozen7 R2.out 0; have z1 := frozen7 R2.out 1; have z2 := frozen7 R2.out 2; have z3 := frozen7 R2.out 3; have z4 := frozen7 R2.out 4; have z5 := frozen7 R2.out 5; have z6 := frozen7 R2.out 6
    go_wp2_with fail
    refine bodyPost_ret (v := .agg #[.int .i64 1, .string (varOf x.name), .int .i64 0, .int .i64 0, .string ⟨#[]⟩, .slice none 0 0, .slice none 0 0]) (by simp [results, Tryz.results24, go_sem, r0, r1, r2, r3, r4, r5, r6]) rfl ?_
    rw [HE.out]
    exact ⟨_, _, _, _, _, _, _, rfl, repM_mk.2 ⟨rfl, rfl, small64 (by omega), Nat.le_trans (varOf_size _) (by decide), zV_rep _ _, slg_nil⟩, set7_below (b := w.heap.size + 1) B2.out (by omega) _ _ _ _ _ _ _⟩
  by_cases hp : pickZ x.kind 4 = 1
  · rw [hp] at he
    have HE : Hid (fitTm 1 x = .mk 2 ⟨#[]⟩ (fitVal x.val) []) := he
    have HP := Lib.hid hp
    clear hp he HBD
    go_enter Tryz.func24, Tryz.ntmps24
    go_wp2_with fail
    refine (pick4_any x.kind 4 _ HK1.out (by omega) (by omega)).mono ?_
    rintro e w' ⟨rfl, rfl⟩
    rw [HP.out]
    have x0 := boxM_new w (.int .i64 x.kind) (.string x.name) (.int .i64 x.val.kind) (.int .i64 x.val.num) (.string x.val.text) (.slice fa x.val.list.length fc) (.slice ga x.args.length gc)
    have b0 := below_alloc w (.cells #[.int .i64 x.kind, .string x.name, .int .i64 x.val.kind, .int .i64 x.val.num, .string x.val.text, .slice fa x.val.list.length fc, .slice ga x.args.length gc] 46)
    have s0 := World.size_alloc w (.cells #[.int .i64 x.kind, .string x.name, .int .i64 x.val.kind, .int .i64 x.val.num, .string x.val.text, .slice fa x.val.list.length fc, .slice ga x.args.length gc] 46)
    generalize w.alloc (.cells #[.int .i64 x.kind, .string x.name, .int .i64 x.val.kind, .int .i64 x.val.num, .string x.val.text, .slice fa x.val.list.length fc, .slice ga x.args.length gc] 46) = w0 at *
    have x1 := boxM_new w0 (.int .i64 0) (.string ⟨#[]⟩) (.int .i64 0) (.int .i64 0) (.string ⟨#[]⟩) (.slice none 0 0) (.slice none 0 0)
    have b1 := below_alloc w0 (.cells #[.int .i64 0, .string ⟨#[]⟩, .int .i64 0, .int .i64 0, .string ⟨#[]⟩, .slice none 0 0, .slice none 0 0] 46)
    have s1 := World.size_alloc w0 (.cells #[.int .i64 0, .string ⟨#[]⟩, .int .i64 0, .int .i64 0, .string ⟨#[]⟩, .slice none 0 0, .slice none 0 0] 46)
    generalize w0.alloc (.cells #[.int .i64 0, .string ⟨#[]⟩, .int .i64 0, .int .i64 0, .string ⟨#[]⟩, .slice none 0 0, .slice none 0 0] 46) = w1 at *
    rw [s0] at x1 s1
    have X1 := Lib.hid (x0.on b1); have R1 := Lib.hid x1; have B1 := Lib.hid (Below.step b0 b1); have HS1 : Hid (w1.heap.size = w.heap.size + 2) := by show _ = _; omega
    clear x0 b0 x1 b1 s0 s1
    obtain ⟨p0, p1, p2, p3, p4, p5, p6⟩ := X1.out.cells
    go_wp2_with fail
    refine (Fit_any x.val w1.heap.size w1 _ _ _ _ (Nat.le_refl _) (RepG.on (fun k hk => by have := HS k hk; have := HS1.out; omega) (fun k hk => B1.out.block k (HS k hk)) x.val HV.out)).mono ?_
    rintro e w2 ⟨d0, d1, d2, d3, rfl, hrep, hb⟩
    obtain ⟨fa', fc', rfl, rfl, rfl, rfl⟩ := hrep.form
    have HR2 := Lib.hid hrep
    have hyb := RepG.bounds hrep
    have HYB := Lib.hid hyb
    have HFV : Hid (fitVal x.val = if (fitV 4 x.val).kind = 3 then .mk 3 (fitV 4 x.val).num (relOf (fitV 4 x.val).text) (fitV 4 x.val).list else fitV 4 x.val) := by show _ = _; rfl
    generalize fitV 4 x.val = y at *
    have R2 := Lib.hid (R1.out.on hb); have B2 := Lib.hid (Below.step B1.out hb)
    have HS2 : Hid (w.heap.size + 2 ≤ w2.heap.size) := by show _ ≤ _; have := HS1.out; have := hb.size; omega
    clear hb hrep hyb p0 p1 p2 p3 p4 p5 p6
    by_cases hk : y.kind = 3
    · have hk' : (y.kind == 3) = true := by simp [hk]
      have HK3 := Lib.hid hk
      clear hk
      go_wp2_with fail
      have v3 := boxed_new w2 (.int .i64 y.kind) (.int .i64 y.num) (.string y.text) (.slice fa' y.list.length fc')
      have b3 := below_alloc w2 (.cells #[.int .i64 y.kind, .int .i64 y.num, .string y.text, .slice fa' y.list.length fc'] 44)
      generalize w2.alloc (.cells #[.int .i64 y.kind, .int .i64 y.num, .string y.text, .slice fa' y.list.length fc'] 44) = w3 at *
      generalize hv3 : w2.heap.size = bv at v3 ⊢
      have HV3 := Lib.hid hv3
      clear hv3
      refine (Relation_any y.text _ HYB.out.2.2).mono ?_
      rintro e w4 ⟨rfl, hb⟩
      have V4 := Lib.hid (v3.on hb)
      have b4 := Below.step b3 hb
      have R4 := Lib.hid (R2.out.on b4); have B4 := Lib.hid (Below.step B2.out b4); have H24 := Lib.hid b4
      have HBV : Hid (bv < w4.heap.size) := V4.out.lt
      clear v3 b3 b4 hb
      obtain ⟨q0, q1, q2, q3⟩ := V4.out.cells
      have y2 := frozen_of_row w4 _ 2 _ _ V4.out
      obtain ⟨r0, r1, r2, r3, r4, r5, r6⟩ := R4.out.cells
      have z0 := frozen7 R4.out 0; have z1 := frozen7 R4.out 1; have z2 := frozen7 R4.out 2; have z3 := frozen7 R4.out 3; have z4 := frozen7 R4.out 4; have z5 := frozen7 R4.out 5; have z6 := frozen7 R4.out 6
      have hne1 : bv ≠ w.heap.size + 1 := by have := HV3.out; have := HS2.out; omega
      have hne2 : w.heap.size + 1 ≠ bv := fun e => hne1 e.symm
      have HNE := Lib.hid hne1
      go_wp2_with fail
      refine bodyPost_ret (v := .agg #[.int .i64 2, .string ⟨#[]⟩, .int .i64 y.kind, .int .i64 y.num, .string (relOf y.text), .slice fa' y.list.length fc', .slice none 0 0]) (by simp [results, Tryz.results24, go_sem, r0, r1, r2, r3, r4, r5, r6]) rfl ?_
      rw [HE.out]
      refine ⟨_, _, _, _, _, _, _, rfl, repM_mk.2 ⟨rfl, rfl, small64 (by omega), by decide, ?_, slg_nil⟩, set7_below (b := w.heap.size + 1) (B4.out.setCell (p := ⟨bv, 2, none⟩) (by have := HV3.out; have := HS2.out; simp; omega) _) (by omega) _ _ _ _ _ _ _⟩
      rw [HFV.out, if_pos HK3.out]
      refine repG_mk.2 ⟨by rw [HK3.out], rfl, rfl, small64 (by omega), HYB.out.2.1, Nat.le_trans (relOf_size _) (by decide), RepLG.on (fun k hk => ⟨by have := HS1.out; omega, ?sz⟩) (fun k hk => ?eq) HR2.out.lst⟩
      case sz =>
        show k < (set7 (w4.setCell ⟨bv, 2, none⟩ _) (w.heap.size + 1) _ _ _ _ _ _ _).heap.size
        rw [set7_size]
        simp only [World.size_setCell]
        have := H24.out.size; omega
      case eq =>
        show (set7 (w4.setCell ⟨bv, 2, none⟩ _) (w.heap.size + 1) _ _ _ _ _ _ _).heap[k]? = _
        rw [set7_other _ _ _ _ _ _ _ _ _ _ (by have := HS1.out; omega), Below.heap_setCell _ _ _ _ (by have := HV3.out; show k ≠ bv; omega)]
        exact H24.out.block k hk.2
    · have hk' : (y.kind == 3) = false := by simp [hk]
      have HK3 := Lib.hid hk
      clear hk
      have v3 := boxed_new w2 (.int .i64 y.kind) (.int .i64 y.num) (.string y.text) (.slice fa' y.list.length fc')
      have b3 := below_alloc w2 (.cells #[.int .i64 y.kind, .int .i64 y.num, .string y.text, .slice fa' y.list.length fc'] 44)
      have R3 := Lib.hid (R2.out.on b3)
      have B3 := Lib.hid (Below.step B2.out b3); have H23 := Lib.hid b3
      obtain ⟨r0, r1, r2, r3, r4, r5, r6⟩ := R3.out.cells
      have z0 := frozen7 R3.out 0; have z1 := frozen7 R3.out 1; have z2 := frozen7 R3.out 2; have z3 := frozen7 R3.out 3; have z4 := frozen7 R3.out 4; have z5 := frozen7 R3.out 5; have z6 := frozen7 R3.out 6
      clear v3 b3
      go_wp2_with fail
      refine bodyPost_ret (v := .agg #[.int .i64 2, .string ⟨#[]⟩, .int .i64 y.kind, .int .i64 y.num, .string y.text, .slice fa' y.list.length fc', .slice none 0 0]) (by simp [results, Tryz.results24, go_sem, r0, r1, r2, r3, r4, r5, r6]) rfl ?_
      rw [HE.out]
      refine ⟨_, _, _, _, _, _, _, rfl, repM_mk.2 ⟨rfl, rfl, small64 (by omega), by decide, ?_, slg_nil⟩, set7_below (b := w.heap.size + 1) B3.out (by omega) _ _ _ _ _ _ _⟩
      rw [HFV.out, if_neg HK3.out]
      refine RepG.on (fun k hk => ⟨by have := HS1.out; omega, ?sz⟩) (fun k hk => ?eq) y HR2.out
      case sz =>
        show k < (set7 (w2.alloc _) (w.heap.size + 1) _ _ _ _ _ _ _).heap.size
        rw [set7_size]
        have := H23.out.size; omega
      case eq =>
        show (set7 (w2.alloc _) (w.heap.size + 1) _ _ _ _ _ _ _).heap[k]? = _
        rw [set7_other _ _ _ _ _ _ _ _ _ _ (by have := HS1.out; omega)]
        exact H23.out.block k hk.2
  by_cases hp : pickZ x.kind 4 = 2
  · rw [hp] at he
    have HE : Hid (fitTm 1 x = .mk 1 (varOf x.name) nV []) := he
    have HP := Lib.hid hp
    clear hp he HBD
    go_enter Tryz.func24, Tryz.ntmps24
    go_wp2_with fail
    refine (pick4_any x.kind 4 _ HK1.out (by omega) (by omega)).mono ?_
    rintro e w' ⟨rfl, rfl⟩
    rw [HP.out]
    have x0 := boxM_new w (.int .i64 x.kind) (.string x.name) (.int .i64 x.val.kind) (.int .i64 x.val.num) (.string x.val.text) (.slice fa x.val.list.length fc) (.slice ga x.args.length gc)
    have b0 := below_alloc w (.cells #[.int .i64 x.kind, .string x.name, .int .i64 x.val.kind, .int .i64 x.val.num, .string x.val.text, .slice fa x.val.list.length fc, .slice ga x.args.length gc] 46)
    have s0 := World.size_alloc w (.cells #[.int .i64 x.kind, .string x.name, .int .i64 x.val.kind, .int .i64 x.val.num, .string x.val.text, .slice fa x.val.list.length fc, .slice ga x.args.length gc] 46)
    generalize w.alloc (.cells #[.int .i64 x.kind, .string x.name, .int .i64 x.val.kind, .int .i64 x.val.num, .string x.val.text, .slice fa x.val.list.length fc, .slice ga x.args.length gc] 46) = w0 at *
    have x1 := boxM_new w0 (.int .i64 0) (.string ⟨#[]⟩) (.int .i64 0) (.int .i64 0) (.string ⟨#[]⟩) (.slice none 0 0) (.slice none 0 0)
    have b1 := below_alloc w0 (.cells #[.int .i64 0, .string ⟨#[]⟩, .int .i64 0, .int .i64 0, .string ⟨#[]⟩, .slice none 0 0, .slice none 0 0] 46)
    have s1 := World.size_alloc w0 (.cells #[.int .i64 0, .string ⟨#[]⟩, .int .i64 0, .int .i64 0, .string ⟨#[]⟩, .slice none 0 0, .slice none 0 0] 46)
    generalize w0.alloc (.cells #[.int .i64 0, .string ⟨#[]⟩, .int .i64 0, .int .i64 0, .string ⟨#[]⟩, .slice none 0 0, .slice none 0 0] 46) = w1 at *
    rw [s0] at x1 s1
    have X1 := Lib.hid (x0.on b1); have R1 := Lib.hid x1; have B1 := Lib.hid (Below.step b0 b1); have HS1 : Hid (w1.heap.size = w.heap.size + 2) := by show _ = _; omega
    clear x0 b0 x1 b1 s0 s1
    obtain ⟨p0, p1, p2, p3, p4, p5, p6⟩ := X1.out.cells
    go_wp2_with fail
    refine (Variable_any x.name _ HN.out).mono ?_
    rintro e w2 ⟨rfl, hb⟩
    have R2 := Lib.hid (R1.out.on hb); have B2 := Lib.hid (Below.step B1.out hb)
    clear hb p0 p1 p2 p3 p4 p5 p6
    obtain ⟨r0, r1, r2, r3, r4, r5, r6⟩ := R2.out.cells
    have z0 := frozen7 R2.out 0; have z1 := frozen7 R2.out 1; have z2 := frozen7 R2.out 2; have z3 := frozen7 R2.out 3; have z4 := frozen7 R2.out 4; have z5 := frozen7 R2.out 5; have z6 := frozen7 R2.out 6
    go_wp2_with fail
    refine bodyPost_ret (v := .agg #[.int .i64 1, .string (varOf x.name), .int .i64 0, .int .i64 0, .string ⟨#[]⟩, .slice none 0 0, .slice none 0 0]) (by simp [results, Tryz.results24, go_sem, r0, r1, r2, r3, r4, r5, r6]) rfl ?_
    rw [HE.out]
    exact ⟨_, _, _, _, _, _, _, rfl, repM_mk.2 ⟨rfl, rfl, small64 (by omega), Nat.le_trans (varOf_size _) (by decide), zV_rep _ _, slg_nil⟩, set7_below (b := w.heap.size + 1) B2.out (by omega) _ _ _ _ _ _ _⟩
  have hp : pickZ x.kind 4 = 3 := by omega
  rw [hp] at he
  have HE : Hid (fitTm 1 x = .mk 2 ⟨#[]⟩ (fitVal x.val) []) := he
  have HP := Lib.hid hp
  clear hp he HBD
  go_enter Tryz.func24, Tryz.ntmps24
  go_wp2_with fail
  refine (pick4_any x.kind 4 _ HK1.out (by omega) (by omega)).mono ?_
  rintro e w' ⟨rfl, rfl⟩
  rw [HP.out]
  have x0 := boxM_new w (.int .i64 x.kind) (.string x.name) (.int .i64 x.val.kind) (.int .i64 x.val.num) (.string x.val.text) (.slice fa x.val.list.length fc) (.slice ga x.args.length gc)
  have b0 := below_alloc w (.cells #[.int .i64 x.kind, .string x.name, .int .i64 x.val.kind, .int .i64 x.val.num, .string x.val.text, .slice fa x.val.list.length fc, .slice ga x.args.length gc] 46)
  have s0 := World.size_alloc w (.cells #[.int .i64 x.kind, .string x.name, .int .i64 x.val.kind, .int .i64 x.val.num, .string x.val.text, .slice fa x.val.list.length fc, .slice ga x.args.length gc] 46)
  generalize w.alloc (.cells #[.int .i64 x.kind, .string x.name, .int .i64 x.val.kind, .int .i64 x.val.num, .string x.val.text, .slice fa x.val.list.length fc, .slice ga x.args.length gc] 46) = w0 at *
  have x1 := boxM_new w0 (.int .i64 0) (.string ⟨#[]⟩) (.int .i64 0) (.int .i64 0) (.string ⟨#[]⟩) (.slice none 0 0) (.slice none 0 0)
  have b1 := below_alloc w0 (.cells #[.int .i64 0, .string ⟨#[]⟩, .int .i64 0, .int .i64 0, .string ⟨#[]⟩, .slice none 0 0, .slice none 0 0] 46)
  have s1 := World.size_alloc w0 (.cells #[.int .i64 0, .string ⟨#[]⟩, .int .i64 0, .int .i64 0, .string ⟨#[]⟩, .slice none 0 0, .slice none 0 0] 46)
  generalize w0.alloc (.cells #[.int .i64 0, .string ⟨#[]⟩, .int .i64 0, .int .i64 0, .string ⟨#[]⟩, .slice none 0 0, .slice none 0 0] 46) = w1 at *
  rw [s0] at x1 s1
  have X1 := Lib.hid (x0.on b1); have R1 := Lib.hid x1; have B1 := Lib.hid (Below.step b0 b1); have HS1 : Hid (w1.heap.size = w.heap.size + 2) := by show _ = _; omega
  clear x0 b0 x1 b1 s0 s1
  obtain ⟨p0, p1, p2, p3, p4, p5, p6⟩ := X1.out.cells
  go_wp2_with fail
  refine (Fit_any x.val w1.heap.size w1 _ _ _ _ (Nat.le_refl _) (RepG.on (fun k hk => by have := HS k hk; have := HS1.out; omega) (fun k hk => B1.out.block k (HS k hk)) x.val HV.out)).mono ?_
  rintro e w2 ⟨d0, d1, d2, d3, rfl, hrep, hb⟩
  obtain ⟨fa', fc', rfl, rfl, rfl, rfl⟩ := hrep.form
  have HR2 := Lib.hid hrep
  have hyb := RepG.bounds hrep
  have HYB := Lib.hid hyb
  have HFV : Hid (fitVal x.val = if (fitV 4 x.val).kind = 3 then .mk 3 (fitV 4 x.val).num (relOf (fitV 4 x.val).text) (fitV 4 x.val).list else fitV 4 x.val) := by show _ = _; rfl
  generalize fitV 4 x.val = y at *
  have R2 := Lib.hid (R1.out.on hb); have B2 := Lib.hid (Below.step B1.out hb)
  have HS2 : Hid (w.heap.size + 2 ≤ w2.heap.size) := by show _ ≤ _; have := HS1.out; have := hb.size; omega
  clear hb hrep hyb p0 p1 p2 p3 p4 p5 p6
  by_cases hk : y.kind = 3
  · have hk' : (y.kind == 3) = true := by simp [hk]
    have HK3 := Lib.hid hk
    clear hk
    go_wp2_with fail
    have v3 := boxed_new w2 (.int .i64 y.kind) (.int .i64 y.num) (.string y.text) (.slice fa' y.list.length fc')
    have b3 := below_alloc w2 (.cells #[.int .i64 y.kind, .int .i64 y.num, .string y.text, .slice fa' y.list.length fc'] 44)
    generalize w2.alloc (.cells #[.int .i64 y.kind, .int .i64 y.num, .string y.text, .slice fa' y.list.length fc'] 44) = w3 at *
    generalize hv3 : w2.heap.size = bv at v3 ⊢
    have HV3 := Lib.hid hv3
    clear hv3
    refine (Relation_any y.text _ HYB.out.2.2).mono ?_
    rintro e w4 ⟨rfl, hb⟩
    have V4 := Lib.hid (v3.on hb)
    have b4 := Below.step b3 hb
    have R4 := Lib.hid (R2.out.on b4); have B4 := Lib.hid (Below.step B2.out b4); have H24 := Lib.hid b4
    have HBV : Hid (bv < w4.heap.size) := V4.out.lt
    clear v3 b3 b4 hb
    obtain ⟨q0, q1, q2, q3⟩ := V4.out.cells
    have y2 := frozen_of_row w4 _ 2 _ _ V4.out
    obtain ⟨r0, r1, r2, r3, r4, r5, r6⟩ := R4.out.cells
    have z0 := frozen7 R4.out 0; have z1 := frozen7 R4.out 1; have z2 := frozen7 R4.out 2; have z3 := frozen7 R4.out 3; have z4 := frozen7 R4.out 4; have z5 := frozen7 R4.out 5; have z6 := frozen7 R4.out 6
    have hne1 : bv ≠ w.heap.size + 1 := by have := HV3.out; have := HS2.out; omega
    have hne2 : w.heap.size + 1 ≠ bv := fun e => hne1 e.symm
    have HNE := Lib.hid hne1
    go_wp2_with fail
    refine bodyPost_ret (v := .agg #[.int .i64 2, .string ⟨#[]⟩, .int .i64 y.kind, .int .i64 y.num, .string (relOf y.text), .slice fa' y.list.length fc', .slice none 0 0]) (by simp [results, Tryz.results24, go_sem, r0, r1, r2, r3, r4, r5, r6]) rfl ?_
    rw [HE.out]
    refine ⟨_, _, _, _, _, _, _, rfl, repM_mk.2 ⟨rfl, rfl, small64 (by omega), by decide, ?_, slg_nil⟩, set7_below (b := w.heap.size + 1) (B4.out.setCell (p := ⟨bv, 2, none⟩) (by have := HV3.out; have := HS2.out; simp; omega) _) (by omega) _ _ _ _ _ _ _⟩
    rw [HFV.out, if_pos HK3.out]
    refine repG_mk.2 ⟨by rw [HK3.out], rfl, rfl, small64 (by omega), HYB.out.2.1, Nat.le_trans (relOf_size _) (by decide), RepLG.on (fun k hk => ⟨by have := HS1.out; omega, ?sz⟩) (fun k hk => ?eq) HR2.out.lst⟩
    case sz =>
      show k < (set7 (w4.setCell ⟨bv, 2, none⟩ _) (w.heap.size + 1) _ _ _ _ _ _ _).heap.size
      rw [set7_size]
      simp only [World.size_setCell]
      have := H24.out.size; omega
    case eq =>
      show (set7 (w4.setCell ⟨bv, 2, none⟩ _) (w.heap.size + 1) _ _ _ _ _ _ _).heap[k]? = _
      rw [set7_other _ _ _ _ _ _ _ _ _ _ (by have := HS1.out; omega), Below.heap_setCell _ _ _ _ (by have := HV3.out; show k ≠ bv; omega)]
      exact H24.out.block k hk.2
  · have hk' : (y.kind == 3) = false := by simp [hk]
    have HK3 := Lib.hid hk
    clear hk
    have v3 := boxed_new w2 (.int .i64 y.kind) (.int .i64 y.num) (.string y.text) (.slice fa' y.list.length fc')
    have b3 := below_alloc w2 (.cells #[.int .i64 y.kind, .int .i64 y.num, .string y.text, .slice fa' y.list.length fc'] 44)
    have R3 := Lib.hid (R2.out.on b3)
    have B3 := Lib.hid (Below.step B2.out b3); have H23 := Lib.hid b3
    obtain ⟨r0, r1, r2, r3, r4, r5, r6⟩ := R3.out.cells
    have z0 := frozen7 R3.out 0; have z1 := frozen7 R3.out 1; have z2 := frozen7 R3.out 2; have z3 := frozen7 R3.out 3; have z4 := frozen7 R3.out 4; have z5 := frozen7 R3.out 5; have z6 := frozen7 R3.out 6
    clear v3 b3
    go_wp2_with fail
    refine bodyPost_ret (v := .agg #[.int .i64 2, .string ⟨#[]⟩, .int .i64 y.kind, .int .i64 y.num, .string y.text, .slice fa' y.list.length fc', .slice none 0 0]) (by simp [results, Tryz.results24, go_sem, r0, r1, r2, r3, r4, r5, r6]) rfl ?_
    rw [HE.out]
    refine ⟨_, _, _, _, _, _, _, rfl, repM_mk.2 ⟨rfl, rfl, small64 (by omega), by decide, ?_, slg_nil⟩, set7_below (b := w.heap.size + 1) B3.out (by omega) _ _ _ _ _ _ _⟩
    rw [HFV.out, if_neg HK3.out]
    refine RepG.on (fun k hk => ⟨by have := HS1.out; omega, ?sz⟩) (fun k hk => ?eq) y HR2.out
    case sz =>
      show k < (set7 (w2.alloc _) (w.heap.size + 1) _ _ _ _ _ _ _).heap.size
      rw [set7_size]
      have := H23.out.size; omega
    case eq =>
      show (set7 (w2.alloc _) (w.heap.size + 1) _ _ _ _ _ _ _).heap[k]? = _
      rw [set7_other _ _ _ _ _ _ _ _ _ _ (by have := HS1.out; omega)]
      exact H23.out.block k hk.2

set_option maxRecDepth 100000 in
set_option maxHeartbeats 16000000 in
theorem term_few (d : Nat) (hd : 1 ≤ d) (hdm : d ≤ 100) (x : Tm) (S : Nat → Prop) (w : World) (c0 c1 c2 c3 c4 c5 c6 : Value) (hS : ∀ k, S k → k < w.heap.size) (hx : RepM S w x c0 c1 c2 c3 c4 c5 c6) (hl : x.args.length < 2) :
    Calls Tryz.prog 24 #[.agg #[c0, c1, c2, c3, c4, c5, c6], .int .i64 ((d + 1 : Nat) : Int)] w (MadeM (fitTm (d + 1) x) w) := by
  have HS := hS
  have HN := Lib.hid hx.bounds.2; have HK1 := Lib.hid hx.bounds.1
  have HV := Lib.hid hx.value; have HL := Lib.hid hx.lst
  obtain ⟨fa, fc, ga, gc, rfl, rfl, rfl, rfl, rfl, rfl, rfl⟩ := hx.form
  have HBD := pickZ_bd x.kind 4 (by omega)
  have he : fitTm (d + 1) x = fitLeaf (pickZ x.kind 4 % 2) x.name x.val := by
    cases x; rw [fitTm, if_pos (.inr hl)]; rfl
  have hd1 : decide (((d + 1 : Nat) : Int) ≤ 1) = false := decide_eq_false (by omega)
  have hl2 : decide ((x.args.length : Int) < 2) = true := decide_eq_true (by omega)
  clear hx
  by_cases hp : pickZ x.kind 4 = 0
  · rw [hp] at he
    have HE : Hid (fitTm (d + 1) x = .mk 1 (varOf x.name) nV []) := he
    have HP := Lib.hid hp
    clear hp he HBD
    go_enter Tryz.func24, Tryz.ntmps24
    go_wp2_with fail
    refine (pick4_any x.kind 4 _ HK1.out (by omega) (by omega)).mono ?_
    rintro e w' ⟨rfl, rfl⟩
    rw [HP.out]
    have x0 := boxM_new w (.int .i64 x.kind) (.string x.name) (.int .i64 x.val.kind) (.int .i64 x.val.num) (.string x.val.text) (.slice fa x.val.list.length fc) (.slice ga x.args.length gc)
    have b0 := below_alloc w (.cells #[.int .i64 x.kind, .string x.name, .int .i64 x.val.kind, .int .i64 x.val.num, .string x.val.text, .slice fa x.val.list.length fc, .slice ga x.args.length gc] 46)
    have s0 := World.size_alloc w (.cells #[.int .i64 x.kind, .string x.name, .int .i64 x.val.kind, .int .i64 x.val.num, .string x.val.text, .slice fa x.val.list.length fc, .slice ga x.args.length gc] 46)
    generalize w.alloc (.cells #[.int .i64 x.kind, .string x.name, .int .i64 x.val.kind, .int .i64 x.val.num, .string x.val.text, .slice fa x.val.list.length fc, .slice ga x.args.length gc] 46) = w0 at *
    have x1 := boxM_new w0 (.int .i64 0) (.string ⟨#[]⟩) (.int .i64 0) (.int .i64 0) (.string ⟨#[]⟩) (.slice none 0 0) (.slice none 0 0)
    have b1 := below_alloc w0 (.cells #[.int .i64 0, .string ⟨#[]⟩, .int .i64 0, .int .i64 0, .string ⟨#[]⟩, .slice none 0 0, .slice none 0 0] 46)
    have s1 := World.size_alloc w0 (.cells #[.int .i64 0, .string ⟨#[]⟩, .int .i64 0, .int .i64 0, .string ⟨#[]⟩, .slice none 0 0, .slice none 0 0] 46)
    generalize w0.alloc (.cells #[.int .i64 0, .string ⟨#[]⟩, .int .i64 0, .int .i64 0, .string ⟨#[]⟩, .slice none 0 0, .slice none 0 0] 46) = w1 at *
    rw [s0] at x1 s1
    have X1 := Lib.hid (x0.on b1); have R1 := Lib.hid x1; have B1 := Lib.hid (Below.step b0 b1); have HS1 : Hid (w1.heap.size = w.heap.size + 2) := by show _ = _; omega
    clear x0 b0 x1 b1 s0 s1
    obtain ⟨p0, p1, p2, p3, p4, p5, p6⟩ := X1.out.cells
    go_wp2_with fail
    refine (Variable_any x.name _ HN.out).mono ?_
    rintro e w2 ⟨rfl, hb⟩
    have R2 := Lib.hid (R1.out.on hb); have B2 := Lib.hid (Below.step B1.out hb)
    clear hb p0 p1 p2 p3 p4 p5 p6
    obtain ⟨r0, r1, r2, r3, r4, r5, r6⟩ := R2.out.cells
    have z0 := frozen7 R2.out 0; have z1 := frozen7 R2.out 1; have z2 := frozen7 R2.out 2; have z3 := frozen7 R2.out 3; have z4 := frozen7 R2.out 4; have z5 := frozen7 R2.out 5; have z6 := frozen7 R2.out 6
    go_wp2_with fail
    refine bodyPost_ret (v := .agg #[.int .i64 1, .string (varOf x.name), .int .i64 0, .int .i64 0, .string ⟨#[]⟩, .slice none 0 0, .slice none 0 0]) (by simp [results, Tryz.results24, go_sem, r0, r1, r2, r3, r4, r5, r6]) rfl ?_
    rw [HE.out]
    exact ⟨_, _, _, _, _, _, _, rfl, repM_mk.2 ⟨rfl, rfl, small64 (by omega), Nat.le_trans (varOf_size _) (by decide), zV_rep _ _, slg_nil⟩, set7_below (b := w.heap.size + 1) B2.out (by omega) _ _ _ _ _ _ _⟩
  by_cases hp : pickZ x.kind 4 = 1
  · rw [hp] at he
    have HE : Hid (fitTm (d + 1) x = .mk 2 ⟨#[]⟩ (fitVal x.val) []) := he
    have HP := Lib.hid hp
    clear hp he HBD
    go_enter Tryz.func24, Tryz.ntmps24
    go_wp2_with fail
    refine (pick4_any x.kind 4 _ HK1.out (by omega) (by omega)).mono ?_
    rintro e w' ⟨rfl, rfl⟩
    rw [HP.out]
    have x0 := boxM_new w (.int .i64 x.kind) (.string x.name) (.int .i64 x.val.kind) (.int .i64 x.val.num) (.string x.val.text) (.slice fa x.val.list.length fc) (.slice ga x.args.length gc)
    have b0 := below_alloc w (.cells #[.int .i64 x.kind, .string x.name, .int .i64 x.val.kind, .int .i64 x.val.num, .string x.val.text, .slice fa x.val.list.length fc, .slice ga x.args.length gc] 46)
    have s0 := World.size_alloc w (.cells #[.int .i64 x.kind, .string x.name, .int .i64 x.val.kind, .int .i64 x.val.num, .string x.val.text, .slice fa x.val.list.length fc, .slice ga x.args.length gc] 46)
    generalize w.alloc (.cells #[.int .i64 x.kind, .string x.name, .int .i64 x.val.kind, .int .i64 x.val.num, .string x.val.text, .slice fa x.val.list.length fc, .slice ga x.args.length gc] 46) = w0 at *
    have x1 := boxM_new w0 (.int .i64 0) (.string ⟨#[]⟩) (.int .i64 0) (.int .i64 0) (.string ⟨#[]⟩) (.slice none 0 0) (.slice none 0 0)
    have b1 := below_alloc w0 (.cells #[.int .i64 0, .string ⟨#[]⟩, .int .i64 0, .int .i64 0, .string ⟨#[]⟩, .slice none 0 0, .slice none 0 0] 46)
    have s1 := World.size_alloc w0 (.cells #[.int .i64 0, .string ⟨#[]⟩, .int .i64 0, .int .i64 0, .string ⟨#[]⟩, .slice none 0 0, .slice none 0 0] 46)
    generalize w0.alloc (.cells #[.int .i64 0, .string ⟨#[]⟩, .int .i64 0, .int .i64 0, .string ⟨#[]⟩, .slice none 0 0, .slice none 0 0] 46) = w1 at *
    rw [s0] at x1 s1
    have X1 := Lib.hid (x0.on b1); have R1 := Lib.hid x1; have B1 := Lib.hid (Below.step b0 b1); have HS1 : Hid (w1.heap.size = w.heap.size + 2) := by show _ = _; omega
    clear x0 b0 x1 b1 s0 s1
    obtain ⟨p0, p1, p2, p3, p4, p5, p6⟩ := X1.out.cells
    go_wp2_with fail
    refine (Fit_any x.val w1.heap.size w1 _ _ _ _ (Nat.le_refl _) (RepG.on (fun k hk => by have := HS k hk; have := HS1.out; omega) (fun k hk => B1.out.block k (HS k hk)) x.val HV.out)).mono ?_
    rintro e w2 ⟨d0, d1, d2, d3, rfl, hrep, hb⟩
    obtain ⟨fa', fc', rfl, rfl, rfl, rfl⟩ := hrep.form
    have HR2 := Lib.hid hrep
    have hyb := RepG.bounds hrep
    have HYB := Lib.hid hyb
    have HFV : Hid (fitVal x.val = if (fitV 4 x.val).kind = 3 then .mk 3 (fitV 4 x.val).num (relOf (fitV 4 x.val).text) (fitV 4 x.val).list else fitV 4 x.val) := by show _ = _; rfl
    generalize fitV 4 x.val = y at *
    have R2 := Lib.hid (R1.out.on hb); have B2 := Lib.hid (Below.step B1.out hb)
    have HS2 : Hid (w.heap.size + 2 ≤ w2.heap.size) := by show _ ≤ _; have := HS1.out; have := hb.size; omega
    clear hb hrep hyb p0 p1 p2 p3 p4 p5 p6
    by_cases hk : y.kind = 3
    · have hk' : (y.kind == 3) = true := by simp [hk]
      have HK3 := Lib.hid hk
      clear hk
      go_wp2_with fail
      have v3 := boxed_new w2 (.int .i64 y.kind) (.int .i64 y.num) (.string y.text) (.slice fa' y.list.length fc')
      have b3 := below_alloc w2 (.cells #[.int .i64 y.kind, .int .i64 y.num, .string y.text, .slice fa' y.list.length fc'] 44)
      generalize w2.alloc (.cells #[.int .i64 y.kind, .int .i64 y.num, .string y.text, .slice fa' y.list.length fc'] 44) = w3 at *
      generalize hv3 : w2.heap.size = bv at v3 ⊢
      have HV3 := Lib.hid hv3
      clear hv3
      refine (Relation_any y.text _ HYB.out.2.2).mono ?_
      rintro e w4 ⟨rfl, hb⟩
      have V4 := Lib.hid (v3.on hb)
      have b4 := Below.step b3 hb
      have R4 := Lib.hid (R2.out.on b4); have B4 := Lib.hid (Below.step B2.out b4); have H24 := Lib.hid b4
      have HBV : Hid (bv < w4.heap.size) := V4.out.lt
      clear v3 b3 b4 hb
      obtain ⟨q0, q1, q2, q3⟩ := V4.out.cells
      have y2 := frozen_of_row w4 _ 2 _ _ V4.out
      obtain ⟨r0, r1, r2, r3, r4, r5, r6⟩ := R4.out.cells
      have z0 := frozen7 R4.out 0; have z1 := frozen7 R4.out 1; have z2 := frozen7 R4.out 2; have z3 := frozen7 R4.out 3; have z4 := frozen7 R4.out 4; have z5 := frozen7 R4.out 5; have z6 := frozen7 R4.out 6
      have hne1 : bv ≠ w.heap.size + 1 := by have := HV3.out; have := HS2.out; omega
      have hne2 : w.heap.size + 1 ≠ bv := fun e => hne1 e.symm
      have HNE := Lib.hid hne1
      go_wp2_with fail
      refine bodyPost_ret (v := .agg #[.int .i64 2, .string ⟨#[]⟩, .int .i64 y.kind, .int .i64 y.num, .string (relOf y.text), .slice fa' y.list.length fc', .slice none 0 0]) (by simp [results, Tryz.results24, go_sem, r0, r1, r2, r3, r4, r5, r6]) rfl ?_
      rw [HE.out]
      refine ⟨_, _, _, _, _, _, _, rfl, repM_mk.2 ⟨rfl, rfl, small64 (by omega), by decide, ?_, slg_nil⟩, set7_below (b := w.heap.size + 1) (B4.out.setCell (p := ⟨bv, 2, none⟩) (by have := HV3.out; have := HS2.out; simp; omega) _) (by omega) _ _ _ _ _ _ _⟩
      rw [HFV.out, if_pos HK3.out]
      refine repG_mk.2 ⟨by rw [HK3.out], rfl, rfl, small64 (by omega), HYB.out.2.1, Nat.le_trans (relOf_size _) (by decide), RepLG.on (fun k hk => ⟨by have := HS1.out; omega, ?sz⟩) (fun k hk => ?eq) HR2.out.lst⟩
      case sz =>
        show k < (set7 (w4.setCell ⟨bv, 2, none⟩ _) (w.heap.size + 1) _ _ _ _ _ _ _).heap.size
        rw [set7_size]
        simp only [World.size_setCell]
        have := H24.out.size; omega
      case eq =>
        show (set7 (w4.setCell ⟨bv, 2, none⟩ _) (w.heap.size + 1) _ _ _ _ _ _ _).heap[k]? = _
        rw [set7_other _ _ _ _ _ _ _ _ _ _ (by have := HS1.out; omega), Below.heap_setCell _ _ _ _ (by have := HV3.out; show k ≠ bv; omega)]
        exact H24.out.block k hk.2
    · have hk' : (y.kind == 3) = false := by simp [hk]
      have HK3 := Lib.hid hk
      clear hk
      have v3 := boxed_new w2 (.int .i64 y.kind) (.int .i64 y.num) (.string y.text) (.slice fa' y.list.length fc')
      have b3 := below_alloc w2 (.cells #[.int .i64 y.kind, .int .i64 y.num, .string y.text, .slice fa' y.list.length fc'] 44)
      have R3 := Lib.hid (R2.out.on b3)
      have B3 := Lib.hid (Below.step B2.out b3); have H23 := Lib.hid b3
      obtain ⟨r0, r1, r2, r3, r4, r5, r6⟩ := R3.out.cells
      have z0 := frozen7 R3.out 0; have z1 := frozen7 R3.out 1; have z2 := frozen7 R3.out 2; have z3 := frozen7 R3.out 3; have z4 := frozen7 R3.out 4; have z5 := frozen7 R3.out 5; have z6 := frozen7 R3.out 6
      clear v3 b3
      go_wp2_with fail
      refine bodyPost_ret (v := .agg #[.int .i64 2, .string ⟨#[]⟩, .int .i64 y.kind, .int .i64 y.num, .string y.text, .slice fa' y.list.length fc', .slice none 0 0]) (by simp [results, Tryz.results24, go_sem, r0, r1, r2, r3, r4, r5, r6]) rfl ?_
      rw [HE.out]
      refine ⟨_, _, _, _, _, _, _, rfl, repM_mk.2 ⟨rfl, rfl, small64 (by omega), by decide, ?_, slg_nil⟩, set7_below (b := w.heap.size + 1) B3.out (by omega) _ _ _ _ _ _ _⟩
      rw [HFV.out, if_neg HK3.out]
      refine RepG.on (fun k hk => ⟨by have := HS1.out; omega, ?sz⟩) (fun k hk => ?eq) y HR2.out
      case sz =>
        show k < (set7 (w2.alloc _) (w.heap.size + 1) _ _ _ _ _ _ _).heap.size
        rw [set7_size]
        have := H23.out.size; omega
      case eq =>
        show (set7 (w2.alloc _) (w.heap.size + 1) _ _ _ _ _ _ _).heap[k]? = _
        rw [set7_other _ _ _ _ _ _ _ _ _ _ (by have := HS1.out; omega)]
        exact H23.out.block k hk.2
  by_cases hp : pickZ x.kind 4 = 2
  · rw [hp] at he
    have HE : Hid (fitTm (d + 1) x = .mk 1 (varOf x.name) nV []) := he
    have HP := Lib.hid hp
    clear hp he HBD
    go_enter Tryz.func24, Tryz.ntmps24
    go_wp2_with fail
    refine (pick4_any x.kind 4 _ HK1.out (by omega) (by omega)).mono ?_
    rintro e w' ⟨rfl, rfl⟩
    rw [HP.out]
    have x0 := boxM_new w (.int .i64 x.kind) (.string x.name) (.int .i64 x.val.kind) (.int .i64 x.val.num) (.string x.val.text) (.slice fa x.val.list.length fc) (.slice ga x.args.length gc)
    have b0 := below_alloc w (.cells #[.int .i64 x.kind, .string x.name, .int .i64 x.val.kind, .int .i64 x.val.num, .string x.val.text, .slice fa x.val.list.length fc, .slice ga x.args.length gc] 46)
    have s0 := World.size_alloc w (.cells #[.int .i64 x.kind, .string x.name, .int .i64 x.val.kind, .int .i64 x.val.num, .string x.val.text, .slice fa x.val.list.length fc, .slice ga x.args.length gc] 46)
    generalize w.alloc (.cells #[.int .i64 x.kind, .string x.name, .int .i64 x.val.kind, .int .i64 x.val.num, .string x.val.text, .slice fa x.val.list.length fc, .slice ga x.args.length gc] 46) = w0 at *
    have x1 := boxM_new w0 (.int .i64 0) (.string ⟨#[]⟩) (.int .i64 0) (.int .i64 0) (.string ⟨#[]⟩) (.slice none 0 0) (.slice none 0 0)
    have b1 := below_alloc w0 (.cells #[.int .i64 0, .string ⟨#[]⟩, .int .i64 0, .int .i64 0, .string ⟨#[]⟩, .slice none 0 0, .slice none 0 0] 46)
    have s1 := World.size_alloc w0 (.cells #[.int .i64 0, .string ⟨#[]⟩, .int .i64 0, .int .i64 0, .string ⟨#[]⟩, .slice none 0 0, .slice none 0 0] 46)
    generalize w0.alloc (.cells #[.int .i64 0, .string ⟨#[]⟩, .int .i64 0, .int .i64 0, .string ⟨#[]⟩, .slice none 0 0, .slice none 0 0] 46) = w1 at *
    rw [s0] at x1 s1
    have X1 := Lib.hid (x0.on b1); have R1 := Lib.hid x1; have B1 := Lib.hid (Below.step b0 b1); have HS1 : Hid (w1.heap.size = w.heap.size + 2) := by show _ = _; omega
    clear x0 b0 x1 b1 s0 s1
    obtain ⟨p0, p1, p2, p3, p4, p5, p6⟩ := X1.out.cells
    go_wp2_with fail
    refine (Variable_any x.name _ HN.out).mono ?_
    rintro e w2 ⟨rfl, hb⟩
    have R2 := Lib.hid (R1.out.on hb); have B2 := Lib.hid (Below.step B1.out hb)
    clear hb p0 p1 p2 p3 p4 p5 p6
    obtain ⟨r0, r1, r2, r3, r4, r5, r6⟩ := R2.out.cells
    have z0 := frozen7 R2.out 0; have z1 := frozen7 R2.out 1; have z2 := frozen7 R2.out 2; have z3 := frozen7 R2.out 3; have z4 := frozen7 R2.out 4; have z5 := frozen7 R2.out 5; have z6 := frozen7 R2.out 6
    go_wp2_with fail
    refine bodyPost_ret (v := .agg #[.int .i64 1, .string (varOf x.name), .int .i64 0, .int .i64 0, .string ⟨#[]⟩, .slice none 0 0, .slice none 0 0]) (by simp [results, Tryz.results24, go_sem, r0, r1, r2, r3, r4, r5, r6]) rfl ?_
    rw [HE.out]
    exact ⟨_, _, _, _, _, _, _, rfl, repM_mk.2 ⟨rfl, rfl, small64 (by omega), Nat.le_trans (varOf_size _) (by decide), zV_rep _ _, slg_nil⟩, set7_below (b := w.heap.size + 1) B2.out (by omega) _ _ _ _ _ _ _⟩
  have hp : pickZ x.kind 4 = 3 := by omega
  rw [hp] at he
  have HE : Hid (fitTm (d + 1) x = .mk 2 ⟨#[]⟩ (fitVal x.val) []) := he
  have HP := Lib.hid hp
  clear hp he HBD
  go_enter Tryz.func24, Tryz.ntmps24
  go_wp2_with fail
  refine (pick4_any x.kind 4 _ HK1.out (by omega) (by omega)).mono ?_
  rintro e w' ⟨rfl, rfl⟩
  rw [HP.out]
  have x0 := boxM_new w (.int .i64 x.kind) (.string x.name) (.int .i64 x.val.kind) (.int .i64 x.val.num) (.string x.val.text) (.slice fa x.val.list.length fc) (.slice ga x.args.length gc)
  have b0 := below_alloc w (.cells #[.int .i64 x.kind, .string x.name, .int .i64 x.val.kind, .int .i64 x.val.num, .string x.val.text, .slice fa x.val.list.length fc, .slice ga x.args.length gc] 46)
  have s0 := World.size_alloc w (.cells #[.int .i64 x.kind, .string x.name, .int .i64 x.val.kind, .int .i64 x.val.num, .string x.val.text, .slice fa x.val.list.length fc, .slice ga x.args.length gc] 46)
  generalize w.alloc (.cells #[.int .i64 x.kind, .string x.name, .int .i64 x.val.kind, .int .i64 x.val.num, .string x.val.text, .slice fa x.val.list.length fc, .slice ga x.args.length gc] 46) = w0 at *
  have x1 := boxM_new w0 (.int .i64 0) (.string ⟨#[]⟩) (.int .i64 0) (.int .i64 0) (.string ⟨#[]⟩) (.slice none 0 0) (.slice none 0 0)
  have b1 := below_alloc w0 (.cells #[.int .i64 0, .string ⟨#[]⟩, .int .i64 0, .int .i64 0, .string ⟨#[]⟩, .slice none 0 0, .slice none 0 0] 46)
  have s1 := World.size_alloc w0 (.cells #[.int .i64 0, .string ⟨#[]⟩, .int .i64 0, .int .i64 0, .string ⟨#[]⟩, .slice none 0 0, .slice none 0 0] 46)
  generalize w0.alloc (.cells #[.int .i64 0, .string ⟨#[]⟩, .int .i64 0, .int .i64 0, .string ⟨#[]⟩, .slice none 0 0, .slice none 0 0] 46) = w1 at *
  rw [s0] at x1 s1
  have X1 := Lib.hid (x0.on b1); have R1 := Lib.hid x1; have B1 := Lib.hid (Below.step b0 b1); have HS1 : Hid (w1.heap.size = w.heap.size + 2) := by show _ = _; omega
  clear x0 b0 x1 b1 s0 s1
  obtain ⟨p0, p1, p2, p3, p4, p5, p6⟩ := X1.out.cells
  go_wp2_with fail
  refine (Fit_any x.val w1.heap.size w1 _ _ _ _ (Nat.le_refl _) (RepG.on (fun k hk => by have := HS k hk; have := HS1.out; omega) (fun k hk => B1.out.block k (HS k hk)) x.val HV.out)).mono ?_
  rintro e w2 ⟨d0, d1, d2, d3, rfl, hrep, hb⟩
  obtain ⟨fa', fc', rfl, rfl, rfl, rfl⟩ := hrep.form
  have HR2 := Lib.hid hrep
  have hyb := RepG.bounds hrep
  have HYB := Lib.hid hyb
  have HFV : Hid (fitVal x.val = if (fitV 4 x.val).kind = 3 then .mk 3 (fitV 4 x.val).num (relOf (fitV 4 x.val).text) (fitV 4 x.val).list else fitV 4 x.val) := by show _ = _; rfl
  generalize fitV 4 x.val = y at *
  have R2 := Lib.hid (R1.out.on hb); have B2 := Lib.hid (Below.step B1.out hb)
  have HS2 : Hid (w.heap.size + 2 ≤ w2.heap.size) := by show _ ≤ _; have := HS1.out; have := hb.size; omega
  clear hb hrep hyb p0 p1 p2 p3 p4 p5 p6
  by_cases hk : y.kind = 3
  · have hk' : (y.kind == 3) = true := by simp [hk]
    have HK3 := Lib.hid hk
    clear hk
    go_wp2_with fail
    have v3 := boxed_new w2 (.int .i64 y.kind) (.int .i64 y.num) (.string y.text) (.slice fa' y.list.length fc')
    have b3 := below_alloc w2 (.cells #[.int .i64 y.kind, .int .i64 y.num, .string y.text, .slice fa' y.list.length fc'] 44)
    generalize w2.alloc (.cells #[.int .i64 y.kind, .int .i64 y.num, .string y.text, .slice fa' y.list.length fc'] 44) = w3 at *
    generalize hv3 : w2.heap.size = bv at v3 ⊢
    have HV3 := Lib.hid hv3
    clear hv3
    refine (Relation_any y.text _ HYB.out.2.2).mono ?_
    rintro e w4 ⟨rfl, hb⟩
    have V4 := Lib.hid (v3.on hb)
    have b4 := Below.step b3 hb
    have R4 := Lib.hid (R2.out.on b4); have B4 := Lib.hid (Below.step B2.out b4); have H24 := Lib.hid b4
    have HBV : Hid (bv < w4.heap.size) := V4.out.lt
    clear v3 b3 b4 hb
    obtain ⟨q0, q1, q2, q3⟩ := V4.out.cells
    have y2 := frozen_of_row w4 _ 2 _ _ V4.out
    obtain ⟨r0, r1, r2, r3, r4, r5, r6⟩ := R4.out.cells
    have z0 := frozen7 R4.out 0; have z1 := frozen7 R4.out 1; have z2 := frozen7 R4.out 2; have z3 := frozen7 R4.out 3; have z4 := frozen7 R4.out 4; have z5 := frozen7 R4.out 5; have z6 := frozen7 R4.out 6
    have hne1 : bv ≠ w.heap.size + 1 := by have := HV3.out; have := HS2.out; omega
    have hne2 : w.heap.size + 1 ≠ bv := fun e => hne1 e.symm
    have HNE := Lib.hid hne1
    go_wp2_with fail
    refine bodyPost_ret (v := .agg #[.int .i64 2, .string ⟨#[]⟩, .int .i64 y.kind, .int .i64 y.num, .string (relOf y.text), .slice fa' y.list.length fc', .slice none 0 0]) (by simp [results, Tryz.results24, go_sem, r0, r1, r2, r3, r4, r5, r6]) rfl ?_
    rw [HE.out]
    refine ⟨_, _, _, _, _, _, _, rfl, repM_mk.2 ⟨rfl, rfl, small64 (by omega), by decide, ?_, slg_nil⟩, set7_below (b := w.heap.size + 1) (B4.out.setCell (p := ⟨bv, 2, none⟩) (by have := HV3.out; have := HS2.out; simp; omega) _) (by omega) _ _ _ _ _ _ _⟩
    rw [HFV.out, if_pos HK3.out]
    refine repG_mk.2 ⟨by rw [HK3.out], rfl, rfl, small64 (by omega), HYB.out.2.1, Nat.le_trans (relOf_size _) (by decide), RepLG.on (fun k hk => ⟨by have := HS1.out; omega, ?sz⟩) (fun k hk => ?eq) HR2.out.lst⟩
    case sz =>
      show k < (set7 (w4.setCell ⟨bv, 2, none⟩ _) (w.heap.size + 1) _ _ _ _ _ _ _).heap.size
      rw [set7_size]
      simp only [World.size_setCell]
      have := H24.out.size; omega
    case eq =>
      show (set7 (w4.setCell ⟨bv, 2, none⟩ _) (w.heap.size + 1) _ _ _ _ _ _ _).heap[k]? = _
      rw [set7_other _ _ _ _ _ _ _ _ _ _ (by have := HS1.out; omega), Below.heap_setCell _ _ _ _ (by have := HV3.out; show k ≠ bv; omega)]
      exact H24.out.block k hk.2
  · have hk' : (y.kind == 3) = false := by simp [hk]
    have HK3 := Lib.hid hk
    clear hk
    have v3 := boxed_new w2 (.int .i64 y.kind) (.int .i64 y.num) (.string y.text) (.slice fa' y.list.length fc')
    have b3 := below_alloc w2 (.cells #[.int .i64 y.kind, .int .i64 y.num, .string y.text, .slice fa' y.list.length fc'] 44)
    have R3 := Lib.hid (R2.out.on b3)
    have B3 := Lib.hid (Below.step B2.out b3); have H23 := Lib.hid b3
    obtain ⟨r0, r1, r2, r3, r4, r5, r6⟩ := R3.out.cells
    have z0 := frozen7 R3.out 0; have z1 := frozen7 R3.out 1; have z2 := frozen7 R3.out 2; have z3 := frozen7 R3.out 3; have z4 := frozen7 R3.out 4; have z5 := frozen7 R3.out 5; have z6 := frozen7 R3.out 6
    clear v3 b3
    go_wp2_with fail
    refine bodyPost_ret (v := .agg #[.int .i64 2, .string ⟨#[]⟩, .int .i64 y.kind, .int .i64 y.num, .string y.text, .slice fa' y.list.length fc', .slice none 0 0]) (by simp [results, Tryz.results24, go_sem, r0, r1, r2, r3, r4, r5, r6]) rfl ?_
    rw [HE.out]
    refine ⟨_, _, _, _, _, _, _, rfl, repM_mk.2 ⟨rfl, rfl, small64 (by omega), by decide, ?_, slg_nil⟩, set7_below (b := w.heap.size + 1) B3.out (by omega) _ _ _ _ _ _ _⟩
    rw [HFV.out, if_neg HK3.out]
    refine RepG.on (fun k hk => ⟨by have := HS1.out; omega, ?sz⟩) (fun k hk => ?eq) y HR2.out
    case sz =>
      show k < (set7 (w2.alloc _) (w.heap.size + 1) _ _ _ _ _ _ _).heap.size
      rw [set7_size]
      have := H23.out.size; omega
    case eq =>
      show (set7 (w2.alloc _) (w.heap.size + 1) _ _ _ _ _ _ _).heap[k]? = _
      rw [set7_other _ _ _ _ _ _ _ _ _ _ (by have := HS1.out; omega)]
      exact H23.out.block k hk.2

end Go.Proofs.YtgjemmdhamkngaaGreatDoor
