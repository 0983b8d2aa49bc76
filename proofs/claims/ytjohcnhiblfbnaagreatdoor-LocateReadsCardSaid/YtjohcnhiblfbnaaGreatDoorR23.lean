/-
  LocAwake
-/
import Derived.Test.YtjohcnhiblfbnaaGreatDoorR22
import Derived.Test.YtjohcnhiblfbnaaGreatDoorR07
import Derived.Test.YtjohcnhiblfbnaaGreatDoorR11
import Derived.Test.YtjohcnhiblfbnaaGreatDoorR05
namespace Go.Proofs.YtjohcnhiblfbnaaGreatDoor
open Go.RowKit
def tm7 (s : ByteArray) : Tm := .mk 1 s zV []
theorem tm7_rep (S : Nat → Prop) (w : World) (s : ByteArray) (hs : s.size ≤ maxLen) : RepM S w (tm7 s) (.int .i64 1) (.string s) (.int .i64 0) (.int .i64 0) (.string ⟨#[]⟩) (.slice none 0 0) (.slice none 0 0) := repM_mk.2 ⟨rfl, rfl, small64 (by omega), hs, zV_rep S w, slg_nil⟩
def li7a : Li := ⟨1, linkS, [(tm7 ⟨#[83]⟩), (tm7 ⟨#[90]⟩), (tm7 ⟨#[67]⟩)]⟩
def li7b : Li := ⟨1, ⟨#[113]⟩, [(tm7 ⟨#[90]⟩), (tm7 ⟨#[68]⟩)]⟩
def ru7 (l : List Li) : Ru := ⟨⟨#[114]⟩, ⟨#[112]⟩, [(tm7 ⟨#[83]⟩), (tm7 ⟨#[68]⟩)], ⟨#[]⟩, 0, l⟩
theorem ru7_one : plRet (placeZ (ru7 [li7a, li7b])) = .returned (.tuple #[.agg #[.string ⟨#[83]⟩, .string ⟨#[90]⟩, .string ⟨#[83]⟩], .bool true]) := by kernel_rfl
theorem ru7_none : plRet (placeZ (ru7 [li7b])) = .returned (.tuple #[.agg #[.string ⟨#[]⟩, .string ⟨#[]⟩, .string ⟨#[]⟩], .bool false]) := by kernel_rfl
def NotPl (w : World) (b : Nat) : Prop := ∀ cs fz, w.heap[b]? ≠ some (.cells cs 37 fz)
def S7 (B : Nat) (w : World) (b : Nat) : Prop := B ≤ b ∧ b < w.heap.size ∧ NotPl w b
theorem S7.on {B b : Nat} {w w' : World} (hb : Below w.heap.size w w') (h : S7 B w b) : S7 B w' b := ⟨h.1, Nat.lt_of_lt_of_le h.2.1 hb.size, fun cs fz => by rw [hb.block b h.2.1]; exact h.2.2 cs fz⟩
def Row7 (B : Nat) (l : List Tm) (w : World) (v : Value) : Prop := ∃ a n c, v = .slice a n c ∧ RepMs (S7 B w) w l (.slice a n c)
def LiRow (B : Nat) (l : List Li) (w : World) (v : Value) : Prop := ∃ a n c, v = .slice a n c ∧ RepLis (S7 B w) w l (.slice a n c)
def RuVal (B : Nat) (l : List Li) (w : World) (v : Value) : Prop := ∃ s1 s2, v = .agg #[.string ⟨#[114]⟩, .string ⟨#[112]⟩, s1, .string ⟨#[]⟩, .int .i64 0, s2] ∧ RepRu (S7 B w) w (ru7 l) (.string ⟨#[114]⟩) (.string ⟨#[112]⟩) s1 (.string ⟨#[]⟩) (.int .i64 0) s2
section
variable {B : Nat} {w w' : World} {v : Value}
theorem Row7.to {l : List Tm} (hS : ∀ k, S7 B w k → S7 B w' k) (hw : ∀ k, S7 B w k → w'.heap[k]? = w.heap[k]?) (h : Row7 B l w v) : Row7 B l w' v := by
 obtain ⟨a, n, c, e, h⟩ := h
 exact ⟨a, n, c, e, RepMs.on hS hw h⟩
theorem LiRow.to {l : List Li} (hS : ∀ k, S7 B w k → S7 B w' k) (hw : ∀ k, S7 B w k → w'.heap[k]? = w.heap[k]?) (h : LiRow B l w v) : LiRow B l w' v := by
 obtain ⟨a, n, c, e, h⟩ := h
 exact ⟨a, n, c, e, RepLis.on hS hw h⟩
theorem RuVal.to {l : List Li} (hS : ∀ k, S7 B w k → S7 B w' k) (hw : ∀ k, S7 B w k → w'.heap[k]? = w.heap[k]?) (h : RuVal B l w v) : RuVal B l w' v := by
 obtain ⟨s1, s2, e, h⟩ := h
 exact ⟨s1, s2, e, RepRu.on hS hw h⟩
theorem s7_off {q : Nat} {c0 c1 c2 : Value} (hbx : BoxPl w q c0 c1 c2) (hw : ∀ k, k ≠ q → w'.heap[k]? = w.heap[k]?) (hs : w'.heap.size = w.heap.size) : (∀ k, S7 B w k → S7 B w' k) ∧ ∀ k, S7 B w k → w'.heap[k]? = w.heap[k]? := by
 have hne : ∀ k, S7 B w k → k ≠ q := fun k hk e => by subst e; exact hk.2.2 _ _ hbx
 exact ⟨fun k hk => ⟨hk.1, by rw [hs]; exact hk.2.1, fun cs fz => by rw [hw k (hne k hk)]; exact hk.2.2 cs fz⟩, fun k hk => hw k (hne k hk)⟩
end
theorem row7_two {B : Nat} {y z : Tm} {w : World} {c0 c1 c2 c3 c4 c5 c6 d0 d1 d2 d3 d4 d5 d6 : Value} (hB : B ≤ w.heap.size) (h1 : RepM (fun _ => False) w y c0 c1 c2 c3 c4 c5 c6) (h2 : RepM (fun _ => False) w z d0 d1 d2 d3 d4 d5 d6) :
  Row7 B [y, z] (w.alloc (.cells #[c0, c1, c2, c3, c4, c5, c6, d0, d1, d2, d3, d4, d5, d6] 52)) (.slice (some ⟨w.heap.size, 0, none⟩) 2 2) :=
 ⟨_, _, _, rfl, slg_row (alloc_new' w _) ⟨hB, by simp, fun cs fz h => by rw [alloc_new'] at h; simp at h⟩ rfl (by simp) (fun i h => match i, h with
  | 0, _ => RepM.on (fun _ h => h.elim) (fun _ h => h.elim) _ h1
  | 1, _ => RepM.on (fun _ h => h.elim) (fun _ h => h.elim) _ h2)⟩
set_option maxRecDepth 100000 in
set_option maxHeartbeats 1000000 in
theorem v7_any (s : ByteArray) (w : World) : Calls Tryz.prog 32 #[.string s] w fun e w' => e = .returned (.agg #[.int .i64 1, .string s, .int .i64 0, .int .i64 0, .string ⟨#[]⟩, .slice none 0 0, .slice none 0 0]) ∧ Below w.heap.size w w' := by
 go_enter Tryz.func32, Tryz.ntmps32
 go_wp2_with fail
 exact bodyPost_ret (v := .agg #[.int .i64 1, .string s, .int .i64 0, .int .i64 0, .string ⟨#[]⟩, .slice none 0 0, .slice none 0 0]) (by simp [results, Tryz.results32, go_sem]) rfl ⟨rfl, below_alloc _ _⟩
set_option maxRecDepth 100000 in
set_option maxHeartbeats 8000000 in
theorem awake7_any (w : World) (hg : 0 < w.heap.size) (htab : TabOk w) : Calls Tryz.prog 10 #[] w fun e w' => e = .returned (.bool true) ∧ Below w.heap.size w w' := by
 have HG := Lib.hid hg; have HT := Lib.hid htab
 clear hg htab
 have hen : ∀ args w, Sem.run Tryz.prog (callFunc 32 args) w = .ok (.enter 32 args) w := fun args w => by kernel_rfl
 go_enter Tryz.func10, Tryz.ntmps10
 go_wp2_with fail
 refine (v7_any ⟨#[83]⟩ w).mono ?_
 rintro e w1 ⟨rfl, hb1⟩
 go_wp2_with fail
 refine (v7_any ⟨#[90]⟩ w1).mono ?_
 rintro e w2 ⟨rfl, hb2⟩
 go_wp2_with fail
 refine (v7_any ⟨#[67]⟩ w2).mono ?_
 rintro e w3 ⟨rfl, hb3⟩
 have B3 := Lib.hid (Below.step (Below.step hb1 hb2) hb3)
 clear hb1 hb2 hb3
 go_upto_region 3 with fail
 have ma := alloc_new' w3 (.cells #[.int .i64 1, .string ⟨#[83]⟩, .int .i64 0, .int .i64 0, .string ⟨#[]⟩, .slice none 0 0, .slice none 0 0, .int .i64 1, .string ⟨#[90]⟩, .int .i64 0, .int .i64 0, .string ⟨#[]⟩, .slice none 0 0, .slice none 0 0, .int .i64 1, .string ⟨#[67]⟩, .int .i64 0, .int .i64 0, .string ⟨#[]⟩, .slice none 0 0, .slice none 0 0] 52)
 have da := below_alloc w3 (.cells #[.int .i64 1, .string ⟨#[83]⟩, .int .i64 0, .int .i64 0, .string ⟨#[]⟩, .slice none 0 0, .slice none 0 0, .int .i64 1, .string ⟨#[90]⟩, .int .i64 0, .int .i64 0, .string ⟨#[]⟩, .slice none 0 0, .slice none 0 0, .int .i64 1, .string ⟨#[67]⟩, .int .i64 0, .int .i64 0, .string ⟨#[]⟩, .slice none 0 0, .slice none 0 0] 52)
 have sa := World.size_alloc w3 (.cells #[.int .i64 1, .string ⟨#[83]⟩, .int .i64 0, .int .i64 0, .string ⟨#[]⟩, .slice none 0 0, .slice none 0 0, .int .i64 1, .string ⟨#[90]⟩, .int .i64 0, .int .i64 0, .string ⟨#[]⟩, .slice none 0 0, .slice none 0 0, .int .i64 1, .string ⟨#[67]⟩, .int .i64 0, .int .i64 0, .string ⟨#[]⟩, .slice none 0 0, .slice none 0 0] 52)
 have ra : RepMs (S7 w.heap.size (w3.alloc (.cells #[.int .i64 1, .string ⟨#[83]⟩, .int .i64 0, .int .i64 0, .string ⟨#[]⟩, .slice none 0 0, .slice none 0 0, .int .i64 1, .string ⟨#[90]⟩, .int .i64 0, .int .i64 0, .string ⟨#[]⟩, .slice none 0 0, .slice none 0 0, .int .i64 1, .string ⟨#[67]⟩, .int .i64 0, .int .i64 0, .string ⟨#[]⟩, .slice none 0 0, .slice none 0 0] 52))) (w3.alloc (.cells #[.int .i64 1, .string ⟨#[83]⟩, .int .i64 0, .int .i64 0, .string ⟨#[]⟩, .slice none 0 0, .slice none 0 0, .int .i64 1, .string ⟨#[90]⟩, .int .i64 0, .int .i64 0, .string ⟨#[]⟩, .slice none 0 0, .slice none 0 0, .int .i64 1, .string ⟨#[67]⟩, .int .i64 0, .int .i64 0, .string ⟨#[]⟩, .slice none 0 0, .slice none 0 0] 52)) li7a.args (.slice (some ⟨w3.heap.size, 0, none⟩) 3 3) :=
  slg_row ma ⟨B3.out.size, by omega, fun cs fz h => by rw [ma] at h; simp at h⟩ rfl (by decide) (fun i h => match i, h with
   | 0, _ => tm7_rep _ _ _ (by decide)
   | 1, _ => tm7_rep _ _ _ (by decide)
   | 2, _ => tm7_rep _ _ _ (by decide))
 generalize w3.alloc (.cells #[.int .i64 1, .string ⟨#[83]⟩, .int .i64 0, .int .i64 0, .string ⟨#[]⟩, .slice none 0 0, .slice none 0 0, .int .i64 1, .string ⟨#[90]⟩, .int .i64 0, .int .i64 0, .string ⟨#[]⟩, .slice none 0 0, .slice none 0 0, .int .i64 1, .string ⟨#[67]⟩, .int .i64 0, .int .i64 0, .string ⟨#[]⟩, .slice none 0 0, .slice none 0 0] 52) = w5a at *
 have mb := boxLi_new w5a (.int .i64 1) (.string ⟨#[108, 105, 110, 107]⟩) (.slice (some ⟨w3.heap.size, 0, none⟩) 3 3)
 have db := below_alloc w5a (.cells #[.int .i64 1, .string ⟨#[108, 105, 110, 107]⟩, .slice (some ⟨w3.heap.size, 0, none⟩) 3 3] 46)
 generalize w5a.alloc (.cells #[.int .i64 1, .string ⟨#[108, 105, 110, 107]⟩, .slice (some ⟨w3.heap.size, 0, none⟩) 3 3] 46) = w5 at *
 rw [sa] at mb
 obtain ⟨kr, hkr⟩ : ∃ k, w3.heap.size = k := ⟨_, rfl⟩
 obtain ⟨ka, hka⟩ : ∃ k, kr + 1 = k := ⟨_, rfl⟩
 rw [hkr] at mb ra ⊢
 rw [hka] at mb ⊢
 have LA : Hid (RepLi (S7 w.heap.size w5) w5 li7a (.int .i64 1) (.string linkS) (.slice (some ⟨kr, 0, none⟩) 3 3)) := RepLi.on (fun k hk => hk.on db) (fun k hk => db.block k hk.2.1) ⟨rfl, rfl, small64 (by decide), by decide, ra⟩
 have XA : Hid (BoxLi w5 ka (.int .i64 1) (.string ⟨#[108, 105, 110, 107]⟩) (.slice (some ⟨kr, 0, none⟩) 3 3)) := mb
 have B5 := Lib.hid (Below.step (Below.step B3.out da) db)
 clear ma da sa ra mb db hkr hka B3
 go_wp2_with fail
 refine (v7_any ⟨#[90]⟩ w5).mono ?_
 rintro e w6 ⟨rfl, hb1⟩
 go_wp2_with fail
 refine (v7_any ⟨#[68]⟩ w6).mono ?_
 rintro e w7 ⟨rfl, hb2⟩
 have B7 := Lib.hid (Below.step (Below.step B5.out hb1) hb2)
 have hb := Below.step hb1 hb2
 replace XA := Lib.hid (XA.out.on hb)
 replace LA : Hid (RepLi (S7 w.heap.size w7) w7 li7a (.int .i64 1) (.string linkS) (.slice (some ⟨kr, 0, none⟩) 3 3)) := RepLi.on (fun k hk => hk.on hb) (fun k hk => hb.block k hk.2.1) LA.out
 clear hb hb1 hb2 B5
 go_upto_region 4 with fail
 have ma := alloc_new' w7 (.cells #[.int .i64 1, .string ⟨#[90]⟩, .int .i64 0, .int .i64 0, .string ⟨#[]⟩, .slice none 0 0, .slice none 0 0, .int .i64 1, .string ⟨#[68]⟩, .int .i64 0, .int .i64 0, .string ⟨#[]⟩, .slice none 0 0, .slice none 0 0] 52)
 have da := below_alloc w7 (.cells #[.int .i64 1, .string ⟨#[90]⟩, .int .i64 0, .int .i64 0, .string ⟨#[]⟩, .slice none 0 0, .slice none 0 0, .int .i64 1, .string ⟨#[68]⟩, .int .i64 0, .int .i64 0, .string ⟨#[]⟩, .slice none 0 0, .slice none 0 0] 52)
 have sa := World.size_alloc w7 (.cells #[.int .i64 1, .string ⟨#[90]⟩, .int .i64 0, .int .i64 0, .string ⟨#[]⟩, .slice none 0 0, .slice none 0 0, .int .i64 1, .string ⟨#[68]⟩, .int .i64 0, .int .i64 0, .string ⟨#[]⟩, .slice none 0 0, .slice none 0 0] 52)
 have ra : RepMs (S7 w.heap.size (w7.alloc (.cells #[.int .i64 1, .string ⟨#[90]⟩, .int .i64 0, .int .i64 0, .string ⟨#[]⟩, .slice none 0 0, .slice none 0 0, .int .i64 1, .string ⟨#[68]⟩, .int .i64 0, .int .i64 0, .string ⟨#[]⟩, .slice none 0 0, .slice none 0 0] 52))) (w7.alloc (.cells #[.int .i64 1, .string ⟨#[90]⟩, .int .i64 0, .int .i64 0, .string ⟨#[]⟩, .slice none 0 0, .slice none 0 0, .int .i64 1, .string ⟨#[68]⟩, .int .i64 0, .int .i64 0, .string ⟨#[]⟩, .slice none 0 0, .slice none 0 0] 52)) li7b.args (.slice (some ⟨w7.heap.size, 0, none⟩) 2 2) :=
  slg_row ma ⟨B7.out.size, by omega, fun cs fz h => by rw [ma] at h; simp at h⟩ rfl (by decide) (fun i h => match i, h with
   | 0, _ => tm7_rep _ _ _ (by decide)
   | 1, _ => tm7_rep _ _ _ (by decide))
 generalize w7.alloc (.cells #[.int .i64 1, .string ⟨#[90]⟩, .int .i64 0, .int .i64 0, .string ⟨#[]⟩, .slice none 0 0, .slice none 0 0, .int .i64 1, .string ⟨#[68]⟩, .int .i64 0, .int .i64 0, .string ⟨#[]⟩, .slice none 0 0, .slice none 0 0] 52) = w9a at *
 have mb := boxLi_new w9a (.int .i64 1) (.string ⟨#[113]⟩) (.slice (some ⟨w7.heap.size, 0, none⟩) 2 2)
 have db := below_alloc w9a (.cells #[.int .i64 1, .string ⟨#[113]⟩, .slice (some ⟨w7.heap.size, 0, none⟩) 2 2] 46)
 generalize w9a.alloc (.cells #[.int .i64 1, .string ⟨#[113]⟩, .slice (some ⟨w7.heap.size, 0, none⟩) 2 2] 46) = w9 at *
 rw [sa] at mb
 obtain ⟨ks, hks⟩ : ∃ k, w7.heap.size = k := ⟨_, rfl⟩
 obtain ⟨kb, hkb⟩ : ∃ k, ks + 1 = k := ⟨_, rfl⟩
 rw [hks] at mb ra ⊢
 rw [hkb] at mb ⊢
 have LB : Hid (RepLi (S7 w.heap.size w9) w9 li7b (.int .i64 1) (.string ⟨#[113]⟩) (.slice (some ⟨ks, 0, none⟩) 2 2)) := RepLi.on (fun k hk => hk.on db) (fun k hk => db.block k hk.2.1) ⟨rfl, rfl, small64 (by decide), by decide, ra⟩
 have XB : Hid (BoxLi w9 kb (.int .i64 1) (.string ⟨#[113]⟩) (.slice (some ⟨ks, 0, none⟩) 2 2)) := mb
 have hb := Below.step da db
 have B9 := Lib.hid (Below.step B7.out hb)
 replace XA := Lib.hid (XA.out.on hb)
 replace LA : Hid (RepLi (S7 w.heap.size w9) w9 li7a (.int .i64 1) (.string linkS) (.slice (some ⟨kr, 0, none⟩) 3 3)) := RepLi.on (fun k hk => hk.on hb) (fun k hk => hb.block k hk.2.1) LA.out
 clear ma da sa ra mb db hks hkb B7 hb
 refine wp_region_factsU (by rfl) 57 (by rfl) (by kernel_rfl) (FA [.e (.func (.func 32) #[] #[]), .e (.agg #[.int .i64 1, .string ⟨#[83]⟩, .int .i64 0, .int .i64 0, .string ⟨#[]⟩, .slice none 0 0, .slice none 0 0]), .e (.func (.func 32) #[] #[]), .e (.agg #[.int .i64 1, .string ⟨#[68]⟩, .int .i64 0, .int .i64 0, .string ⟨#[]⟩, .slice none 0 0, .slice none 0 0]), .p (fun wz vz => Row7 w.heap.size [(tm7 ⟨#[83]⟩), (tm7 ⟨#[68]⟩)] wz vz), .e (.agg #[.int .i64 1, .string ⟨#[108, 105, 110, 107]⟩, .slice (some ⟨kr, 0, none⟩) 3 3]), .e (.agg #[.int .i64 1, .string ⟨#[113]⟩, .slice (some ⟨ks, 0, none⟩) 2 2]), .p (fun wz vz => LiRow w.heap.size [li7a, li7b] wz vz), .p (fun wz vz => RuVal w.heap.size [li7a, li7b] wz vz), .e (.tuple #[.agg #[.string ⟨#[83]⟩, .string ⟨#[90]⟩, .string ⟨#[83]⟩], .bool true]), .e (.tuple #[.agg #[.string ⟨#[83]⟩, .string ⟨#[90]⟩, .string ⟨#[83]⟩], .bool true]), .e (.agg #[.string ⟨#[83]⟩, .string ⟨#[90]⟩, .string ⟨#[83]⟩]), .e (.bool true), .p (fun wz vz => ∃ q, vz = .pointer (some ⟨q, 0, none⟩) ∧ w9.heap.size ≤ q ∧ ∃ c0 c1 c2, BoxPl wz q c0 c1 c2), .p (fun wz vz => ∃ q, vz = .pointer (some ⟨q, 0, none⟩) ∧ w9.heap.size ≤ q ∧ BoxPl wz q (.string ⟨#[83]⟩) (.string ⟨#[90]⟩) (.string ⟨#[83]⟩)), .e (.bool true)]) (fun w' => Below w9.heap.size w9 w') (Below.drew (Below.refl _ _)) ⟨?s0, ?s1, ?s2, ?s3, ?s4, ?s5, ?s6, ?s7, ?s8, ?s9, ?s10, ?s11, ?s12, ?s13, ?s14, ?s15, trivial⟩ ?fin
 case s0 =>
  intro a w' hoff hg hdep K hK
  have h1 := off_at hoff 1 (v := .func (.func 32) #[] #[]) (by kernel_rfl) rfl
  rw [if_pos (by rfl)]
  go_simp
  exact hK.out _ _ hg rfl (fun _ _ h => h)
 case s1 =>
  intro a w' hoff hg hdep K hK
  obtain ⟨_, e0, rfl⟩ := hdep 0 _ 23 (by kernel_rfl) rfl rfl
  rw [if_pos (by rfl)]
  go_simp
  refine (v7_any ⟨#[83]⟩ w').mono ?_
  rintro e w2' ⟨rfl, hb⟩
  exact hK.out _ _ (Below.step hg hb) rfl (fSt ⟨fun _ h => Row7.to (fun _ k => k.on hb) (fun _ k => hb.block _ k.2.1) h, fun _ h => LiRow.to (fun _ k => k.on hb) (fun _ k => hb.block _ k.2.1) h, fun _ h => RuVal.to (fun _ k => k.on hb) (fun _ k => hb.block _ k.2.1) h, fun _ h => let ⟨q, e, h1, c0, c1, c2, h2⟩ := h; ⟨q, e, h1, c0, c1, c2, h2.on hb⟩, fun _ h => let ⟨q, e, h1, h2⟩ := h; ⟨q, e, h1, h2.on hb⟩, trivial⟩)
 case s2 =>
  intro a w' hoff hg hdep K hK
  have h1 := off_at hoff 1 (v := .func (.func 32) #[] #[]) (by kernel_rfl) rfl
  rw [if_pos (by rfl)]
  go_simp
  exact hK.out _ _ hg rfl (fun _ _ h => h)
 case s3 =>
  intro a w' hoff hg hdep K hK
  obtain ⟨_, e2, rfl⟩ := hdep 2 _ 25 (by kernel_rfl) rfl rfl
  rw [if_pos (by rfl)]
  go_simp
  refine (v7_any ⟨#[68]⟩ w').mono ?_
  rintro e w2' ⟨rfl, hb⟩
  exact hK.out _ _ (Below.step hg hb) rfl (fSt ⟨fun _ h => Row7.to (fun _ k => k.on hb) (fun _ k => hb.block _ k.2.1) h, fun _ h => LiRow.to (fun _ k => k.on hb) (fun _ k => hb.block _ k.2.1) h, fun _ h => RuVal.to (fun _ k => k.on hb) (fun _ k => hb.block _ k.2.1) h, fun _ h => let ⟨q, e, h1, c0, c1, c2, h2⟩ := h; ⟨q, e, h1, c0, c1, c2, h2.on hb⟩, fun _ h => let ⟨q, e, h1, h2⟩ := h; ⟨q, e, h1, h2.on hb⟩, trivial⟩)
 case s4 =>
  intro a w' hoff hg hdep K hK
  obtain ⟨_, e1, rfl⟩ := hdep 1 _ 24 (by kernel_rfl) rfl rfl
  obtain ⟨_, e3, rfl⟩ := hdep 3 _ 26 (by kernel_rfl) rfl rfl
  rw [if_pos (by rfl)]
  go_simp
  have hb := below_alloc w' (.cells #[.int .i64 1, .string ⟨#[83]⟩, .int .i64 0, .int .i64 0, .string ⟨#[]⟩, .slice none 0 0, .slice none 0 0, .int .i64 1, .string ⟨#[68]⟩, .int .i64 0, .int .i64 0, .string ⟨#[]⟩, .slice none 0 0, .slice none 0 0] 52)
  exact hK.out _ _ (Below.step hg hb) (row7_two (y := (tm7 ⟨#[83]⟩)) (z := (tm7 ⟨#[68]⟩)) (Nat.le_trans B9.out.size hg.size) (tm7_rep _ _ _ (by decide)) (tm7_rep _ _ _ (by decide))) (fSt ⟨fun _ h => Row7.to (fun _ k => k.on hb) (fun _ k => hb.block _ k.2.1) h, fun _ h => LiRow.to (fun _ k => k.on hb) (fun _ k => hb.block _ k.2.1) h, fun _ h => RuVal.to (fun _ k => k.on hb) (fun _ k => hb.block _ k.2.1) h, fun _ h => let ⟨q, e, h1, c0, c1, c2, h2⟩ := h; ⟨q, e, h1, c0, c1, c2, h2.on hb⟩, fun _ h => let ⟨q, e, h1, h2⟩ := h; ⟨q, e, h1, h2.on hb⟩, trivial⟩)
 case s5 =>
  intro a w' hoff hg hdep K hK
  have h2 := off_at hoff 2 (v := .pointer (some ⟨ka, 0, none⟩)) (by kernel_rfl) rfl
  rw [if_pos (by rfl)]
  obtain ⟨p0, p1, p2⟩ := (XA.out.on hg).cells
  go_simp
  exact hK.out _ _ hg rfl (fun _ _ h => h)
 case s6 =>
  intro a w' hoff hg hdep K hK
  have h3 := off_at hoff 3 (v := .pointer (some ⟨kb, 0, none⟩)) (by kernel_rfl) rfl
  rw [if_pos (by rfl)]
  obtain ⟨p0, p1, p2⟩ := (XB.out.on hg).cells
  go_simp
  exact hK.out _ _ hg rfl (fun _ _ h => h)
 case s7 =>
  intro a w' hoff hg hdep K hK
  obtain ⟨_, e5, rfl⟩ := hdep 5 _ 28 (by kernel_rfl) rfl rfl
  obtain ⟨_, e6, rfl⟩ := hdep 6 _ 29 (by kernel_rfl) rfl rfl
  rw [if_pos (by rfl)]
  go_simp
  have hb := below_alloc w' (.cells #[.int .i64 1, .string ⟨#[108, 105, 110, 107]⟩, .slice (some ⟨kr, 0, none⟩) 3 3, .int .i64 1, .string ⟨#[113]⟩, .slice (some ⟨ks, 0, none⟩) 2 2] 46)
  have hg2 := Below.step hg hb
  exact hK.out _ _ (Below.step hg hb) ⟨_, _, _, rfl, slg_row (alloc_new' w' _) ⟨Nat.le_trans B9.out.size hg.size, by simp, fun cs fz h => by rw [alloc_new'] at h; simp at h⟩ rfl (by decide) (fun i h => match i, h with | 0, _ => RepLi.on (fun k hk => hk.on hg2) (fun k hk => hg2.block k hk.2.1) LA.out | 1, _ => RepLi.on (fun k hk => hk.on hg2) (fun k hk => hg2.block k hk.2.1) LB.out)⟩ (fSt ⟨fun _ h => Row7.to (fun _ k => k.on hb) (fun _ k => hb.block _ k.2.1) h, fun _ h => LiRow.to (fun _ k => k.on hb) (fun _ k => hb.block _ k.2.1) h, fun _ h => RuVal.to (fun _ k => k.on hb) (fun _ k => hb.block _ k.2.1) h, fun _ h => let ⟨q, e, h1, c0, c1, c2, h2⟩ := h; ⟨q, e, h1, c0, c1, c2, h2.on hb⟩, fun _ h => let ⟨q, e, h1, h2⟩ := h; ⟨q, e, h1, h2.on hb⟩, trivial⟩)
 case s8 =>
  intro a w' hoff hg hdep K hK
  obtain ⟨v4, e4, (g4 : Row7 w.heap.size [(tm7 ⟨#[83]⟩), (tm7 ⟨#[68]⟩)] w' v4)⟩ := hdep 4 _ 27 (by kernel_rfl) rfl rfl
  obtain ⟨v7, e7, (g7 : LiRow w.heap.size [li7a, li7b] w' v7)⟩ := hdep 7 _ 30 (by kernel_rfl) rfl rfl
  rw [if_pos (by rfl)]
  obtain ⟨ra, rn, rc, rfl, hT⟩ := g4
  obtain ⟨rb, rm, rd, rfl, hL⟩ := g7
  go_simp
  exact hK.out _ _ hg ⟨_, _, rfl, rfl, rfl, rfl, rfl, by decide, by decide, by decide, small64 (by decide), hT, hL⟩ (fun _ _ h => h)
 case s9 =>
  intro a w' hoff hg hdep K hK
  obtain ⟨v8, e8, (g8 : RuVal w.heap.size [li7a, li7b] w' v8)⟩ := hdep 8 _ 31 (by kernel_rfl) rfl rfl
  rw [if_pos (by rfl)]
  obtain ⟨s1, s2, rfl, hr⟩ := g8
  go_simp
  have hgw := Below.step B9.out hg
  refine (locPlace_any (ru7 [li7a, li7b]) (S7 w.heap.size w') w' _ _ _ _ _ _ (fun k hk => hk.2.1) (Nat.lt_of_lt_of_le HG.out hgw.size) (TabOk.below HT.out HG.out hgw) hr).mono ?_
  rintro e w2' ⟨rfl, hb⟩
  rw [ru7_one]
  exact hK.out _ _ (Below.step hg hb) rfl (fSt ⟨fun _ h => Row7.to (fun _ k => k.on hb) (fun _ k => hb.block _ k.2.1) h, fun _ h => LiRow.to (fun _ k => k.on hb) (fun _ k => hb.block _ k.2.1) h, fun _ h => RuVal.to (fun _ k => k.on hb) (fun _ k => hb.block _ k.2.1) h, fun _ h => let ⟨q, e, h1, c0, c1, c2, h2⟩ := h; ⟨q, e, h1, c0, c1, c2, h2.on hb⟩, fun _ h => let ⟨q, e, h1, h2⟩ := h; ⟨q, e, h1, h2.on hb⟩, trivial⟩)
 case s10 =>
  intro a w' hoff hg hdep K hK
  obtain ⟨_, e9, rfl⟩ := hdep 9 _ 32 (by kernel_rfl) rfl rfl
  rw [if_pos (by rfl)]
  go_simp
  exact hK.out _ _ hg rfl (fun _ _ h => h)
 case s11 =>
  intro a w' hoff hg hdep K hK
  obtain ⟨_, e10, rfl⟩ := hdep 10 _ 22 (by kernel_rfl) rfl rfl
  rw [if_pos (by rfl)]
  go_simp
  exact hK.out _ _ hg rfl (fun _ _ h => h)
 case s12 =>
  intro a w' hoff hg hdep K hK
  obtain ⟨_, e10, rfl⟩ := hdep 10 _ 22 (by kernel_rfl) rfl rfl
  rw [if_pos (by rfl)]
  go_simp
  exact hK.out _ _ hg rfl (fun _ _ h => h)
 case s13 =>
  intro a w' hoff hg hdep K hK
  rw [if_pos (by rfl)]
  go_simp
  have hb := below_alloc w' (.cells #[.string ⟨#[]⟩, .string ⟨#[]⟩, .string ⟨#[]⟩] 37)
  exact hK.out _ _ (Below.step hg hb) ⟨_, rfl, hg.size, _, _, _, alloc_new' w' _⟩ (fSt ⟨fun _ h => Row7.to (fun _ k => k.on hb) (fun _ k => hb.block _ k.2.1) h, fun _ h => LiRow.to (fun _ k => k.on hb) (fun _ k => hb.block _ k.2.1) h, fun _ h => RuVal.to (fun _ k => k.on hb) (fun _ k => hb.block _ k.2.1) h, fun _ h => let ⟨q, e, h1, c0, c1, c2, h2⟩ := h; ⟨q, e, h1, c0, c1, c2, h2.on hb⟩, fun _ h => let ⟨q, e, h1, h2⟩ := h; ⟨q, e, h1, h2.on hb⟩, trivial⟩)
 case s14 =>
  intro a w' hoff hg hdep K hK
  obtain ⟨v13, e13, (g13 : ∃ q, v13 = .pointer (some ⟨q, 0, none⟩) ∧ w9.heap.size ≤ q ∧ ∃ c0 c1 c2, BoxPl w' q c0 c1 c2)⟩ := hdep 13 _ 4 (by kernel_rfl) rfl rfl
  obtain ⟨_, e11, rfl⟩ := hdep 11 _ 33 (by kernel_rfl) rfl rfl
  rw [if_pos (by rfl)]
  obtain ⟨q, rfl, hq, c0, c1, c2, hbx⟩ := g13
  obtain ⟨t0, t1, t2⟩ := hbx.cells
  have z0 := frozen_of_row w' q 0 _ _ hbx; have z1 := frozen_of_row w' q 1 _ _ hbx; have z2 := frozen_of_row w' q 2 _ _ hbx
  have e99 := e13
  go_simp
  have hb2 := hbx.set (.string ⟨#[83]⟩) (.string ⟨#[90]⟩) (.string ⟨#[83]⟩)
  have hsz : ∀ k, k ≠ q → (((w'.setCell ⟨q, 0, none⟩ (.string ⟨#[83]⟩)).setCell ⟨q, 1, none⟩ (.string ⟨#[90]⟩)).setCell ⟨q, 2, none⟩ (.string ⟨#[83]⟩)).heap[k]? = w'.heap[k]? := fun k hk => by rw [Below.heap_setCell _ _ _ _ hk, Below.heap_setCell _ _ _ _ hk, Below.heap_setCell _ _ _ _ hk]
  have hoo := s7_off (B := w.heap.size) hbx hsz (by simp [World.setCell])
  exact hK.out _ _ (((hg.setCell (p := ⟨q, 0, none⟩) hq _).setCell (p := ⟨q, 1, none⟩) hq _).setCell (p := ⟨q, 2, none⟩) hq _) ⟨q, rfl, hq, hb2⟩ (fSt ⟨fun _ h => Row7.to hoo.1 hoo.2 h, fun _ h => LiRow.to hoo.1 hoo.2 h, fun _ h => RuVal.to hoo.1 hoo.2 h, fun _ h => (let ⟨p, e, h1, d0, d1, d2, h2⟩ := h; match Nat.decEq p q with | .isTrue hp => ⟨p, e, h1, (.string ⟨#[83]⟩), (.string ⟨#[90]⟩), (.string ⟨#[83]⟩), (by rw [hp]; exact hb2)⟩ | .isFalse hp => ⟨p, e, h1, d0, d1, d2, (hsz p hp).trans h2⟩), fun _ h => (let ⟨p, e, h1, h2⟩ := h; match Nat.decEq p q with | .isTrue hp => ⟨p, e, h1, (by rw [hp]; exact hb2)⟩ | .isFalse hp => ⟨p, e, h1, (hsz p hp).trans h2⟩), trivial⟩) e99
 case s15 =>
  intro a w' hoff hg hdep K hK
  obtain ⟨_, e12, rfl⟩ := hdep 12 _ 34 (by kernel_rfl) rfl rfl
  rw [if_pos (by rfl)]
  go_simp
  exact hK.out _ _ hg rfl (fun _ _ h => h)
 case fin =>
  intro a w' hoff hg hf hn
  obtain ⟨_, e0, rfl⟩ := hf 0 _ 23 rfl rfl
  obtain ⟨_, e1, rfl⟩ := hf 1 _ 24 rfl rfl
  obtain ⟨_, e2, rfl⟩ := hf 2 _ 25 rfl rfl
  obtain ⟨_, e3, rfl⟩ := hf 3 _ 26 rfl rfl
  obtain ⟨v4, e4, (g4 : Row7 w.heap.size [(tm7 ⟨#[83]⟩), (tm7 ⟨#[68]⟩)] w' v4)⟩ := hf 4 _ 27 rfl rfl
  obtain ⟨_, e5, rfl⟩ := hf 5 _ 28 rfl rfl
  obtain ⟨_, e6, rfl⟩ := hf 6 _ 29 rfl rfl
  obtain ⟨v7, e7, (g7 : LiRow w.heap.size [li7a, li7b] w' v7)⟩ := hf 7 _ 30 rfl rfl
  obtain ⟨v8, e8, (g8 : RuVal w.heap.size [li7a, li7b] w' v8)⟩ := hf 8 _ 31 rfl rfl
  obtain ⟨_, e9, rfl⟩ := hf 9 _ 32 rfl rfl
  obtain ⟨_, e10, rfl⟩ := hf 10 _ 22 rfl rfl
  obtain ⟨_, e11, rfl⟩ := hf 11 _ 33 rfl rfl
  obtain ⟨_, e12, rfl⟩ := hf 12 _ 34 rfl rfl
  obtain ⟨v13, e13, (g13 : ∃ q, v13 = .pointer (some ⟨q, 0, none⟩) ∧ w9.heap.size ≤ q ∧ ∃ c0 c1 c2, BoxPl w' q c0 c1 c2)⟩ := hf 13 _ 4 rfl rfl
  obtain ⟨v14, (g14 : ∃ q, v14 = .pointer (some ⟨q, 0, none⟩) ∧ w9.heap.size ≤ q ∧ BoxPl w' q (.string ⟨#[83]⟩) (.string ⟨#[90]⟩) (.string ⟨#[83]⟩)), T14⟩ := hn 14 _ rfl rfl
  replace T14 := T14 4 rfl
  obtain ⟨_, e15, rfl⟩ := hf 15 _ 5 rfl rfl
  obtain ⟨ra4, rn4, rc4, rfl, -⟩ := g4
  obtain ⟨rb7, rm7, rd7, rfl, -⟩ := g7
  obtain ⟨s18, s28, rfl, -⟩ := g8
  obtain ⟨qa, rfl, hq, hbx⟩ := g14
  obtain rfl : v13 = .pointer (some ⟨qa, 0, none⟩) := Option.some.inj (e13.symm.trans T14)
  clear g13
  rw [hoff.sets [(23, .func (.func 32) #[] #[]), (24, .agg #[.int .i64 1, .string ⟨#[83]⟩, .int .i64 0, .int .i64 0, .string ⟨#[]⟩, .slice none 0 0, .slice none 0 0]), (25, .func (.func 32) #[] #[]), (26, .agg #[.int .i64 1, .string ⟨#[68]⟩, .int .i64 0, .int .i64 0, .string ⟨#[]⟩, .slice none 0 0, .slice none 0 0]), (27, .slice ra4 rn4 rc4), (28, .agg #[.int .i64 1, .string ⟨#[108, 105, 110, 107]⟩, .slice (some ⟨kr, 0, none⟩) 3 3]), (29, .agg #[.int .i64 1, .string ⟨#[113]⟩, .slice (some ⟨ks, 0, none⟩) 2 2]), (30, .slice rb7 rm7 rd7), (31, .agg #[.string ⟨#[114]⟩, .string ⟨#[112]⟩, s18, .string ⟨#[]⟩, .int .i64 0, s28]), (32, .tuple #[.agg #[.string ⟨#[83]⟩, .string ⟨#[90]⟩, .string ⟨#[83]⟩], .bool true]), (22, .tuple #[.agg #[.string ⟨#[83]⟩, .string ⟨#[90]⟩, .string ⟨#[83]⟩], .bool true]), (33, .agg #[.string ⟨#[83]⟩, .string ⟨#[90]⟩, .string ⟨#[83]⟩]), (34, .bool true), (4, .pointer (some ⟨qa, 0, none⟩)), (5, .bool true)] (by kernel_rfl) (by intro p hp; simp only [List.mem_cons, List.not_mem_nil, or_false] at hp; rcases hp with rfl | rfl | rfl | rfl | rfl | rfl | rfl | rfl | rfl | rfl | rfl | rfl | rfl | rfl | rfl <;> assumption)]
  clear hoff hf hn e0 e1 e2 e3 e4 e5 e6 e7 e8 e9 e10 e11 e12 e13 e15 T14
  simp only [List.foldl_cons, List.foldl_nil, List.setIfInBounds_toArray, List.set_cons_zero, List.set_cons_succ]
  have X4 := Lib.hid hbx; have BA := Lib.hid (Below.step (Below.refl w9.heap.size w9) hg)
  have HQ := Lib.hid hq
  obtain ⟨wA, hwA⟩ : ∃ wA : World, wA = w' := ⟨_, rfl⟩
  subst hwA
  replace BA : Hid (Below w9.heap.size w9 wA) := hg
  clear hbx hg hq
  go_upto_region 5 with fail
  refine wp_region_factsU (by rfl) 57 (by rfl) (by kernel_rfl) (FA [.e (.func (.func 32) #[] #[]), .e (.agg #[.int .i64 1, .string ⟨#[83]⟩, .int .i64 0, .int .i64 0, .string ⟨#[]⟩, .slice none 0 0, .slice none 0 0]), .e (.func (.func 32) #[] #[]), .e (.agg #[.int .i64 1, .string ⟨#[68]⟩, .int .i64 0, .int .i64 0, .string ⟨#[]⟩, .slice none 0 0, .slice none 0 0]), .p (fun wz vz => Row7 w.heap.size [(tm7 ⟨#[83]⟩), (tm7 ⟨#[68]⟩)] wz vz), .e (.agg #[.int .i64 1, .string ⟨#[113]⟩, .slice (some ⟨ks, 0, none⟩) 2 2]), .p (fun wz vz => LiRow w.heap.size [li7b] wz vz), .p (fun wz vz => RuVal w.heap.size [li7b] wz vz), .e (.tuple #[.agg #[.string ⟨#[]⟩, .string ⟨#[]⟩, .string ⟨#[]⟩], .bool false]), .e (.tuple #[.agg #[.string ⟨#[]⟩, .string ⟨#[]⟩, .string ⟨#[]⟩], .bool false]), .e (.agg #[.string ⟨#[]⟩, .string ⟨#[]⟩, .string ⟨#[]⟩]), .e (.bool false), .p (fun wz vz => ∃ q, vz = .pointer (some ⟨q, 0, none⟩) ∧ wA.heap.size ≤ q ∧ ∃ c0 c1 c2, BoxPl wz q c0 c1 c2), .p (fun wz vz => ∃ q, vz = .pointer (some ⟨q, 0, none⟩) ∧ wA.heap.size ≤ q ∧ BoxPl wz q (.string ⟨#[]⟩) (.string ⟨#[]⟩) (.string ⟨#[]⟩)), .e (.bool false)]) (fun w' => Below wA.heap.size wA w') (Below.drew (Below.refl _ _)) ⟨?s0, ?s1, ?s2, ?s3, ?s4, ?s5, ?s6, ?s7, ?s8, ?s9, ?s10, ?s11, ?s12, ?s13, ?s14, trivial⟩ ?fin
  case s0 =>
   intro a w' hoff hg hdep K hK
   have h1 := off_at hoff 1 (v := .func (.func 32) #[] #[]) (by kernel_rfl) rfl
   rw [if_pos (by rfl)]
   go_simp
   exact hK.out _ _ hg rfl (fun _ _ h => h)
  case s1 =>
   intro a w' hoff hg hdep K hK
   obtain ⟨_, e0, rfl⟩ := hdep 0 _ 36 (by kernel_rfl) rfl rfl
   rw [if_pos (by rfl)]
   go_simp
   refine (v7_any ⟨#[83]⟩ w').mono ?_
   rintro e w2' ⟨rfl, hb⟩
   exact hK.out _ _ (Below.step hg hb) rfl (fSt ⟨fun _ h => Row7.to (fun _ k => k.on hb) (fun _ k => hb.block _ k.2.1) h, fun _ h => LiRow.to (fun _ k => k.on hb) (fun _ k => hb.block _ k.2.1) h, fun _ h => RuVal.to (fun _ k => k.on hb) (fun _ k => hb.block _ k.2.1) h, fun _ h => let ⟨q, e, h1, c0, c1, c2, h2⟩ := h; ⟨q, e, h1, c0, c1, c2, h2.on hb⟩, fun _ h => let ⟨q, e, h1, h2⟩ := h; ⟨q, e, h1, h2.on hb⟩, trivial⟩)
  case s2 =>
   intro a w' hoff hg hdep K hK
   have h1 := off_at hoff 1 (v := .func (.func 32) #[] #[]) (by kernel_rfl) rfl
   rw [if_pos (by rfl)]
   go_simp
   exact hK.out _ _ hg rfl (fun _ _ h => h)
  case s3 =>
   intro a w' hoff hg hdep K hK
   obtain ⟨_, e2, rfl⟩ := hdep 2 _ 38 (by kernel_rfl) rfl rfl
   rw [if_pos (by rfl)]
   go_simp
   refine (v7_any ⟨#[68]⟩ w').mono ?_
   rintro e w2' ⟨rfl, hb⟩
   exact hK.out _ _ (Below.step hg hb) rfl (fSt ⟨fun _ h => Row7.to (fun _ k => k.on hb) (fun _ k => hb.block _ k.2.1) h, fun _ h => LiRow.to (fun _ k => k.on hb) (fun _ k => hb.block _ k.2.1) h, fun _ h => RuVal.to (fun _ k => k.on hb) (fun _ k => hb.block _ k.2.1) h, fun _ h => let ⟨q, e, h1, c0, c1, c2, h2⟩ := h; ⟨q, e, h1, c0, c1, c2, h2.on hb⟩, fun _ h => let ⟨q, e, h1, h2⟩ := h; ⟨q, e, h1, h2.on hb⟩, trivial⟩)
  case s4 =>
   intro a w' hoff hg hdep K hK
   obtain ⟨_, e1, rfl⟩ := hdep 1 _ 37 (by kernel_rfl) rfl rfl
   obtain ⟨_, e3, rfl⟩ := hdep 3 _ 39 (by kernel_rfl) rfl rfl
   rw [if_pos (by rfl)]
   go_simp
   have hb := below_alloc w' (.cells #[.int .i64 1, .string ⟨#[83]⟩, .int .i64 0, .int .i64 0, .string ⟨#[]⟩, .slice none 0 0, .slice none 0 0, .int .i64 1, .string ⟨#[68]⟩, .int .i64 0, .int .i64 0, .string ⟨#[]⟩, .slice none 0 0, .slice none 0 0] 52)
   exact hK.out _ _ (Below.step hg hb) (row7_two (y := (tm7 ⟨#[83]⟩)) (z := (tm7 ⟨#[68]⟩)) (Nat.le_trans B9.out.size (Nat.le_trans BA.out.size hg.size)) (tm7_rep _ _ _ (by decide)) (tm7_rep _ _ _ (by decide))) (fSt ⟨fun _ h => Row7.to (fun _ k => k.on hb) (fun _ k => hb.block _ k.2.1) h, fun _ h => LiRow.to (fun _ k => k.on hb) (fun _ k => hb.block _ k.2.1) h, fun _ h => RuVal.to (fun _ k => k.on hb) (fun _ k => hb.block _ k.2.1) h, fun _ h => let ⟨q, e, h1, c0, c1, c2, h2⟩ := h; ⟨q, e, h1, c0, c1, c2, h2.on hb⟩, fun _ h => let ⟨q, e, h1, h2⟩ := h; ⟨q, e, h1, h2.on hb⟩, trivial⟩)
  case s5 =>
   intro a w' hoff hg hdep K hK
   have h3 := off_at hoff 3 (v := .pointer (some ⟨kb, 0, none⟩)) (by kernel_rfl) rfl
   rw [if_pos (by rfl)]
   obtain ⟨p0, p1, p2⟩ := (XB.out.on (Below.step BA.out hg)).cells
   go_simp
   exact hK.out _ _ hg rfl (fun _ _ h => h)
  case s6 =>
   intro a w' hoff hg hdep K hK
   obtain ⟨_, e5, rfl⟩ := hdep 5 _ 41 (by kernel_rfl) rfl rfl
   rw [if_pos (by rfl)]
   go_simp
   have hb := below_alloc w' (.cells #[.int .i64 1, .string ⟨#[113]⟩, .slice (some ⟨ks, 0, none⟩) 2 2] 46)
   have hg2 := Below.step (Below.step BA.out hg) hb
   exact hK.out _ _ (Below.step hg hb) ⟨_, _, _, rfl, slg_row (alloc_new' w' _) ⟨Nat.le_trans B9.out.size (Below.step BA.out hg).size, by simp, fun cs fz h => by rw [alloc_new'] at h; simp at h⟩ rfl (by decide) (fun i h => match i, h with | 0, _ => RepLi.on (fun k hk => hk.on hg2) (fun k hk => hg2.block k hk.2.1) LB.out)⟩ (fSt ⟨fun _ h => Row7.to (fun _ k => k.on hb) (fun _ k => hb.block _ k.2.1) h, fun _ h => LiRow.to (fun _ k => k.on hb) (fun _ k => hb.block _ k.2.1) h, fun _ h => RuVal.to (fun _ k => k.on hb) (fun _ k => hb.block _ k.2.1) h, fun _ h => let ⟨q, e, h1, c0, c1, c2, h2⟩ := h; ⟨q, e, h1, c0, c1, c2, h2.on hb⟩, fun _ h => let ⟨q, e, h1, h2⟩ := h; ⟨q, e, h1, h2.on hb⟩, trivial⟩)
  case s7 =>
   intro a w' hoff hg hdep K hK
   obtain ⟨v4, e4, (g4 : Row7 w.heap.size [(tm7 ⟨#[83]⟩), (tm7 ⟨#[68]⟩)] w' v4)⟩ := hdep 4 _ 40 (by kernel_rfl) rfl rfl
   obtain ⟨v6, e6, (g6 : LiRow w.heap.size [li7b] w' v6)⟩ := hdep 6 _ 42 (by kernel_rfl) rfl rfl
   rw [if_pos (by rfl)]
   obtain ⟨ra, rn, rc, rfl, hT⟩ := g4
   obtain ⟨rb, rm, rd, rfl, hL⟩ := g6
   go_simp
   exact hK.out _ _ hg ⟨_, _, rfl, rfl, rfl, rfl, rfl, by decide, by decide, by decide, small64 (by decide), hT, hL⟩ (fun _ _ h => h)
  case s8 =>
   intro a w' hoff hg hdep K hK
   obtain ⟨v7, e7, (g7 : RuVal w.heap.size [li7b] w' v7)⟩ := hdep 7 _ 43 (by kernel_rfl) rfl rfl
   rw [if_pos (by rfl)]
   obtain ⟨s1, s2, rfl, hr⟩ := g7
   go_simp
   have hgw := Below.step B9.out (Below.step BA.out hg)
   refine (locPlace_any (ru7 [li7b]) (S7 w.heap.size w') w' _ _ _ _ _ _ (fun k hk => hk.2.1) (Nat.lt_of_lt_of_le HG.out hgw.size) (TabOk.below HT.out HG.out hgw) hr).mono ?_
   rintro e w2' ⟨rfl, hb⟩
   rw [ru7_none]
   exact hK.out _ _ (Below.step hg hb) rfl (fSt ⟨fun _ h => Row7.to (fun _ k => k.on hb) (fun _ k => hb.block _ k.2.1) h, fun _ h => LiRow.to (fun _ k => k.on hb) (fun _ k => hb.block _ k.2.1) h, fun _ h => RuVal.to (fun _ k => k.on hb) (fun _ k => hb.block _ k.2.1) h, fun _ h => let ⟨q, e, h1, c0, c1, c2, h2⟩ := h; ⟨q, e, h1, c0, c1, c2, h2.on hb⟩, fun _ h => let ⟨q, e, h1, h2⟩ := h; ⟨q, e, h1, h2.on hb⟩, trivial⟩)
  case s9 =>
   intro a w' hoff hg hdep K hK
   obtain ⟨_, e8, rfl⟩ := hdep 8 _ 44 (by kernel_rfl) rfl rfl
   rw [if_pos (by rfl)]
   go_simp
   exact hK.out _ _ hg rfl (fun _ _ h => h)
  case s10 =>
   intro a w' hoff hg hdep K hK
   obtain ⟨_, e9, rfl⟩ := hdep 9 _ 35 (by kernel_rfl) rfl rfl
   rw [if_pos (by rfl)]
   go_simp
   exact hK.out _ _ hg rfl (fun _ _ h => h)
  case s11 =>
   intro a w' hoff hg hdep K hK
   obtain ⟨_, e9, rfl⟩ := hdep 9 _ 35 (by kernel_rfl) rfl rfl
   rw [if_pos (by rfl)]
   go_simp
   exact hK.out _ _ hg rfl (fun _ _ h => h)
  case s12 =>
   intro a w' hoff hg hdep K hK
   rw [if_pos (by rfl)]
   go_simp
   have hb := below_alloc w' (.cells #[.string ⟨#[]⟩, .string ⟨#[]⟩, .string ⟨#[]⟩] 37)
   exact hK.out _ _ (Below.step hg hb) ⟨_, rfl, hg.size, _, _, _, alloc_new' w' _⟩ (fSt ⟨fun _ h => Row7.to (fun _ k => k.on hb) (fun _ k => hb.block _ k.2.1) h, fun _ h => LiRow.to (fun _ k => k.on hb) (fun _ k => hb.block _ k.2.1) h, fun _ h => RuVal.to (fun _ k => k.on hb) (fun _ k => hb.block _ k.2.1) h, fun _ h => let ⟨q, e, h1, c0, c1, c2, h2⟩ := h; ⟨q, e, h1, c0, c1, c2, h2.on hb⟩, fun _ h => let ⟨q, e, h1, h2⟩ := h; ⟨q, e, h1, h2.on hb⟩, trivial⟩)
  case s13 =>
   intro a w' hoff hg hdep K hK
   obtain ⟨v12, e12, (g12 : ∃ q, v12 = .pointer (some ⟨q, 0, none⟩) ∧ wA.heap.size ≤ q ∧ ∃ c0 c1 c2, BoxPl w' q c0 c1 c2)⟩ := hdep 12 _ 6 (by kernel_rfl) rfl rfl
   obtain ⟨_, e10, rfl⟩ := hdep 10 _ 45 (by kernel_rfl) rfl rfl
   rw [if_pos (by rfl)]
   obtain ⟨q, rfl, hq, c0, c1, c2, hbx⟩ := g12
   obtain ⟨t0, t1, t2⟩ := hbx.cells
   have z0 := frozen_of_row w' q 0 _ _ hbx; have z1 := frozen_of_row w' q 1 _ _ hbx; have z2 := frozen_of_row w' q 2 _ _ hbx
   have e99 := e12
   go_simp
   have hb2 := hbx.set (.string ⟨#[]⟩) (.string ⟨#[]⟩) (.string ⟨#[]⟩)
   have hsz : ∀ k, k ≠ q → (((w'.setCell ⟨q, 0, none⟩ (.string ⟨#[]⟩)).setCell ⟨q, 1, none⟩ (.string ⟨#[]⟩)).setCell ⟨q, 2, none⟩ (.string ⟨#[]⟩)).heap[k]? = w'.heap[k]? := fun k hk => by rw [Below.heap_setCell _ _ _ _ hk, Below.heap_setCell _ _ _ _ hk, Below.heap_setCell _ _ _ _ hk]
   have hoo := s7_off (B := w.heap.size) hbx hsz (by simp [World.setCell])
   exact hK.out _ _ (((hg.setCell (p := ⟨q, 0, none⟩) hq _).setCell (p := ⟨q, 1, none⟩) hq _).setCell (p := ⟨q, 2, none⟩) hq _) ⟨q, rfl, hq, hb2⟩ (fSt ⟨fun _ h => Row7.to hoo.1 hoo.2 h, fun _ h => LiRow.to hoo.1 hoo.2 h, fun _ h => RuVal.to hoo.1 hoo.2 h, fun _ h => (let ⟨p, e, h1, d0, d1, d2, h2⟩ := h; match Nat.decEq p q with | .isTrue hp => ⟨p, e, h1, (.string ⟨#[]⟩), (.string ⟨#[]⟩), (.string ⟨#[]⟩), (by rw [hp]; exact hb2)⟩ | .isFalse hp => ⟨p, e, h1, d0, d1, d2, (hsz p hp).trans h2⟩), fun _ h => (let ⟨p, e, h1, h2⟩ := h; match Nat.decEq p q with | .isTrue hp => ⟨p, e, h1, (by rw [hp]; exact hb2)⟩ | .isFalse hp => ⟨p, e, h1, (hsz p hp).trans h2⟩), trivial⟩) e99
  case s14 =>
   intro a w' hoff hg hdep K hK
   obtain ⟨_, e11, rfl⟩ := hdep 11 _ 46 (by kernel_rfl) rfl rfl
   rw [if_pos (by rfl)]
   go_simp
   exact hK.out _ _ hg rfl (fun _ _ h => h)
  case fin =>
   intro a w' hoff hg hf hn
   obtain ⟨_, e0, rfl⟩ := hf 0 _ 36 rfl rfl
   obtain ⟨_, e1, rfl⟩ := hf 1 _ 37 rfl rfl
   obtain ⟨_, e2, rfl⟩ := hf 2 _ 38 rfl rfl
   obtain ⟨_, e3, rfl⟩ := hf 3 _ 39 rfl rfl
   obtain ⟨v4, e4, (g4 : Row7 w.heap.size [(tm7 ⟨#[83]⟩), (tm7 ⟨#[68]⟩)] w' v4)⟩ := hf 4 _ 40 rfl rfl
   obtain ⟨_, e5, rfl⟩ := hf 5 _ 41 rfl rfl
   obtain ⟨v6, e6, (g6 : LiRow w.heap.size [li7b] w' v6)⟩ := hf 6 _ 42 rfl rfl
   obtain ⟨v7, e7, (g7 : RuVal w.heap.size [li7b] w' v7)⟩ := hf 7 _ 43 rfl rfl
   obtain ⟨_, e8, rfl⟩ := hf 8 _ 44 rfl rfl
   obtain ⟨_, e9, rfl⟩ := hf 9 _ 35 rfl rfl
   obtain ⟨_, e10, rfl⟩ := hf 10 _ 45 rfl rfl
   obtain ⟨_, e11, rfl⟩ := hf 11 _ 46 rfl rfl
   obtain ⟨v12, e12, (g12 : ∃ q, v12 = .pointer (some ⟨q, 0, none⟩) ∧ wA.heap.size ≤ q ∧ ∃ c0 c1 c2, BoxPl w' q c0 c1 c2)⟩ := hf 12 _ 6 rfl rfl
   obtain ⟨v13, (g13 : ∃ q, v13 = .pointer (some ⟨q, 0, none⟩) ∧ wA.heap.size ≤ q ∧ BoxPl w' q (.string ⟨#[]⟩) (.string ⟨#[]⟩) (.string ⟨#[]⟩)), T13⟩ := hn 13 _ rfl rfl
   replace T13 := T13 6 rfl
   obtain ⟨_, e14, rfl⟩ := hf 14 _ 7 rfl rfl
   obtain ⟨ra4, rn4, rc4, rfl, -⟩ := g4
   obtain ⟨rb7, rm7, rd7, rfl, -⟩ := g6
   obtain ⟨s18, s28, rfl, -⟩ := g7
   obtain ⟨q, rfl, hq, hbx⟩ := g13
   obtain rfl : v12 = .pointer (some ⟨q, 0, none⟩) := Option.some.inj (e12.symm.trans T13)
   clear g12
   rw [hoff.sets [(36, .func (.func 32) #[] #[]), (37, .agg #[.int .i64 1, .string ⟨#[83]⟩, .int .i64 0, .int .i64 0, .string ⟨#[]⟩, .slice none 0 0, .slice none 0 0]), (38, .func (.func 32) #[] #[]), (39, .agg #[.int .i64 1, .string ⟨#[68]⟩, .int .i64 0, .int .i64 0, .string ⟨#[]⟩, .slice none 0 0, .slice none 0 0]), (40, .slice ra4 rn4 rc4), (41, .agg #[.int .i64 1, .string ⟨#[113]⟩, .slice (some ⟨ks, 0, none⟩) 2 2]), (42, .slice rb7 rm7 rd7), (43, .agg #[.string ⟨#[114]⟩, .string ⟨#[112]⟩, s18, .string ⟨#[]⟩, .int .i64 0, s28]), (44, .tuple #[.agg #[.string ⟨#[]⟩, .string ⟨#[]⟩, .string ⟨#[]⟩], .bool false]), (35, .tuple #[.agg #[.string ⟨#[]⟩, .string ⟨#[]⟩, .string ⟨#[]⟩], .bool false]), (45, .agg #[.string ⟨#[]⟩, .string ⟨#[]⟩, .string ⟨#[]⟩]), (46, .bool false), (6, .pointer (some ⟨q, 0, none⟩)), (7, .bool false)] (by kernel_rfl) (by intro p hp; simp only [List.mem_cons, List.not_mem_nil, or_false] at hp; rcases hp with rfl | rfl | rfl | rfl | rfl | rfl | rfl | rfl | rfl | rfl | rfl | rfl | rfl | rfl <;> assumption)]
   clear hoff hf hn e0 e1 e2 e3 e4 e5 e6 e7 e8 e9 e10 e11 e12 e14 T13
   simp only [List.foldl_cons, List.foldl_nil, List.setIfInBounds_toArray, List.set_cons_zero, List.set_cons_succ]
   obtain ⟨u0, u1, u2⟩ := (X4.out.on hg).cells
   go_wp2_with fail
   go_ret
   exact ⟨rfl, Below.step B9.out (Below.step BA.out hg)⟩
end Go.Proofs.YtjohcnhiblfbnaaGreatDoor
