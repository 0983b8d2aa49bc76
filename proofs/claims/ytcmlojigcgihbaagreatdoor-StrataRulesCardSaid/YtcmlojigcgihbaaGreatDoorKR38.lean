/-
  WTextRu, NameLe, ShowLe
-/
import Derived.Test.YtcmlojigcgihbaaGreatDoorKR37
import Derived.Test.YtcmlojigcgihbaaGreatDoorKR18
import Derived.Test.YtcmlojigcgihbaaGreatDoorKR03
import Derived.Test.YtcmlojigcgihbaaGreatDoorKR02
import Derived.Test.YtcmlojigcgihbaaGreatDoorKR34
namespace Go.Proofs.YtcmlojigcgihbaaGreatDoor
open Go.RowKit
set_option maxHeartbeats 2000000 in
set_option maxRecDepth 100000 in
theorem pw.string_none (B b : Nat) (w : World) (hBw : B ≤ w.heap.size) (h : Lib.IsBuilderF 149 5 B b (Lib.byteCells []) w) :
  Calls Tryz.prog 104 #[.pointer (some ⟨b, 0, none⟩)] w fun e w' => e = .returned (.string ⟨#[]⟩) ∧ Below B w w' := by
 have hUS : ∀ (W : World) (q : Option Addr), (Builtin.unsafeString_ #[176, 3] 9 #[.pointer q, .int .i64 0]).run Tryz.prog W = .ok (.string .empty) W := fun W q => Lib.run_unsafeString_none W _ _ _ q
 obtain ⟨p, hAt⟩ : ∃ p, Lib.BuilderAtF 149 5 B b p (Lib.byteCells []) w := by
  rcases h with h | h
  ·exact ⟨_, h⟩
  ·exact ⟨_, h⟩
 obtain ⟨hB, v, hbk, hown, hne⟩ := hAt;have hlt : b < w.heap.size := (Array.getElem?_eq_some_iff.1 hbk).1;have mixed : Tryz.prog.follows .mixedOrders = true := by kernel_rfl
 rcases hown.2 with ⟨rfl, -⟩ | ⟨g, cap, cur, fz, rfl, hbg, hg, -⟩
 ·have c1 : w.drew.cell? ⟨b, 1, none⟩ = some (.slice none 0 0) := by
   have : w.drew.heap[b]? = some (.cells #[p, .slice none 0 0] 149 (0, 0)) := hbk;rw [Lib.cell_of_heap this]; rfl
  have hSD : (Builtin.unsafeSliceData_ #[92] 176 #[.slice none 0 0]).run Tryz.prog w.drew = .ok (.pointer none) w.drew := rfl;clear hown hne hbk;go_enter Tryz.func104, Tryz.ntmps104
  go_wp2
  go_region_o
  all_goals (go_wp2; go_ret; exact ⟨rfl, Below.drew (Below.refl B w)⟩)
 ·by_cases hc0 : cap = 0
  ·subst hc0
   have hbk' : w.heap[b]? = some (.cells #[p, .slice (some ⟨g, 0, none⟩) 0 0] 149 (0, 0)) := hbk
   have c1 : w.drew.cell? ⟨b, 1, none⟩ = some (.slice (some ⟨g, 0, none⟩) 0 0) := by
    have : w.drew.heap[b]? = some (.cells #[p, .slice (some ⟨g, 0, none⟩) 0 0] 149 (0, 0)) := hbk';rw [Lib.cell_of_heap this]; rfl
   have hSD : (Builtin.unsafeSliceData_ #[92] 176 #[.slice (some ⟨g, 0, none⟩) 0 0]).run Tryz.prog w.drew = .ok (.pointer (some ⟨w.drew.heap.size, 0, none⟩)) (w.drew.alloc (.view ⟨g, 0, none⟩ 5)) :=
    Lib.run_unsafeSliceData_zero w.drew _ _ 5 Tryz.underlying176 ⟨g, 0, none⟩ 0 (5, cur.size) (by have hg' : w.drew.heap[g]? = some (.cells cur 5 fz) := hg; simp [World.shape?, hg'])
   have c2 : (w.drew.alloc (.view ⟨g, 0, none⟩ 5)).cell? ⟨b, 1, none⟩ = some (.slice (some ⟨g, 0, none⟩) 0 0) := by
    have : (w.drew.alloc (.view ⟨g, 0, none⟩ 5)).heap[b]? = _ := (Lib.alloc_old w.drew _ b hlt).trans hbk';rw [Lib.cell_of_heap this]; rfl
   have c3 : (w.alloc (.view ⟨g, 0, none⟩ 5)).drew.cell? ⟨b, 1, none⟩ = some (.slice (some ⟨g, 0, none⟩) 0 0) := c2;have c0 : w.cell? ⟨b, 1, none⟩ = some (.slice (some ⟨g, 0, none⟩) 0 0) := c1;clear hown hne hbk hbk' hg hbg;go_enter Tryz.func104, Tryz.ntmps104
   go_wp2
   go_region_o
   all_goals (go_wp2; go_ret; exact ⟨rfl, (Below.drew (Below.refl B w)).alloc hBw _⟩)
  ·have hbk' : w.heap[b]? = some (.cells #[p, .slice (some ⟨g, 0, none⟩) 0 cap] 149 (0, 0)) := hbk
   have c1 : w.drew.cell? ⟨b, 1, none⟩ = some (.slice (some ⟨g, 0, none⟩) 0 cap) := by
    have : w.drew.heap[b]? = some (.cells #[p, .slice (some ⟨g, 0, none⟩) 0 cap] 149 (0, 0)) := hbk';rw [Lib.cell_of_heap this]; rfl
   have hSD : (Builtin.unsafeSliceData_ #[92] 176 #[.slice (some ⟨g, 0, none⟩) 0 cap]).run Tryz.prog w.drew = .ok (.pointer (some ⟨g, 0, none⟩)) w.drew :=
    Lib.run_unsafeSliceData_row _ _ _ _ _ _ hc0
   clear hown hne hbk hbk' hg hbg;go_enter Tryz.func104, Tryz.ntmps104
   go_wp2
   go_region_o
   all_goals (go_wp2; go_ret; exact ⟨rfl, Below.drew (Below.refl B w)⟩)
theorem pw.string_any (B b : Nat) (l : List UInt8) (w : World) (hBw : B ≤ w.heap.size) (h : Lib.IsBuilderF 149 5 B b (Lib.byteCells l) w) :
  Calls Tryz.prog 104 #[.pointer (some ⟨b, 0, none⟩)] w fun e w' => e = .returned (.string ⟨l.toArray⟩) ∧ Below B w w' := by
 cases l with
 | nil => exact pw.string_none B b w hBw h
 | cons x l => exact pw.string_some B b (x :: l) w h (by simp)
def told (b : Bool) (l : List UInt8) : List UInt8 := match b with
 | true => l
 | false => []
set_option maxRecDepth 100000 in
set_option maxHeartbeats 4000000 in
theorem text_Ru (x : Ru) (S : Nat → Prop) (w : World) (c0 c1 c2 c3 c4 c5 : Value) (hS : ∀ k, S k → k < w.heap.size) (hg : 0 < w.heap.size) (htab : TabOk w) (hx : RepRu S w x c0 c1 c2 c3 c4 c5) (hlen : ruB x = true → (showRu x).length ≤ 140737488355328) :
  Calls Tryz.prog 63 #[.agg #[c0, c1, c2, c3, c4, c5], .func (.func 64) #[] #[], .func (.func 65) #[] #[]] w fun e w' => e = .returned (.string ⟨(told (ruB x) (showRu x)).toArray⟩) ∧ Below w.heap.size w w' := by
 have HX := Lib.hid hx; have HTB := Lib.hid htab; have HLEN := Lib.hid hlen
 obtain ⟨fa, fc, ga, gc, rfl, rfl, rfl, rfl, rfl, rfl⟩ := hx.form;clear hx htab hlen;have hen : ∀ args w, Sem.run Tryz.prog (callFunc 64 args) w = .ok (.enter 64 args) w := fun args w => by kernel_rfl
 have hen2 : ∀ args w, Sem.run Tryz.prog (callFunc 65 args) w = .ok (.enter 65 args) w := fun args w => by kernel_rfl
 go_enter Tryz.func63, Tryz.ntmps63
 go_wp2_with fail
 have x1 := boxRu_new w (.string x.label) (.string x.head) (.slice fa x.args.length fc) (.string x.agg) (.int .i64 x.at') (.slice ga x.body.length gc);have b1 := below_alloc w (.cells #[.string x.label, .string x.head, .slice fa x.args.length fc, .string x.agg, .int .i64 x.at', .slice ga x.body.length gc] 43);generalize w.alloc (.cells #[.string x.label, .string x.head, .slice fa x.args.length fc, .string x.agg, .int .i64 x.at', .slice ga x.body.length gc] 43) = w1 at *;have X1 := Lib.hid x1; have B1 := Lib.hid b1
 clear x1 b1;refine (rightRule_any x S _ _ _ _ _ _ _ (fun k hk => Nat.lt_of_lt_of_le (hS k hk) B1.out.size) (RepRu.on (fun _ h => h) (fun k hk => B1.out.block k (hS k hk)) HX.out)).mono ?_;rintro e w2 ⟨rfl, hb⟩;have X2 := Lib.hid (X1.out.on hb); have B2 := Lib.hid (Below.step B1.out hb)
 clear hb;obtain ⟨p0, p1, p2, p3, p4, p5⟩ := X2.out.cells
 cases hr : ruB x with
 | false =>
  have HRF := Lib.hid hr; clear hr
  go_wp2_with fail
  go_ret
  exact ⟨by rw [HRF.out]; rfl, B2.out⟩
 | true =>
  have HRT := Lib.hid hr; clear hr
  have HLN : Hid (([] : List UInt8).length + (showRu x).length ≤ 140737488355328) := by show _ ≤ _; have h := HLEN.out HRT.out; simp only [List.length_nil]; omega
  clear p0 p1 p2 p3 p4 p5;have hba := below_alloc w2 (.cells #[.pointer none, .slice none 0 0] 149);obtain ⟨p0, p1, p2, p3, p4, p5⟩ := (X2.out.on hba).cells;have B3 := Lib.hid (Below.step B2.out hba);have HS3 : Hid (w2.heap.size ≤ (w2.alloc (.cells #[.pointer none, .slice none 0 0] 149)).heap.size) := hba.size;have HFR := Lib.hid (Lib.IsBuilderF.of (Lib.fresh_isBuilder 149 5 w2));clear hba;go_wp2_with fail
  refine (wrule_any x S w2.heap.size w2.heap.size [] _ _ _ _ _ _ _ (fun k hk => Nat.lt_of_lt_of_le (hS k hk) B2.out.size) HS3.out (Nat.lt_of_lt_of_le hg B2.out.size) (TabOk.below HTB.out hg B3.out) (RepRu.on (fun _ h => h) (fun k hk => B3.out.block k (hS k hk)) HX.out) HFR.out HRT.out HLN.out).mono ?_;rintro e w4 ⟨rfl, W⟩;have HW := Lib.hid W;clear W;go_wp2_with fail
  refine (pw.string_any w2.heap.size w2.heap.size ([] ++ showRu x) _ (Nat.le_trans HS3.out HW.out.2.1.size) HW.out.1).mono ?_;rintro e w5 ⟨rfl, hb⟩;have HB5 := Lib.hid (B3.out.trans ((HW.out.2.1.trans hb).mono B2.out.size));clear hb;go_wp2_with fail
  go_ret
  exact ⟨by rw [HRT.out]; rfl, HB5.out⟩
set_option maxRecDepth 100000 in
set_option maxHeartbeats 4000000 in
theorem prRu_any (x : Ru) (S : Nat → Prop) (w : World) (c0 c1 c2 c3 c4 c5 : Value) (hS : ∀ k, S k → k < w.heap.size) (hg : 0 < w.heap.size) (htab : TabOk w) (hx : RepRu S w x c0 c1 c2 c3 c4 c5) (hlen : ruB x = true → (showRu x).length ≤ 140737488355328) :
  Calls Tryz.prog 35 #[.agg #[c0, c1, c2, c3, c4, c5]] w fun e w' => e = .returned (.string ⟨(told (ruB x) (showRu x)).toArray⟩) ∧ Below w.heap.size w w' := by
 have HX := Lib.hid hx; have HTB := Lib.hid htab; have HLEN := Lib.hid hlen
 obtain ⟨fa, fc, ga, gc, rfl, rfl, rfl, rfl, rfl, rfl⟩ := hx.form;clear hx htab hlen;go_enter Tryz.func35, Tryz.ntmps35
 go_wp2_with fail
 have b1 := below_alloc w (.cells #[.string x.label, .string x.head, .slice fa x.args.length fc, .string x.agg, .int .i64 x.at', .slice ga x.body.length gc] 43);refine (text_Ru x S _ _ _ _ _ _ _ (fun k hk => Nat.lt_of_lt_of_le (hS k hk) b1.size) (Nat.lt_of_lt_of_le hg b1.size) (TabOk.below HTB.out hg b1) (RepRu.on (fun _ h => h) (fun k hk => b1.block k (hS k hk)) HX.out) HLEN.out).mono ?_;rintro e w2 ⟨rfl, hb⟩;have B2 := Lib.hid (Below.step b1 hb);clear b1 hb;go_wp2_with fail
 go_ret
 exact ⟨rfl, B2.out⟩
end Go.Proofs.YtcmlojigcgihbaaGreatDoor
namespace Go.Proofs.YtcmlojigcgihbaaGreatDoor
open Go.RowKit
theorem relB_name {s : ByteArray} (h : relB s = true) : nameB s = true := by
 rw [relB, Bool.and_eq_true] at h; exact h.1
theorem varB_le {s : ByteArray} (h : varB s = true) : s.size ≤ 16 := (of_decide_eq_true h).2.1
theorem relB_le {s : ByteArray} (h : relB s = true) : s.size ≤ 16 := (of_decide_eq_true (relB_name h)).2.1
end Go.Proofs.YtcmlojigcgihbaaGreatDoor
namespace Go.Proofs.YtcmlojigcgihbaaGreatDoor
open Go.RowKit
theorem fnm_text {s : ByteArray} {k : Nat} (hk : k < 9) (h : fnOf s = k) : s.data.toList = fname k := by
 rw [← Lib.toList_data];unfold fnOf at h
 split at h
 ·subst h; rename_i e; simpa [fname] using e
 split at h
 ·subst h; rename_i e; simpa [fname] using e
 split at h
 ·subst h; rename_i e; simpa [fname] using e
 split at h
 ·subst h; rename_i e; simpa [fname] using e
 split at h
 ·subst h; rename_i e; simpa [fname] using e
 split at h
 ·subst h; rename_i e; simpa [fname] using e
 split at h
 ·subst h; rename_i e; simpa [fname] using e
 split at h
 ·subst h; rename_i e; simpa [fname] using e
 split at h
 ·subst h; rename_i e; simpa [fname] using e
 ·omega
theorem fnm_of {s : ByteArray} (h : 0 ≤ fnArity (fnOf s)) : ∃ k, k < 9 ∧ fnOf s = k ∧ s.data.toList = fname k := by
 by_cases hk : fnOf s < 9
 ·exact ⟨fnOf s, hk, rfl, fnm_text hk rfl⟩
 ·have e : fnArity (fnOf s) = -1 := by
   match hf : fnOf s with
   | 0 | 1 | 2 | 3 | 4 | 5 | 6 | 7 | 8 => omega
   | n + 9 => rfl
  omega
theorem fname_len : ∀ k, k < 9 → (fname k).length ≤ 9 := by decide
theorem fnm_len {s : ByteArray} (h : 0 ≤ fnArity (fnOf s)) : s.data.toList.length ≤ 9 := by
 obtain ⟨k, hk, -, e⟩ := fnm_of h;rw [e]; exact fname_len k hk
theorem fnArity_le (k : Nat) : fnArity k ≤ 2 := by rcases fnArity_range k with h | h | h <;> omega
theorem printB_le (x : V) : (printB x).length ≤ 10240000 := by
 unfold printB
 split
 ·rename_i h; have := (prV_le 4 x h).1; omega
 ·simp
theorem opB_text {s : ByteArray} (h : opB s = true) : s.data.toList = [43] ∨ s.data.toList = [45] ∨ s.data.toList = [42] := by
 rw [opB, Lib.toList_data] at h;simp only [Bool.or_eq_true, beq_iff_eq] at h
 exact h
theorem cmpB_text {s : ByteArray} (h : cmpB s = true) : s.data.toList = [61, 61] ∨ s.data.toList = [33, 61] ∨ s.data.toList = [60] ∨ s.data.toList = [60, 61] ∨ s.data.toList = [62] ∨ s.data.toList = [62, 61] := by
 rw [cmpB, Lib.toList_data] at h;simp only [Bool.or_eq_true, beq_iff_eq] at h
 exact h
theorem aggName_text {s : ByteArray} (h : aggNameB s = true) : s.data.toList = [109, 105, 110] ∨ s.data.toList = [109, 97, 120] ∨ s.data.toList = [99, 111, 117, 110, 116] := by
 rw [aggNameB, Lib.toList_data] at h;simp only [Bool.or_eq_true, beq_iff_eq] at h
 exact h
theorem sepL_le {sep : List UInt8} {c : Nat} (b : Nat) (hs : sep.length ≤ c) : ∀ (l : List (List UInt8)), (∀ x ∈ l, x.length ≤ b) → (sepL sep l).length ≤ l.length * (b + c)
 | [], _ => by simp [sepL]
 | x :: l, h => by
  have key : ∀ m : List (List UInt8), (∀ x ∈ m, x.length ≤ b) → ((m.map fun y => sep ++ y).flatten).length ≤ m.length * (b + c) := by
   intro m
   induction m with
   | nil => intro _; simp
   | cons y m ih =>
    intro hm;have h1 := ih fun z hz => hm z (by simp [hz])
    have h2 := hm y (by simp);simp only [List.map_cons, List.flatten_cons, List.length_append, List.length_cons]
    rw [Nat.succ_mul]; omega
  have h1 := key l fun z hz => h z (by simp [hz])
  have h2 := h x (by simp);simp only [sepL, List.length_append, List.length_cons]
  rw [Nat.succ_mul]; omega
theorem showM_le : ∀ (d : Nat) (x : Tm), rightM d x = true → (showM x).length + 16 ≤ 10240016 * 2 ^ d
 | 0, x, h => by rw [rightM_zero] at h; cases h
 | d + 1, .mk k s x l, h => by
  have hp : 1 ≤ 2 ^ d := Nat.one_le_pow _ _ (by omega);have hp2 : 2 ^ (d + 1) = 2 * 2 ^ d := by rw [Nat.pow_succ]; omega
  rw [rightM_succ] at h;rw [showM_mk]
  by_cases e1 : k = 1
  ·rw [if_pos e1] at h ⊢
   simp only [Bool.and_eq_true] at h
   have := varB_le h.1;rw [data_length]; omega
  rw [if_neg e1] at h ⊢
  by_cases e2 : k = 2
  ·rw [if_pos e2] at h ⊢
   have := printB_le x;omega
  rw [if_neg e2] at h ⊢
  by_cases e3 : k = 3
  ·rw [if_pos e3] at h ⊢
   simp only [Bool.and_eq_true] at h
   obtain ⟨g1, g2, g3⟩ := listB_bounds h.2;have h0 : 0 ≤ fnArity (fnOf s) := by omega
   have h1 := fnm_len h0;have h2 := fnArity_le (fnOf s)
   have h3 := sepL_le (sep := [44]) (c := 1) (10240016 * 2 ^ d - 16) (by simp) (l.map showM) (fun y hy => by
    obtain ⟨z, hz, rfl⟩ := List.mem_map.1 hy;have := showM_le d z (g3 z hz)
    omega)
   rw [List.length_map] at h3;have h4 : l.length * (10240016 * 2 ^ d - 16 + 1) ≤ 2 * (10240016 * 2 ^ d - 16 + 1) := Nat.mul_le_mul_right _ (by omega);simp only [List.length_append, List.length_cons, List.length_nil]
   omega
  rw [if_neg e3] at h ⊢
  by_cases e4 : k = 4
  ·rw [if_pos e4] at h ⊢
   simp only [Bool.and_eq_true] at h
   obtain ⟨g1, g2, g3⟩ := listB_bounds h.2.2
   have h1 : s.data.toList.length ≤ 1 := by
    rcases opB_text h.1 with e | e | e <;> rw [e] <;> simp
   have h3 := sepL_le (sep := s.data.toList) (c := 1) (10240016 * 2 ^ d - 16) h1 (l.map showM) (fun y hy => by
    obtain ⟨z, hz, rfl⟩ := List.mem_map.1 hy;have := showM_le d z (g3 z hz)
    omega)
   rw [List.length_map] at h3;have h4 : l.length * (10240016 * 2 ^ d - 16 + 1) ≤ 2 * (10240016 * 2 ^ d - 16 + 1) := Nat.mul_le_mul_right _ (by omega);simp only [List.length_append, List.length_cons, List.length_nil]
   omega
  ·rw [if_neg e4] at h; cases h
theorem showM_le8 {x : Tm} (h : rightM 8 x = true) : (showM x).length ≤ 2621444080 := by
 have := showM_le 8 x h;omega
theorem showTs_le {l : List Tm} (h : ∀ x ∈ l, rightM 8 x = true) : ∀ y ∈ l.map showM, y.length ≤ 2621444080 := fun y hy => by
 obtain ⟨z, hz, rfl⟩ := List.mem_map.1 hy;exact showM_le8 (h z hz)
theorem showAtom_le {s : ByteArray} {l : List (List UInt8)} {b : Nat} (hs : s.size ≤ 16) (hl : l.length ≤ 8) (h : ∀ y ∈ l, y.length ≤ b) : (showAtom s l).length ≤ 8 * (b + 1) + 19 := by
 have h1 := sepL_le (sep := [44]) (c := 1) b (by simp) l h;have h2 : l.length * (b + 1) ≤ 8 * (b + 1) := Nat.mul_le_mul_right _ hl;simp only [showAtom, List.length_append, List.length_cons, List.length_nil, data_length]
 omega
theorem showLi_le {x : Li} (h : liB x = true) : (showLi x).length ≤ 21000000000 := by
 rw [liB] at h;rw [showLi]
 by_cases e1 : x.kind = 1
 ·rw [if_pos e1] at h ⊢
  rw [atomB] at h;simp only [Bool.and_eq_true] at h
  obtain ⟨g1, g2, g3⟩ := listB_bounds h.2.1;have := showAtom_le (relB_le h.1) (by rw [List.length_map]; omega) (showTs_le g3);omega
 rw [if_neg e1] at h ⊢
 by_cases e2 : x.kind = 2
 ·rw [if_pos e2] at h ⊢
  rw [atomB] at h;simp only [Bool.and_eq_true] at h
  obtain ⟨g1, g2, g3⟩ := listB_bounds h.2.1;have := showAtom_le (relB_le h.1) (by rw [List.length_map]; omega) (showTs_le g3);simp only [List.length_cons]
  omega
 rw [if_neg e2] at h ⊢
 by_cases e3 : x.kind = 3
 ·rw [if_pos e3] at h ⊢
  simp only [Bool.and_eq_true] at h
  obtain ⟨g1, g2, g3⟩ := listB_bounds h.2
  have hs : (32 :: (x.name.data.toList ++ [32])).length ≤ 4 := by
   rcases cmpB_text h.1 with e | e | e | e | e | e <;> rw [e] <;> simp
  have h1 := sepL_le 2621444080 hs _ (showTs_le g3);rw [List.length_map] at h1;have h2 : x.args.length * (2621444080 + 4) ≤ 2 * (2621444080 + 4) := Nat.mul_le_mul_right _ (by omega);omega
 rw [if_neg e3] at h ⊢
 by_cases e4 : x.kind = 4
 ·rw [if_pos e4] at h ⊢
  simp only [Bool.and_eq_true] at h
  obtain ⟨g1, g2, g3⟩ := listB_bounds h.2;obtain ⟨t, ht⟩ : ∃ t, x.args = [t] := List.length_eq_one_iff.1 (by omega);have h1 := varB_le h.1;have h2 := showM_le8 (g3 t (by rw [ht]; simp));rw [ht];simp only [List.map_cons, List.head?_cons, Option.getD_some, List.length_append, List.length_cons, data_length]
  omega
 ·rw [if_neg e4]; simp
theorem aggAt_size {x : Ru} (h : aggB x = true) (i : Nat) (t : List UInt8) : (aggAt x i t).length ≤ t.length + 7 := by
 unfold aggAt
 split
 ·omega
 ·rename_i hn
  rw [aggB, if_neg (fun e => hn (.inl e))] at h;simp only [Bool.and_eq_true] at h
  have : x.agg.data.toList.length ≤ 5 := by rcases aggName_text h.1 with e | e | e <;> rw [e] <;> simp
  simp only [List.length_append, List.length_cons, List.length_nil]
  omega
theorem showRu_le {x : Ru} (h : ruB x = true) : (showRu x).length ≤ 190000000000 := by
 rw [ruB, atomB] at h;simp only [Bool.and_eq_true] at h
 obtain ⟨h0, ⟨h1, h2, -⟩, h3, h4⟩ := h;obtain ⟨g1, g2, g3⟩ := listB_bounds h2;obtain ⟨g4, g5, g6⟩ := listB_bounds h4
 have a1 := showAtom_le (b := 2621444087) (relB_le h1) (l := (x.args.map showM).mapIdx fun i t => aggAt x i t) (by rw [List.length_mapIdx, List.length_map]; omega) (fun y hy => by
  obtain ⟨i, hi, rfl⟩ := List.mem_mapIdx.1 hy;have := aggAt_size h3 i (x.args.map showM)[i];have := showTs_le g3 _ (List.getElem_mem hi)
  omega)
 have a2 := sepL_le (sep := [44, 32]) (c := 2) 21000000000 (by simp) (x.body.map showLi) (fun y hy => by
  obtain ⟨z, hz, rfl⟩ := List.mem_map.1 hy
  exact showLi_le (g6 z hz))
 rw [List.length_map] at a2;have a3 : x.body.length * (21000000000 + 2) ≤ 8 * (21000000000 + 2) := Nat.mul_le_mul_right _ (by omega);have a4 := relB_le h0;simp only [showRu, showHead, List.length_append, List.length_cons, List.length_nil, data_length]
 omega
theorem showRu_fits {x : Ru} (h : ruB x = true) : (showRu x).length ≤ 140737488355328 := Nat.le_trans (showRu_le h) (by omega)
end Go.Proofs.YtcmlojigcgihbaaGreatDoor
