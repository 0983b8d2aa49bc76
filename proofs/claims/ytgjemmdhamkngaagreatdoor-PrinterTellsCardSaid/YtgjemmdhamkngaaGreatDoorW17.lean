/-
  How long the texts of right terms, literals, rules, facts and programs may be.
-/
import Derived.Test.YtgjemmdhamkngaaGreatDoorW10
import Derived.Test.YtgjemmdhamkngaaGreatDoorW16
import Derived.Test.YtgjemmdhamkngaaGreatDoorW02
import Derived.Test.YtgjemmdhamkngaaGreatDoorW06
import Derived.Test.YtgjemmdhamkngaaGreatDoorW01
import Derived.WalkSpells
import Derived.WalkLawsBesides
namespace Go.Proofs.YtgjemmdhamkngaaGreatDoor
open Go.RowKit

theorem fnm_text {s : ByteArray} {k : Nat} (hk : k < 9) (h : fnOf s = k) : s.data.toList = fname k := by
  rw [← Lib.toList_data]
  unfold fnOf at h
  split at h
  · subst h; rename_i e; simpa [fname] using e
  split at h
  · subst h; rename_i e; simpa [fname] using e
  split at h
  · subst h; rename_i e; simpa [fname] using e
  split at h
  · subst h; rename_i e; simpa [fname] using e
  split at h
  · subst h; rename_i e; simpa [fname] using e
  split at h
  · subst h; rename_i e; simpa [fname] using e
  split at h
  · subst h; rename_i e; simpa [fname] using e
  split at h
  · subst h; rename_i e; simpa [fname] using e
  split at h
  · subst h; rename_i e; simpa [fname] using e
  · omega
theorem fnm_of {s : ByteArray} (h : 0 ≤ fnArity (fnOf s)) : ∃ k, k < 9 ∧ fnOf s = k ∧ s.data.toList = fname k := by
  by_cases hk : fnOf s < 9
  · exact ⟨fnOf s, hk, rfl, fnm_text hk rfl⟩
  · have e : fnArity (fnOf s) = -1 := by
      match hf : fnOf s with
      | 0 | 1 | 2 | 3 | 4 | 5 | 6 | 7 | 8 => omega
      | n + 9 => rfl
    omega
theorem fname_len : ∀ k, k < 9 → (fname k).length ≤ 9 := by decide
theorem fnm_len {s : ByteArray} (h : 0 ≤ fnArity (fnOf s)) : s.data.toList.length ≤ 9 := by
  obtain ⟨k, hk, -, e⟩ := fnm_of h
  rw [e]; exact fname_len k hk
theorem fnArity_le (k : Nat) : fnArity k ≤ 2 := by rcases fnArity_range k with h | h | h <;> omega

theorem varB_le {s : ByteArray} (h : varB s = true) : s.size ≤ 16 := (of_decide_eq_true h).2.1
theorem relB_name {s : ByteArray} (h : relB s = true) : nameB s = true := by
  rw [relB, Bool.and_eq_true] at h; exact h.1
theorem relB_le {s : ByteArray} (h : relB s = true) : s.size ≤ 16 := (nameB_le (relB_name h)).2
theorem valB_right {x : V} (h : valB x = true) : rightV 4 x = true := by
  rw [valB, Bool.and_eq_true] at h; exact h.1
theorem printB_le (x : V) : (printB x).length ≤ 10240000 := by
  unfold printB
  split
  · rename_i h; have := (prV_le 4 x h).1; omega
  · simp
theorem one_of {s : ByteArray} {c : UInt8} (h : (s.toList == [c]) = true) : s.data.toList = [c] := by
  rw [Lib.toList_data] at h; exact eq_of_beq h
theorem opB_text {s : ByteArray} (h : opB s = true) : s.data.toList = [43] ∨ s.data.toList = [45] ∨ s.data.toList = [42] := by
  rw [opB, Lib.toList_data] at h
  simp only [Bool.or_eq_true, beq_iff_eq] at h
  exact h
theorem cmpB_text {s : ByteArray} (h : cmpB s = true) : s.data.toList = [61, 61] ∨ s.data.toList = [33, 61] ∨ s.data.toList = [60] ∨ s.data.toList = [60, 61] ∨ s.data.toList = [62] ∨ s.data.toList = [62, 61] := by
  rw [cmpB, Lib.toList_data] at h
  simp only [Bool.or_eq_true, beq_iff_eq] at h
  exact h
theorem aggName_text {s : ByteArray} (h : aggNameB s = true) : s.data.toList = [109, 105, 110] ∨ s.data.toList = [109, 97, 120] ∨ s.data.toList = [99, 111, 117, 110, 116] := by
  rw [aggNameB, Lib.toList_data] at h
  simp only [Bool.or_eq_true, beq_iff_eq] at h
  exact h

theorem sepL_le {sep : List UInt8} {c : Nat} (b : Nat) (hs : sep.length ≤ c) : ∀ (l : List (List UInt8)), (∀ x ∈ l, x.length ≤ b) → (sepL sep l).length ≤ l.length * (b + c)
  | [], _ => by simp [sepL]
  | x :: l, h => by
    have key : ∀ m : List (List UInt8), (∀ x ∈ m, x.length ≤ b) → ((m.map fun y => sep ++ y).flatten).length ≤ m.length * (b + c) := by
      intro m
      induction m with
      | nil => intro _; simp
      | cons y m ih =>
        intro hm
        have h1 := ih fun z hz => hm z (by simp [hz])
        have h2 := hm y (by simp)
        simp only [List.map_cons, List.flatten_cons, List.length_append, List.length_cons]
        rw [Nat.succ_mul]; omega
    have h1 := key l fun z hz => h z (by simp [hz])
    have h2 := h x (by simp)
    simp only [sepL, List.length_append, List.length_cons]
    rw [Nat.succ_mul]; omega

theorem showM_le : ∀ (d : Nat) (x : Tm), rightM d x = true → (showM x).length + 16 ≤ 10240016 * 2 ^ d
  | 0, x, h => by rw [rightM_zero] at h; cases h
  | d + 1, .mk k s x l, h => by
    have hp : 1 ≤ 2 ^ d := Nat.one_le_pow _ _ (by omega)
    have hp2 : 2 ^ (d + 1) = 2 * 2 ^ d := by rw [Nat.pow_succ]; omega
    rw [rightM_succ] at h
    rw [showM_mk]
    by_cases e1 : k = 1
    · rw [if_pos e1] at h ⊢
      simp only [Bool.and_eq_true] at h
      have := varB_le h.1
      rw [data_length]; omega
    rw [if_neg e1] at h ⊢
    by_cases e2 : k = 2
    · rw [if_pos e2] at h ⊢
      have := printB_le x
      omega
    rw [if_neg e2] at h ⊢
    by_cases e3 : k = 3
    · rw [if_pos e3] at h ⊢
      simp only [Bool.and_eq_true] at h
      obtain ⟨g1, g2, g3⟩ := listB_bounds h.2
      have h0 : 0 ≤ fnArity (fnOf s) := by omega
      have h1 := fnm_len h0
      have h2 := fnArity_le (fnOf s)
      have h3 := sepL_le (sep := [44]) (c := 1) (10240016 * 2 ^ d - 16) (by simp) (l.map showM) (fun y hy => by
        obtain ⟨z, hz, rfl⟩ := List.mem_map.1 hy
        have := showM_le d z (g3 z hz)
        omega)
      rw [List.length_map] at h3
      have h4 : l.length * (10240016 * 2 ^ d - 16 + 1) ≤ 2 * (10240016 * 2 ^ d - 16 + 1) := Nat.mul_le_mul_right _ (by omega)
      simp only [List.length_append, List.length_cons, List.length_nil]
      omega
    rw [if_neg e3] at h ⊢
    by_cases e4 : k = 4
    · rw [if_pos e4] at h ⊢
      simp only [Bool.and_eq_true] at h
      obtain ⟨g1, g2, g3⟩ := listB_bounds h.2.2
      have h1 : s.data.toList.length ≤ 1 := by
        rcases opB_text h.1 with e | e | e <;> rw [e] <;> simp
      have h3 := sepL_le (sep := s.data.toList) (c := 1) (10240016 * 2 ^ d - 16) h1 (l.map showM) (fun y hy => by
        obtain ⟨z, hz, rfl⟩ := List.mem_map.1 hy
        have := showM_le d z (g3 z hz)
        omega)
      rw [List.length_map] at h3
      have h4 : l.length * (10240016 * 2 ^ d - 16 + 1) ≤ 2 * (10240016 * 2 ^ d - 16 + 1) := Nat.mul_le_mul_right _ (by omega)
      simp only [List.length_append, List.length_cons, List.length_nil]
      omega
    · rw [if_neg e4] at h; cases h
theorem showM_le8 {x : Tm} (h : rightM 8 x = true) : (showM x).length ≤ 2621444080 := by
  have := showM_le 8 x h
  omega
theorem showTs_le {l : List Tm} (h : ∀ x ∈ l, rightM 8 x = true) : ∀ y ∈ l.map showM, y.length ≤ 2621444080 := fun y hy => by
  obtain ⟨z, hz, rfl⟩ := List.mem_map.1 hy
  exact showM_le8 (h z hz)
theorem showAtom_le {s : ByteArray} {l : List (List UInt8)} {b : Nat} (hs : s.size ≤ 16) (hl : l.length ≤ 8) (h : ∀ y ∈ l, y.length ≤ b) : (showAtom s l).length ≤ 8 * (b + 1) + 19 := by
  have h1 := sepL_le (sep := [44]) (c := 1) b (by simp) l h
  have h2 : l.length * (b + 1) ≤ 8 * (b + 1) := Nat.mul_le_mul_right _ hl
  simp only [showAtom, List.length_append, List.length_cons, List.length_nil, data_length]
  omega
theorem showLi_le {x : Li} (h : liB x = true) : (showLi x).length ≤ 21000000000 := by
  rw [liB] at h
  rw [showLi]
  by_cases e1 : x.kind = 1
  · rw [if_pos e1] at h ⊢
    rw [atomB] at h
    simp only [Bool.and_eq_true] at h
    obtain ⟨g1, g2, g3⟩ := listB_bounds h.2.1
    have := showAtom_le (relB_le h.1) (by rw [List.length_map]; omega) (showTs_le g3)
    omega
  rw [if_neg e1] at h ⊢
  by_cases e2 : x.kind = 2
  · rw [if_pos e2] at h ⊢
    rw [atomB] at h
    simp only [Bool.and_eq_true] at h
    obtain ⟨g1, g2, g3⟩ := listB_bounds h.2.1
    have := showAtom_le (relB_le h.1) (by rw [List.length_map]; omega) (showTs_le g3)
    simp only [List.length_cons]
    omega
  rw [if_neg e2] at h ⊢
  by_cases e3 : x.kind = 3
  · rw [if_pos e3] at h ⊢
    simp only [Bool.and_eq_true] at h
    obtain ⟨g1, g2, g3⟩ := listB_bounds h.2
    have hs : (32 :: (x.name.data.toList ++ [32])).length ≤ 4 := by
      rcases cmpB_text h.1 with e | e | e | e | e | e <;> rw [e] <;> simp
    have h1 := sepL_le 2621444080 hs _ (showTs_le g3)
    rw [List.length_map] at h1
    have h2 : x.args.length * (2621444080 + 4) ≤ 2 * (2621444080 + 4) := Nat.mul_le_mul_right _ (by omega)
    omega
  rw [if_neg e3] at h ⊢
  by_cases e4 : x.kind = 4
  · rw [if_pos e4] at h ⊢
    simp only [Bool.and_eq_true] at h
    obtain ⟨g1, g2, g3⟩ := listB_bounds h.2
    obtain ⟨t, ht⟩ : ∃ t, x.args = [t] := List.length_eq_one_iff.1 (by omega)
    have h1 := varB_le h.1
    have h2 := showM_le8 (g3 t (by rw [ht]; simp))
    rw [ht]
    simp only [List.map_cons, List.head?_cons, Option.getD_some, List.length_append, List.length_cons, data_length]
    omega
  · rw [if_neg e4]; simp
theorem aggAt_size {x : Ru} (h : aggB x = true) (i : Nat) (t : List UInt8) : (aggAt x i t).length ≤ t.length + 7 := by
  unfold aggAt
  split
  · omega
  · rename_i hn
    rw [aggB, if_neg (fun e => hn (.inl e))] at h
    simp only [Bool.and_eq_true] at h
    have : x.agg.data.toList.length ≤ 5 := by rcases aggName_text h.1 with e | e | e <;> rw [e] <;> simp
    simp only [List.length_append, List.length_cons, List.length_nil]
    omega
theorem showRu_le {x : Ru} (h : ruB x = true) : (showRu x).length ≤ 190000000000 := by
  rw [ruB, atomB] at h
  simp only [Bool.and_eq_true] at h
  obtain ⟨h0, ⟨h1, h2, -⟩, h3, h4⟩ := h
  obtain ⟨g1, g2, g3⟩ := listB_bounds h2
  obtain ⟨g4, g5, g6⟩ := listB_bounds h4
  have a1 := showAtom_le (b := 2621444087) (relB_le h1) (l := (x.args.map showM).mapIdx fun i t => aggAt x i t) (by rw [List.length_mapIdx, List.length_map]; omega) (fun y hy => by
    obtain ⟨i, hi, rfl⟩ := List.mem_mapIdx.1 hy
    have := aggAt_size h3 i (x.args.map showM)[i]
    have := showTs_le g3 _ (List.getElem_mem hi)
    omega)
  have a2 := sepL_le (sep := [44, 32]) (c := 2) 21000000000 (by simp) (x.body.map showLi) (fun y hy => by
    obtain ⟨z, hz, rfl⟩ := List.mem_map.1 hy
    exact showLi_le (g6 z hz))
  rw [List.length_map] at a2
  have a3 : x.body.length * (21000000000 + 2) ≤ 8 * (21000000000 + 2) := Nat.mul_le_mul_right _ (by omega)
  have a4 := relB_le h0
  simp only [showRu, showHead, List.length_append, List.length_cons, List.length_nil, data_length]
  omega
theorem showFa_le {x : Fa} (h : faB x = true) : (showFa x).length ≤ 90000000 := by
  rw [faB] at h
  simp only [Bool.and_eq_true] at h
  obtain ⟨g1, g2, -⟩ := listB_bounds h.2.1
  have a1 := showAtom_le (b := 10240000) (relB_le h.1) (l := x.args.map printB) (by rw [List.length_map]; omega) (fun y hy => by
    obtain ⟨z, _, rfl⟩ := List.mem_map.1 hy
    exact printB_le z)
  simp only [showFa, List.length_append, List.length_cons, List.length_nil]
  omega
theorem showDe_le {x : De} (h : deB x = true) : (showDe x).length ≤ 60 := by
  rw [deB] at h
  simp only [Bool.and_eq_true, decide_eq_true_eq] at h
  have h1 := relB_le h.1
  have h2 := itoa_le x.arity (by omega)
  simp only [showDe, List.length_append, List.length_cons, List.length_nil, data_length]
  omega
theorem linesOf_le (b : Nat) : ∀ (l : List (List UInt8)), (∀ y ∈ l, y.length ≤ b) → (linesOf l).length ≤ l.length * (b + 1)
  | [], _ => by simp [linesOf]
  | y :: l, h => by
    have h1 := linesOf_le b l fun z hz => h z (by simp [hz])
    have h2 := h y (by simp)
    simp only [linesOf] at h1
    simp only [linesOf, List.map_cons, List.flatten_cons, List.length_append, List.length_cons, List.length_nil]
    rw [Nat.succ_mul]; omega
theorem showPr_le {x : Pr} (h : prB x = true) : (showPr x).length ≤ 13000000000000 := by
  rw [prB] at h
  simp only [Bool.and_eq_true] at h
  obtain ⟨-, g1, g2⟩ := listB_bounds h.1
  obtain ⟨-, g3, g4⟩ := listB_bounds h.2.1
  obtain ⟨-, g5, g6⟩ := listB_bounds h.2.2
  have a1 := linesOf_le 60 (x.decls.map showDe) fun y hy => by
    obtain ⟨z, hz, rfl⟩ := List.mem_map.1 hy
    exact showDe_le (g2 z hz)
  have a2 := linesOf_le 90000000 (x.facts.map showFa) fun y hy => by
    obtain ⟨z, hz, rfl⟩ := List.mem_map.1 hy
    exact showFa_le (g4 z hz)
  have a3 := linesOf_le 190000000000 (x.rules.map showRu) fun y hy => by
    obtain ⟨z, hz, rfl⟩ := List.mem_map.1 hy
    exact showRu_le (g6 z hz)
  rw [List.length_map] at a1 a2 a3
  have b1 : x.decls.length * (60 + 1) ≤ 64 * (60 + 1) := Nat.mul_le_mul_right _ (by omega)
  have b2 : x.facts.length * (90000000 + 1) ≤ 64 * (90000000 + 1) := Nat.mul_le_mul_right _ (by omega)
  have b3 : x.rules.length * (190000000000 + 1) ≤ 64 * (190000000000 + 1) := Nat.mul_le_mul_right _ (by omega)
  simp only [showPr, List.length_append]
  omega
/-- Each text is short enough to be held. -/
theorem showM_fits {x : Tm} (h : rightM 8 x = true) : (showM x).length ≤ 140737488355328 := Nat.le_trans (showM_le8 h) (by omega)
theorem showLi_fits {x : Li} (h : liB x = true) : (showLi x).length ≤ 140737488355328 := Nat.le_trans (showLi_le h) (by omega)
theorem showRu_fits {x : Ru} (h : ruB x = true) : (showRu x).length ≤ 140737488355328 := Nat.le_trans (showRu_le h) (by omega)
theorem showFa_fits {x : Fa} (h : faB x = true) : (showFa x).length ≤ 140737488355328 := Nat.le_trans (showFa_le h) (by omega)
theorem showPr_fits {x : Pr} (h : prB x = true) : (showPr x).length ≤ 140737488355328 := Nat.le_trans (showPr_le h) (by omega)

end Go.Proofs.YtgjemmdhamkngaaGreatDoor

/-
  The document's own texts of layer 4: Rule.
-/
namespace Go.Proofs.YtgjemmdhamkngaaGreatDoor
open Go.RowKit

set_option maxRecDepth 100000 in
set_option maxHeartbeats 16000000 in
theorem refRuText_any (x : Ru) (S : Nat → Prop) (w : World) (c0 c1 c2 c3 c4 c5 : Value) (hS : ∀ k, S k → k < w.heap.size) (hx : RepRu S w x c0 c1 c2 c3 c4 c5) :
    Calls Tryz.prog 17 #[.agg #[c0, c1, c2, c3, c4, c5]] w fun e w' => e = .returned (.string ⟨(told (ruB x) (showRu x)).toArray⟩) ∧ Below w.heap.size w w' := by
  cases hb : ruB x with
  | true =>
    cases h0 : x.agg.toList.isEmpty with
    | true => exact refRuText_none x S w c0 c1 c2 c3 c4 c5 hS hx hb (showRu_fits hb) h0
    | false => exact refRuText_some x S w c0 c1 c2 c3 c4 c5 hS hx hb (showRu_fits hb) h0
  | false =>
    have HX := Lib.hid hx
    obtain ⟨fa, fc, ga, gc, rfl, rfl, rfl, rfl, rfl, rfl⟩ := hx.form
    clear hx
    have HB := Lib.hid hb
    clear hb
    go_enter Tryz.func17, Tryz.ntmps17
    go_wp2_with fail
    have x1 := boxRu_new w (.string x.label) (.string x.head) (.slice fa x.args.length fc) (.string x.agg) (.int .i64 x.at') (.slice ga x.body.length gc)
    have b1 := below_alloc w (.cells #[.string x.label, .string x.head, .slice fa x.args.length fc, .string x.agg, .int .i64 x.at', .slice ga x.body.length gc] 37)
    generalize w.alloc (.cells #[.string x.label, .string x.head, .slice fa x.args.length fc, .string x.agg, .int .i64 x.at', .slice ga x.body.length gc] 37) = w1 at *
    have X1 := Lib.hid x1; have B1 := Lib.hid b1
    clear x1 b1
    obtain ⟨p0, p1, p2, p3, p4, p5⟩ := X1.out.cells
    refine (refRule_any x S _ _ _ _ _ _ _ (fun k hk => Nat.lt_of_lt_of_le (hS k hk) B1.out.size) (RepRu.on (fun _ h => h) (fun k hk => B1.out.block k (hS k hk)) HX.out)).mono ?_
    rw [HB.out]
    rintro e w2 ⟨rfl, hb⟩
    have X2 := Lib.hid (X1.out.on hb)
    have B2 := Lib.hid (Below.step B1.out hb)
    clear hb
    clear p0 p1 p2 p3 p4 p5
    obtain ⟨p0, p1, p2, p3, p4, p5⟩ := X2.out.cells
    go_wp2_with fail
    go_ret
    exact ⟨rfl, B2.out⟩

end Go.Proofs.YtgjemmdhamkngaaGreatDoor

/-
  The document's own maker of numbers.
-/
namespace Go.Proofs.YtgjemmdhamkngaaGreatDoor
open Go.RowKit

theorem refNumber_any (n : Int) (w : World) : Calls Tryz.prog 41 #[.int .i64 n] w fun e w' => e = .returned (.agg #[.int .i64 1, .int .i64 n, .string ⟨#[]⟩, .slice none 0 0]) ∧ Below w.heap.size w w' := by
  go_enter Tryz.func41, Tryz.ntmps41
  go_wp2
  exact bodyPost_ret (v := .agg #[.int .i64 1, .int .i64 n, .string ⟨#[]⟩, .slice none 0 0]) (by simp [results, Tryz.results41, go_sem]) rfl ⟨rfl, (Below.refl _ _).alloc (Nat.le_refl _) _⟩

end Go.Proofs.YtgjemmdhamkngaaGreatDoor

/-
  The law's own 'Name': of a raw text, one that may be a name.
-/
namespace Go.Proofs.YtgjemmdhamkngaaGreatDoor
open Go.RowKit

/-- What a raw byte becomes. -/
def nameByte (c : UInt8) : UInt8 := if c.toNat % 37 < 26 then UInt8.ofNat (97 + c.toNat % 37) else if c.toNat % 37 < 36 then UInt8.ofNat (48 + c.toNat % 37 - 26) else 95
def rawName (s : ByteArray) : List UInt8 := 110 :: s.data.toList.take 15
def nameOf (s : ByteArray) : List UInt8 := 110 :: (s.data.toList.take 15).map nameByte
/-- Behind the rounds up to i. -/
def nameTo (s : ByteArray) (i : Nat) : List UInt8 := (nameOf s).take i ++ (rawName s).drop i
theorem rawName_length (s : ByteArray) : (rawName s).length = 1 + min s.size 15 := by simp [rawName]; omega
theorem nameOf_length (s : ByteArray) : (nameOf s).length = 1 + min s.size 15 := by simp [nameOf]; omega
theorem nameTo_length (s : ByteArray) (i : Nat) : (nameTo s i).length = 1 + min s.size 15 := by
  simp only [nameTo, List.length_append, List.length_take, List.length_drop, rawName_length, nameOf_length]; omega
theorem nameTo_one (s : ByteArray) : nameTo s 1 = rawName s := by simp [nameTo, nameOf, rawName]
theorem nameTo_end (s : ByteArray) : nameTo s (1 + min s.size 15) = nameOf s := by
  rw [nameTo, List.take_of_length_le (by rw [nameOf_length]; omega), List.drop_of_length_le (by rw [rawName_length]; omega), List.append_nil]
theorem nameTo_get (s : ByteArray) (i : Nat) (_h1 : 1 ≤ i) (h : i < (nameTo s i).length) (h' : i < (rawName s).length) : (nameTo s i)[i] = (rawName s)[i] := by
  have e : ((nameOf s).take i).length = i := by rw [List.length_take, nameOf_length]; rw [rawName_length] at h'; omega
  simp only [nameTo]
  rw [List.getElem_append_right (by omega)]
  simp [e]
theorem nameTo_succ (s : ByteArray) (i : Nat) (h1 : 1 ≤ i) (h' : i < (rawName s).length) : nameTo s (i + 1) = (nameTo s i).set i (nameByte (rawName s)[i]) := by
  have hn : i < (nameOf s).length := by rw [nameOf_length]; rw [rawName_length] at h'; exact h'
  have e : ((nameOf s).take i).length = i := by rw [List.length_take]; omega
  have hget : (nameOf s)[i] = nameByte (rawName s)[i] := by
    match i, h1 with
    | i + 1, _ => simp [nameOf, rawName]
  rw [nameTo, nameTo, List.set_append_right _ _ (by omega), e, Nat.sub_self, List.drop_eq_getElem_cons h', List.set_cons_zero, List.take_succ_eq_append_getElem hn, hget]
  simp

theorem nameByte_small (c : UInt8) (h : c.toNat % 37 < 26) : ((nameByte c).toNat : Int) = 97 + (c.toNat : Int) % 37 := by
  rw [nameByte, if_pos h, UInt8.toNat_ofNat', Nat.mod_eq_of_lt (by omega)]; omega
theorem nameByte_digit (c : UInt8) (h : ¬ c.toNat % 37 < 26) (h2 : c.toNat % 37 < 36) : ((nameByte c).toNat : Int) = 48 + (c.toNat : Int) % 37 - 26 := by
  rw [nameByte, if_neg h, if_pos h2, UInt8.toNat_ofNat', Nat.mod_eq_of_lt (by omega)]; omega
theorem nameByte_low (c : UInt8) (h : ¬ c.toNat % 37 < 26) (h2 : ¬ c.toNat % 37 < 36) : nameByte c = 95 := by rw [nameByte, if_neg h, if_neg h2]

set_option maxRecDepth 100000 in
set_option maxHeartbeats 2000000 in
theorem lawName_any (s : ByteArray) (w : World) (hs : s.size ≤ maxLen) :
    Calls Tryz.prog 99 #[.string s] w fun e w' => e = .returned (.string ⟨(nameOf s).toArray⟩) ∧ Below w.heap.size w w' := by
  unfold maxLen at hs
  have hconv := conv_to w
  go_enter Tryz.func99, Tryz.ntmps99
  go_wp2_with fail
  have hraw : (({ data := #[110] } : ByteArray) ++ s.extract 0 (min (s.size : Int) 15).toNat).data.toList = rawName s := by
    rw [rawName]
    have e : (min (s.size : Int) 15).toNat = min s.size 15 := by omega
    rw [e, ByteArray.data_append, ByteArray.data_extract]
    simp
    omega
  have hlen : 1 + min (min (s.size : Int) 15).toNat s.size = (rawName s).length := by rw [rawName_length]; omega
  have hby := bytes_new w (({ data := #[110] } : ByteArray) ++ s.extract 0 (min (s.size : Int) 15).toNat)
  have hbe := bytes_below w (({ data := #[110] } : ByteArray) ++ s.extract 0 (min (s.size : Int) 15).toNat)
  rw [hraw] at hby
  generalize Lib.bytesWorld w 5 (({ data := #[110] } : ByteArray) ++ s.extract 0 (min (s.size : Int) 15).toNat) = w1 at *
  generalize grownCap w (1 + min (min (s.size : Int) 15).toNat s.size) 0 5 = cap at *
  generalize 1 + min (min (s.size : Int) 15).toNat s.size = len at *
  have hl16 : len ≤ 16 := by rw [hlen, rawName_length]; omega
  have HLEN := Lib.hid hlen
  rw [← nameTo_one] at hby
  have hl1 : 1 ≤ len := by rw [hlen, rawName_length]; omega
  clear hlen hraw hconv
  go_loopw [4] (fun i wr => ∃ k : Nat, 1 ≤ k ∧ k ≤ len ∧ i = .int .i64 k ∧ BytesAt wr w.heap.size (nameTo s k) ∧ Below w.heap.size w wr) (fun i _ => len - (intOf i).toNat)
  case atStart => exact ⟨1, Nat.le_refl _, hl1, rfl, hby, hbe⟩
  case round =>
    obtain ⟨k, hk1, hk2, rfl, hb, hbel⟩ := hrel
    clear hby hbe
    by_cases hlt : k < len
    · have hkr : k < (rawName s).length := by rw [← HLEN.out]; exact hlt
      have hkn : k < (nameTo s k).length := by rw [nameTo_length, ← rawName_length]; exact hkr
      have hc := hb.cell k hkn
      have hf := hb.free k hkn
      rw [nameTo_get s k hk1 hkn hkr] at hc
      have HS := Lib.hid (nameTo_succ s k hk1 hkr)
      have HB := Lib.hid (hb.set k (nameByte (rawName s)[k])); clear hb
      generalize (rawName s)[k] = c at *
      have hc255 : (c.toNat : Int) ≤ 255 := by have := c.toNat_lt; omega
      have hbel' := fun v => hbel.setCell (p := ⟨w.heap.size, k, none⟩) (Nat.le_refl _) v
      have HBEL := Lib.hid hbel'; clear hbel'
      by_cases h1 : c.toNat % 37 < 26
      · have HN := Lib.hid (nameByte_small c h1)
        have t1 : (c.toNat : Int) % 37 < 26 := by omega
        go_wp2_with fail
        go_roundw
        case rel => exact ⟨k + 1, by omega, by omega, by go_num, by rw [HS.out]; have := HB.out; rw [HN.out] at this; exact this, HBEL.out _⟩
        case measure => simp [intOf]; omega
      · by_cases h2 : c.toNat % 37 < 36
        · have HN := Lib.hid (nameByte_digit c h1 h2)
          have t1 : ¬ (c.toNat : Int) % 37 < 26 := by omega
          have t2 : (c.toNat : Int) % 37 < 36 := by omega
          go_wp2_with fail
          go_roundw
          case rel => exact ⟨k + 1, by omega, by omega, by go_num, by rw [HS.out]; have := HB.out; rw [HN.out] at this; exact this, HBEL.out _⟩
          case measure => simp [intOf]; omega
        · have HN := Lib.hid (nameByte_low c h1 h2)
          have t1 : ¬ (c.toNat : Int) % 37 < 26 := by omega
          have t2 : ¬ (c.toNat : Int) % 37 < 36 := by omega
          go_wp2_with fail
          go_roundw
          case rel => exact ⟨k + 1, by omega, by omega, by go_num, by rw [HS.out]; have := HB.out; rw [HN.out] at this; rw [HN.out]; exact this, HBEL.out _⟩
          case measure => simp [intOf]; omega
    · have hke : k = len := by omega
      have hnb : BytesAt wr w.heap.size (nameOf s) := by rw [hke, HLEN.out, rawName_length, nameTo_end] at hb; exact hb
      have hback := conv_back wr w.heap.size cap (nameOf s) hnb
      have hnl : (nameOf s).length = len := by rw [HLEN.out, nameOf_length, rawName_length]
      rw [hnl] at hback
      clear hnl hb hnb hke
      go_wp2_with fail
      go_ret
      exact ⟨rfl, hbel⟩

end Go.Proofs.YtgjemmdhamkngaaGreatDoor

/-
  The law's own 'pick': which of n things a raw number speaks of.
-/
namespace Go.Proofs.YtgjemmdhamkngaaGreatDoor
open Go.RowKit

def pickZ (c n : Int) : Int := (if c < 0 then -(c + 1) else c) % n
theorem pickZ_bd (c n : Int) (h : 0 < n) : 0 ≤ pickZ c n ∧ pickZ c n < n := ⟨Int.emod_nonneg _ (by omega), Int.emod_lt_of_pos _ h⟩

theorem ret_int' {k : IntKind} {a b : Int} (h : a = b) : Ending.returned (.int k a) = .returned (.int k b) := by rw [h]

theorem pick_any (c n : Int) (w : World) (hc : I64 c) (hn : 1 ≤ n) (hn2 : n ≤ 9223372036854775807) :
    Calls Tryz.prog 119 #[.int .i64 c, .int .i64 n] w fun e w' => e = .returned (.int .i64 (pickZ c n)) ∧ w = w' := by
  obtain ⟨h1, h2⟩ := hc
  by_cases h : c < 0
  · have HF : Hid (pickZ c n = (-(c + 1)) % n) := by show _ = _; rw [pickZ, if_pos h]
    have h3 : 0 ≤ -(c + 1) := by omega
    have hne : (n == 0) = false := beq_eq_false_iff_ne.2 (by omega)
    go_enter Tryz.func119, Tryz.ntmps119
    go_wp2_with fail
    go_ret
    refine ⟨?_, rfl⟩
    rw [HF.out]
    refine ret_int' ?_
    rw [← Int.neg_tmod, Int.tmod_eq_emod_of_nonneg h3]
  · have HF : Hid (pickZ c n = c % n) := by show _ = _; rw [pickZ, if_neg h]
    have h3 : 0 ≤ c := by omega
    have hne : (n == 0) = false := beq_eq_false_iff_ne.2 (by omega)
    go_enter Tryz.func119, Tryz.ntmps119
    go_wp2_with fail
    go_ret
    refine ⟨?_, rfl⟩
    rw [HF.out]
    rfl

end Go.Proofs.YtgjemmdhamkngaaGreatDoor

/-
  The law's own 'fit' of numbers, texts and addresses: raw values made right.
-/
namespace Go.Proofs.YtgjemmdhamkngaaGreatDoor
open Go.RowKit

def fitByte (c : UInt8) : UInt8 := if 32 + c.toNat % 95 = 34 ∨ 32 + c.toNat % 95 = 92 then 32 else UInt8.ofNat (32 + c.toNat % 95)
def rawText (s : ByteArray) : List UInt8 := s.data.toList.take 32
def textOf (s : ByteArray) : List UInt8 := (rawText s).map fitByte
def textTo (s : ByteArray) (i : Nat) : List UInt8 := (textOf s).take i ++ (rawText s).drop i
theorem rawText_length (s : ByteArray) : (rawText s).length = min s.size 32 := by simp [rawText]; omega
theorem textOf_length (s : ByteArray) : (textOf s).length = min s.size 32 := by simp [textOf, rawText_length]
theorem textTo_length (s : ByteArray) (i : Nat) : (textTo s i).length = min s.size 32 := by
  simp only [textTo, List.length_append, List.length_take, List.length_drop, rawText_length, textOf_length]; omega
theorem textTo_zero (s : ByteArray) : textTo s 0 = rawText s := by simp [textTo]
theorem textTo_end (s : ByteArray) : textTo s (min s.size 32) = textOf s := by
  rw [textTo, List.take_of_length_le (by rw [textOf_length]; omega), List.drop_of_length_le (by rw [rawText_length]; omega), List.append_nil]
theorem textTo_get (s : ByteArray) (i : Nat) (h : i < (textTo s i).length) (h' : i < (rawText s).length) : (textTo s i)[i] = (rawText s)[i] := by
  have e : ((textOf s).take i).length = i := by rw [List.length_take, textOf_length]; rw [rawText_length] at h'; omega
  simp only [textTo]
  rw [List.getElem_append_right (by omega)]
  simp [e]
theorem textTo_succ (s : ByteArray) (i : Nat) (h' : i < (rawText s).length) : textTo s (i + 1) = (textTo s i).set i (fitByte (rawText s)[i]) := by
  have hn : i < (textOf s).length := by rw [textOf_length]; rw [rawText_length] at h'; exact h'
  have e : ((textOf s).take i).length = i := by rw [List.length_take]; omega
  have hget : (textOf s)[i] = fitByte (rawText s)[i] := by simp [textOf]
  rw [textTo, textTo, List.set_append_right _ _ (by omega), e, Nat.sub_self, List.drop_eq_getElem_cons h', List.set_cons_zero, List.take_succ_eq_append_getElem hn, hget]
  simp

theorem size_mk' (l : List UInt8) : (⟨l.toArray⟩ : ByteArray).size = l.length := by
  show l.toArray.size = _
  simp

/-- A value as 'fit' makes it, of what is no list. -/
def fitFlat (x : V) : V :=
  if pickZ x.kind 4 = 0 then .mk 1 (pickZ x.num 4294967295 - 2147483647) ⟨#[]⟩ []
  else if pickZ x.kind 4 = 1 then .mk 2 0 ⟨(textOf x.text).toArray⟩ []
  else .mk 3 0 ⟨(nameOf x.text).toArray⟩ []

/-- What 'fit' does: a new value. -/
def FitPost (y : V) (w : World) (e : Ending) (w' : World) : Prop :=
  ∃ c0 c1 c2 c3, e = .returned (.agg #[c0, c1, c2, c3]) ∧ RepG (fun b => w.heap.size ≤ b ∧ b < w'.heap.size) w' y c0 c1 c2 c3 ∧ Below w.heap.size w w'

theorem flat_rep (S : Nat → Prop) (w : World) (k n : Int) (s : ByteArray) (hk : I64 k) (hn : I64 n) (hs : s.size ≤ maxLen) : RepG S w (.mk k n s []) (.int .i64 k) (.int .i64 n) (.string s) (.slice none 0 0) :=
  repG_mk.2 ⟨rfl, rfl, rfl, hk, hn, hs, none, 0, 0, 0, rfl, Nat.le_refl _, by simp, fun h => by omega, fun h => by simp at h, fun i hi => by simp at hi⟩

set_option maxRecDepth 100000 in
set_option maxHeartbeats 2000000 in
theorem fit_num (x : V) (d : Int) (w : World) (fa : Option Addr) (len cap : Nat) (hk : I64 x.kind) (hn : I64 x.num) (h : pickZ x.kind 4 = 0) :
    Calls Tryz.prog 100 #[.agg #[.int .i64 x.kind, .int .i64 x.num, .string x.text, .slice fa len cap], .int .i64 d] w (FitPost (fitFlat x) w) := by
  have HE : Hid (fitFlat x = .mk 1 (pickZ x.num 4294967295 - 2147483647) ⟨#[]⟩ []) := by show _ = _; rw [fitFlat, if_pos h]
  obtain ⟨b1, b2⟩ := pickZ_bd x.num 4294967295 (by omega)
  have HP := Lib.hid h; clear h
  go_enter Tryz.func100, Tryz.ntmps100
  go_wp2_with fail
  refine (pick_any _ 4 _ hk (by omega) (by omega)).mono ?_
  rintro e w' ⟨rfl, rfl⟩
  rw [HP.out]
  go_wp2_with fail
  refine (pick_any _ 4294967295 _ hn (by omega) (by omega)).mono ?_
  rintro e w' ⟨rfl, rfl⟩
  generalize pickZ x.num 4294967295 = z at *
  go_wp2_with fail
  refine bodyPost_ret (v := .agg #[.int .i64 1, .int .i64 (z - 2147483647), .string ⟨#[]⟩, .slice none 0 0]) (by simp [results, Tryz.results100, go_sem]) rfl ?_
  rw [HE.out]
  exact ⟨_, _, _, _, rfl, flat_rep _ _ _ _ _ ⟨by omega, by omega⟩ ⟨by omega, by omega⟩ (by unfold maxLen; simp [ByteArray.size]), ((Below.refl _ w).alloc (Nat.le_refl _) _).alloc (by simp) _⟩

/-- The result's own cell, behind four stores. -/
theorem stored_below {w w1 : World} {k : Nat} (hk : w.heap.size ≤ k) (hb : Below w.heap.size w w1) (c0 c1 c2 c3 : Value) : Below w.heap.size w ((((w1.setCell ⟨k, 0, none⟩ c0).setCell ⟨k, 1, none⟩ c1).setCell ⟨k, 2, none⟩ c2).setCell ⟨k, 3, none⟩ c3) :=
  (((hb.setCell (p := ⟨k, 0, none⟩) hk _).setCell (p := ⟨k, 1, none⟩) hk _).setCell (p := ⟨k, 2, none⟩) hk _).setCell (p := ⟨k, 3, none⟩) hk _

set_option maxRecDepth 100000 in
set_option maxHeartbeats 2000000 in
theorem fit_addr (x : V) (d : Int) (w : World) (fa : Option Addr) (len cap : Nat) (hk : I64 x.kind) (hs : x.text.size ≤ maxLen) (h : pickZ x.kind 4 = 2) :
    Calls Tryz.prog 100 #[.agg #[.int .i64 x.kind, .int .i64 x.num, .string x.text, .slice fa len cap], .int .i64 d] w (FitPost (fitFlat x) w) := by
  have HE : Hid (fitFlat x = .mk 3 0 ⟨(nameOf x.text).toArray⟩ []) := by show _ = _; rw [fitFlat, if_neg (by omega), if_neg (by omega)]
  have HP := Lib.hid h; clear h
  go_enter Tryz.func100, Tryz.ntmps100
  go_wp2_with fail
  refine (pick_any _ 4 _ hk (by omega) (by omega)).mono ?_
  rintro e w' ⟨rfl, rfl⟩
  rw [HP.out]
  go_wp2_with fail
  have b1 := (Below.refl _ w).alloc (Nat.le_refl _) (.cells #[.int .i64 x.kind, .int .i64 x.num, .string x.text, .slice fa len cap] 44)
  have s1 := World.size_alloc w (.cells #[.int .i64 x.kind, .int .i64 x.num, .string x.text, .slice fa len cap] 44)
  generalize w.alloc (.cells #[.int .i64 x.kind, .int .i64 x.num, .string x.text, .slice fa len cap] 44) = w1 at *
  have y2 := boxed_new w1 (.int .i64 0) (.int .i64 0) (.string ⟨#[]⟩) (.slice none 0 0)
  have b2 := (Below.refl _ w1).alloc (Nat.le_refl _) (.cells #[.int .i64 0, .int .i64 0, .string ⟨#[]⟩, .slice none 0 0] 44)
  generalize w1.alloc (.cells #[.int .i64 0, .int .i64 0, .string ⟨#[]⟩, .slice none 0 0] 44) = w2 at *
  rw [s1] at y2
  have B2 := Below.step b1 b2
  clear b1 b2 s1
  refine (lawName_any _ _ hs).mono ?_
  rintro e w3 ⟨rfl, b3⟩
  have y3 := y2.on b3
  have B3 := Below.step B2 b3
  have hnl := nameOf_length x.text
  generalize hnm : (⟨(nameOf x.text).toArray⟩ : ByteArray) = nm at *
  have hnsz : nm.size ≤ 16 := by rw [← hnm, size_mk']; omega
  clear hnm hnl b3 y2 B2
  obtain ⟨p0, p1, p2, p3⟩ := y3.cells
  have z0 := frozen_of_row w3 _ 0 _ _ y3
  have z1 := frozen_of_row w3 _ 1 _ _ y3
  have z2 := frozen_of_row w3 _ 2 _ _ y3
  have z3 := frozen_of_row w3 _ 3 _ _ y3
  clear y3
  go_wp2_with fail
  refine bodyPost_ret (v := .agg #[.int .i64 3, .int .i64 0, .string nm, .slice none 0 0]) (by simp [results, Tryz.results100, go_sem, p0, p1, p2, p3]) rfl ?_
  rw [HE.out]
  exact ⟨_, _, _, _, rfl, flat_rep _ _ _ _ _ ⟨by omega, by omega⟩ ⟨by omega, by omega⟩ (by unfold maxLen; omega), stored_below (by omega) B3 _ _ _ _⟩

theorem fitByte_plain (c : UInt8) (h1 : 32 + c.toNat % 95 ≠ 34) (h2 : 32 + c.toNat % 95 ≠ 92) : ((fitByte c).toNat : Int) = 32 + (c.toNat : Int) % 95 := by
  rw [fitByte, if_neg (by omega), UInt8.toNat_ofNat', Nat.mod_eq_of_lt (by omega)]; omega
theorem fitByte_blank (c : UInt8) (h : 32 + c.toNat % 95 = 34 ∨ 32 + c.toNat % 95 = 92) : fitByte c = 32 := by rw [fitByte, if_pos h]

set_option maxRecDepth 100000 in
set_option maxHeartbeats 4000000 in
theorem fit_text (x : V) (d : Int) (w : World) (fa : Option Addr) (len cap : Nat) (hk : I64 x.kind) (hs : x.text.size ≤ maxLen) (h : pickZ x.kind 4 = 1) :
    Calls Tryz.prog 100 #[.agg #[.int .i64 x.kind, .int .i64 x.num, .string x.text, .slice fa len cap], .int .i64 d] w (FitPost (fitFlat x) w) := by
  have HE : Hid (fitFlat x = .mk 2 0 ⟨(textOf x.text).toArray⟩ []) := by show _ = _; rw [fitFlat, if_neg (by omega), if_pos h]
  have HP := Lib.hid h; clear h
  unfold maxLen at hs
  generalize x.text = s at *
  go_enter Tryz.func100, Tryz.ntmps100
  go_wp2_with fail
  refine (pick_any _ 4 _ hk (by omega) (by omega)).mono ?_
  rintro e w' ⟨rfl, rfl⟩
  rw [HP.out]
  have b1 := (Below.refl _ w).alloc (Nat.le_refl _) (.cells #[.int .i64 x.kind, .int .i64 x.num, .string s, .slice fa len cap] 44)
  have s1 := World.size_alloc w (.cells #[.int .i64 x.kind, .int .i64 x.num, .string s, .slice fa len cap] 44)
  have x1 := boxed_new w (.int .i64 x.kind) (.int .i64 x.num) (.string s) (.slice fa len cap)
  generalize w.alloc (.cells #[.int .i64 x.kind, .int .i64 x.num, .string s, .slice fa len cap] 44) = w1 at *
  have y2 := boxed_new w1 (.int .i64 0) (.int .i64 0) (.string ⟨#[]⟩) (.slice none 0 0)
  have b2 := (Below.refl _ w1).alloc (Nat.le_refl _) (.cells #[.int .i64 0, .int .i64 0, .string ⟨#[]⟩, .slice none 0 0] 44)
  generalize w1.alloc (.cells #[.int .i64 0, .int .i64 0, .string ⟨#[]⟩, .slice none 0 0] 44) = w2 at *
  rw [s1] at y2
  have x2 := x1.on b2
  have B2 := Below.step b1 b2
  have hs2 := b2.size
  clear b1 b2 x1
  obtain ⟨p0, p1, p2, p3⟩ := x2.cells
  have hconv := conv_to w2
  go_wp2_with fail
  have hraw : (s.extract 0 (min (s.size : Int) 32).toNat).data.toList = rawText s := by
    rw [rawText]
    have e : (min (s.size : Int) 32).toNat = min s.size 32 := by omega
    rw [e, ByteArray.data_extract]
    simp
    omega
  have hby := bytes_new w2 (s.extract 0 (min (s.size : Int) 32).toNat)
  have hbe := bytes_below w2 (s.extract 0 (min (s.size : Int) 32).toNat)
  rw [hraw] at hby
  have hlen : min (min (s.size : Int) 32).toNat s.size = (rawText s).length := by rw [rawText_length]; omega
  generalize Lib.bytesWorld w2 5 (s.extract 0 (min (s.size : Int) 32).toNat) = w3 at *
  generalize grownCap w2 (min (min (s.size : Int) 32).toNat s.size) 0 5 = cap2 at *
  generalize min (min (s.size : Int) 32).toNat s.size = tl at *
  have hl32 : tl ≤ 32 := by rw [hlen, rawText_length]; omega
  have HLEN := Lib.hid hlen
  rw [← textTo_zero] at hby
  have HY2 := Lib.hid y2
  have hy2sz := y2.lt
  clear hlen hraw hconv p0 p1 p2 p3 x2 y2
  have hgs := hbe.size
  have hg3 := hby.lt
  go_loopw [7] (fun i wr => ∃ k : Nat, k ≤ tl ∧ i = .int .i64 k ∧ BytesAt wr w2.heap.size (textTo s k) ∧ Below w2.heap.size w2 wr) (fun i _ => tl - (intOf i).toNat)
  case atStart => exact ⟨0, Nat.zero_le _, rfl, hby, hbe⟩
  case round =>
    obtain ⟨k, hk2, rfl, hb, hbel⟩ := hrel
    clear hby hbe
    by_cases hlt : k < tl
    · have hkr : k < (rawText s).length := by rw [← HLEN.out]; exact hlt
      have hkn : k < (textTo s k).length := by rw [textTo_length, ← rawText_length]; exact hkr
      have hc := hb.cell k hkn
      have hf := hb.free k hkn
      rw [textTo_get s k hkn hkr] at hc
      have HS := Lib.hid (textTo_succ s k hkr)
      have HB := Lib.hid hb; clear hb
      generalize (rawText s)[k] = c at *
      have hc255 : (c.toNat : Int) ≤ 255 := by have := c.toNat_lt; omega
      have HBEL := Lib.hid hbel
      by_cases h34 : 32 + c.toNat % 95 = 34
      · have HN := Lib.hid (fitByte_blank c (Or.inl h34))
        have t1 : (32 + (c.toNat : Int) % 95 == 34) = true := beq_iff_eq.2 (by omega)
        have HB2 : Hid (BytesAt ((wr.setCell ⟨w2.heap.size, k, none⟩ (.int .u8 (32 + (c.toNat : Int) % 95))).setCell ⟨w2.heap.size, k, none⟩ (.int .u8 32)) w2.heap.size (textTo s (k + 1))) := by
          have e1 : (32 + (c.toNat : Int) % 95) = ((UInt8.ofNat (32 + c.toNat % 95)).toNat : Int) := by rw [UInt8.toNat_ofNat', Nat.mod_eq_of_lt (by omega)]; omega
          show BytesAt _ _ _
          rw [e1, HS.out, HN.out]
          have := (HB.out.set k (UInt8.ofNat (32 + c.toNat % 95))).set k 32
          rw [List.set_set] at this
          exact this
        clear h34
        go_wp2_with fail
        go_roundw
        case rel => exact ⟨k + 1, by omega, by go_num, HB2.out, (HBEL.out.setCell (p := ⟨w2.heap.size, k, none⟩) (Nat.le_refl _) _).setCell (p := ⟨w2.heap.size, k, none⟩) (Nat.le_refl _) _⟩
        case measure => simp [intOf]; omega
      by_cases h92 : 32 + c.toNat % 95 = 92
      · have HN := Lib.hid (fitByte_blank c (Or.inr h92))
        have t1 : (32 + (c.toNat : Int) % 95 == 34) = false := beq_eq_false_iff_ne.2 (by omega)
        have t2 : (32 + (c.toNat : Int) % 95 == 92) = true := beq_iff_eq.2 (by omega)
        have HB2 : Hid (BytesAt ((wr.setCell ⟨w2.heap.size, k, none⟩ (.int .u8 (32 + (c.toNat : Int) % 95))).setCell ⟨w2.heap.size, k, none⟩ (.int .u8 32)) w2.heap.size (textTo s (k + 1))) := by
          have e1 : (32 + (c.toNat : Int) % 95) = ((UInt8.ofNat (32 + c.toNat % 95)).toNat : Int) := by rw [UInt8.toNat_ofNat', Nat.mod_eq_of_lt (by omega)]; omega
          show BytesAt _ _ _
          rw [e1, HS.out, HN.out]
          have := (HB.out.set k (UInt8.ofNat (32 + c.toNat % 95))).set k 32
          rw [List.set_set] at this
          exact this
        clear h34 h92
        go_wp2_with fail
        go_roundw
        case rel => exact ⟨k + 1, by omega, by go_num, HB2.out, (HBEL.out.setCell (p := ⟨w2.heap.size, k, none⟩) (Nat.le_refl _) _).setCell (p := ⟨w2.heap.size, k, none⟩) (Nat.le_refl _) _⟩
        case measure => simp [intOf]; omega
      · have t1 : (32 + (c.toNat : Int) % 95 == 34) = false := beq_eq_false_iff_ne.2 (by omega)
        have t2 : (32 + (c.toNat : Int) % 95 == 92) = false := beq_eq_false_iff_ne.2 (by omega)
        have HB2 : Hid (BytesAt (wr.setCell ⟨w2.heap.size, k, none⟩ (.int .u8 (32 + (c.toNat : Int) % 95))) w2.heap.size (textTo s (k + 1))) := by
          show BytesAt _ _ _
          rw [HS.out, ← fitByte_plain c h34 h92]
          exact HB.out.set k (fitByte c)
        clear h34 h92
        go_wp2_with fail
        go_roundw
        case rel => exact ⟨k + 1, by omega, by go_num, HB2.out, HBEL.out.setCell (p := ⟨w2.heap.size, k, none⟩) (Nat.le_refl _) _⟩
        case measure => simp [intOf]; omega
    · have hke : k = tl := by omega
      have hnb : BytesAt wr w2.heap.size (textOf s) := by rw [hke, HLEN.out, rawText_length, textTo_end] at hb; exact hb
      have hback := conv_back wr w2.heap.size cap2 (textOf s) hnb
      have hnl : (textOf s).length = tl := by rw [HLEN.out, textOf_length, rawText_length]
      rw [hnl] at hback
      have yr := HY2.out.on hbel
      have HB := Lib.hid (stored_below (k := w.heap.size + 1) (by omega) (B2.trans (hbel.mono B2.size)) (.int .i64 2) (.int .i64 0) (.string ⟨(textOf s).toArray⟩) (.slice none 0 0))
      have hsz : (⟨(textOf s).toArray⟩ : ByteArray).size ≤ 32 := by rw [size_mk', textOf_length]; omega
      generalize (⟨(textOf s).toArray⟩ : ByteArray) = nm at *
      clear hnl hb hnb hbel HY2 B2
      obtain ⟨p0, p1, p2, p3⟩ := yr.cells
      have z0 := frozen_of_row wr _ 0 _ _ yr
      have z1 := frozen_of_row wr _ 1 _ _ yr
      have z2 := frozen_of_row wr _ 2 _ _ yr
      have z3 := frozen_of_row wr _ 3 _ _ yr
      clear yr
      go_wp2_with fail
      refine bodyPost_ret (v := .agg #[.int .i64 2, .int .i64 0, .string nm, .slice none 0 0]) (by simp [results, Tryz.results100, go_sem, p0, p1, p2, p3]) rfl ?_
      rw [HE.out]
      exact ⟨_, _, _, _, rfl, flat_rep _ _ _ _ _ ⟨by omega, by omega⟩ ⟨by omega, by omega⟩ (by unfold maxLen; omega), HB.out⟩

end Go.Proofs.YtgjemmdhamkngaaGreatDoor
