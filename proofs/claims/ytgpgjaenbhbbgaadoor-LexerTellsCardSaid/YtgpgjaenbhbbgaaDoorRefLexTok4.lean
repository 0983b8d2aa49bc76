/-
  The document's own token: signs, and all of it as a contract.
-/
import Derived.Test.YtgpgjaenbhbbgaaDoorRefLexTok3
import Derived.BigQuiet
namespace Go.Proofs.YtgpgjaenbhbbgaaDoor
open Go.RowKit

/-- A row of strings in block b that holds the signs. -/
def SignsAt (w : World) (b : Nat) : Prop := ∀ k x, signsL[k]? = some x → w.cell? ⟨b, k, none⟩ = some (.string ⟨x.toArray⟩)
theorem SignsAt.on {w w' : World} {b : Nat} (h : SignsAt w b) (hb : Below w.heap.size w w') (hl : b < w.heap.size) : SignsAt w' b := fun k x hx => (hb.cell (p := ⟨b, k, none⟩) hl).trans (h k x hx)
theorem signs_new (w : World) (t : TypeId) : SignsAt (w.alloc (.cells signCells t)) w.heap.size := by
  intro k x hx
  refine cell_of_block' (alloc_new' w _) _ ?_
  have hk : k < 19 := (List.getElem?_eq_some_iff.1 hx).1
  match k, hk, hx with
  | 0, _, hx => cases hx; rfl
  | 1, _, hx => cases hx; rfl
  | 2, _, hx => cases hx; rfl
  | 3, _, hx => cases hx; rfl
  | 4, _, hx => cases hx; rfl
  | 5, _, hx => cases hx; rfl
  | 6, _, hx => cases hx; rfl
  | 7, _, hx => cases hx; rfl
  | 8, _, hx => cases hx; rfl
  | 9, _, hx => cases hx; rfl
  | 10, _, hx => cases hx; rfl
  | 11, _, hx => cases hx; rfl
  | 12, _, hx => cases hx; rfl
  | 13, _, hx => cases hx; rfl
  | 14, _, hx => cases hx; rfl
  | 15, _, hx => cases hx; rfl
  | 16, _, hx => cases hx; rfl
  | 17, _, hx => cases hx; rfl
  | 18, _, hx => cases hx; rfl
def SignsPost (w : World) (e : Ending) (w' : World) : Prop := e = .returned (.slice (some ⟨w.heap.size, 0, none⟩) 19 19) ∧ SignsAt w' w.heap.size ∧ w.heap.size < w'.heap.size ∧ Below w.heap.size w w'

set_option maxRecDepth 100000 in
set_option maxHeartbeats 1000000 in
theorem rsigns_any (w : World) : Calls Tryd.prog 88 #[] w (SignsPost w) := by
  go_enter Tryd.func88, Tryd.ntmps88
  go_wp2_with fail
  go_ret
  exact ⟨rfl, signs_new w _, by simp, (Below.refl _ w).alloc (Nat.le_refl _) _⟩

theorem eq_prefix (s : ByteArray) (i : Nat) (x : List UInt8) (_h : i + x.length ≤ s.size) : ((s.extract i (i + x.length)).toList == x) = Lib.hasPrefix (s.data.toList.drop i) x := by
  have h1 : (s.extract i (i + x.length)).toList = (s.data.toList.drop i).take x.length := by
    rw [Lib.toList_data, ByteArray.data_extract, Array.toList_extract]
    simp only [List.extract_eq_take_drop, Nat.add_sub_cancel_left]
  rw [h1, Bool.eq_iff_iff, beq_iff_eq]
  exact ⟨fun e => List.isPrefixOf_iff_prefix.2 (List.prefix_iff_eq_take.2 e.symm), fun e => (List.prefix_iff_eq_take.1 (List.isPrefixOf_iff_prefix.1 e)).symm⟩
theorem no_prefix (s : ByteArray) (i : Nat) (x : List UInt8) (hi : i ≤ s.size) (h : s.size < i + x.length) : Lib.hasPrefix (s.data.toList.drop i) x = false := by
  rw [← Bool.not_eq_true]
  intro e
  have := (List.isPrefixOf_iff_prefix.1 e).length_le
  rw [List.length_drop, list_len] at this
  omega

set_option maxRecDepth 100000 in
set_option maxHeartbeats 4000000 in
theorem rtoken_sign_a (s : ByteArray) (i : Nat) (w : World) (hs : s.size ≤ 20000) (hi : i < s.size) (hc : s[i].toNat < 65) (hd : digitZ (s[i].toNat : Int) = false) (hq : s[i].toNat ≠ 34) (hrd : readL (s[i].toNat : Int) (s.data.toList.drop i) = signR (s.data.toList.drop i)) :
    Calls Tryd.prog 57 #[.string s, .int .i64 i] w (ReadPost (readL (s[i].toNat : Int) (s.data.toList.drop i)) w) := by
  have HD := Lib.hid hd; have HRD := Lib.hid hrd
  have t1 : decide (97 ≤ (s[i].toNat : Int)) = false := by rw [decide_eq_false_iff_not]; omega
  have t2 : decide (65 ≤ (s[i].toNat : Int)) = false := by rw [decide_eq_false_iff_not]; omega
  have t3 : ((s[i].toNat : Int) == 34) = false := by rw [beq_eq_false_iff_ne]; intro e; exact hq (by omega)
  clear hc hd hq hrd
  go_enter Tryd.func57, Tryd.ntmps57
  go_wp2_with fail
  have x1 := boxed5_new w (.int .i64 0) (.string ⟨#[]⟩) (.int .i64 0) (.int .i64 0) (.int .i64 0)
  have b1 := stands_alloc w (.cells #[.int .i64 0, .string ⟨#[]⟩, .int .i64 0, .int .i64 0, .int .i64 0] 71)
  have s1 := World.size_alloc w (.cells #[.int .i64 0, .string ⟨#[]⟩, .int .i64 0, .int .i64 0, .int .i64 0] 71)
  generalize w.alloc (.cells #[.int .i64 0, .string ⟨#[]⟩, .int .i64 0, .int .i64 0, .int .i64 0] 71) = w1 at *
  have X1 := Lib.hid x1; have B1 := Lib.hid b1; have S1 := Lib.hid s1
  clear x1 b1 s1
  refine (rdigit_any _ _).mono ?_
  rw [HD.out]
  rintro e w' ⟨rfl, rfl⟩
  go_wp2_with fail
  refine (rsigns_any _).mono ?_
  rintro e w2 ⟨rfl, hsg, hl2, b2⟩
  have HSG := Lib.hid hsg
  have B2 := Lib.hid (Below.step B1.out b2)
  have X2 := Lib.hid (X1.out.on b2)
  clear b2 X1 B1 hsg
  generalize w1.heap.size = bs at *
  go_wp2_with fail
  go_loopw [15] (fun n wr => ∃ k : Nat, k ≤ 19 ∧ n = .int .i64 k ∧ Hid (signIn signsL (s.data.toList.drop i) = signIn (signsL.drop k) (s.data.toList.drop i)) ∧ Below w2.heap.size w2 wr) (fun n _ => 19 - (intOf n).toNat)
  case atStart => exact ⟨0, Nat.zero_le _, rfl, rfl, Below.refl _ _⟩
  case round =>
    obtain ⟨k, hk, rfl, hrec, hbel⟩ := hrel
    have HBEL := Lib.hid hbel
    have R1' := X2.out.on hbel
    have R1 := Lib.hid R1'
    have B3 := Lib.hid (Below.step B2.out hbel)
    have hbs := Nat.lt_of_lt_of_le hl2 hbel.size
    by_cases hlt : k < 19
    · obtain ⟨x, hx⟩ : ∃ x, signsL[k]? = some x := ⟨_, List.getElem?_eq_getElem (by exact hlt)⟩
      have hcell := (HSG.out.on hbel hl2) k x hx
      have HD := Lib.hid (signIn_drop hx (s.data.toList.drop i))
      have hxl : (⟨x.toArray⟩ : ByteArray).size = x.length := size_mk x
      have hxl2 : x.length ≤ 2 := by
        have : ∀ y ∈ signsL, y.length ≤ 2 := by decide
        exact this x (List.mem_of_getElem? hx)
      have HEQ := Lib.hid (fun h => eq_prefix s i x h)
      have HNP := Lib.hid (fun h => no_prefix s i x (by omega) h)
      obtain ⟨r0, r1, r2, r3, r4⟩ := R1'.cells
      have z0 := frozen_of_row wr _ 0 _ _ R1'
      have z1 := frozen_of_row wr _ 1 _ _ R1'
      have z2 := frozen_of_row wr _ 2 _ _ R1'
      have z3 := frozen_of_row wr _ 3 _ _ R1'
      have z4 := frozen_of_row wr _ 4 _ _ R1'
      have hxw : IntKind.i64.wrap ((i : Int) + (x.length : Int)) = (i : Int) + (x.length : Int) := by rw [IntKind.wrap_i64]; omega
      have hsw : IntKind.i64.wrap ((s.size : Int) - (i : Int)) = (s.size : Int) - (i : Int) := by rw [IntKind.wrap_i64]; omega
      have ixn : ((i : Int) + (x.length : Int)).toNat = i + x.length := by omega
      clear hx R1' hbel
      by_cases hlen : i + x.length ≤ s.size
      · have u1 : decide ((x.length : Int) ≤ (s.size : Int) - (i : Int)) = true := by rw [decide_eq_true_eq]; omega
        have u2 : (i : Int) + (x.length : Int) ≤ (s.size : Int) := by omega
        have u3 : (i : Int) ≤ (i : Int) + (x.length : Int) := by omega
        have heq := HEQ.out hlen
        cases hp : Lib.hasPrefix (s.data.toList.drop i) x with
        | true =>
          rw [hp] at heq
          have HE : Hid (readL (s[i].toNat : Int) (s.data.toList.drop i) = some ⟨5, x, 0, x.length⟩) := by show _ = _; rw [HRD.out, signR, hrec.out, HD.out, hp]; rfl
          clear hp
          go_wp2_with fail
          go_quiet (fail)
          have hcell2 := (below_drewN (Below.refl wr.heap.size wr) nq).cell (p := ⟨bs, k, none⟩) hbs |>.trans hcell
          have R4 : Boxed5 (wr.drewN nq) w.heap.size (.int .i64 0) (.string ⟨#[]⟩) (.int .i64 0) (.int .i64 0) (.int .i64 0) := R1.out.on (below_drewN (Below.refl wr.heap.size wr) nq)
          have B4 := Lib.hid (below_drewN B3.out nq)
          have hbs1 : bs = w.heap.size + 1 := S1.out
          subst hbs1
          clear hcell heq r0 r1 r2 r3 r4 z0 z1 z2 z3 z4 B3 HBEL hbs
          generalize wr.drewN nq = w3 at *
          have z0 := frozen_of_row w3 _ 0 _ _ R4
          have z1 := frozen_of_row w3 _ 1 _ _ R4
          have z2 := frozen_of_row w3 _ 2 _ _ R4
          have z3 := frozen_of_row w3 _ 3 _ _ R4
          have z4 := frozen_of_row w3 _ 4 _ _ R4
          obtain ⟨r0, r1, r2, r3, r4⟩ := R4.cells
          clear R4
          go_wp2_with fail
          go_region
          all_goals
            go_wp2_with fail
            refine bodyPost_ret (v := .tuple #[.agg #[.int .i64 5, .string ⟨x.toArray⟩, .int .i64 0, .int .i64 0, .int .i64 0], .int .i64 x.length]) (by simp [results, Tryd.results57, go_sem, r0, r1, r2, r3, r4]) rfl ?_
            rw [HE.out]
            exact ⟨rfl, Below.drew (stored5 B4.out _ (Nat.le_refl _) _ _ _ _ _)⟩
        | false =>
          rw [hp] at heq
          have HR : Hid (signIn signsL (s.data.toList.drop i) = signIn (signsL.drop (k + 1)) (s.data.toList.drop i)) := by show _ = _; rw [hrec.out, HD.out, hp]; rfl
          clear hp
          go_wp2_with fail
          go_quiet (fail)
          go_wp2_with fail
          go_roundw
          case rel => exact ⟨k + 1, by omega, by go_num, HR, below_drewN HBEL.out _⟩
          case measure => simp [intOf]; omega
      · have u1 : decide ((x.length : Int) ≤ (s.size : Int) - (i : Int)) = false := by rw [decide_eq_false_iff_not]; omega
        have HR : Hid (signIn signsL (s.data.toList.drop i) = signIn (signsL.drop (k + 1)) (s.data.toList.drop i)) := by show _ = _; rw [hrec.out, HD.out, HNP.out (by omega)]; rfl
        go_wp2_with fail
        go_quiet (fail)
        go_wp2_with fail
        go_roundw
        case rel => exact ⟨k + 1, by omega, by go_num, HR, below_drewN HBEL.out _⟩
        case measure => simp [intOf]; omega
    · have hke : k = 19 := by omega
      have HE : Hid (readL (s[i].toNat : Int) (s.data.toList.drop i) = none) := by show _ = _; rw [HRD.out, signR, hrec.out, hke]; rfl
      obtain ⟨r0, r1, r2, r3, r4⟩ := R1'.cells
      have z0 := frozen_of_row wr _ 0 _ _ R1'
      have z1 := frozen_of_row wr _ 1 _ _ R1'
      have z2 := frozen_of_row wr _ 2 _ _ R1'
      have z3 := frozen_of_row wr _ 3 _ _ R1'
      have z4 := frozen_of_row wr _ 4 _ _ R1'
      clear hke R1' R1 hbel
      go_wp2_with fail
      refine bodyPost_ret (v := .tuple #[.agg #[.int .i64 0, .string ⟨#[]⟩, .int .i64 0, .int .i64 0, .int .i64 0], .int .i64 0]) (by simp [results, Tryd.results57, go_sem, r0, r1, r2, r3, r4]) rfl ?_
      rw [HE.out]
      exact ⟨rfl, stored5 B3.out _ (Nat.le_refl _) _ _ _ _ _⟩

set_option maxRecDepth 100000 in
set_option maxHeartbeats 4000000 in
theorem rtoken_sign_b (s : ByteArray) (i : Nat) (w : World) (hs : s.size ≤ 20000) (hi : i < s.size) (hc : 90 < s[i].toNat ∧ s[i].toNat < 97) (hd : digitZ (s[i].toNat : Int) = false) (hq : s[i].toNat ≠ 34) (hrd : readL (s[i].toNat : Int) (s.data.toList.drop i) = signR (s.data.toList.drop i)) :
    Calls Tryd.prog 57 #[.string s, .int .i64 i] w (ReadPost (readL (s[i].toNat : Int) (s.data.toList.drop i)) w) := by
  have HD := Lib.hid hd; have HRD := Lib.hid hrd
  have t1 : decide (97 ≤ (s[i].toNat : Int)) = false := by rw [decide_eq_false_iff_not]; omega
  have t2 : decide (65 ≤ (s[i].toNat : Int)) = true := by rw [decide_eq_true_eq]; omega
  have t4 : decide ((s[i].toNat : Int) ≤ 90) = false := by rw [decide_eq_false_iff_not]; omega
  have t3 : ((s[i].toNat : Int) == 34) = false := by rw [beq_eq_false_iff_ne]; intro e; exact hq (by omega)
  clear hc hd hq hrd
  go_enter Tryd.func57, Tryd.ntmps57
  go_wp2_with fail
  have x1 := boxed5_new w (.int .i64 0) (.string ⟨#[]⟩) (.int .i64 0) (.int .i64 0) (.int .i64 0)
  have b1 := stands_alloc w (.cells #[.int .i64 0, .string ⟨#[]⟩, .int .i64 0, .int .i64 0, .int .i64 0] 71)
  have s1 := World.size_alloc w (.cells #[.int .i64 0, .string ⟨#[]⟩, .int .i64 0, .int .i64 0, .int .i64 0] 71)
  generalize w.alloc (.cells #[.int .i64 0, .string ⟨#[]⟩, .int .i64 0, .int .i64 0, .int .i64 0] 71) = w1 at *
  have X1 := Lib.hid x1; have B1 := Lib.hid b1; have S1 := Lib.hid s1
  clear x1 b1 s1
  refine (rdigit_any _ _).mono ?_
  rw [HD.out]
  rintro e w' ⟨rfl, rfl⟩
  go_wp2_with fail
  refine (rsigns_any _).mono ?_
  rintro e w2 ⟨rfl, hsg, hl2, b2⟩
  have HSG := Lib.hid hsg
  have B2 := Lib.hid (Below.step B1.out b2)
  have X2 := Lib.hid (X1.out.on b2)
  clear b2 X1 B1 hsg
  generalize w1.heap.size = bs at *
  go_wp2_with fail
  go_loopw [15] (fun n wr => ∃ k : Nat, k ≤ 19 ∧ n = .int .i64 k ∧ Hid (signIn signsL (s.data.toList.drop i) = signIn (signsL.drop k) (s.data.toList.drop i)) ∧ Below w2.heap.size w2 wr) (fun n _ => 19 - (intOf n).toNat)
  case atStart => exact ⟨0, Nat.zero_le _, rfl, rfl, Below.refl _ _⟩
  case round =>
    obtain ⟨k, hk, rfl, hrec, hbel⟩ := hrel
    have HBEL := Lib.hid hbel
    have R1' := X2.out.on hbel
    have R1 := Lib.hid R1'
    have B3 := Lib.hid (Below.step B2.out hbel)
    have hbs := Nat.lt_of_lt_of_le hl2 hbel.size
    by_cases hlt : k < 19
    · obtain ⟨x, hx⟩ : ∃ x, signsL[k]? = some x := ⟨_, List.getElem?_eq_getElem (by exact hlt)⟩
      have hcell := (HSG.out.on hbel hl2) k x hx
      have HD := Lib.hid (signIn_drop hx (s.data.toList.drop i))
      have hxl : (⟨x.toArray⟩ : ByteArray).size = x.length := size_mk x
      have hxl2 : x.length ≤ 2 := by
        have : ∀ y ∈ signsL, y.length ≤ 2 := by decide
        exact this x (List.mem_of_getElem? hx)
      have HEQ := Lib.hid (fun h => eq_prefix s i x h)
      have HNP := Lib.hid (fun h => no_prefix s i x (by omega) h)
      obtain ⟨r0, r1, r2, r3, r4⟩ := R1'.cells
      have z0 := frozen_of_row wr _ 0 _ _ R1'
      have z1 := frozen_of_row wr _ 1 _ _ R1'
      have z2 := frozen_of_row wr _ 2 _ _ R1'
      have z3 := frozen_of_row wr _ 3 _ _ R1'
      have z4 := frozen_of_row wr _ 4 _ _ R1'
      have hxw : IntKind.i64.wrap ((i : Int) + (x.length : Int)) = (i : Int) + (x.length : Int) := by rw [IntKind.wrap_i64]; omega
      have hsw : IntKind.i64.wrap ((s.size : Int) - (i : Int)) = (s.size : Int) - (i : Int) := by rw [IntKind.wrap_i64]; omega
      have ixn : ((i : Int) + (x.length : Int)).toNat = i + x.length := by omega
      clear hx R1' hbel
      by_cases hlen : i + x.length ≤ s.size
      · have u1 : decide ((x.length : Int) ≤ (s.size : Int) - (i : Int)) = true := by rw [decide_eq_true_eq]; omega
        have u2 : (i : Int) + (x.length : Int) ≤ (s.size : Int) := by omega
        have u3 : (i : Int) ≤ (i : Int) + (x.length : Int) := by omega
        have heq := HEQ.out hlen
        cases hp : Lib.hasPrefix (s.data.toList.drop i) x with
        | true =>
          rw [hp] at heq
          have HE : Hid (readL (s[i].toNat : Int) (s.data.toList.drop i) = some ⟨5, x, 0, x.length⟩) := by show _ = _; rw [HRD.out, signR, hrec.out, HD.out, hp]; rfl
          clear hp
          go_wp2_with fail
          go_quiet (fail)
          have hcell2 := (below_drewN (Below.refl wr.heap.size wr) nq).cell (p := ⟨bs, k, none⟩) hbs |>.trans hcell
          have R4 : Boxed5 (wr.drewN nq) w.heap.size (.int .i64 0) (.string ⟨#[]⟩) (.int .i64 0) (.int .i64 0) (.int .i64 0) := R1.out.on (below_drewN (Below.refl wr.heap.size wr) nq)
          have B4 := Lib.hid (below_drewN B3.out nq)
          have hbs1 : bs = w.heap.size + 1 := S1.out
          subst hbs1
          clear hcell heq r0 r1 r2 r3 r4 z0 z1 z2 z3 z4 B3 HBEL hbs
          generalize wr.drewN nq = w3 at *
          have z0 := frozen_of_row w3 _ 0 _ _ R4
          have z1 := frozen_of_row w3 _ 1 _ _ R4
          have z2 := frozen_of_row w3 _ 2 _ _ R4
          have z3 := frozen_of_row w3 _ 3 _ _ R4
          have z4 := frozen_of_row w3 _ 4 _ _ R4
          obtain ⟨r0, r1, r2, r3, r4⟩ := R4.cells
          clear R4
          go_wp2_with fail
          go_region
          all_goals
            go_wp2_with fail
            refine bodyPost_ret (v := .tuple #[.agg #[.int .i64 5, .string ⟨x.toArray⟩, .int .i64 0, .int .i64 0, .int .i64 0], .int .i64 x.length]) (by simp [results, Tryd.results57, go_sem, r0, r1, r2, r3, r4]) rfl ?_
            rw [HE.out]
            exact ⟨rfl, Below.drew (stored5 B4.out _ (Nat.le_refl _) _ _ _ _ _)⟩
        | false =>
          rw [hp] at heq
          have HR : Hid (signIn signsL (s.data.toList.drop i) = signIn (signsL.drop (k + 1)) (s.data.toList.drop i)) := by show _ = _; rw [hrec.out, HD.out, hp]; rfl
          clear hp
          go_wp2_with fail
          go_quiet (fail)
          go_wp2_with fail
          go_roundw
          case rel => exact ⟨k + 1, by omega, by go_num, HR, below_drewN HBEL.out _⟩
          case measure => simp [intOf]; omega
      · have u1 : decide ((x.length : Int) ≤ (s.size : Int) - (i : Int)) = false := by rw [decide_eq_false_iff_not]; omega
        have HR : Hid (signIn signsL (s.data.toList.drop i) = signIn (signsL.drop (k + 1)) (s.data.toList.drop i)) := by show _ = _; rw [hrec.out, HD.out, HNP.out (by omega)]; rfl
        go_wp2_with fail
        go_quiet (fail)
        go_wp2_with fail
        go_roundw
        case rel => exact ⟨k + 1, by omega, by go_num, HR, below_drewN HBEL.out _⟩
        case measure => simp [intOf]; omega
    · have hke : k = 19 := by omega
      have HE : Hid (readL (s[i].toNat : Int) (s.data.toList.drop i) = none) := by show _ = _; rw [HRD.out, signR, hrec.out, hke]; rfl
      obtain ⟨r0, r1, r2, r3, r4⟩ := R1'.cells
      have z0 := frozen_of_row wr _ 0 _ _ R1'
      have z1 := frozen_of_row wr _ 1 _ _ R1'
      have z2 := frozen_of_row wr _ 2 _ _ R1'
      have z3 := frozen_of_row wr _ 3 _ _ R1'
      have z4 := frozen_of_row wr _ 4 _ _ R1'
      clear hke R1' R1 hbel
      go_wp2_with fail
      refine bodyPost_ret (v := .tuple #[.agg #[.int .i64 0, .string ⟨#[]⟩, .int .i64 0, .int .i64 0, .int .i64 0], .int .i64 0]) (by simp [results, Tryd.results57, go_sem, r0, r1, r2, r3, r4]) rfl ?_
      rw [HE.out]
      exact ⟨rfl, stored5 B3.out _ (Nat.le_refl _) _ _ _ _ _⟩

set_option maxRecDepth 100000 in
set_option maxHeartbeats 4000000 in
theorem rtoken_sign_c (s : ByteArray) (i : Nat) (w : World) (hs : s.size ≤ 20000) (hi : i < s.size) (hc : 122 < s[i].toNat) (hd : digitZ (s[i].toNat : Int) = false) (hq : s[i].toNat ≠ 34) (hrd : readL (s[i].toNat : Int) (s.data.toList.drop i) = signR (s.data.toList.drop i)) :
    Calls Tryd.prog 57 #[.string s, .int .i64 i] w (ReadPost (readL (s[i].toNat : Int) (s.data.toList.drop i)) w) := by
  have HD := Lib.hid hd; have HRD := Lib.hid hrd
  have t1 : decide (97 ≤ (s[i].toNat : Int)) = true := by rw [decide_eq_true_eq]; omega
  have t5 : decide ((s[i].toNat : Int) ≤ 122) = false := by rw [decide_eq_false_iff_not]; omega
  have t2 : decide (65 ≤ (s[i].toNat : Int)) = true := by rw [decide_eq_true_eq]; omega
  have t4 : decide ((s[i].toNat : Int) ≤ 90) = false := by rw [decide_eq_false_iff_not]; omega
  have t3 : ((s[i].toNat : Int) == 34) = false := by rw [beq_eq_false_iff_ne]; intro e; exact hq (by omega)
  clear hc hd hq hrd
  go_enter Tryd.func57, Tryd.ntmps57
  go_wp2_with fail
  have x1 := boxed5_new w (.int .i64 0) (.string ⟨#[]⟩) (.int .i64 0) (.int .i64 0) (.int .i64 0)
  have b1 := stands_alloc w (.cells #[.int .i64 0, .string ⟨#[]⟩, .int .i64 0, .int .i64 0, .int .i64 0] 71)
  have s1 := World.size_alloc w (.cells #[.int .i64 0, .string ⟨#[]⟩, .int .i64 0, .int .i64 0, .int .i64 0] 71)
  generalize w.alloc (.cells #[.int .i64 0, .string ⟨#[]⟩, .int .i64 0, .int .i64 0, .int .i64 0] 71) = w1 at *
  have X1 := Lib.hid x1; have B1 := Lib.hid b1; have S1 := Lib.hid s1
  clear x1 b1 s1
  refine (rdigit_any _ _).mono ?_
  rw [HD.out]
  rintro e w' ⟨rfl, rfl⟩
  go_wp2_with fail
  refine (rsigns_any _).mono ?_
  rintro e w2 ⟨rfl, hsg, hl2, b2⟩
  have HSG := Lib.hid hsg
  have B2 := Lib.hid (Below.step B1.out b2)
  have X2 := Lib.hid (X1.out.on b2)
  clear b2 X1 B1 hsg
  generalize w1.heap.size = bs at *
  go_wp2_with fail
  go_loopw [15] (fun n wr => ∃ k : Nat, k ≤ 19 ∧ n = .int .i64 k ∧ Hid (signIn signsL (s.data.toList.drop i) = signIn (signsL.drop k) (s.data.toList.drop i)) ∧ Below w2.heap.size w2 wr) (fun n _ => 19 - (intOf n).toNat)
  case atStart => exact ⟨0, Nat.zero_le _, rfl, rfl, Below.refl _ _⟩
  case round =>
    obtain ⟨k, hk, rfl, hrec, hbel⟩ := hrel
    have HBEL := Lib.hid hbel
    have R1' := X2.out.on hbel
    have R1 := Lib.hid R1'
    have B3 := Lib.hid (Below.step B2.out hbel)
    have hbs := Nat.lt_of_lt_of_le hl2 hbel.size
    by_cases hlt : k < 19
    · obtain ⟨x, hx⟩ : ∃ x, signsL[k]? = some x := ⟨_, List.getElem?_eq_getElem (by exact hlt)⟩
      have hcell := (HSG.out.on hbel hl2) k x hx
      have HD := Lib.hid (signIn_drop hx (s.data.toList.drop i))
      have hxl : (⟨x.toArray⟩ : ByteArray).size = x.length := size_mk x
      have hxl2 : x.length ≤ 2 := by
        have : ∀ y ∈ signsL, y.length ≤ 2 := by decide
        exact this x (List.mem_of_getElem? hx)
      have HEQ := Lib.hid (fun h => eq_prefix s i x h)
      have HNP := Lib.hid (fun h => no_prefix s i x (by omega) h)
      obtain ⟨r0, r1, r2, r3, r4⟩ := R1'.cells
      have z0 := frozen_of_row wr _ 0 _ _ R1'
      have z1 := frozen_of_row wr _ 1 _ _ R1'
      have z2 := frozen_of_row wr _ 2 _ _ R1'
      have z3 := frozen_of_row wr _ 3 _ _ R1'
      have z4 := frozen_of_row wr _ 4 _ _ R1'
      have hxw : IntKind.i64.wrap ((i : Int) + (x.length : Int)) = (i : Int) + (x.length : Int) := by rw [IntKind.wrap_i64]; omega
      have hsw : IntKind.i64.wrap ((s.size : Int) - (i : Int)) = (s.size : Int) - (i : Int) := by rw [IntKind.wrap_i64]; omega
      have ixn : ((i : Int) + (x.length : Int)).toNat = i + x.length := by omega
      clear hx R1' hbel
      by_cases hlen : i + x.length ≤ s.size
      · have u1 : decide ((x.length : Int) ≤ (s.size : Int) - (i : Int)) = true := by rw [decide_eq_true_eq]; omega
        have u2 : (i : Int) + (x.length : Int) ≤ (s.size : Int) := by omega
        have u3 : (i : Int) ≤ (i : Int) + (x.length : Int) := by omega
        have heq := HEQ.out hlen
        cases hp : Lib.hasPrefix (s.data.toList.drop i) x with
        | true =>
          rw [hp] at heq
          have HE : Hid (readL (s[i].toNat : Int) (s.data.toList.drop i) = some ⟨5, x, 0, x.length⟩) := by show _ = _; rw [HRD.out, signR, hrec.out, HD.out, hp]; rfl
          clear hp
          go_wp2_with fail
          go_quiet (fail)
          have hcell2 := (below_drewN (Below.refl wr.heap.size wr) nq).cell (p := ⟨bs, k, none⟩) hbs |>.trans hcell
          have R4 : Boxed5 (wr.drewN nq) w.heap.size (.int .i64 0) (.string ⟨#[]⟩) (.int .i64 0) (.int .i64 0) (.int .i64 0) := R1.out.on (below_drewN (Below.refl wr.heap.size wr) nq)
          have B4 := Lib.hid (below_drewN B3.out nq)
          have hbs1 : bs = w.heap.size + 1 := S1.out
          subst hbs1
          clear hcell heq r0 r1 r2 r3 r4 z0 z1 z2 z3 z4 B3 HBEL hbs
          generalize wr.drewN nq = w3 at *
          have z0 := frozen_of_row w3 _ 0 _ _ R4
          have z1 := frozen_of_row w3 _ 1 _ _ R4
          have z2 := frozen_of_row w3 _ 2 _ _ R4
          have z3 := frozen_of_row w3 _ 3 _ _ R4
          have z4 := frozen_of_row w3 _ 4 _ _ R4
          obtain ⟨r0, r1, r2, r3, r4⟩ := R4.cells
          clear R4
          go_wp2_with fail
          go_region
          all_goals
            go_wp2_with fail
            refine bodyPost_ret (v := .tuple #[.agg #[.int .i64 5, .string ⟨x.toArray⟩, .int .i64 0, .int .i64 0, .int .i64 0], .int .i64 x.length]) (by simp [results, Tryd.results57, go_sem, r0, r1, r2, r3, r4]) rfl ?_
            rw [HE.out]
            exact ⟨rfl, Below.drew (stored5 B4.out _ (Nat.le_refl _) _ _ _ _ _)⟩
        | false =>
          rw [hp] at heq
          have HR : Hid (signIn signsL (s.data.toList.drop i) = signIn (signsL.drop (k + 1)) (s.data.toList.drop i)) := by show _ = _; rw [hrec.out, HD.out, hp]; rfl
          clear hp
          go_wp2_with fail
          go_quiet (fail)
          go_wp2_with fail
          go_roundw
          case rel => exact ⟨k + 1, by omega, by go_num, HR, below_drewN HBEL.out _⟩
          case measure => simp [intOf]; omega
      · have u1 : decide ((x.length : Int) ≤ (s.size : Int) - (i : Int)) = false := by rw [decide_eq_false_iff_not]; omega
        have HR : Hid (signIn signsL (s.data.toList.drop i) = signIn (signsL.drop (k + 1)) (s.data.toList.drop i)) := by show _ = _; rw [hrec.out, HD.out, HNP.out (by omega)]; rfl
        go_wp2_with fail
        go_quiet (fail)
        go_wp2_with fail
        go_roundw
        case rel => exact ⟨k + 1, by omega, by go_num, HR, below_drewN HBEL.out _⟩
        case measure => simp [intOf]; omega
    · have hke : k = 19 := by omega
      have HE : Hid (readL (s[i].toNat : Int) (s.data.toList.drop i) = none) := by show _ = _; rw [HRD.out, signR, hrec.out, hke]; rfl
      obtain ⟨r0, r1, r2, r3, r4⟩ := R1'.cells
      have z0 := frozen_of_row wr _ 0 _ _ R1'
      have z1 := frozen_of_row wr _ 1 _ _ R1'
      have z2 := frozen_of_row wr _ 2 _ _ R1'
      have z3 := frozen_of_row wr _ 3 _ _ R1'
      have z4 := frozen_of_row wr _ 4 _ _ R1'
      clear hke R1' R1 hbel
      go_wp2_with fail
      refine bodyPost_ret (v := .tuple #[.agg #[.int .i64 0, .string ⟨#[]⟩, .int .i64 0, .int .i64 0, .int .i64 0], .int .i64 0]) (by simp [results, Tryd.results57, go_sem, r0, r1, r2, r3, r4]) rfl ?_
      rw [HE.out]
      exact ⟨rfl, stored5 B3.out _ (Nat.le_refl _) _ _ _ _ _⟩

/-- What stands at a place. -/
theorem rtoken_any (s : ByteArray) (i : Nat) (w : World) (hs : s.size ≤ 20000) (hi : i < s.size) :
    Calls Tryd.prog 57 #[.string s, .int .i64 i] w (ReadPost (readL (s[i].toNat : Int) (s.data.toList.drop i)) w) := by
  cases h1 : smallZ (s[i].toNat : Int) with
  | true => exact rtoken_small s i w hs hi h1
  | false =>
  cases h2 : greatZ (s[i].toNat : Int) with
  | true => exact rtoken_great s i w hs hi h2
  | false =>
  cases h3 : digitZ (s[i].toNat : Int) with
  | true => exact rtoken_digit s i w hs hi h3
  | false =>
  by_cases h4 : s[i].toNat = 34
  · exact rtoken_quote s i w hs hi h4
  · have hrd := read_other h1 h2 h3 (by omega) (s.data.toList.drop i)
    have g1 : ¬ (97 ≤ (s[i].toNat : Int) ∧ (s[i].toNat : Int) ≤ 122) := fun h => by rw [small_range.2 h] at h1; cases h1
    have g2 : ¬ (65 ≤ (s[i].toNat : Int) ∧ (s[i].toNat : Int) ≤ 90) := fun h => by rw [great_range.2 h] at h2; cases h2
    by_cases a : s[i].toNat < 65
    · exact rtoken_sign_a s i w hs hi a h3 h4 hrd
    · by_cases b : s[i].toNat < 97
      · exact rtoken_sign_b s i w hs hi (by omega) h3 h4 hrd
      · exact rtoken_sign_c s i w hs hi (by omega) h3 h4 hrd

end Go.Proofs.YtgpgjaenbhbbgaaDoor
