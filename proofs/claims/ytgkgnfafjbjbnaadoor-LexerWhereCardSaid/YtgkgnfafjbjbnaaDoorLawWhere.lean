/-
  LexerWhere: for every row of raw tokens, number and text the law returns true: the first token that may not be is told by its place, behind right ones.
-/
import Derived.Test.YtgkgnfafjbjbnaaDoorWhereData
import Derived.Deep.RegionWith
import Derived.Deep.DeepCutAuto
import Derived.Test.YtgkgnfafjbjbnaaDoorZeros
namespace Go.Proofs.YtgkgnfafjbjbnaaDoor.lexerWhere
open Go.ChangeShapes Go.WideShapes Go.ChangeAt Go.RowKit

abbrev badCells : Array Value := #[.string ⟨#[63]⟩, .string ⟨#[34, 97]⟩, .string ⟨#[34, 92, 34]⟩, .string ⟨#[97, 66, 32]⟩, .string ⟨#[49, 50, 51, 52, 53, 54, 55, 56, 57, 48, 49, 32]⟩, .string ⟨#[50, 49, 52, 55, 52, 56, 51, 54, 52, 56, 32]⟩, .string ⟨#[97, 98, 99, 100, 101, 102, 103, 104, 105, 106, 107, 108, 109, 110, 111, 112, 113, 32]⟩, .string ⟨#[65, 98, 99, 100, 101, 102, 103, 104, 105, 106, 107, 108, 109, 110, 111, 112, 113, 32]⟩, .string ⟨#[58]⟩, .string ⟨#[61]⟩, .string ⟨#[95]⟩, .string ⟨#[0]⟩, .string ⟨#[128]⟩, .string ⟨#[195, 169]⟩]
theorem bads_new (w : World) (t : TypeId) (j : Nat) (hj : j < 14) : (w.alloc (.cells badCells t)).cell? ⟨w.heap.size, j, none⟩ = some (.string ⟨(badL j).toArray⟩) := by
  refine cell_of_block' (alloc_new' w _) _ ?_
  match j, hj with
  | 0, _ => rfl
  | 1, _ => rfl
  | 2, _ => rfl
  | 3, _ => rfl
  | 4, _ => rfl
  | 5, _ => rfl
  | 6, _ => rfl
  | 7, _ => rfl
  | 8, _ => rfl
  | 9, _ => rfl
  | 10, _ => rfl
  | 11, _ => rfl
  | 12, _ => rfl
  | 13, _ => rfl
  | n + 14, h => exact absurd h (by omega)
/-- What the text behind is made to be. -/
def moreS (j : Nat) (m : ByteArray) : ByteArray := if j = 1 then ⟨#[]⟩ else if j = 8 ∨ j = 9 then ⟨#[32]⟩ ++ m else m

set_option maxRecDepth 100000 in
set_option maxHeartbeats 16000000 in
theorem walk (l : List Raw) (wh : Int) (m : ByteArray) (W : World) (v : Value) (hok : SignsOk W) (hl : RepR W l v) (hwh : I64 wh) (_ : m.size ≤ maxLen) (km : m.size ≤ 140737488351232) :
    Calls Tryd.prog 10 #[v, .int .i64 wh, .string m] W fun e W' => e = .returned (.bool true) ∧ Below W.heap.size W W' := by
  have HOK := Lib.hid hok
  have hg := signs_lt hok
  have HL := Lib.hid hl
  obtain ⟨ra, rb, ro, rc, rfl, hrc, hrm, -⟩ := hl
  unfold maxLen at hrm
  clear hok
  go_enter Tryd.func10, Tryd.ntmps10
  go_wp2_with fail
  refine (awake3_any _ hg HOK.out).mono ?_
  rintro e w0 ⟨rfl, b0⟩
  go_wp2_with fail
  have hnew := bads_new w0 9
  have b1 := Below.step b0 (stands_alloc w0 (.cells badCells 9))
  generalize w0.alloc (.cells badCells 9) = w1 at *
  refine (pick3_any _ 14 _ hwh (by omega) (by omega)).mono ?_
  rintro e w' ⟨rfl, rfl⟩
  obtain ⟨h1, h2⟩ := pickZ_bd wh 14 (by omega)
  obtain ⟨j, hj⟩ := Int.eq_ofNat_of_zero_le h1
  rw [hj] at h2 ⊢
  have hj14 : j < 14 := by omega
  have hcell := hnew j hj14
  clear h1 h2 hj hnew
  have HL1 := Lib.hid (HL.out.on b1)
  have B1 := Lib.hid b1
  generalize w0.heap.size = bb at *
  clear b1 b0
  have hbl := badL_len j
  have hbz : (⟨(badL j).toArray⟩ : ByteArray).size ≤ 18 := by rw [size_mk]; exact hbl
  have HBL : Hid ((⟨(badL j).toArray⟩ : ByteArray).data.toList = badL j) := by show _ = _; simp
  have HU := Lib.hid (show (⟨(badL j).toArray⟩ : ByteArray) = ⟨(badL j).toArray⟩ from rfl)
  generalize hu : (⟨(badL j).toArray⟩ : ByteArray) = u at *
  have HUE := Lib.hid hu
  clear hu hbl HU
  go_wp2_with fail
  clear hcell
  obtain ⟨n, hn⟩ : ∃ n, n = min l.length 30 := ⟨_, rfl⟩
  go_loopw [9, 10] (fun s i wr => ∃ (k : Nat) (sb : ByteArray), k ≤ n ∧ s = .string sb ∧ Hid (sb.data.toList = joinR (readsTo l k)) ∧ i = .int .i64 k ∧ Below w1.heap.size w1 wr) (fun _ i _ => n - (intOf i).toNat)
  case atStart => exact ⟨0, ⟨#[]⟩, Nat.zero_le _, rfl, rfl, rfl, Below.refl _ _⟩
  case round =>
    obtain ⟨k, sb, hk, rfl, hsb, rfl, hbel⟩ := hrel
    generalize wr = w2 at *
    have HBEL := Lib.hid hbel
    have hssz : sb.size ≤ 1050 := by
      have h1 := joinR_len l k
      have h3 := list_len sb
      rw [hsb.out] at h3
      omega
    have HL2 := Lib.hid (HL1.out.on hbel)
    clear hbel
    by_cases hlt : k < n
    · have hkl : k < l.length := by omega
      have hk30 : k < 30 := by omega
      obtain ⟨ra', rb', ro', rc', he, -, -, hra, hcell⟩ := HL2.out
      cases he
      obtain ⟨rfl, hrb⟩ := hra (by omega)
      obtain ⟨q0, q1, q2, hraw⟩ := hcell k hkl
      have HPS := Lib.hid (reads_succ hkl)
      obtain ⟨-, -, hwl⟩ := rawR_facts l[k].kind l[k].s l[k].n
      generalize l[k] = x at *
      clear hcell hra hn
      have HRAW := Lib.hid hraw
      clear hraw
      have hwz : (⟨(wordOf (rawR x.kind x.s x.n)).toArray⟩ : ByteArray).size ≤ 34 := by rw [size_mk]; exact hwl
      have HWL : Hid ((⟨(wordOf (rawR x.kind x.s x.n)).toArray⟩ : ByteArray).data.toList = wordOf (readOf x)) := by show _ = _; simp [readOf]
      have HWC := Lib.hid (fun (w : World) => word_any x.kind x.s x.n w HRAW.out.1 (by have := HRAW.out.2.1; omega) HRAW.out.2.2)
      unfold WordPost at HWC
      generalize (⟨(wordOf (rawR x.kind x.s x.n)).toArray⟩ : ByteArray) = wd at *
      go_wp2_with fail
      have hsk : w2.heap.size ≤ w2.drew.heap.size := Nat.le_refl _
      have HS : Hid (((sb ++ wd) ++ ⟨#[32]⟩ : ByteArray).data.toList = joinR (readsTo l (k + 1))) := by
        show _ = _
        rw [HPS.out, joinR_snoc, bytes_app, bytes_app, hsb.out, HWL.out]
      go_region_with (go_at_call 36; refine (HWC.out _).mono ?_; rintro e w3 ⟨rfl, b3⟩)
      all_goals
        have hb3 : Below w2.heap.size w2 w3 := Below.trans (by repeat (first | exact Below.refl _ _ | refine Below.drew ?_)) b3
        clear b3
        go_wp2_with fail
        go_roundw
        case rel => exact ⟨k + 1, _, by omega, rfl, HS, by go_num, HBEL.out.trans (hb3.mono HBEL.out.size)⟩
        case measure => first | (simp [intOf]; omega) | simp [intOf]
    · have hke : k = n := by omega
      have hcase : l.length ≤ k ∨ (k < l.length ∧ k = 30) := by omega
      have hk30 : k ≤ 30 := by omega
      have B2 := Lib.hid (Below.step B1.out HBEL.out)
      have HSJ := Lib.hid (scan_where l k j hj14 m.data.toList)
      have hsl := list_len sb
      rw [hsb.out] at hsl
      clear hke hn hk hlt
      have hbs : u.size + sb.size ≤ 1068 := by omega
      obtain ⟨row, z, hz1, hmk0, hcv⟩ := zeros_exist 20001 (by omega)
      have hmk : ∀ w : World, (Instr.makeSlice 60 (.int .i64 20001) (.int .i64 20001)).run Tryd.prog w = .ok (.slice (some ⟨w.heap.size, 0, none⟩) 20001 20001) (w.alloc (.cells row 5)) := hmk0
      have HZ1 := Lib.hid hz1
      have HZS : Hid (scanB z = .bad 1 1) := by show _ = _; rw [scanB, if_pos (by omega)]
      clear hmk0 hz1
      rcases hcase with hca | ⟨hca, hcb⟩
      case' inr => subst hcb
      all_goals
        have hj3 : j = 1 ∨ (j = 8 ∨ j = 9) ∨ (j ≠ 1 ∧ j ≠ 8 ∧ j ≠ 9) := by omega
        rcases hj3 with hj1 | hj89 | hj0
        · have t1 : u = ⟨#[34, 97]⟩ := by rw [← HUE.out, hj1]; rfl
          have hz : (sb ++ u ++ (⟨#[]⟩ : ByteArray).extract 0 (min (0 : Int) 100).toNat : ByteArray).size ≤ 2000 := by
            rw [ByteArray.size_append, ByteArray.size_append, ByteArray.size_extract]
            omega
          have HSCZ : Hid ((sb ++ u ++ (⟨#[]⟩ : ByteArray).extract 0 (min (0 : Int) 100).toNat : ByteArray).size ≤ maxLen) := by show _ ≤ _; unfold maxLen; omega
          have HSC : Hid (scanB (sb ++ u ++ (⟨#[]⟩ : ByteArray).extract 0 (min (0 : Int) 100).toNat) = .bad 1 (1 + sb.size)) := by
            show _ = _
            rw [scanB, if_neg (by omega), bytes_app, bytes_app, hsb.out, HBL.out, List.append_assoc, ← hsl, ← HSJ.out]
            congr 2
            congr 1
            rw [moreL, if_pos hj1]; rfl
          clear HSJ HUE HBL hsl
          rw [t1] at HSC HSCZ
          subst t1
          go_wp2_with fail
          refine (scan_any _ _ HSCZ.out (Nat.lt_of_lt_of_le hg B2.out.size) (HOK.out.below hg B2.out)).mono ?_
          rw [HSC.out]
          rintro e w5 ⟨rfl, b5⟩
          rw [show ((1 + sb.size : Nat) : Int) = (sb.size : Int) + 1 by omega]
          have x6 := boxed2_new w5 (.int .i64 1) (.int .i64 ((sb.size : Int) + 1))
          have b6 := Below.step b5 (stands_alloc w5 (.cells #[.int .i64 1, .int .i64 ((sb.size : Int) + 1)] 48))
          have b7 := stands_alloc (w5.alloc (.cells #[.int .i64 1, .int .i64 ((sb.size : Int) + 1)] 48)) (.cells row 5)
          have hcv' := hcv (w5.alloc (.cells #[.int .i64 1, .int .i64 ((sb.size : Int) + 1)] 48))
          rw [World.size_alloc] at hcv'
          go_wp2_with fail
          generalize (w5.alloc (.cells #[.int .i64 1, .int .i64 ((sb.size : Int) + 1)] 48)).alloc (.cells row 5) = w7 at *
          have X7 := Lib.hid (x6.on b7)
          have B7 := Lib.hid (Below.step B2.out (Below.step b6 b7))
          generalize w5.heap.size = bx at *
          clear x6 b5 b6 b7 hcv'
          refine (scan_any z _ (by rw [HZ1.out]; unfold maxLen; omega) (Nat.lt_of_lt_of_le hg B7.out.size) (HOK.out.below hg B7.out)).mono ?_
          rw [HZS.out]
          rintro e w8 ⟨rfl, b8⟩
          have b9 := Below.step b8 (stands_alloc w8 (.cells #[.int .i64 1, .int .i64 1] 48))
          obtain ⟨p0, p1⟩ := (X7.out.on b9).cells
          have B9 := Lib.hid (Below.step B7.out b9)
          clear b8 b9
          go_wp2_with fail
          go_ret
          exact ⟨rfl, B9.out⟩
        · have hm9 : (⟨#[32]⟩ ++ m : ByteArray).extract 0 (min (1 + (m.size : Int)) 100).toNat = (⟨#[32]⟩ ++ m : ByteArray).extract 0 (min (1 + (m.size : Int)) 100).toNat := rfl
          clear hm9
          have hz : (sb ++ u ++ (⟨#[32]⟩ ++ m : ByteArray).extract 0 (min (1 + (m.size : Int)) 100).toNat : ByteArray).size ≤ 2000 := by
            rw [ByteArray.size_append, ByteArray.size_append, ByteArray.size_extract]
            omega
          have HSCZ : Hid ((sb ++ u ++ (⟨#[32]⟩ ++ m : ByteArray).extract 0 (min (1 + (m.size : Int)) 100).toNat : ByteArray).size ≤ maxLen) := by show _ ≤ _; unfold maxLen; omega
          have HSC : Hid (scanB (sb ++ u ++ (⟨#[32]⟩ ++ m : ByteArray).extract 0 (min (1 + (m.size : Int)) 100).toNat) = .bad 1 (1 + sb.size)) := by
            show _ = _
            rw [scanB, if_neg (by omega), bytes_app, bytes_app, hsb.out, HBL.out, List.append_assoc, ← hsl, ← HSJ.out]
            congr 2
            congr 1
            rw [moreL, if_neg (by omega), if_pos hj89, ByteArray.data_extract, Array.toList_extract, bytes_app]
            have hml := list_len m
            simp only [List.extract_eq_take_drop, Nat.sub_zero, List.drop_zero]
            show List.take _ (32 :: m.data.toList) = _
            by_cases h100 : 1 + m.size ≤ 100
            · rw [List.take_of_length_le (by rw [List.length_cons, hml]; omega), List.take_of_length_le (by rw [List.length_cons, hml]; omega)]
            · have e : (min (1 + (m.size : Int)) 100).toNat = 100 := by omega
              rw [e]
          rcases hj89 with hj8 | hj9
          · have t1 : u = ⟨#[58]⟩ := by rw [← HUE.out, hj8]; rfl
            clear HSJ HUE HBL hsl
            rw [t1] at HSC HSCZ
            subst t1
            go_wp2_with fail
            refine (scan_any _ _ HSCZ.out (Nat.lt_of_lt_of_le hg B2.out.size) (HOK.out.below hg B2.out)).mono ?_
            rw [HSC.out]
            rintro e w5 ⟨rfl, b5⟩
            rw [show ((1 + sb.size : Nat) : Int) = (sb.size : Int) + 1 by omega]
            have x6 := boxed2_new w5 (.int .i64 1) (.int .i64 ((sb.size : Int) + 1))
            have b6 := Below.step b5 (stands_alloc w5 (.cells #[.int .i64 1, .int .i64 ((sb.size : Int) + 1)] 48))
            have b7 := stands_alloc (w5.alloc (.cells #[.int .i64 1, .int .i64 ((sb.size : Int) + 1)] 48)) (.cells row 5)
            have hcv' := hcv (w5.alloc (.cells #[.int .i64 1, .int .i64 ((sb.size : Int) + 1)] 48))
            rw [World.size_alloc] at hcv'
            go_wp2_with fail
            generalize (w5.alloc (.cells #[.int .i64 1, .int .i64 ((sb.size : Int) + 1)] 48)).alloc (.cells row 5) = w7 at *
            have X7 := Lib.hid (x6.on b7)
            have B7 := Lib.hid (Below.step B2.out (Below.step b6 b7))
            generalize w5.heap.size = bx at *
            clear x6 b5 b6 b7 hcv'
            refine (scan_any z _ (by rw [HZ1.out]; unfold maxLen; omega) (Nat.lt_of_lt_of_le hg B7.out.size) (HOK.out.below hg B7.out)).mono ?_
            rw [HZS.out]
            rintro e w8 ⟨rfl, b8⟩
            have b9 := Below.step b8 (stands_alloc w8 (.cells #[.int .i64 1, .int .i64 1] 48))
            obtain ⟨p0, p1⟩ := (X7.out.on b9).cells
            have B9 := Lib.hid (Below.step B7.out b9)
            clear b8 b9
            go_wp2_with fail
            go_ret
            exact ⟨rfl, B9.out⟩
          · have t1 : u = ⟨#[61]⟩ := by rw [← HUE.out, hj9]; rfl
            clear HSJ HUE HBL hsl
            rw [t1] at HSC HSCZ
            subst t1
            go_wp2_with fail
            refine (scan_any _ _ HSCZ.out (Nat.lt_of_lt_of_le hg B2.out.size) (HOK.out.below hg B2.out)).mono ?_
            rw [HSC.out]
            rintro e w5 ⟨rfl, b5⟩
            rw [show ((1 + sb.size : Nat) : Int) = (sb.size : Int) + 1 by omega]
            have x6 := boxed2_new w5 (.int .i64 1) (.int .i64 ((sb.size : Int) + 1))
            have b6 := Below.step b5 (stands_alloc w5 (.cells #[.int .i64 1, .int .i64 ((sb.size : Int) + 1)] 48))
            have b7 := stands_alloc (w5.alloc (.cells #[.int .i64 1, .int .i64 ((sb.size : Int) + 1)] 48)) (.cells row 5)
            have hcv' := hcv (w5.alloc (.cells #[.int .i64 1, .int .i64 ((sb.size : Int) + 1)] 48))
            rw [World.size_alloc] at hcv'
            go_wp2_with fail
            generalize (w5.alloc (.cells #[.int .i64 1, .int .i64 ((sb.size : Int) + 1)] 48)).alloc (.cells row 5) = w7 at *
            have X7 := Lib.hid (x6.on b7)
            have B7 := Lib.hid (Below.step B2.out (Below.step b6 b7))
            generalize w5.heap.size = bx at *
            clear x6 b5 b6 b7 hcv'
            refine (scan_any z _ (by rw [HZ1.out]; unfold maxLen; omega) (Nat.lt_of_lt_of_le hg B7.out.size) (HOK.out.below hg B7.out)).mono ?_
            rw [HZS.out]
            rintro e w8 ⟨rfl, b8⟩
            have b9 := Below.step b8 (stands_alloc w8 (.cells #[.int .i64 1, .int .i64 1] 48))
            obtain ⟨p0, p1⟩ := (X7.out.on b9).cells
            have B9 := Lib.hid (Below.step B7.out b9)
            clear b8 b9
            go_wp2_with fail
            go_ret
            exact ⟨rfl, B9.out⟩
        · have hne : u.data.toList ≠ [34, 97] ∧ u.data.toList ≠ [58] ∧ u.data.toList ≠ [61] := by
            rw [HBL.out]
            have : ∀ j < 14, j ≠ 1 ∧ j ≠ 8 ∧ j ≠ 9 → badL j ≠ [34, 97] ∧ badL j ≠ [58] ∧ badL j ≠ [61] := by decide
            exact this j hj14 hj0
          obtain ⟨n1, n8, n9⟩ := hne
          have hz : (sb ++ u ++ m.extract 0 (min (m.size : Int) 100).toNat : ByteArray).size ≤ 2000 := by
            rw [ByteArray.size_append, ByteArray.size_append, ByteArray.size_extract]
            omega
          have HSCZ : Hid ((sb ++ u ++ m.extract 0 (min (m.size : Int) 100).toNat : ByteArray).size ≤ maxLen) := by show _ ≤ _; unfold maxLen; omega
          have HSC : Hid (scanB (sb ++ u ++ m.extract 0 (min (m.size : Int) 100).toNat) = .bad 1 (1 + sb.size)) := by
            show _ = _
            rw [scanB, if_neg (by omega), bytes_app, bytes_app, hsb.out, HBL.out, List.append_assoc, ← hsl, ← HSJ.out]
            congr 2
            congr 1
            rw [moreL, if_neg hj0.1, if_neg (by omega), ByteArray.data_extract, Array.toList_extract]
            have hml := list_len m
            simp only [List.extract_eq_take_drop, Nat.sub_zero, List.drop_zero]
            by_cases h100 : m.size ≤ 100
            · rw [List.take_of_length_le (by rw [hml]; omega), List.take_of_length_le (by rw [hml]; omega)]
            · have e : (min (m.size : Int) 100).toNat = 100 := by omega
              rw [e]
          rw [← Lib.toList_data] at n1 n8 n9
          have m1 : (u.toList == [34, 97]) = false := by simpa using n1
          have m8 : (u.toList == [58]) = false := by simpa using n8
          have m9 : (u.toList == [61]) = false := by simpa using n9
          clear HSJ HUE HBL hsl
          go_wp2_with fail
          refine (scan_any _ _ HSCZ.out (Nat.lt_of_lt_of_le hg B2.out.size) (HOK.out.below hg B2.out)).mono ?_
          rw [HSC.out]
          rintro e w5 ⟨rfl, b5⟩
          rw [show ((1 + sb.size : Nat) : Int) = (sb.size : Int) + 1 by omega]
          have x6 := boxed2_new w5 (.int .i64 1) (.int .i64 ((sb.size : Int) + 1))
          have b6 := Below.step b5 (stands_alloc w5 (.cells #[.int .i64 1, .int .i64 ((sb.size : Int) + 1)] 48))
          have b7 := stands_alloc (w5.alloc (.cells #[.int .i64 1, .int .i64 ((sb.size : Int) + 1)] 48)) (.cells row 5)
          have hcv' := hcv (w5.alloc (.cells #[.int .i64 1, .int .i64 ((sb.size : Int) + 1)] 48))
          rw [World.size_alloc] at hcv'
          go_wp2_with fail
          generalize (w5.alloc (.cells #[.int .i64 1, .int .i64 ((sb.size : Int) + 1)] 48)).alloc (.cells row 5) = w7 at *
          have X7 := Lib.hid (x6.on b7)
          have B7 := Lib.hid (Below.step B2.out (Below.step b6 b7))
          generalize w5.heap.size = bx at *
          clear x6 b5 b6 b7 hcv'
          refine (scan_any z _ (by rw [HZ1.out]; unfold maxLen; omega) (Nat.lt_of_lt_of_le hg B7.out.size) (HOK.out.below hg B7.out)).mono ?_
          rw [HZS.out]
          rintro e w8 ⟨rfl, b8⟩
          have b9 := Below.step b8 (stands_alloc w8 (.cells #[.int .i64 1, .int .i64 1] 48))
          obtain ⟨p0, p1⟩ := (X7.out.on b9).cells
          have B9 := Lib.hid (Below.step B7.out b9)
          clear b8 b9
          go_wp2_with fail
          go_ret
          exact ⟨rfl, B9.out⟩

end Go.Proofs.YtgkgnfafjbjbnaaDoor.lexerWhere
