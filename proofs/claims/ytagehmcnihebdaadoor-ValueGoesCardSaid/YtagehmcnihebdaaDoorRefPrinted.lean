/-
  The document's own Print, as a contract: it tells what Print tells.
-/
import Derived.Test.YtagehmcnihebdaaDoorRefPrint
namespace Go.Proofs.YtagehmcnihebdaaDoor
open Go.RowKit

theorem right_succ : ∀ (d : Nat) (x : V), rightV d x = true → rightV (d + 1) x = true
  | d, .mk k n s l, h => by
    rw [rightV_mk] at h ⊢
    rcases baseB_cases h with ⟨rfl, h1, h2, h3, h4⟩ | ⟨rfl, h1, h2, h3⟩ | ⟨rfl, h1, h2, h3⟩ | ⟨rfl, h1, h2, h3⟩
    · simp [baseB, h1, h2, h3, h4]
    · simp [baseB, h1, h2, h3]
    · simp [baseB, h1, h2, h3]
    · match d, h3 with
      | d + 1, h3 =>
        simp only [rightL, Bool.and_eq_true, decide_eq_true_eq, List.all_eq_true] at h3
        have : rightL (d + 2) l = true := by
          simp only [rightL, Bool.and_eq_true, decide_eq_true_eq, List.all_eq_true]
          exact ⟨h3.1, fun x hx => right_succ d x (h3.2 x hx)⟩
        simp [baseB, h1, h2, this]

def RefPrintAt (x : V) : Prop := ∀ (B : Nat) (w : World) (c0 c1 c2 c3 : Value), B ≤ w.heap.size → RepV B w x c0 c1 c2 c3 →
  Calls Tryd.prog 27 #[.agg #[c0, c1, c2, c3]] w fun e w' => e = .returned (.string ⟨(printB x).toArray⟩) ∧ Below w.heap.size w w'

/-- Behind the call of Right. -/
theorem print_list_elem {l : List V} {n : Int} {s : ByteArray} (h : rightV 4 (.mk 4 n s l) = true) (j : Nat) (hj : j < l.length) : printB l[j] = prV l[j] ∧ l.length ≤ 16 := by
  rw [rightV_mk] at h
  rcases baseB_cases h with ⟨h0, _⟩ | ⟨h0, _⟩ | ⟨h0, _⟩ | ⟨_, _, _, h3⟩
  · omega
  · omega
  · omega
  · simp only [rightL, Bool.and_eq_true, decide_eq_true_eq, List.all_eq_true] at h3
    refine ⟨?_, h3.1⟩
    rw [printB, if_pos (right_succ 3 _ (h3.2 _ (List.getElem_mem hj)))]

set_option maxHeartbeats 2000000 in
theorem refPrint_of (x : V) (hP : ∀ y, y ∈ x.list → RefPrintAt y) : RefPrintAt x := by
  match x with
  | .mk k n s l =>
  have HP := Lib.hid hP; clear hP
  intro B w c0 c1 c2 c3 hB hx
  have HX := Lib.hid hx
  rw [repV_mk] at hx
  obtain ⟨rfl, rfl, rfl, hk, hn, hs, hl⟩ := hx
  have HL := Lib.hid hl
  obtain ⟨aa, ab, ao, ac, rfl, -⟩ := hl
  have hbb : Below w.heap.size w (w.alloc (.cells #[.int .i64 k, .int .i64 n, .string s, .slice aa l.length ac] 24)) := (Below.refl _ w).alloc (Nat.le_refl _) _
  go_enter Tryd.func27, Tryd.ntmps27
  go_wp2_with fail
  have bx := boxed_new w (.int .i64 k) (.int .i64 n) (.string s) (.slice aa l.length ac)
  generalize w.alloc (.cells #[.int .i64 k, .int .i64 n, .string s, .slice aa l.length ac] 24) = w1 at *
  refine (refRight_any (.mk k n s l) B _ _ _ _ _ (by have := hbb.size; omega) (RepV.below (fun j hj => hbb.block j (by omega)) _ HX.out)).mono ?_
  rintro e w2 ⟨rfl, b2⟩
  have HBX := Lib.hid (bx.on b2); clear bx
  have B2 : Below w.heap.size w w2 := hbb.trans (b2.mono hbb.size)
  clear b2 hbb
  obtain ⟨p0, p1, p2, p3⟩ := HBX.out.cells
  cases hr : rightV 4 (.mk k n s l) with
  | false =>
    have HR := Lib.hid hr; clear hr
    go_wp2_with fail
    go_ret
    exact ⟨ret_str (a := []) (by rw [printB, if_neg (by simp [HR.out])]), B2⟩
  | true =>
    have HPR : Hid (printB (.mk k n s l) = prV (.mk k n s l)) := by show _ = _; rw [printB, if_pos hr]
    have HLE := Lib.hid (prV_le 4 _ hr).1
    have hc := hr
    rw [rightV_mk] at hc
    rcases baseB_cases hc with ⟨rfl, h1, h2, h3, h4⟩ | ⟨rfl, h1, h2, h3⟩ | ⟨rfl, h1, h2, h3⟩ | ⟨rfl, h1, h2, h3⟩
    · clear hc hr h1 h2
      have HE : Hid (prV (.mk 1 n s l) = Lib.itoa n) := by show _ = _; simp [prV]
      go_wp2_with fail
      refine (digits_any n (by omega) (by omega) _).mono ?_
      rintro e w3 ⟨rfl, b3⟩
      go_wp2_with fail
      go_ret
      exact ⟨ret_ba (by rw [HPR.out, HE.out]), B2.trans (b3.mono B2.size)⟩
    · have hsz := textB_le h3
      clear hc hr h1 h2 h3
      have HE : Hid (prV (.mk 2 n s l) = 34 :: (s.data.toList ++ [34])) := by show _ = _; simp [prV]
      go_wp2_with fail
      go_ret
      refine ⟨ret_ba ?_, B2⟩
      rw [HPR.out, HE.out]
      apply ByteArray.ext
      simp only [ByteArray.data_append]
      simp
    · clear hc hr h1 h2 h3
      have HE : Hid (prV (.mk 3 n s l) = s.data.toList) := by show _ = _; simp [prV]
      go_wp2_with fail
      go_ret
      refine ⟨ret_ba ?_, B2⟩
      rw [HPR.out, HE.out]
    · have HEL := Lib.hid (fun j hj => print_list_elem hr j hj)
      clear hc hr h1 h2 h3
      have HE : Hid (prV (.mk 4 n s l) = 91 :: (prL true l ++ [93])) := by show _ = _; simp [prV]
      have hpl : (prL true l).length + 2 ≤ 64 * 20 ^ 4 := by
        have := HLE.out; rw [HE.out] at this
        simp only [List.length_cons, List.length_append, List.length_nil] at this
        omega
      have HPLE := Lib.hid hpl; clear hpl HLE
      have hs2 := B2.size
      obtain ⟨ca, cb, co, cc, hc1, hcl, hc56, hca, hcb, hcx⟩ := RepL.below (w' := w2) (fun j hj => B2.block j (by omega)) HL.out
      cases hc1
      have HCX := Lib.hid hcx; have HCA := Lib.hid hca
      clear hcx hca HL p0 p1 p2 p3
      obtain ⟨p0, p1, p2, p3⟩ := HBX.out.cells
      go_wp2_with fail
      clear p0 p1 p2 p3
      go_loopw [4, 5] (fun v i wr => ∃ j : Nat, j ≤ l.length ∧ i = .int .i64 j ∧ v = .string ⟨(91 :: prL true (l.take j)).toArray⟩ ∧ Below w2.heap.size w2 wr) (fun _ i _ => l.length - (intOf i).toNat)
      case atStart => exact ⟨0, Nat.zero_le _, rfl, by simp [prL], Below.refl _ _⟩
      case round =>
        obtain ⟨j, hj1, rfl, rfl, hbel⟩ := hrel
        obtain ⟨p0, p1, p2, p3⟩ := (HBX.out.on hbel).cells
        have hsr := hbel.size
        have hple := HPLE.out
        have htk : (prL true (l.take j)).length ≤ (prL true l).length := prL_take_le l j
        have hsz0 : (⟨(91 :: prL true (l.take j)).toArray⟩ : ByteArray).size ≤ 20000000 := by rw [size_mk]; simp only [List.length_cons]; omega
        generalize hsb : (⟨(91 :: prL true (l.take j)).toArray⟩ : ByteArray) = sb at *
        have HSB := Lib.hid hsb
        clear hsb hple htk
        by_cases hl : j < l.length
        · obtain ⟨x0, x1, x2, x3, g0, g1, g2, g3, gr⟩ := HCX.out j hl
          have hcb' : cb < B := hcb (by omega)
          obtain rfl := HCA.out (by omega)
          rw [← hbel.cell (by simp; omega)] at g0 g1 g2 g3
          have htk2 : (prL true (l.take (j + 1))).length ≤ (prL true l).length := prL_take_le l (j + 1)
          have hts : prL true (l.take (j + 1)) = prL true (l.take j) ++ ((if j = 0 then [] else [44]) ++ prV l[j]) := by
            rw [List.take_succ_eq_append_getElem hl, prL_snoc]
            by_cases e : j = 0
            · subst e; simp
            · rw [if_neg (by simp [e]; intro h; rw [h] at hl; simp at hl), if_neg e]
          have hvl : (prV l[j]).length ≤ 20000000 := by
            have := HPLE.out
            rw [hts] at htk2
            simp only [List.length_append] at htk2
            omega
          have HTS := Lib.hid hts
          clear hts htk2
          by_cases hj0 : j = 0
          · have t0 : decide (0 < j) = false := by simp [hj0]
            have HJ0 := Lib.hid hj0; clear hj0
            go_wp2_with fail
            refine (HP.out l[j] (List.getElem_mem hl) B _ _ _ _ _ (by omega) (RepV.below (fun i hi => hbel.block i (by omega)) _ gr)).mono ?_
            rintro e w3 ⟨rfl, b3⟩
            rw [(HEL.out j hl).1]
            have B3 := hbel.trans (b3.mono hsr)
            have hsz1 : (⟨(prV l[j]).toArray⟩ : ByteArray).size ≤ 20000000 := by rw [size_mk]; exact hvl
            generalize hpb : (⟨(prV l[j]).toArray⟩ : ByteArray) = pb at *
            have HPB := Lib.hid hpb
            clear hpb g0 g1 g2 g3 p0 p1 p2 p3 b3
            go_wp2_with fail
            go_roundw
            case rel => exact ⟨j + 1, by omega, by go_num, by rw [HTS.out, if_pos HJ0.out, ← HSB.out, ← HPB.out, app_mk]; simp, B3⟩
            case measure => simp [intOf]; omega
          · have t0 : decide (0 < j) = true := by simp; omega
            have t1 : 0 < j := by omega
            have HJ0 := Lib.hid hj0; clear hj0
            go_wp2_with fail
            refine (HP.out l[j] (List.getElem_mem hl) B _ _ _ _ _ (by omega) (RepV.below (fun i hi => hbel.block i (by omega)) _ gr)).mono ?_
            rintro e w3 ⟨rfl, b3⟩
            rw [(HEL.out j hl).1]
            have B3 := hbel.trans (b3.mono hsr)
            have hsz1 : (⟨(prV l[j]).toArray⟩ : ByteArray).size ≤ 20000000 := by rw [size_mk]; exact hvl
            generalize hpb : (⟨(prV l[j]).toArray⟩ : ByteArray) = pb at *
            have HPB := Lib.hid hpb
            clear hpb g0 g1 g2 g3 p0 p1 p2 p3 b3
            go_wp2_with fail
            go_roundw
            case rel => exact ⟨j + 1, by omega, by go_num, by
              rw [HTS.out, if_neg HJ0.out, ← HSB.out, ← HPB.out]
              refine congrArg Value.string (ByteArray.ext ?_)
              simp only [ByteArray.data_append]
              simp, B3⟩
            case measure => simp [intOf]; omega
        · have hke : j = l.length := by omega
          have HSB2 : Hid ((⟨(91 :: prL true l).toArray⟩ : ByteArray) = sb) := by
            have := HSB.out
            rw [hke, List.take_length] at this
            exact this
          clear HSB hke
          go_wp2_with fail
          go_ret
          refine ⟨ret_ba ?_, B2.trans (hbel.mono hs2)⟩
          rw [HPR.out, HE.out, ← HSB2.out]
          apply ByteArray.ext
          simp only [ByteArray.data_append]
          simp

theorem refPrint_any (x : V) : RefPrintAt x := refPrint_of x (fun y _hy => refPrint_any y)
  termination_by SizeOf.sizeOf x
  decreasing_by
    have := List.sizeOf_lt_of_mem _hy
    cases x with
    | mk k n s l => simp only [V.mk.sizeOf_spec, V.list] at *; omega

end Go.Proofs.YtagehmcnihebdaaDoor
