/-
  The document's own Right, as a contract.
-/
import Derived.Test.YtaomlkglodeaoaaDoorW06
import Derived.Test.YtaomlkglodeaoaaDoorW15
import Derived.Test.YtaomlkglodeaoaaDoorW02
import Derived.Test.YtaomlkglodeaoaaDoorW04
namespace Go.Proofs.YtaomlkglodeaoaaDoor
open Go.RowKit

def DeepAt (d : Nat) (x : V) : Prop := ∀ (B : Nat) (w : World) (c0 c1 c2 c3 : Value), B ≤ w.heap.size → RepV B w x c0 c1 c2 c3 →
  Calls Tryd.prog 48 #[.agg #[c0, c1, c2, c3], .int .i64 d] w fun e w' => e = .returned (.bool (rightV d x)) ∧ Below w.heap.size w w'

theorem textB_iff (s : ByteArray) : textB s = true ↔ (s.size ≤ 32 ∧ ∀ i (h : i < s.size), okText (s[i].toNat : Int) = true) := by
  rw [textB, decide_eq_true_eq]

set_option maxRecDepth 100000 in
set_option maxHeartbeats 2000000 in
theorem deep_text (d : Nat) (n : Int) (s : ByteArray) (l : List V) : DeepAt d (.mk 2 n s l) := by
  intro B w c0 c1 c2 c3 hB hx
  rw [rightV_mk]
  rw [repV_mk] at hx
  obtain ⟨rfl, rfl, rfl, hk, hn, hs, hl⟩ := hx
  obtain ⟨aa, ab, ao, ac, rfl, hlac, hac, -⟩ := hl
  unfold maxLen at hs
  have hle : l.isEmpty = decide (l.length = 0) := by cases l <;> simp
  generalize hlen : l.length = len at *
  have HE := Lib.hid hle; clear hle hlen
  have hbb : Below w.heap.size w (w.alloc (.cells #[.int .i64 2, .int .i64 n, .string s, .slice aa len ac] 24)) := (Below.refl _ w).alloc (Nat.le_refl _) _
  by_cases hn0 : n = 0
  · subst hn0
    go_enter Tryd.func48, Tryd.ntmps48
    go_wp2_with fail
    have bx := boxed_new w (.int .i64 2) (.int .i64 0) (.string s) (.slice aa len ac)
    obtain ⟨p0, p1, p2, p3⟩ := bx.cells
    generalize w.alloc (.cells #[.int .i64 2, .int .i64 0, .string s, .slice aa len ac] 24) = w2 at *
    clear bx
    go_loop [5] (fun i => ∃ k : Nat, k ≤ s.size ∧ i = .int .i64 k ∧ Hid (∀ i (h : i < s.size), i < k → okText (s[i].toNat : Int) = true)) (fun i => s.size - (intOf i).toNat)
    case atStart => exact ⟨0, Nat.zero_le _, rfl, fun i _ hi => by omega⟩
    case round =>
      obtain ⟨k, hk2, rfl, hok⟩ := hrel
      by_cases hlt : k < s.size
      · obtain ⟨c, hcd⟩ : ∃ c : UInt8, s[k] = c := ⟨_, rfl⟩
        have HCC := Lib.hid hcd
        have hcu : (c.toNat : Int) ≤ 255 := by have := c.toNat_lt; omega
        have hcases : (c.toNat : Int) < 32 ∨ 126 < (c.toNat : Int) ∨ (c.toNat : Int) = 34 ∨ (c.toNat : Int) = 92 ∨ (32 ≤ (c.toNat : Int) ∧ (c.toNat : Int) ≤ 126 ∧ (c.toNat : Int) ≠ 34 ∧ (c.toNat : Int) ≠ 92) := by omega
        rcases hcases with a1 | a1 | a1 | a1 | ⟨a1, a2, a3, a4⟩
        · have t1 : decide ((c.toNat : Int) < 32) = true := by simp; omega
          have HOK : Hid (textB s = false) := textB_false hlt (by rw [hcd]; exact decide_eq_false (by omega))
          go_wp2_with fail
          go_ret
          exact ⟨ret_bool (by simp [baseB, HOK.out]), hbb⟩
        · have t1 : decide ((c.toNat : Int) < 32) = false := by simp; omega
          have t2 : decide (126 < (c.toNat : Int)) = true := by simp; omega
          have HOK : Hid (textB s = false) := textB_false hlt (by rw [hcd]; exact decide_eq_false (by omega))
          go_wp2_with fail
          go_ret
          exact ⟨ret_bool (by simp [baseB, HOK.out]), hbb⟩
        · have t1 : decide ((c.toNat : Int) < 32) = false := by simp; omega
          have t2 : decide (126 < (c.toNat : Int)) = false := by simp; omega
          have t3 : ((c.toNat : Int) == 34) = true := by simp; omega
          have HOK : Hid (textB s = false) := textB_false hlt (by rw [hcd]; exact decide_eq_false (by omega))
          clear a1
          go_wp2_with fail
          go_ret
          exact ⟨ret_bool (by simp [baseB, HOK.out]), hbb⟩
        · have t1 : decide ((c.toNat : Int) < 32) = false := by simp; omega
          have t2 : decide (126 < (c.toNat : Int)) = false := by simp; omega
          have t3 : ((c.toNat : Int) == 34) = false := by simp; omega
          have t4 : ((c.toNat : Int) == 92) = true := by simp; omega
          have HOK : Hid (textB s = false) := textB_false hlt (by rw [hcd]; exact decide_eq_false (by omega))
          clear a1
          go_wp2_with fail
          go_ret
          exact ⟨ret_bool (by simp [baseB, HOK.out]), hbb⟩
        · have t1 : decide ((c.toNat : Int) < 32) = false := by simp; omega
          have t2 : decide (126 < (c.toNat : Int)) = false := by simp; omega
          have t3 : ((c.toNat : Int) == 34) = false := by simp; omega
          have t4 : ((c.toNat : Int) == 92) = false := by simp; omega
          have HOK : Hid (okText (c.toNat : Int) = true) := decide_eq_true (by omega)
          go_wp2_with fail
          go_round
          case rel =>
            refine ⟨k + 1, by omega, by go_num, fun i hi hi2 => ?_⟩
            by_cases e : i = k
            · subst e; rw [HCC.out]; exact HOK.out
            · exact hok.out i hi (by omega)
          case measure => simp [intOf]; omega
      · have HF : Hid (textB s = decide (s.size ≤ 32)) := by
          show _ = _
          rw [Bool.eq_iff_iff, textB_iff, decide_eq_true_eq]
          exact ⟨fun h => h.1, fun h => ⟨h, fun i hi => hok.out i hi (by omega)⟩⟩
        by_cases h32 : s.size ≤ 32
        · have t1 : decide ((s.size : Int) ≤ 32) = true := by simp; omega
          by_cases hz : len = 0
          · have HB : Hid (baseB 2 0 s l (rightL d l) = true) := by show _ = _; simp [baseB, HF.out, HE.out, hz, h32]
            have t2 : ((len : Int) == 0) = true := by simp [hz]
            clear hz
            go_wp2_with fail
            go_ret
            exact ⟨ret_bool HB.out.symm, hbb⟩
          · have HB : Hid (baseB 2 0 s l (rightL d l) = false) := by show _ = _; simp [baseB, HE.out, hz]
            have t2 : ((len : Int) == 0) = false := by simp [hz]
            clear hz
            go_wp2_with fail
            go_ret
            exact ⟨ret_bool HB.out.symm, hbb⟩
        · have t1 : decide ((s.size : Int) ≤ 32) = false := by simp; omega
          have HB : Hid (baseB 2 0 s l (rightL d l) = false) := by show _ = _; simp [baseB, HF.out, h32]
          go_wp2_with fail
          go_ret
          exact ⟨ret_bool HB.out.symm, hbb⟩
  · have hn' : (n != 0) = true := by simp [hn0]
    have HB : Hid (baseB 2 n s l (rightL d l) = false) := by show _ = _; simp [baseB, hn0]
    clear hn0
    go_enter Tryd.func48, Tryd.ntmps48
    go_wp2_with fail
    go_ret
    exact ⟨ret_bool HB.out.symm, hbb⟩

set_option maxRecDepth 100000 in
set_option maxHeartbeats 2000000 in
theorem deep_plain (d : Nat) (k n : Int) (s : ByteArray) (l : List V) (h2 : k ≠ 2) (h4 : k ≠ 4) : DeepAt d (.mk k n s l) := by
  intro B w c0 c1 c2 c3 hB hx
  rw [rightV_mk]
  rw [repV_mk] at hx
  obtain ⟨rfl, rfl, rfl, hk, hn, hs, hl⟩ := hx
  obtain ⟨aa, ab, ao, ac, rfl, hlac, hac, -⟩ := hl
  have hle : l.isEmpty = decide (l.length = 0) := by cases l <;> simp
  generalize hlen : l.length = len at *
  have HE := Lib.hid hle; clear hle hlen
  have hbb : Below w.heap.size w (w.alloc (.cells #[.int .i64 k, .int .i64 n, .string s, .slice aa len ac] 24)) := (Below.refl _ w).alloc (Nat.le_refl _) _
  by_cases e1 : k = 1
  · subst e1
    clear h2 h4
    by_cases hz1 : s.toList = []
    · have hz1' : s.toList.isEmpty = true := by simp [hz1]
      by_cases hz : len = 0
      · have t2 : ((len : Int) == 0) = true := by simp [hz]
        by_cases ha : n ≤ 2147483647
        · have t3 : decide (n ≤ 2147483647) = true := by simpa using ha
          by_cases hb : -2147483647 ≤ n
          · have t4 : decide (-2147483647 ≤ n) = true := by simpa using hb
            have HB : Hid (baseB 1 n s l (rightL d l) = true) := by show _ = _; simp [baseB, HE.out, hz, hz1, ha, hb]
            clear hz
            go_enter Tryd.func48, Tryd.ntmps48
            go_wp2_with fail
            go_ret
            exact ⟨ret_bool HB.out.symm, hbb⟩
          · have t4 : decide (-2147483647 ≤ n) = false := by simpa using hb
            have HB : Hid (baseB 1 n s l (rightL d l) = false) := by show _ = _; simp [baseB, hb]
            clear hz
            go_enter Tryd.func48, Tryd.ntmps48
            go_wp2_with fail
            go_ret
            exact ⟨ret_bool HB.out.symm, hbb⟩
        · have t3 : decide (n ≤ 2147483647) = false := by simpa using ha
          have HB : Hid (baseB 1 n s l (rightL d l) = false) := by show _ = _; simp [baseB, ha]
          clear hz
          go_enter Tryd.func48, Tryd.ntmps48
          go_wp2_with fail
          go_ret
          exact ⟨ret_bool HB.out.symm, hbb⟩
      · have t2 : ((len : Int) == 0) = false := by simp [hz]
        have HB : Hid (baseB 1 n s l (rightL d l) = false) := by show _ = _; simp [baseB, HE.out, hz]
        clear hz
        go_enter Tryd.func48, Tryd.ntmps48
        go_wp2_with fail
        go_ret
        exact ⟨ret_bool HB.out.symm, hbb⟩
    · have hz1' : s.toList.isEmpty = false := by simpa using hz1
      have HB : Hid (baseB 1 n s l (rightL d l) = false) := by show _ = _; simp [baseB, hz1]
      go_enter Tryd.func48, Tryd.ntmps48
      go_wp2_with fail
      go_ret
      exact ⟨ret_bool HB.out.symm, hbb⟩
  have f1 : (k == 1) = false := by simp [e1]
  by_cases hn0 : n = 0
  · subst hn0
    by_cases e3 : k = 3
    · subst e3
      clear h2 h4 e1 f1
      by_cases hz : len = 0
      · have t2 : ((len : Int) == 0) = true := by simp [hz]
        have HB : Hid (baseB 3 0 s l (rightL d l) = nameB s) := by show _ = _; simp [baseB, HE.out, hz]
        clear hz
        go_enter Tryd.func48, Tryd.ntmps48
        go_wp2_with fail
        refine (refName_any _ _ hs).mono ?_
        rintro e w' ⟨rfl, rfl⟩
        cases hnb : nameB s with
        | true =>
          have HNB := Lib.hid hnb; clear hnb
          go_wp2_with fail
          go_ret
          exact ⟨ret_bool (by rw [HB.out, HNB.out]), hbb⟩
        | false =>
          have HNB := Lib.hid hnb; clear hnb
          go_wp2_with fail
          go_ret
          exact ⟨ret_bool (by rw [HB.out, HNB.out]), hbb⟩
      · have t2 : ((len : Int) == 0) = false := by simp [hz]
        have HB : Hid (baseB 3 0 s l (rightL d l) = false) := by show _ = _; simp [baseB, HE.out, hz]
        clear hz
        go_enter Tryd.func48, Tryd.ntmps48
        go_wp2_with fail
        refine (refName_any _ _ hs).mono ?_
        rintro e w' ⟨rfl, rfl⟩
        cases hnb : nameB s with
        | true =>
          have HNB := Lib.hid hnb; clear hnb
          go_wp2_with fail
          go_ret
          exact ⟨ret_bool HB.out.symm, hbb⟩
        | false =>
          have HNB := Lib.hid hnb; clear hnb
          go_wp2_with fail
          go_ret
          exact ⟨ret_bool HB.out.symm, hbb⟩
    · have f2 : (k == 2) = false := by simp [h2]
      have f3 : (k == 3) = false := by simp [e3]
      have f4 : (k == 4) = false := by simp [h4]
      have HB : Hid (baseB k 0 s l (rightL d l) = false) := by show _ = _; simp [baseB, e1, h2, e3, h4]
      clear e1 h2 e3 h4
      go_enter Tryd.func48, Tryd.ntmps48
      go_wp2_with fail
      go_ret
      exact ⟨ret_bool HB.out.symm, hbb⟩
  · have hn' : (n != 0) = true := by simp [hn0]
    have HB : Hid (baseB k n s l (rightL d l) = false) := by show _ = _; simp [baseB, hn0, e1]
    clear hn0 e1 h2 h4
    go_enter Tryd.func48, Tryd.ntmps48
    go_wp2_with fail
    go_ret
    exact ⟨ret_bool HB.out.symm, hbb⟩

set_option maxRecDepth 100000 in
set_option maxHeartbeats 2000000 in
theorem deep_list (d : Nat) (hd : d ≤ 100) (n : Int) (s : ByteArray) (l : List V) (hR : ∀ d', d = d' + 1 → ∀ x, DeepAt d' x) : DeepAt d (.mk 4 n s l) := by
  intro B w c0 c1 c2 c3 hB hx
  rw [rightV_mk]
  rw [repV_mk] at hx
  obtain ⟨rfl, rfl, rfl, hk, hn, hs, hl⟩ := hx
  have HL := Lib.hid hl
  obtain ⟨aa, ab, ao, ac, rfl, hlac, hac, -⟩ := hl
  have hbb : Below w.heap.size w (w.alloc (.cells #[.int .i64 4, .int .i64 n, .string s, .slice aa l.length ac] 24)) := (Below.refl _ w).alloc (Nat.le_refl _) _
  by_cases hn0 : n = 0
  · subst hn0
    by_cases hz1 : s.toList = []
    · have hz1' : s.toList.isEmpty = true := by simp [hz1]
      have HZ := Lib.hid hz1
      by_cases h16 : 16 < l.length
      · have t1 : decide (16 < (l.length : Int)) = true := by simp; omega
        have HB : Hid (baseB 4 0 s l (rightL d l) = false) := by show _ = _; simp [baseB, rightL_none d h16]
        go_enter Tryd.func48, Tryd.ntmps48
        go_wp2_with fail
        go_ret
        exact ⟨ret_bool HB.out.symm, hbb⟩
      · have t1 : decide (16 < (l.length : Int)) = false := by simp; omega
        match d, hd, hR with
        | 0, _, _ =>
          go_enter Tryd.func48, Tryd.ntmps48
          go_wp2_with fail
          go_ret
          exact ⟨ret_bool (by simp [baseB, rightL]), hbb⟩
        | d + 1, hd, hR =>
          have HR := Lib.hid (hR d rfl); clear hR
          rw [show (((d + 1 : Nat)) : Int) = (d : Int) + 1 from by omega]
          have t2 : decide ((d : Int) + 1 < 1) = false := by simp; omega
          have HBB : Hid (baseB 4 0 s l (rightL (d + 1) l) = l.all (rightV d)) := by
            show _ = _
            simp only [baseB, HZ.out, rightL]
            simp; omega
          go_enter Tryd.func48, Tryd.ntmps48
          go_wp2_with fail
          have bx := boxed_new w (.int .i64 4) (.int .i64 0) (.string s) (.slice aa l.length ac)
          generalize w.alloc (.cells #[.int .i64 4, .int .i64 0, .string s, .slice aa l.length ac] 24) = w2 at *
          have HBX := Lib.hid bx; clear bx
          have hs2 := hbb.size
          obtain ⟨ca, cb, co, cc, hc1, hcl, hc56, hca, hcb, hcx⟩ := RepL.below (w' := w2) (fun j hj => hbb.block j (by omega)) HL.out
          cases hc1
          have HCX := Lib.hid hcx; have HCA := Lib.hid hca
          clear hcx hca HL
          go_loopw [7] (fun i wr => ∃ k : Nat, k ≤ l.length ∧ i = .int .i64 k ∧ Hid ((l.take k).all (rightV d) = true) ∧ Below w2.heap.size w2 wr) (fun i _ => l.length - (intOf i).toNat)
          case atStart => exact ⟨0, Nat.zero_le _, rfl, by show _ = _; simp, Below.refl _ _⟩
          case round =>
            obtain ⟨k, hk1, rfl, hrec, hbel⟩ := hrel
            obtain ⟨p0, p1, p2, p3⟩ := (HBX.out.on hbel).cells
            have hsr := hbel.size
            by_cases hl : k < l.length
            · obtain ⟨x0, x1, x2, x3, g0, g1, g2, g3, gr⟩ := HCX.out k hl
              have hcb' : cb < B := hcb (by omega)
              obtain rfl := HCA.out (by omega)
              rw [← hbel.cell (by simp; omega)] at g0 g1 g2 g3
              go_wp2_with fail
              refine (HR.out l[k] B _ _ _ _ _ (by omega) (RepV.below (fun j hj => hbel.block j (by omega)) _ gr)).mono ?_
              rintro e w3 ⟨rfl, hbel3⟩
              have hbel4 : Below w2.heap.size w2 w3 := hbel.trans (hbel3.mono hsr)
              have HTS := Lib.hid (List.take_succ_eq_append_getElem hl)
              clear hbel3 g0 g1 g2 g3 p0 p1 p2 p3
              cases hc : rightV d l[k] with
              | true =>
                have HCZ := Lib.hid hc; clear hc
                go_wp2_with fail
                go_roundw
                case rel => exact ⟨k + 1, by omega, by go_num, by show _ = _; rw [HTS.out, List.all_append, hrec.out]; simp [HCZ.out], hbel4⟩
                case measure => simp [intOf]; omega
              | false =>
                have HCZ := Lib.hid hc; clear hc
                go_wp2_with fail
                go_ret
                refine ⟨ret_bool ?_, hbb.trans (hbel4.mono hs2)⟩
                rw [HBB.out]
                symm
                rw [List.all_eq_false]
                exact ⟨_, List.getElem_mem hl, by simp [HCZ.out]⟩
            · have HF : Hid (l.all (rightV d) = true) := by
                have h1 := hrec.out
                rw [List.take_of_length_le (by omega)] at h1
                exact h1
              go_wp2_with fail
              go_ret
              exact ⟨ret_bool (by rw [HBB.out, HF.out]), hbb.trans (hbel.mono hs2)⟩
    · have hz1' : s.toList.isEmpty = false := by simpa using hz1
      have HB : Hid (baseB 4 0 s l (rightL d l) = false) := by show _ = _; simp [baseB, hz1]
      go_enter Tryd.func48, Tryd.ntmps48
      go_wp2_with fail
      go_ret
      exact ⟨ret_bool HB.out.symm, hbb⟩
  · have hn' : (n != 0) = true := by simp [hn0]
    have HB : Hid (baseB 4 n s l (rightL d l) = false) := by show _ = _; simp [baseB, hn0]
    clear hn0
    go_enter Tryd.func48, Tryd.ntmps48
    go_wp2_with fail
    go_ret
    exact ⟨ret_bool HB.out.symm, hbb⟩

theorem deep_any : ∀ (d : Nat), d ≤ 100 → ∀ x, DeepAt d x
  | d, hd, .mk k n s l => by
    by_cases h2 : k = 2
    · rw [h2]; exact deep_text d n s l
    · by_cases h4 : k = 4
      · rw [h4]
        refine deep_list d hd n s l (fun d' e x => ?_)
        subst e
        exact deep_any d' (by omega) x
      · exact deep_plain d k n s l h2 h4

set_option maxRecDepth 100000 in
set_option maxHeartbeats 1000000 in
theorem refRight_any (x : V) (B : Nat) (w : World) (c0 c1 c2 c3 : Value) (hB : B ≤ w.heap.size) (hx : RepV B w x c0 c1 c2 c3) :
    Calls Tryd.prog 25 #[.agg #[c0, c1, c2, c3]] w fun e w' => e = .returned (.bool (rightV 4 x)) ∧ Below w.heap.size w w' := by
  have HR := Lib.hid (deep_any 4 (by omega))
  obtain ⟨fa, fc, rfl, rfl, rfl, rfl⟩ := hx.form
  have HX := Lib.hid hx; clear hx
  go_enter Tryd.func25, Tryd.ntmps25
  go_wp2_with fail
  have hbb : Below w.heap.size w (w.alloc (.cells #[.int .i64 x.kind, .int .i64 x.num, .string x.text, .slice fa x.list.length fc] 24)) :=
    ((Below.refl _ w).alloc (Nat.le_refl _) _)
  refine (HR.out x B _ _ _ _ _ (by simp; omega) (RepV.below (fun j hj => hbb.block j (by omega)) _ HX.out)).mono ?_
  rintro e w' ⟨rfl, hb⟩
  go_wp2_with fail
  go_ret
  exact ⟨rfl, hbb.trans (hb.mono (by simp))⟩

end Go.Proofs.YtaomlkglodeaoaaDoor

/-
  The document's own Compare, as a contract.
-/
namespace Go.Proofs.YtaomlkglodeaoaaDoor
open Go.RowKit

theorem sign_any (a b : Bool) (w : World) : Calls Tryd.prog 49 #[.bool a, .bool b] w fun e w' => e = .returned (.int .i64 (if a = true then -1 else if b = true then 1 else 0)) ∧ w = w' := by
  cases a <;> cases b
  all_goals
    go_enter Tryd.func49, Tryd.ntmps49
    go_wp2
    go_ret
    exact ⟨rfl, rfl⟩

def RefCmpAt (x y : V) : Prop := ∀ (B : Nat) (w : World) (c0 c1 c2 c3 d0 d1 d2 d3 : Value), B ≤ w.heap.size → RepV B w x c0 c1 c2 c3 → RepV B w y d0 d1 d2 d3 →
  Calls Tryd.prog 27 #[.agg #[c0, c1, c2, c3], .agg #[d0, d1, d2, d3]] w fun e w' => e = .returned (.int .i64 (cmpV x y)) ∧ Below w.heap.size w w'

theorem cmpI_sign (n m : Int) : (if decide (n < m) = true then (-1 : Int) else if decide (m < n) = true then 1 else 0) = Lib.compareInt n m := by
  unfold Lib.compareInt; simp
theorem cmpS_sign (s s' : ByteArray) : (if Op.bytesLess s.toList s'.toList = true then (-1 : Int) else if (!(Op.bytesLess s.toList s'.toList) && !(s.toList == s'.toList)) = true then 1 else 0) = cmpS s s' := by
  unfold cmpS
  cases Op.bytesLess s.toList s'.toList <;> cases (s.toList == s'.toList) <;> simp

set_option maxHeartbeats 2000000 in
set_option maxRecDepth 100000 in
theorem refCmp_any (x y : V) : RefCmpAt x y := by
  match x, y with
  | .mk k n s l, .mk k' n' s' l' =>
  have hC : ∀ z, z ∈ l → ∀ y, RefCmpAt z y := fun z _hz y => refCmp_any z y
  have HC := Lib.hid hC; clear hC
  intro B w c0 c1 c2 c3 d0 d1 d2 d3 hB hx hy
  rw [repV_mk] at hx hy
  obtain ⟨rfl, rfl, rfl, hk, hn, hs, hl⟩ := hx
  obtain ⟨rfl, rfl, rfl, hk', hn', hs', hl'⟩ := hy
  have HL := Lib.hid hl
  have HL' := Lib.hid hl'
  obtain ⟨aa, ab, ao, ac, rfl, -⟩ := hl
  obtain ⟨ba, bb, bo, bc, rfl, -⟩ := hl'
  have hbb : Below w.heap.size w ((w.alloc (.cells #[.int .i64 k, .int .i64 n, .string s, .slice aa l.length ac] 24)).alloc (.cells #[.int .i64 k', .int .i64 n', .string s', .slice ba l'.length bc] 24)) :=
    ((Below.refl _ w).alloc (Nat.le_refl _) _).alloc (by simp) _
  by_cases e : k = k'
  · subst e
    by_cases e1 : k = 1
    · subst e1
      have HF : Hid (cmpV (.mk 1 n s l) (.mk 1 n' s' l') = Lib.compareInt n n') := by show _ = _; simp [cmpV]
      go_enter Tryd.func27, Tryd.ntmps27
      go_wp2_with fail
      refine (sign_any _ _ _).mono ?_
      rintro e w' ⟨rfl, rfl⟩
      rw [cmpI_sign]
      go_wp2_with fail
      go_ret
      exact ⟨ret_int HF.out.symm, hbb⟩
    · by_cases e23 : k = 2 ∨ k = 3
      · have HF : Hid (cmpV (.mk k n s l) (.mk k n' s' l') = cmpS s s') := by show _ = _; simp [cmpV, e1, e23]
        have f1 : (k == 1) = false := by simp [e1]
        have f4 : (k == 4) = false := by rcases e23 with h | h <;> simp [h]
        clear e1
        rcases e23 with rfl | rfl
        all_goals
          go_enter Tryd.func27, Tryd.ntmps27
          go_wp2_with fail
          refine (sign_any _ _ _).mono ?_
          rintro e w' ⟨rfl, rfl⟩
          rw [cmpS_sign]
          go_wp2_with fail
          go_ret
          exact ⟨ret_int HF.out.symm, hbb⟩
      · have e2 : ¬ k = 2 := fun h => e23 (Or.inl h)
        have e3 : ¬ k = 3 := fun h => e23 (Or.inr h)
        have f1 : (k == 1) = false := by simp [e1]
        have f2 : (k == 2) = false := by simp [e2]
        have f3 : (k == 3) = false := by simp [e3]
        by_cases e4 : k = 4
        · have HF : Hid (cmpV (.mk k n s l) (.mk k n' s' l') = cmpL l l') := by show _ = _; simp [cmpV, e4]
          subst e4
          clear e1 e2 e3 e23 f1 f2 f3
          go_enter Tryd.func27, Tryd.ntmps27
          go_wp2_with fail
          have x1 := boxed_new w (.int .i64 4) (.int .i64 n) (.string s) (.slice aa l.length ac)
          have b1 := (Below.refl _ w).alloc (Nat.le_refl _) (.cells #[.int .i64 4, .int .i64 n, .string s, .slice aa l.length ac] 24)
          have s1 := World.size_alloc w (.cells #[.int .i64 4, .int .i64 n, .string s, .slice aa l.length ac] 24)
          generalize w.alloc (.cells #[.int .i64 4, .int .i64 n, .string s, .slice aa l.length ac] 24) = w1 at *
          have y2 := boxed_new w1 (.int .i64 4) (.int .i64 n') (.string s') (.slice ba l'.length bc)
          have b2 := (Below.refl _ w1).alloc (Nat.le_refl _) (.cells #[.int .i64 4, .int .i64 n', .string s', .slice ba l'.length bc] 24)
          generalize w1.alloc (.cells #[.int .i64 4, .int .i64 n', .string s', .slice ba l'.length bc] 24) = w2 at *
          rw [s1] at y2
          have x2 := x1.on b2
          clear x1 b1 b2 s1
          have hs2 := hbb.size
          have HX2 := Lib.hid x2; have HY2 := Lib.hid y2; clear x2 y2
          obtain ⟨ca, cb, co, cc, hc1, hcl, hc56, hca, hcb, hcx⟩ := RepL.below (w' := w2) (fun j hj => hbb.block j (by omega)) HL.out
          cases hc1
          obtain ⟨da, db, dd, dc, hd1, hdl, hd56, hda, hdb, hdx⟩ := RepL.below (w' := w2) (fun j hj => hbb.block j (by omega)) HL'.out
          cases hd1
          have HCX := Lib.hid hcx; have HDX := Lib.hid hdx; have HCA := Lib.hid hca; have HDA := Lib.hid hda
          clear hcx hdx hca hda HL HL'
          go_loopw [5] (fun i wr => ∃ j : Nat, j ≤ l.length ∧ j ≤ l'.length ∧ i = .int .i64 j ∧ Hid (cmpL l l' = cmpL (l.drop j) (l'.drop j)) ∧ Below w2.heap.size w2 wr) (fun i _ => min l.length l'.length - (intOf i).toNat)
          case atStart => exact ⟨0, Nat.zero_le _, Nat.zero_le _, rfl, rfl, Below.refl _ _⟩
          case round =>
            obtain ⟨j, hj1, hj2, rfl, hrec, hbel⟩ := hrel
            obtain ⟨p0, p1, p2, p3⟩ := (HX2.out.on hbel).cells
            obtain ⟨q0, q1, q2, q3⟩ := (HY2.out.on hbel).cells
            have hsr := hbel.size
            by_cases hlt : j < l.length ∧ j < l'.length
            · obtain ⟨hl, hm⟩ := hlt
              obtain ⟨x0, x1, x2, x3, g0, g1, g2, g3, gr⟩ := HCX.out j hl
              obtain ⟨y0, y1, y2, y3, e0, e1, e2, e3, er⟩ := HDX.out j hm
              have hcb' : cb < B := hcb (by omega)
              have hdb' : db < B := hdb (by omega)
              obtain rfl := HCA.out (by omega)
              obtain rfl := HDA.out (by omega)
              rw [← hbel.cell (by simp; omega)] at g0 g1 g2 g3 e0 e1 e2 e3
              go_wp2_with fail
              go_still_tail 10, (by kernel_rfl)
              change wpList _ _ _ _ _ wr.drew
              have hbel2 : Below w2.heap.size w2 wr.drew := hbel.drew
              clear g0 g1 g2 g3 e0 e1 e2 e3 hbel p0 p1 p2 p3 q0 q1 q2 q3
              generalize wr.drew = w5 at *
              have hs5 := hbel2.size
              go_wp2_with fail
              refine (HC.out _ (List.getElem_mem hl) _ B w5 _ _ _ _ _ _ _ _ (by omega) (RepV.below (fun j hj => hbel2.block j (by omega)) _ gr) (RepV.below (fun j hj => hbel2.block j (by omega)) _ er)).mono ?_
              rintro e w6 ⟨rfl, hbel3⟩
              have hbel4 : Below w2.heap.size w2 w6 := hbel2.trans (hbel3.mono hs5)
              have hcons := cmpL_at hl hm
              generalize cmpV l[j] l'[j] = c at *
              have HN := Lib.hid hcons; clear hcons
              by_cases hc : c = 0
              · have hc' : (c != 0) = false := by simp [hc]
                have HCZ := Lib.hid hc; clear hc
                go_wp2_with fail
                go_roundw
                case rel => exact ⟨j + 1, by omega, by omega, by go_num, by show _ = _; rw [hrec.out, HN.out, if_neg (by simp [HCZ.out])], hbel4⟩
                case measure => simp [intOf]; omega
              · have hc' : (c != 0) = true := by simp [hc]
                have HCZ := Lib.hid hc; clear hc
                go_wp2_with fail
                go_ret
                exact ⟨ret_int (by rw [HF.out, hrec.out, HN.out, if_pos HCZ.out]), hbb.trans (hbel4.mono hs2)⟩
            · have hfin : cmpV (.mk 4 n s l) (.mk 4 n' s' l') = Lib.compareInt l.length l'.length := by rw [HF.out, hrec.out]; exact cmpL_end hj1 hj2 hlt
              have HFF := Lib.hid hfin; clear hfin hrec
              by_cases hjl : j < l.length
              · have t1 : decide (j < l'.length) = false := by simp; omega
                go_wp2_with fail
                refine (sign_any _ _ _).mono ?_
                rintro e w' ⟨rfl, rfl⟩
                go_wp2_with fail
                all_goals
                  go_ret
                  refine ⟨ret_int ?_, hbb.trans (hbel.mono hs2)⟩
                  rw [HFF.out]; unfold Lib.compareInt
                  (repeat' split) <;> omega
              · have t1 : decide (j < l.length) = false := by simp; omega
                go_wp2_with fail
                refine (sign_any _ _ _).mono ?_
                rintro e w' ⟨rfl, rfl⟩
                go_wp2_with fail
                all_goals
                  go_ret
                  refine ⟨ret_int ?_, hbb.trans (hbel.mono hs2)⟩
                  rw [HFF.out]; unfold Lib.compareInt
                  (repeat' split) <;> omega
        · have f4 : (k == 4) = false := by simp [e4]
          have HF : Hid (cmpV (.mk k n s l) (.mk k n' s' l') = 0) := by show _ = _; simp [cmpV, e1, e2, e3, e4]
          clear e1 e2 e3 e4 e23
          go_enter Tryd.func27, Tryd.ntmps27
          go_wp2_with fail
          go_ret
          exact ⟨ret_int HF.out.symm, hbb⟩
  · have f1 : (k != k') = true := by simp [e]
    have HF : Hid (cmpV (.mk k n s l) (.mk k' n' s' l') = if decide (k < k') = true then -1 else if true = true then 1 else 0) := by
      show _ = _
      simp only [cmpV, ne_eq, e, not_false_iff, if_true]
      unfold Lib.compareInt
      by_cases h : k < k' <;> simp [h]; omega
    clear e
    go_enter Tryd.func27, Tryd.ntmps27
    go_wp2_with fail
    refine (sign_any _ _ _).mono ?_
    rintro e w' ⟨rfl, rfl⟩
    rw [show (if decide (k < k') = true then (-1 : Int) else if true = true then 1 else 0) = cmpV (.mk k n s l) (.mk k' n' s' l') from by rw [HF.out]; simp]
    go_wp2_with fail
    go_ret
    exact ⟨rfl, hbb⟩
  termination_by SizeOf.sizeOf x
  decreasing_by
    have := List.sizeOf_lt_of_mem _hz
    simp only [V.mk.sizeOf_spec]
    omega

end Go.Proofs.YtaomlkglodeaoaaDoor
