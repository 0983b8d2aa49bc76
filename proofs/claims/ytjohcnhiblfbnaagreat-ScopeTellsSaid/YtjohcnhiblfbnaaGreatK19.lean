/-
  RefRight, RfSmall
-/
import Derived.Test.YtjohcnhiblfbnaaGreatK08
import Derived.Test.YtjohcnhiblfbnaaGreatK18
import Derived.Test.YtjohcnhiblfbnaaGreatK01
import Derived.Test.YtjohcnhiblfbnaaGreatK15
namespace Go.Proofs.YtjohcnhiblfbnaaGreat
open Go.RowKit
def DeepAt (d : Nat) (x : V) : Prop := ∀ (B : Nat) (w : World) (c0 c1 c2 c3 : Value), B ≤ w.heap.size → RepV B w x c0 c1 c2 c3 →
 Calls Tryz.prog 101 #[.agg #[c0, c1, c2, c3], .int .i64 d] w fun e w' => e = .returned (.bool (rightV d x)) ∧ Below w.heap.size w w'
theorem textB_iff (s : ByteArray) : textB s = true ↔ (s.size ≤ 32 ∧ ∀ i (h : i < s.size), okText (s[i].toNat : Int) = true) := by
 rw [textB, decide_eq_true_eq]
set_option maxRecDepth 100000 in
set_option maxHeartbeats 2000000 in
theorem deep_text (d : Nat) (n : Int) (s : ByteArray) (l : List V) : DeepAt d (.mk 2 n s l) := by
 intro B w c0 c1 c2 c3 hB hx;rw [rightV_mk];rw [repV_mk] at hx;obtain ⟨rfl, rfl, rfl, hk, hn, hs, hl⟩ := hx;obtain ⟨aa, ab, ao, ac, rfl, hlac, hac, -⟩ := hl;unfold maxLen at hs;have hle : l.isEmpty = decide (l.length = 0) := by cases l <;> simp
 generalize hlen : l.length = len at *;have HE := Lib.hid hle; clear hle hlen
 have hbb : Below w.heap.size w (w.alloc (.cells #[.int .i64 2, .int .i64 n, .string s, .slice aa len ac] 31)) := (Below.refl _ w).alloc (Nat.le_refl _) _
 by_cases hn0 : n = 0
 ·subst hn0
  go_enter Tryz.func101, Tryz.ntmps101
  go_wp2_with fail
  have bx := boxed_new w (.int .i64 2) (.int .i64 0) (.string s) (.slice aa len ac);obtain ⟨p0, p1, p2, p3⟩ := bx.cells;generalize w.alloc (.cells #[.int .i64 2, .int .i64 0, .string s, .slice aa len ac] 31) = w2 at *;clear bx;go_loop [5] (fun i => ∃ k : Nat, k ≤ s.size ∧ i = .int .i64 k ∧ Hid (∀ i (h : i < s.size), i < k → okText (s[i].toNat : Int) = true)) (fun i => s.size - (intOf i).toNat)
  case atStart => exact ⟨0, Nat.zero_le _, rfl, fun i _ hi => by omega⟩
  case round =>
   obtain ⟨k, hk2, rfl, hok⟩ := hrel
   by_cases hlt : k < s.size
   ·obtain ⟨c, hcd⟩ : ∃ c : UInt8, s[k] = c := ⟨_, rfl⟩
    have HCC := Lib.hid hcd;have hcu : (c.toNat : Int) ≤ 255 := by have := c.toNat_lt; omega
    have hcases : (c.toNat : Int) < 32 ∨ 126 < (c.toNat : Int) ∨ (c.toNat : Int) = 34 ∨ (c.toNat : Int) = 92 ∨ (32 ≤ (c.toNat : Int) ∧ (c.toNat : Int) ≤ 126 ∧ (c.toNat : Int) ≠ 34 ∧ (c.toNat : Int) ≠ 92) := by omega
    rcases hcases with a1 | a1 | a1 | a1 | ⟨a1, a2, a3, a4⟩
    ·have t1 : decide ((c.toNat : Int) < 32) = true := by simp; omega
     have HOK : Hid (textB s = false) := textB_false hlt (by rw [hcd]; exact decide_eq_false (by omega));go_wp2_with fail
     go_ret
     exact ⟨ret_bool (by simp [baseB, HOK.out]), hbb⟩
    ·have t1 : decide ((c.toNat : Int) < 32) = false := by simp; omega
     have t2 : decide (126 < (c.toNat : Int)) = true := by simp; omega
     have HOK : Hid (textB s = false) := textB_false hlt (by rw [hcd]; exact decide_eq_false (by omega));go_wp2_with fail
     go_ret
     exact ⟨ret_bool (by simp [baseB, HOK.out]), hbb⟩
    ·have t1 : decide ((c.toNat : Int) < 32) = false := by simp; omega
     have t2 : decide (126 < (c.toNat : Int)) = false := by simp; omega
     have t3 : ((c.toNat : Int) == 34) = true := by simp; omega
     have HOK : Hid (textB s = false) := textB_false hlt (by rw [hcd]; exact decide_eq_false (by omega));clear a1;go_wp2_with fail
     go_ret
     exact ⟨ret_bool (by simp [baseB, HOK.out]), hbb⟩
    ·have t1 : decide ((c.toNat : Int) < 32) = false := by simp; omega
     have t2 : decide (126 < (c.toNat : Int)) = false := by simp; omega
     have t3 : ((c.toNat : Int) == 34) = false := by simp; omega
     have t4 : ((c.toNat : Int) == 92) = true := by simp; omega
     have HOK : Hid (textB s = false) := textB_false hlt (by rw [hcd]; exact decide_eq_false (by omega));clear a1;go_wp2_with fail
     go_ret
     exact ⟨ret_bool (by simp [baseB, HOK.out]), hbb⟩
    ·have t1 : decide ((c.toNat : Int) < 32) = false := by simp; omega
     have t2 : decide (126 < (c.toNat : Int)) = false := by simp; omega
     have t3 : ((c.toNat : Int) == 34) = false := by simp; omega
     have t4 : ((c.toNat : Int) == 92) = false := by simp; omega
     have HOK : Hid (okText (c.toNat : Int) = true) := decide_eq_true (by omega);go_wp2_with fail
     go_round
     case rel =>
      refine ⟨k + 1, by omega, by go_num, fun i hi hi2 => ?_⟩
      by_cases e : i = k
      ·subst e; rw [HCC.out]; exact HOK.out
      ·exact hok.out i hi (by omega)
     case measure => simp [intOf]; omega
   ·have HF : Hid (textB s = decide (s.size ≤ 32)) := by
     show _ = _
     rw [Bool.eq_iff_iff, textB_iff, decide_eq_true_eq];exact ⟨fun h => h.1, fun h => ⟨h, fun i hi => hok.out i hi (by omega)⟩⟩
    by_cases h32 : s.size ≤ 32
    ·have t1 : decide ((s.size : Int) ≤ 32) = true := by simp; omega
     by_cases hz : len = 0
     ·have HB : Hid (baseB 2 0 s l (rightL d l) = true) := by show _ = _; simp [baseB, HF.out, HE.out, hz, h32]
      have t2 : ((len : Int) == 0) = true := by simp [hz]
      clear hz;go_wp2_with fail
      go_ret
      exact ⟨ret_bool HB.out.symm, hbb⟩
     ·have HB : Hid (baseB 2 0 s l (rightL d l) = false) := by show _ = _; simp [baseB, HE.out, hz]
      have t2 : ((len : Int) == 0) = false := by simp [hz]
      clear hz;go_wp2_with fail
      go_ret
      exact ⟨ret_bool HB.out.symm, hbb⟩
    ·have t1 : decide ((s.size : Int) ≤ 32) = false := by simp; omega
     have HB : Hid (baseB 2 0 s l (rightL d l) = false) := by show _ = _; simp [baseB, HF.out, h32]
     go_wp2_with fail
     go_ret
     exact ⟨ret_bool HB.out.symm, hbb⟩
 ·have hn' : (n != 0) = true := by simp [hn0]
  have HB : Hid (baseB 2 n s l (rightL d l) = false) := by show _ = _; simp [baseB, hn0]
  clear hn0;go_enter Tryz.func101, Tryz.ntmps101
  go_wp2_with fail
  go_ret
  exact ⟨ret_bool HB.out.symm, hbb⟩
set_option maxRecDepth 100000 in
set_option maxHeartbeats 2000000 in
theorem deep_plain (d : Nat) (k n : Int) (s : ByteArray) (l : List V) (h2 : k ≠ 2) (h4 : k ≠ 4) : DeepAt d (.mk k n s l) := by
 intro B w c0 c1 c2 c3 hB hx;rw [rightV_mk];rw [repV_mk] at hx;obtain ⟨rfl, rfl, rfl, hk, hn, hs, hl⟩ := hx;obtain ⟨aa, ab, ao, ac, rfl, hlac, hac, -⟩ := hl;have hle : l.isEmpty = decide (l.length = 0) := by cases l <;> simp
 generalize hlen : l.length = len at *;have HE := Lib.hid hle; clear hle hlen
 have hbb : Below w.heap.size w (w.alloc (.cells #[.int .i64 k, .int .i64 n, .string s, .slice aa len ac] 31)) := (Below.refl _ w).alloc (Nat.le_refl _) _
 by_cases e1 : k = 1
 ·subst e1
  clear h2 h4
  by_cases hz1 : s.toList = []
  ·have hz1' : s.toList.isEmpty = true := by simp [hz1]
   by_cases hz : len = 0
   ·have t2 : ((len : Int) == 0) = true := by simp [hz]
    by_cases ha : n ≤ 2147483647
    ·have t3 : decide (n ≤ 2147483647) = true := by simpa using ha
     by_cases hb : -2147483647 ≤ n
     ·have t4 : decide (-2147483647 ≤ n) = true := by simpa using hb
      have HB : Hid (baseB 1 n s l (rightL d l) = true) := by show _ = _; simp [baseB, HE.out, hz, hz1, ha, hb]
      clear hz;go_enter Tryz.func101, Tryz.ntmps101
      go_wp2_with fail
      go_ret
      exact ⟨ret_bool HB.out.symm, hbb⟩
     ·have t4 : decide (-2147483647 ≤ n) = false := by simpa using hb
      have HB : Hid (baseB 1 n s l (rightL d l) = false) := by show _ = _; simp [baseB, hb]
      clear hz;go_enter Tryz.func101, Tryz.ntmps101
      go_wp2_with fail
      go_ret
      exact ⟨ret_bool HB.out.symm, hbb⟩
    ·have t3 : decide (n ≤ 2147483647) = false := by simpa using ha
     have HB : Hid (baseB 1 n s l (rightL d l) = false) := by show _ = _; simp [baseB, ha]
     clear hz;go_enter Tryz.func101, Tryz.ntmps101
     go_wp2_with fail
     go_ret
     exact ⟨ret_bool HB.out.symm, hbb⟩
   ·have t2 : ((len : Int) == 0) = false := by simp [hz]
    have HB : Hid (baseB 1 n s l (rightL d l) = false) := by show _ = _; simp [baseB, HE.out, hz]
    clear hz;go_enter Tryz.func101, Tryz.ntmps101
    go_wp2_with fail
    go_ret
    exact ⟨ret_bool HB.out.symm, hbb⟩
  ·have hz1' : s.toList.isEmpty = false := by simpa using hz1
   have HB : Hid (baseB 1 n s l (rightL d l) = false) := by show _ = _; simp [baseB, hz1]
   go_enter Tryz.func101, Tryz.ntmps101
   go_wp2_with fail
   go_ret
   exact ⟨ret_bool HB.out.symm, hbb⟩
 have f1 : (k == 1) = false := by simp [e1]
 by_cases hn0 : n = 0
 ·subst hn0
  by_cases e3 : k = 3
  ·subst e3
   clear h2 h4 e1 f1
   by_cases hz : len = 0
   ·have t2 : ((len : Int) == 0) = true := by simp [hz]
    have HB : Hid (baseB 3 0 s l (rightL d l) = nameB s) := by show _ = _; simp [baseB, HE.out, hz]
    clear hz;go_enter Tryz.func101, Tryz.ntmps101
    go_wp2_with fail
    refine (refName_any _ _ hs).mono ?_;rintro e w' ⟨rfl, rfl⟩
    cases hnb : nameB s with
    | true =>
     have HNB := Lib.hid hnb; clear hnb
     go_wp2_with fail
     go_ret
     exact ⟨ret_bool (by rw [HB.out, HNB.out]), hbb⟩
    | false =>
     have HNB := Lib.hid hnb; clear hnb
     go_wp2_with fail
     go_ret
     exact ⟨ret_bool (by rw [HB.out, HNB.out]), hbb⟩
   ·have t2 : ((len : Int) == 0) = false := by simp [hz]
    have HB : Hid (baseB 3 0 s l (rightL d l) = false) := by show _ = _; simp [baseB, HE.out, hz]
    clear hz;go_enter Tryz.func101, Tryz.ntmps101
    go_wp2_with fail
    refine (refName_any _ _ hs).mono ?_;rintro e w' ⟨rfl, rfl⟩
    cases hnb : nameB s with
    | true =>
     have HNB := Lib.hid hnb; clear hnb
     go_wp2_with fail
     go_ret
     exact ⟨ret_bool HB.out.symm, hbb⟩
    | false =>
     have HNB := Lib.hid hnb; clear hnb
     go_wp2_with fail
     go_ret
     exact ⟨ret_bool HB.out.symm, hbb⟩
  ·have f2 : (k == 2) = false := by simp [h2]
   have f3 : (k == 3) = false := by simp [e3]
   have f4 : (k == 4) = false := by simp [h4]
   have HB : Hid (baseB k 0 s l (rightL d l) = false) := by show _ = _; simp [baseB, e1, h2, e3, h4]
   clear e1 h2 e3 h4;go_enter Tryz.func101, Tryz.ntmps101
   go_wp2_with fail
   go_ret
   exact ⟨ret_bool HB.out.symm, hbb⟩
 ·have hn' : (n != 0) = true := by simp [hn0]
  have HB : Hid (baseB k n s l (rightL d l) = false) := by show _ = _; simp [baseB, hn0, e1]
  clear hn0 e1 h2 h4;go_enter Tryz.func101, Tryz.ntmps101
  go_wp2_with fail
  go_ret
  exact ⟨ret_bool HB.out.symm, hbb⟩
set_option maxRecDepth 100000 in
set_option maxHeartbeats 2000000 in
theorem deep_list (d : Nat) (hd : d ≤ 100) (n : Int) (s : ByteArray) (l : List V) (hR : ∀ d', d = d' + 1 → ∀ x, DeepAt d' x) : DeepAt d (.mk 4 n s l) := by
 intro B w c0 c1 c2 c3 hB hx;rw [rightV_mk];rw [repV_mk] at hx;obtain ⟨rfl, rfl, rfl, hk, hn, hs, hl⟩ := hx;have HL := Lib.hid hl;obtain ⟨aa, ab, ao, ac, rfl, hlac, hac, -⟩ := hl;have hbb : Below w.heap.size w (w.alloc (.cells #[.int .i64 4, .int .i64 n, .string s, .slice aa l.length ac] 31)) := (Below.refl _ w).alloc (Nat.le_refl _) _
 by_cases hn0 : n = 0
 ·subst hn0
  by_cases hz1 : s.toList = []
  ·have hz1' : s.toList.isEmpty = true := by simp [hz1]
   have HZ := Lib.hid hz1
   by_cases h16 : 16 < l.length
   ·have t1 : decide (16 < (l.length : Int)) = true := by simp; omega
    have HB : Hid (baseB 4 0 s l (rightL d l) = false) := by show _ = _; simp [baseB, rightL_none d h16]
    go_enter Tryz.func101, Tryz.ntmps101
    go_wp2_with fail
    go_ret
    exact ⟨ret_bool HB.out.symm, hbb⟩
   ·have t1 : decide (16 < (l.length : Int)) = false := by simp; omega
    match d, hd, hR with
    | 0, _, _ =>
     go_enter Tryz.func101, Tryz.ntmps101
     go_wp2_with fail
     go_ret
     exact ⟨ret_bool (by simp [baseB, rightL]), hbb⟩
    | d + 1, hd, hR =>
     have HR := Lib.hid (hR d rfl); clear hR
     rw [show (((d + 1 : Nat)) : Int) = (d : Int) + 1 from by omega];have t2 : decide ((d : Int) + 1 < 1) = false := by simp; omega
     have HBB : Hid (baseB 4 0 s l (rightL (d + 1) l) = l.all (rightV d)) := by
      show _ = _
      simp only [baseB, HZ.out, rightL]
      simp; omega
     go_enter Tryz.func101, Tryz.ntmps101
     go_wp2_with fail
     have bx := boxed_new w (.int .i64 4) (.int .i64 0) (.string s) (.slice aa l.length ac);generalize w.alloc (.cells #[.int .i64 4, .int .i64 0, .string s, .slice aa l.length ac] 31) = w2 at *;have HBX := Lib.hid bx; clear bx
     have hs2 := hbb.size;obtain ⟨ca, cb, co, cc, hc1, hcl, hc56, hca, hcb, hcx⟩ := RepL.below (w' := w2) (fun j hj => hbb.block j (by omega)) HL.out
     cases hc1
     have HCX := Lib.hid hcx; have HCA := Lib.hid hca
     clear hcx hca HL;go_loopw [7] (fun i wr => ∃ k : Nat, k ≤ l.length ∧ i = .int .i64 k ∧ Hid ((l.take k).all (rightV d) = true) ∧ Below w2.heap.size w2 wr) (fun i _ => l.length - (intOf i).toNat)
     case atStart => exact ⟨0, Nat.zero_le _, rfl, by show _ = _; simp, Below.refl _ _⟩
     case round =>
      obtain ⟨k, hk1, rfl, hrec, hbel⟩ := hrel;obtain ⟨p0, p1, p2, p3⟩ := (HBX.out.on hbel).cells;have hsr := hbel.size
      by_cases hl : k < l.length
      ·obtain ⟨x0, x1, x2, x3, g0, g1, g2, g3, gr⟩ := HCX.out k hl
       have hcb' : cb < B := hcb (by omega);obtain rfl := HCA.out (by omega);rw [← hbel.cell (by simp; omega)] at g0 g1 g2 g3;go_wp2_with fail
       refine (HR.out l[k] B _ _ _ _ _ (by omega) (RepV.below (fun j hj => hbel.block j (by omega)) _ gr)).mono ?_;rintro e w3 ⟨rfl, hbel3⟩;have hbel4 : Below w2.heap.size w2 w3 := hbel.trans (hbel3.mono hsr);have HTS := Lib.hid (List.take_succ_eq_append_getElem hl);clear hbel3 g0 g1 g2 g3 p0 p1 p2 p3
       cases hc : rightV d l[k] with
       | true =>
        have HCZ := Lib.hid hc; clear hc
        go_wp2_with fail
        go_roundw
        case rel => exact ⟨k + 1, by omega, by go_num, by show _ = _; rw [HTS.out, List.all_append, hrec.out]; simp [HCZ.out], hbel4⟩
        case measure => simp [intOf]; omega
       | false =>
        have HCZ := Lib.hid hc; clear hc
        go_wp2_with fail
        go_ret
        refine ⟨ret_bool ?_, hbb.trans (hbel4.mono hs2)⟩;rw [HBB.out]
        symm
        rw [List.all_eq_false];exact ⟨_, List.getElem_mem hl, by simp [HCZ.out]⟩
      ·have HF : Hid (l.all (rightV d) = true) := by
        have h1 := hrec.out;rw [List.take_of_length_le (by omega)] at h1;exact h1
       go_wp2_with fail
       go_ret
       exact ⟨ret_bool (by rw [HBB.out, HF.out]), hbb.trans (hbel.mono hs2)⟩
  ·have hz1' : s.toList.isEmpty = false := by simpa using hz1
   have HB : Hid (baseB 4 0 s l (rightL d l) = false) := by show _ = _; simp [baseB, hz1]
   go_enter Tryz.func101, Tryz.ntmps101
   go_wp2_with fail
   go_ret
   exact ⟨ret_bool HB.out.symm, hbb⟩
 ·have hn' : (n != 0) = true := by simp [hn0]
  have HB : Hid (baseB 4 n s l (rightL d l) = false) := by show _ = _; simp [baseB, hn0]
  clear hn0;go_enter Tryz.func101, Tryz.ntmps101
  go_wp2_with fail
  go_ret
  exact ⟨ret_bool HB.out.symm, hbb⟩
theorem deep_any : ∀ (d : Nat), d ≤ 100 → ∀ x, DeepAt d x
 | d, hd, .mk k n s l => by
  by_cases h2 : k = 2
  ·rw [h2]; exact deep_text d n s l
  ·by_cases h4 : k = 4
   ·rw [h4]
    refine deep_list d hd n s l (fun d' e x => ?_);subst e;exact deep_any d' (by omega) x
   ·exact deep_plain d k n s l h2 h4
set_option maxRecDepth 100000 in
set_option maxHeartbeats 1000000 in
theorem refRight_any (x : V) (B : Nat) (w : World) (c0 c1 c2 c3 : Value) (hB : B ≤ w.heap.size) (hx : RepV B w x c0 c1 c2 c3) :
  Calls Tryz.prog 85 #[.agg #[c0, c1, c2, c3]] w fun e w' => e = .returned (.bool (rightV 4 x)) ∧ Below w.heap.size w w' := by
 have HR := Lib.hid (deep_any 4 (by omega));obtain ⟨fa, fc, rfl, rfl, rfl, rfl⟩ := hx.form;have HX := Lib.hid hx; clear hx
 go_enter Tryz.func85, Tryz.ntmps85
 go_wp2_with fail
 have hbb : Below w.heap.size w (w.alloc (.cells #[.int .i64 x.kind, .int .i64 x.num, .string x.text, .slice fa x.list.length fc] 31)) :=
  ((Below.refl _ w).alloc (Nat.le_refl _) _)
 refine (HR.out x B _ _ _ _ _ (by simp; omega) (RepV.below (fun j hj => hbb.block j (by omega)) _ HX.out)).mono ?_;rintro e w' ⟨rfl, hb⟩;go_wp2_with fail
 go_ret
 exact ⟨rfl, hbb.trans (hb.mono (by simp))⟩
end Go.Proofs.YtjohcnhiblfbnaaGreat
namespace Go.Proofs.YtjohcnhiblfbnaaGreat
open Go.RowKit
set_option maxRecDepth 100000 in
set_option maxHeartbeats 4000000 in
theorem refUpper_any (s : ByteArray) (w : World) (hs : s.size ≤ maxLen) :
    Calls Tryz.prog 103 #[.string s] w fun e w' => e = .returned (.bool (varB s)) ∧ w = w' := by
  unfold maxLen at hs
  by_cases hz : s.size < 1
  · have HF := Lib.hid (varB_size (s := s) (Or.inl hz))
    have hb1 : decide ((s.size : Int) < 1) = true := by simp; omega
    go_enter Tryz.func103, Tryz.ntmps103
    go_wp2_with fail
    go_ret
    exact ⟨ret_bool HF.out.symm, rfl⟩
  have hb1 : decide ((s.size : Int) < 1) = false := by simp; omega
  by_cases hz2 : 16 < s.size
  · have HF := Lib.hid (varB_size (s := s) (Or.inr hz2))
    have hb2 : decide (16 < (s.size : Int)) = true := by simp; omega
    go_enter Tryz.func103, Tryz.ntmps103
    go_wp2_with fail
    go_ret
    exact ⟨ret_bool HF.out.symm, rfl⟩
  have hb2 : decide (16 < (s.size : Int)) = false := by simp; omega
  have h0 : 0 < s.size := by omega
  have h0u : (s[0].toNat : Int) ≤ 255 := by have := s[0].toNat_lt; omega
  by_cases hc : 65 ≤ (s[0].toNat : Int) ∧ (s[0].toNat : Int) ≤ 90
  · obtain ⟨hc1, hc2⟩ := hc
    have H0 : Hid (okVar 0 (s[0].toNat : Int) = true) := by show _ = _; simp only [okVar, greatB]; simp; omega
    have t1 : decide ((s[0].toNat : Int) < 65) = false := by simp; omega
    have t2 : decide (90 < (s[0].toNat : Int)) = false := by simp; omega
    go_enter Tryz.func103, Tryz.ntmps103
    go_wp2_with fail
    go_loop [3, 4] (fun i _ => ∃ k : Nat, 1 ≤ k ∧ k ≤ s.size ∧ i = .int .i64 k ∧ Hid (∀ i (h : i < s.size), i < k → okVar i (s[i].toNat : Int) = true)) (fun i _ => s.size - (intOf i).toNat)
    case atStart => exact ⟨1, Nat.le_refl _, by omega, rfl, fun i _ hi => by obtain rfl : i = 0 := by omega
                                                                             exact H0.out⟩
    case round =>
      obtain ⟨k, hk1, hk2, rfl, hok⟩ := hrel;clear t1 t2 hb1 hb2
      by_cases hlt : k < s.size
      · have hcd : ∃ c : UInt8, s[k] = c := ⟨_, rfl⟩
        obtain ⟨c, hcd⟩ := hcd;have HC := Lib.hid hcd;have hcu : (c.toNat : Int) ≤ 255 := by have := c.toNat_lt; omega
        have hcases : (0 ≤ (c.toNat : Int) ∧ (c.toNat : Int) ≤ 47) ∨ (48 ≤ (c.toNat : Int) ∧ (c.toNat : Int) ≤ 57) ∨ (58 ≤ (c.toNat : Int) ∧ (c.toNat : Int) ≤ 64) ∨ (65 ≤ (c.toNat : Int) ∧ (c.toNat : Int) ≤ 90) ∨ (91 ≤ (c.toNat : Int) ∧ (c.toNat : Int) ≤ 94) ∨ (95 ≤ (c.toNat : Int) ∧ (c.toNat : Int) ≤ 95) ∨ (96 ≤ (c.toNat : Int) ∧ (c.toNat : Int) ≤ 96) ∨ (97 ≤ (c.toNat : Int) ∧ (c.toNat : Int) ≤ 122) ∨ (123 ≤ (c.toNat : Int) ∧ (c.toNat : Int) ≤ 255) := by omega
        rcases hcases with ⟨a1, a2⟩ | ⟨a1, a2⟩ | ⟨a1, a2⟩ | ⟨a1, a2⟩ | ⟨a1, a2⟩ | ⟨a1, a2⟩ | ⟨a1, a2⟩ | ⟨a1, a2⟩ | ⟨a1, a2⟩
        · have t97 : decide (97 ≤ (c.toNat : Int)) = false := by simp; omega
          have t122 : decide ((c.toNat : Int) ≤ 122) = true := by simp; omega
          have t65 : decide (65 ≤ (c.toNat : Int)) = false := by simp; omega
          have t90 : decide ((c.toNat : Int) ≤ 90) = true := by simp; omega
          have t48 : decide (48 ≤ (c.toNat : Int)) = false := by simp; omega
          have t57 : decide ((c.toNat : Int) ≤ 57) = true := by simp; omega
          have t95 : ((c.toNat : Int) == 95) = false := by simp; omega
          have HOK : Hid (okVar k (c.toNat : Int) = false) := by show _ = _; simp only [okVar, greatB, smallB, digitB]; simp; omega
          clear a1 a2;go_wp2_with fail
          go_ret
          exact ⟨ret_bool (varB_false hlt (by rw [HC.out]; exact HOK.out)).symm, rfl⟩
        · have t97 : decide (97 ≤ (c.toNat : Int)) = false := by simp; omega
          have t122 : decide ((c.toNat : Int) ≤ 122) = true := by simp; omega
          have t65 : decide (65 ≤ (c.toNat : Int)) = false := by simp; omega
          have t90 : decide ((c.toNat : Int) ≤ 90) = true := by simp; omega
          have t48 : decide (48 ≤ (c.toNat : Int)) = true := by simp; omega
          have t57 : decide ((c.toNat : Int) ≤ 57) = true := by simp; omega
          have t95 : ((c.toNat : Int) == 95) = false := by simp; omega
          have HOK : Hid (okVar k (c.toNat : Int) = true) := by show _ = _; simp only [okVar, greatB, smallB, digitB]; simp; omega
          clear a1 a2;go_wp2_with fail
          go_round
          case rel =>
            refine ⟨k + 1, by omega, by omega, by go_num, fun i hi hi2 => ?_⟩
            by_cases e : i = k
            · subst e; rw [HC.out]; exact HOK.out
            · exact hok.out i hi (by omega)
          case measure => simp [intOf]; omega
        · have t97 : decide (97 ≤ (c.toNat : Int)) = false := by simp; omega
          have t122 : decide ((c.toNat : Int) ≤ 122) = true := by simp; omega
          have t65 : decide (65 ≤ (c.toNat : Int)) = false := by simp; omega
          have t90 : decide ((c.toNat : Int) ≤ 90) = true := by simp; omega
          have t48 : decide (48 ≤ (c.toNat : Int)) = true := by simp; omega
          have t57 : decide ((c.toNat : Int) ≤ 57) = false := by simp; omega
          have t95 : ((c.toNat : Int) == 95) = false := by simp; omega
          have HOK : Hid (okVar k (c.toNat : Int) = false) := by show _ = _; simp only [okVar, greatB, smallB, digitB]; simp; omega
          clear a1 a2;go_wp2_with fail
          go_ret
          exact ⟨ret_bool (varB_false hlt (by rw [HC.out]; exact HOK.out)).symm, rfl⟩
        · have t97 : decide (97 ≤ (c.toNat : Int)) = false := by simp; omega
          have t122 : decide ((c.toNat : Int) ≤ 122) = true := by simp; omega
          have t65 : decide (65 ≤ (c.toNat : Int)) = true := by simp; omega
          have t90 : decide ((c.toNat : Int) ≤ 90) = true := by simp; omega
          have t48 : decide (48 ≤ (c.toNat : Int)) = true := by simp; omega
          have t57 : decide ((c.toNat : Int) ≤ 57) = false := by simp; omega
          have t95 : ((c.toNat : Int) == 95) = false := by simp; omega
          have HOK : Hid (okVar k (c.toNat : Int) = true) := by show _ = _; simp only [okVar, greatB, smallB, digitB]; simp; omega
          clear a1 a2;go_wp2_with fail
          go_round
          case rel =>
            refine ⟨k + 1, by omega, by omega, by go_num, fun i hi hi2 => ?_⟩
            by_cases e : i = k
            · subst e; rw [HC.out]; exact HOK.out
            · exact hok.out i hi (by omega)
          case measure => simp [intOf]; omega
        · have t97 : decide (97 ≤ (c.toNat : Int)) = false := by simp; omega
          have t122 : decide ((c.toNat : Int) ≤ 122) = true := by simp; omega
          have t65 : decide (65 ≤ (c.toNat : Int)) = true := by simp; omega
          have t90 : decide ((c.toNat : Int) ≤ 90) = false := by simp; omega
          have t48 : decide (48 ≤ (c.toNat : Int)) = true := by simp; omega
          have t57 : decide ((c.toNat : Int) ≤ 57) = false := by simp; omega
          have t95 : ((c.toNat : Int) == 95) = false := by simp; omega
          have HOK : Hid (okVar k (c.toNat : Int) = false) := by show _ = _; simp only [okVar, greatB, smallB, digitB]; simp; omega
          clear a1 a2;go_wp2_with fail
          go_ret
          exact ⟨ret_bool (varB_false hlt (by rw [HC.out]; exact HOK.out)).symm, rfl⟩
        · have t97 : decide (97 ≤ (c.toNat : Int)) = false := by simp; omega
          have t122 : decide ((c.toNat : Int) ≤ 122) = true := by simp; omega
          have t65 : decide (65 ≤ (c.toNat : Int)) = true := by simp; omega
          have t90 : decide ((c.toNat : Int) ≤ 90) = false := by simp; omega
          have t48 : decide (48 ≤ (c.toNat : Int)) = true := by simp; omega
          have t57 : decide ((c.toNat : Int) ≤ 57) = false := by simp; omega
          have t95 : ((c.toNat : Int) == 95) = true := by simp; omega
          have HOK : Hid (okVar k (c.toNat : Int) = true) := by show _ = _; simp only [okVar, greatB, smallB, digitB]; simp; omega
          clear a1 a2;go_wp2_with fail
          go_round
          case rel =>
            refine ⟨k + 1, by omega, by omega, by go_num, fun i hi hi2 => ?_⟩
            by_cases e : i = k
            · subst e; rw [HC.out]; exact HOK.out
            · exact hok.out i hi (by omega)
          case measure => simp [intOf]; omega
        · have t97 : decide (97 ≤ (c.toNat : Int)) = false := by simp; omega
          have t122 : decide ((c.toNat : Int) ≤ 122) = true := by simp; omega
          have t65 : decide (65 ≤ (c.toNat : Int)) = true := by simp; omega
          have t90 : decide ((c.toNat : Int) ≤ 90) = false := by simp; omega
          have t48 : decide (48 ≤ (c.toNat : Int)) = true := by simp; omega
          have t57 : decide ((c.toNat : Int) ≤ 57) = false := by simp; omega
          have t95 : ((c.toNat : Int) == 95) = false := by simp; omega
          have HOK : Hid (okVar k (c.toNat : Int) = false) := by show _ = _; simp only [okVar, greatB, smallB, digitB]; simp; omega
          clear a1 a2;go_wp2_with fail
          go_ret
          exact ⟨ret_bool (varB_false hlt (by rw [HC.out]; exact HOK.out)).symm, rfl⟩
        · have t97 : decide (97 ≤ (c.toNat : Int)) = true := by simp; omega
          have t122 : decide ((c.toNat : Int) ≤ 122) = true := by simp; omega
          have t65 : decide (65 ≤ (c.toNat : Int)) = true := by simp; omega
          have t90 : decide ((c.toNat : Int) ≤ 90) = false := by simp; omega
          have t48 : decide (48 ≤ (c.toNat : Int)) = true := by simp; omega
          have t57 : decide ((c.toNat : Int) ≤ 57) = false := by simp; omega
          have t95 : ((c.toNat : Int) == 95) = false := by simp; omega
          have HOK : Hid (okVar k (c.toNat : Int) = true) := by show _ = _; simp only [okVar, greatB, smallB, digitB]; simp; omega
          clear a1 a2;go_wp2_with fail
          go_round
          case rel =>
            refine ⟨k + 1, by omega, by omega, by go_num, fun i hi hi2 => ?_⟩
            by_cases e : i = k
            · subst e; rw [HC.out]; exact HOK.out
            · exact hok.out i hi (by omega)
          case measure => simp [intOf]; omega
        · have t97 : decide (97 ≤ (c.toNat : Int)) = true := by simp; omega
          have t122 : decide ((c.toNat : Int) ≤ 122) = false := by simp; omega
          have t65 : decide (65 ≤ (c.toNat : Int)) = true := by simp; omega
          have t90 : decide ((c.toNat : Int) ≤ 90) = false := by simp; omega
          have t48 : decide (48 ≤ (c.toNat : Int)) = true := by simp; omega
          have t57 : decide ((c.toNat : Int) ≤ 57) = false := by simp; omega
          have t95 : ((c.toNat : Int) == 95) = false := by simp; omega
          have HOK : Hid (okVar k (c.toNat : Int) = false) := by show _ = _; simp only [okVar, greatB, smallB, digitB]; simp; omega
          clear a1 a2;go_wp2_with fail
          go_ret
          exact ⟨ret_bool (varB_false hlt (by rw [HC.out]; exact HOK.out)).symm, rfl⟩
      · have HF := Lib.hid (varB_true (s := s) (by omega) (by omega) (fun i hi => hok.out i hi (by omega)))
        go_wp2_with fail
        go_ret
        exact ⟨ret_bool HF.out.symm, rfl⟩
  · have H0 : Hid (varB s = false) := varB_false h0 (by simp only [okVar, greatB]; simp; omega)
    by_cases h65 : (s[0].toNat : Int) < 65
    · have t1 : decide ((s[0].toNat : Int) < 65) = true := by simp; omega
      go_enter Tryz.func103, Tryz.ntmps103
      go_wp2_with fail
      go_ret
      exact ⟨ret_bool H0.out.symm, rfl⟩
    · have t1 : decide ((s[0].toNat : Int) < 65) = false := by simp; omega
      have t2 : decide (90 < (s[0].toNat : Int)) = true := by simp; omega
      go_enter Tryz.func103, Tryz.ntmps103
      go_wp2_with fail
      go_ret
      exact ⟨ret_bool H0.out.symm, rfl⟩
set_option maxRecDepth 100000 in
set_option maxHeartbeats 4000000 in
theorem refRelation_any (s : ByteArray) (w : World) (hs : s.size ≤ maxLen) : Calls Tryz.prog 65 #[.string s] w fun e w' => e = .returned (.bool (relB s)) ∧ w = w' := by
 cases h1 : nameB s with
 | false =>
  have HF : Hid (relB s = false) := by show _ = _; simp [relB, h1]
  have H1 := Lib.hid h1; clear h1
  go_enter Tryz.func65, Tryz.ntmps65
  go_wp2_with fail
  refine (refName_any s _ hs).mono ?_;rw [H1.out];rintro e w1 ⟨rfl, rfl⟩;go_wp2_with fail
  go_ret
  exact ⟨ret_bool HF.out.symm, rfl⟩
 | true =>
 have hfn : decide (fnArity (fnOf s) < 0) = !fnB s := by
  unfold fnB
  by_cases h : 0 ≤ fnArity (fnOf s)
  ·rw [decide_eq_true h, decide_eq_false (by omega)]; rfl
  ·rw [decide_eq_false h, decide_eq_true (by omega)]; rfl
 obtain ⟨an, han⟩ : ∃ n, fnArity (fnOf s) = n := ⟨_, rfl⟩;have HAN := Lib.hid han;rw [han] at hfn;clear han
 cases h2 : fnB s with
 | true =>
  have HF : Hid (relB s = false) := by show _ = _; simp [relB, h1, h2]
  rw [h2] at hfn;have H1 := Lib.hid h1; clear h1 h2
  simp only [Bool.not_true] at hfn
  go_enter Tryz.func65, Tryz.ntmps65
  go_wp2_with fail
  refine (refName_any s _ hs).mono ?_;rw [H1.out];rintro e w1 ⟨rfl, rfl⟩;go_wp2_with fail
  refine (refArity_any s _).mono ?_;unfold ArPost;rw [HAN.out];rintro e w2 ⟨rfl, rfl⟩;go_wp2_with fail
  go_ret
  exact ⟨ret_bool HF.out.symm, rfl⟩
 | false =>
 rw [h2] at hfn;simp only [Bool.not_false] at hfn
 cases h3 : declB s
 all_goals
  have HF := Lib.hid (show relB s = (!declB s) by simp [relB, h1, h2]);have HF' := HF.out;rw [h3] at HF';have HG := Lib.hid HF';have H1 := Lib.hid h1; unfold declB at h3; clear h1 h2 HF HF'
  go_enter Tryz.func65, Tryz.ntmps65
  go_wp2_with fail
  refine (refName_any s _ hs).mono ?_;rw [H1.out];rintro e w1 ⟨rfl, rfl⟩;go_wp2_with fail
  refine (refArity_any s _).mono ?_;unfold ArPost;rw [HAN.out];rintro e w2 ⟨rfl, rfl⟩;go_wp2_with fail
  go_ret
  exact ⟨ret_bool HG.out.symm, rfl⟩
set_option maxRecDepth 100000 in
theorem refNone_any (x : V) (S : Nat → Prop) (w : World) (c0 c1 c2 c3 : Value) (hx : RepG S w x c0 c1 c2 c3) : Calls Tryz.prog 123 #[.agg #[c0, c1, c2, c3]] w fun e w' => e = .returned (.bool (noneB x)) ∧ Below w.heap.size w w' := by
 obtain ⟨fa, fc, rfl, rfl, rfl, rfl⟩ := hx.form;clear hx
 cases h0 : (x.kind == 0) with
 | false =>
  have HF : Hid (noneB x = false) := by show _ = _; simp only [noneB, h0, Bool.false_and]
  go_enter Tryz.func123, Tryz.ntmps123
  go_wp2_with fail
  go_ret
  exact ⟨ret_bool HF.out.symm, below_alloc _ _⟩
 | true =>
 cases h1 : (x.num == 0) with
 | false =>
  have HF : Hid (noneB x = false) := by show _ = _; simp only [noneB, h0, h1, Bool.false_and, Bool.true_and]
  go_enter Tryz.func123, Tryz.ntmps123
  go_wp2_with fail
  go_ret
  exact ⟨ret_bool HF.out.symm, below_alloc _ _⟩
 | true =>
 cases h2 : (x.text.toList.isEmpty) with
 | false =>
  have HF : Hid (noneB x = false) := by show _ = _; simp only [noneB, h0, h1, h2, Bool.false_and, Bool.true_and]
  go_enter Tryz.func123, Tryz.ntmps123
  go_wp2_with fail
  go_ret
  exact ⟨ret_bool HF.out.symm, below_alloc _ _⟩
 | true =>
 have h3 := isEmpty_len x.list
 cases h4 : ((x.list.length : Int) == 0) with
 | false =>
  have HF : Hid (noneB x = false) := by show _ = _; simp only [noneB, h0, h1, h2, h3, h4, Bool.true_and]
  clear h3;go_enter Tryz.func123, Tryz.ntmps123
  go_wp2_with fail
  go_ret
  exact ⟨ret_bool HF.out.symm, below_alloc _ _⟩
 | true =>
  have HF : Hid (noneB x = true) := by show _ = _; simp only [noneB, h0, h1, h2, h3, h4, Bool.true_and]
  clear h3;go_enter Tryz.func123, Tryz.ntmps123
  go_wp2_with fail
  go_ret
  exact ⟨ret_bool HF.out.symm, below_alloc _ _⟩
def StrsAt (w : World) (b : Nat) (l : List ByteArray) : Prop := ∀ k (h : k < l.length), w.cell? ⟨b, k, none⟩ = some (.string l[k])
set_option maxRecDepth 100000 in
set_option maxHeartbeats 4000000 in
theorem refIn_any (l : List ByteArray) (s : ByteArray) (b : Nat) (w : World) (hb : StrsAt w b l) (hl : l.length ≤ 100) :
  Calls Tryz.prog 88 #[.slice (some ⟨b, 0, none⟩) l.length l.length, .string s] w fun e w' => e = .returned (.bool (l.any fun x => x.toList == s.toList)) ∧ w = w' := by
 have HB := Lib.hid hb; clear hb
 go_enter Tryz.func88, Tryz.ntmps88
 go_wp2_with fail
 go_loop [5] (fun i => ∃ k : Nat, k ≤ l.length ∧ i = .int .i64 k ∧ Hid ((l.any fun x => x.toList == s.toList) = ((l.drop k).any fun x => x.toList == s.toList))) (fun i => l.length - (intOf i).toNat)
 case atStart => exact ⟨0, Nat.zero_le _, rfl, rfl⟩
 case round =>
  obtain ⟨k, hk, rfl, hrec⟩ := hrel
  by_cases hlt : k < l.length
  ·have hc := HB.out k hlt
   have HD := Lib.hid (List.drop_eq_getElem_cons hlt);generalize l[k] = z at *
   cases h1 : (z.toList == s.toList) with
   | true =>
    have HF : Hid ((l.any fun x => x.toList == s.toList) = true) := by show _ = _; rw [hrec.out, HD.out, List.any_cons, h1, Bool.true_or]
    go_wp2_with fail
    go_ret
    exact ⟨ret_bool HF.out.symm, rfl⟩
   | false =>
    have HF : Hid ((l.any fun x => x.toList == s.toList) = ((l.drop (k + 1)).any fun x => x.toList == s.toList)) := by show _ = _; rw [hrec.out, HD.out, List.any_cons, h1, Bool.false_or]
    go_wp2_with fail
    go_round
    case rel => exact ⟨k + 1, by omega, by go_num, HF⟩
    case measure => simp [intOf]; omega
  ·have HF : Hid ((l.any fun x => x.toList == s.toList) = false) := by show _ = _; rw [hrec.out, List.drop_of_length_le (by omega)]; rfl
   go_wp2_with fail
   go_ret
   exact ⟨ret_bool HF.out.symm, rfl⟩
end Go.Proofs.YtjohcnhiblfbnaaGreat
