/-
  ScCheck, Bytes, RefName, RefArity
-/
import Derived.Test.YtjohcnhiblfbnaaGreatK16
import Derived.Test.YtjohcnhiblfbnaaGreatK01
import Derived.Test.YtjohcnhiblfbnaaGreatK07
import Derived.Test.YtjohcnhiblfbnaaGreatK08
import Derived.WalkSpells
import Derived.WalkLawsBesides
import Derived.Lib.ConvBytes
import Derived.Laws.IdiomStrings
namespace Go.Proofs.YtjohcnhiblfbnaaGreat
open Go.RowKit
def rulesErr (ds : List De) : List Ru → Nat → Int × Int
 | [], _ => (0, -1)
 | r :: l, i => if ruleErr ds r = 0 then rulesErr ds l (i + 1) else (ruleErr ds r, i)
def checkZ (p : Pr) : Int × Int :=
 if prB p = true then
  (if onceB [] p.decls = true ∧ p.facts.all (factB p.decls) = true then rulesErr p.decls p.rules 0 else (60, -1))
 else (40, -1)
theorem ret_ii {a b : Int} {x : Int × Int} (h : x = (a, b)) : Ending.returned (.tuple #[.int .i64 a, .int .i64 b]) = .returned (.tuple #[.int .i64 x.1, .int .i64 x.2]) := by rw [h]
set_option maxRecDepth 100000 in
set_option maxHeartbeats 2000000 in
theorem check_any (p : Pr) (S : Nat → Prop) (w : World) (c0 c1 c2 : Value) (hS : ∀ k, S k → k < w.heap.size) (hp : RepPr S w p c0 c1 c2) :
  Calls Tryz.prog 12 #[.agg #[c0, c1, c2]] w fun e w' => e = .returned (.tuple #[.int .i64 (checkZ p).1, .int .i64 (checkZ p).2]) ∧ Below w.heap.size w w' := by
 have hlb := SlG.bytes hp.2.2;have HP := Lib.hid hp; have HS := Lib.hid hS
 obtain ⟨f0, f1, rfl⟩ := SlG.form hp.1;obtain ⟨f2, f3, rfl⟩ := SlG.form hp.2.1;obtain ⟨f4, f5, rfl⟩ := SlG.form hp.2.2;clear hp hS;go_enter Tryz.func12, Tryz.ntmps12
 go_wp2_with fail
 have x0 := boxPr_new w (.slice f0 p.decls.length f1) (.slice f2 p.facts.length f3) (.slice f4 p.rules.length f5);have d0 := below_alloc w (.cells #[.slice f0 p.decls.length f1, .slice f2 p.facts.length f3, .slice f4 p.rules.length f5] 26);generalize w.alloc (.cells #[.slice f0 p.decls.length f1, .slice f2 p.facts.length f3, .slice f4 p.rules.length f5] 26) = w1 at *;have X1 := Lib.hid x0; have B1 := Lib.hid d0
 have P1 := Lib.hid (RepPr.on (S' := fun k => k < w.heap.size) HS.out (fun k hk => d0.block k (HS.out k hk)) HP.out);clear x0 d0 HP HS;obtain ⟨p0, p1, p2⟩ := X1.out.cells;go_wp2_with fail
 refine (prRight_any p (fun k => k < w.heap.size) w1 _ _ _ (fun k hk => Nat.lt_of_lt_of_le hk B1.out.size) P1.out).mono ?_;rintro e w2 ⟨rfl, hb⟩;have X2 := Lib.hid (X1.out.on hb); have B2 := Lib.hid (Below.step B1.out hb)
 have P2 := Lib.hid (RepPr.on (fun _ h => h) (fun k (hk : k < w.heap.size) => hb.block k (Nat.lt_of_lt_of_le hk B1.out.size)) P1.out);clear hb p0 p1 p2 X1 B1 P1;obtain ⟨p0, p1, p2⟩ := X2.out.cells
 cases hc1 : prB p with
 | false =>
  have HF : Hid (checkZ p = (40, -1)) := by show _ = _; rw [checkZ, hc1]; rfl
  clear hc1;go_wp2_with fail
  go_ret2
  exact ⟨ret_ii HF.out, B2.out⟩
 | true =>
  have HC1 := Lib.hid hc1;clear hc1;go_wp2_with fail
  refine (once_any p.decls (fun k => k < w.heap.size) w2 _ (fun k hk => Nat.lt_of_lt_of_le hk B2.out.size) P2.out.1).mono ?_;rintro e w3 ⟨rfl, hb⟩;have X3 := Lib.hid (X2.out.on hb); have B3 := Lib.hid (Below.step B2.out hb)
  have P3 := Lib.hid (RepPr.on (fun _ h => h) (fun k (hk : k < w.heap.size) => hb.block k (Nat.lt_of_lt_of_le hk B2.out.size)) P2.out);clear hb p0 p1 p2 X2 B2 P2;obtain ⟨p0, p1, p2⟩ := X3.out.cells
  cases hc2 : onceB [] p.decls with
  | false =>
   have HF : Hid (checkZ p = (60, -1)) := by show _ = _; rw [checkZ, HC1.out, hc2]; rfl
   clear hc2;go_wp2_with fail
   go_ret2
   exact ⟨ret_ii HF.out, B3.out⟩
  | true =>
   have HC2 := Lib.hid hc2;clear hc2;go_wp2_with fail
   refine (factsFit_any p (fun k => k < w.heap.size) w3 _ _ _ (fun k hk => Nat.lt_of_lt_of_le hk B3.out.size) P3.out).mono ?_;rintro e w4 ⟨rfl, hb⟩;have X4 := Lib.hid (X3.out.on hb); have B4 := Lib.hid (Below.step B3.out hb)
   have P4 := Lib.hid (RepPr.on (fun _ h => h) (fun k (hk : k < w.heap.size) => hb.block k (Nat.lt_of_lt_of_le hk B3.out.size)) P3.out);clear hb p0 p1 p2 X3 B3 P3;obtain ⟨p0, p1, p2⟩ := X4.out.cells
   cases hc3 : p.facts.all (factB p.decls) with
   | false =>
    have HF : Hid (checkZ p = (60, -1)) := by show _ = _; rw [checkZ, HC1.out, HC2.out, hc3]; rfl
    clear hc3;go_wp2_with fail
    go_ret2
    exact ⟨ret_ii HF.out, B4.out⟩
   | true =>
    have HE : Hid (checkZ p = rulesErr p.decls p.rules 0) := by show _ = _; rw [checkZ, HC1.out, HC2.out, hc3]; rfl
    clear hc3 HC2
    have HRU : Hid (∀ x ∈ p.rules, ruB x = true) := by
     have h := HC1.out;rw [prB] at h;simp only [Bool.and_eq_true] at h
     exact (listB_bounds h.2.2).2.2
    clear HC1;go_wp2_with fail
    clear p0 p1 p2;go_loopw [22] (fun i wr => ∃ k : Nat, k ≤ p.rules.length ∧ i = .int .i64 k ∧ Hid (checkZ p = rulesErr p.decls (p.rules.drop k) k) ∧ Hid (Below w4.heap.size w4 wr)) (fun i _ => p.rules.length - (intOf i).toNat)
    case atStart => exact ⟨0, Nat.zero_le _, rfl, HE.out, Below.refl _ _⟩
    case round =>
     obtain ⟨k, hk, rfl, hrec, hbel⟩ := hrel
     by_cases hl : k < p.rules.length
     ·have P5 := Lib.hid (RepPr.on (fun _ h => h) (fun k (hk : k < w.heap.size) => hbel.out.block k (Nat.lt_of_lt_of_le hk B4.out.size)) P4.out)
      obtain ⟨-, -, lb, lo, xa, xc, ya, yc, rfl, hSb, g0, g1, g2, g3, g4, g5, g⟩ := RepRus.at P5.out.2.2 k hl;have HD := Lib.hid (List.drop_eq_getElem_cons hl);have HRB := Lib.hid (HRU.out _ (List.getElem_mem hl));have G := Lib.hid g;clear g hSb;generalize p.rules[k] = r at *;have hba := below_alloc wr (.cells #[.string r.label, .string r.head, .slice xa r.args.length xc, .string r.agg, .int .i64 r.at', .slice ya r.body.length yc] 61);have hbx := boxRu_new wr (.string r.label) (.string r.head) (.slice xa r.args.length xc) (.string r.agg) (.int .i64 r.at') (.slice ya r.body.length yc);have hws : w.heap.size ≤ wr.heap.size := Nat.le_trans B4.out.size hbel.out.size;have HR := Lib.hid (RepRu.on (S' := fun k => k < w.heap.size) (fun _ h => h) (fun j hj => hba.block j (Nat.lt_of_lt_of_le hj hws)) G.out);have HP6 := Lib.hid (RepPr.on (fun _ h => h) (fun j (hj : j < w.heap.size) => hba.block j (Nat.lt_of_lt_of_le hj hws)) P5.out);have HB := Lib.hid (Below.step hbel.out hba);have HWS := Lib.hid (Nat.le_trans hws hba.size);obtain ⟨q0, q1, q2, q3, q4, q5⟩ := hbx.cells;obtain ⟨p0, p1, p2⟩ := (X4.out.on HB.out).cells;clear hba hbx hbel hws P5;go_wp2_with fail
      clear g0 g1 g2 g3 g4 g5;generalize wr.alloc (.cells #[.string r.label, .string r.head, .slice xa r.args.length xc, .string r.agg, .int .i64 r.at', .slice ya r.body.length yc] 61) = wa at *;refine (checkRule_any p r (fun k => k < w.heap.size) wa _ _ _ _ _ _ _ _ _ (fun k hk => Nat.lt_of_lt_of_le hk HWS.out) HP6.out HR.out HRB.out).mono ?_;rintro e w6 ⟨rfl, hb6⟩;have HB6 := Lib.hid (Below.step HB.out hb6);clear hb6 q0 q1 q2 q3 q4 q5 p0 p1 p2
      by_cases hz : ruleErr p.decls r = 0
      ·have HF : Hid (checkZ p = rulesErr p.decls (p.rules.drop (k + 1)) (k + 1)) := by show _ = _; rw [hrec.out, HD.out, rulesErr, if_pos hz]
       rw [hz];clear hz;go_wp2_with fail
       go_roundw
       case rel => exact ⟨k + 1, hl, by go_num, HF, HB6.out⟩
       case measure => simp [intOf]; omega
      ·have HF : Hid (checkZ p = (ruleErr p.decls r, (k : Int))) := by show _ = _; rw [hrec.out, HD.out, rulesErr, if_neg hz]
       obtain ⟨g, hg⟩ : ∃ g, ruleErr p.decls r = g := ⟨_, rfl⟩;rw [hg] at hz HF ⊢;have hz1 : (g == 0) = false := by simp [hz]
       clear hz hg;go_wp2_with fail
       go_ret2
       exact ⟨ret_ii HF.out, Below.step B4.out HB6.out⟩
     ·have HF : Hid (checkZ p = (0, -1)) := by show _ = _; rw [hrec.out, List.drop_of_length_le (by omega), rulesErr]
      go_wp2_with fail
      go_ret2
      exact ⟨ret_ii HF.out, Below.step B4.out hbel.out⟩
end Go.Proofs.YtjohcnhiblfbnaaGreat
namespace Go.Proofs.YtjohcnhiblfbnaaGreat
open Go.RowKit
def BytesAt (w : World) (g : Nat) (l : List UInt8) : Prop :=
 ∃ cur lo hi, w.heap[g]? = some (.cells cur 5 (lo, hi)) ∧ cur.size ≤ lo ∧ l.length ≤ cur.size ∧ ∀ j (h : j < l.length), cur[j]? = some (.int .u8 (l[j].toNat : Int))
theorem BytesAt.cell {w : World} {g : Nat} {l : List UInt8} (h : BytesAt w g l) (j : Nat) (hj : j < l.length) : w.cell? ⟨g, j, none⟩ = some (.int .u8 (l[j].toNat : Int)) := by
 obtain ⟨cur, lo, hi, h1, h2, h3, h4⟩ := h;simp [World.cell?, h1, h4 j hj]
theorem BytesAt.free {w : World} {g : Nat} {l : List UInt8} (h : BytesAt w g l) (j : Nat) (hj : j < l.length) : w.frozen? ⟨g, j, none⟩ = false := by
 obtain ⟨cur, lo, hi, h1, h2, h3, h4⟩ := h;simp only [World.frozen?, h1]
 simp; omega
theorem BytesAt.lt {w : World} {g : Nat} {l : List UInt8} (h : BytesAt w g l) : g < w.heap.size := by
 obtain ⟨cur, lo, hi, h1, _⟩ := h;exact (Array.getElem?_eq_some_iff.1 h1).1
theorem heap_set_any (w : World) (g i : Nat) (cs : Array Value) (t : TypeId) (fz : Nat × Nat) (v : Value) (hg : w.heap[g]? = some (.cells cs t fz)) :
  (w.setCell ⟨g, i, none⟩ v).heap[g]? = some (.cells (cs.setIfInBounds i v) t fz) := by
 rw [setCell_eq_setRow w g i cs t fz v hg];exact setRow_heap w g cs _ t _ hg
theorem BytesAt.set {w : World} {g : Nat} {l : List UInt8} (h : BytesAt w g l) (i : Nat) (c : UInt8) : BytesAt (w.setCell ⟨g, i, none⟩ (.int .u8 (c.toNat : Int))) g (l.set i c) := by
 obtain ⟨cur, lo, hi, h1, h2, h3, h4⟩ := h;refine ⟨_, lo, hi, heap_set_any w g i cur _ _ _ h1, by simpa using h2, by simpa using h3, fun j hj => ?_⟩;simp only [List.length_set] at hj
 rw [Array.getElem?_setIfInBounds, List.getElem_set]
 by_cases e : i = j
 ·rw [if_pos e, if_pos (by omega), if_pos e]
 ·rw [if_neg e, if_neg e]; exact h4 j hj
theorem bytes_new (w : World) (s : ByteArray) : BytesAt (Lib.bytesWorld w 5 s) w.heap.size s.data.toList := by
 refine ⟨_, _, _, Lib.bytesWorld_at_new w _ s, Nat.le_refl _, ?_, fun j hj => ?_⟩
 ·simp [Lib.bytesCells]
 ·have hj' : j < s.size := by simpa using hj
  have := Lib.bytesWorld_cell w 5 s j hj';rw [World.cell?, Lib.bytesWorld_at_new] at this
  simpa [List.getD, hj'] using this
theorem bytes_below (w : World) (s : ByteArray) : Below w.heap.size w (Lib.bytesWorld w 5 s) :=
 ⟨by simp [Lib.bytesWorld, World.freeze]; rfl, by simp [Lib.bytesWorld, World.freeze], by simp [Lib.bytesWorld, World.freeze]; rfl, by rw [Lib.bytesWorld_size]; omega, fun k hk => Lib.bytesWorld_at_old w _ s k hk⟩
theorem conv_to (w : World) (s : ByteArray) : (convert 9 96 (.string s)).run Tryz.prog w = .ok (.slice (some ⟨w.heap.size, 0, none⟩) s.size (grownCap w s.size 0 5)) (Lib.bytesWorld w 5 s) :=
 Lib.run_convert_string_bytes w _ _ _ s Tryz.underlying9 Tryz.underlying96 Tryz.underlying5
theorem conv_back (w : World) (g cap : Nat) (l : List UInt8) (h : BytesAt w g l) : (convert 96 9 (.slice (some ⟨g, 0, none⟩) l.length cap)).run Tryz.prog w = .ok (.string ⟨l.toArray⟩) w :=
 run_convert_bytes_back w _ _ _ ⟨g, 0, none⟩ cap l Tryz.underlying96 Tryz.underlying5 Tryz.underlying9 (fun j hj => by rw [show ((⟨g, 0, none⟩ : Addr).add j) = ⟨g, j, none⟩ from by unfold Addr.add; split <;> simp_all]; exact h.cell j hj)
end Go.Proofs.YtjohcnhiblfbnaaGreat
namespace Go.Proofs.YtjohcnhiblfbnaaGreat
open Go.RowKit
set_option maxRecDepth 100000 in
set_option maxHeartbeats 2000000 in
theorem refName_any (s : ByteArray) (w : World) (hs : s.size ≤ maxLen) :
    Calls Tryz.prog 84 #[.string s] w fun e w' => e = .returned (.bool (nameB s)) ∧ w = w' := by
  unfold maxLen at hs
  by_cases hz : s.size < 1
  · have HF := Lib.hid (nameB_size (s := s) (Or.inl hz))
    have hb1 : decide ((s.size : Int) < 1) = true := by simp; omega
    go_enter Tryz.func84, Tryz.ntmps84
    go_wp2_with fail
    go_ret
    exact ⟨ret_bool HF.out.symm, rfl⟩
  have hb1 : decide ((s.size : Int) < 1) = false := by simp; omega
  by_cases hz2 : 16 < s.size
  · have HF := Lib.hid (nameB_size (s := s) (Or.inr hz2))
    have hb2 : decide (16 < (s.size : Int)) = true := by simp; omega
    go_enter Tryz.func84, Tryz.ntmps84
    go_wp2_with fail
    go_ret
    exact ⟨ret_bool HF.out.symm, rfl⟩
  have hb2 : decide (16 < (s.size : Int)) = false := by simp; omega
  have h0 : 0 < s.size := by omega
  have h0u : (s[0].toNat : Int) ≤ 255 := by have := s[0].toNat_lt; omega
  by_cases hc : 97 ≤ (s[0].toNat : Int) ∧ (s[0].toNat : Int) ≤ 122
  · obtain ⟨hc1, hc2⟩ := hc
    have H0 : Hid (okAt 0 (s[0].toNat : Int) = true) := by show _ = _; simp only [okAt, smallB]; simp; omega
    have t1 : decide ((s[0].toNat : Int) < 97) = false := by simp; omega
    have t2 : decide (122 < (s[0].toNat : Int)) = false := by simp; omega
    go_enter Tryz.func84, Tryz.ntmps84
    go_wp2_with fail
    go_loop [3] (fun i => ∃ k : Nat, 1 ≤ k ∧ k ≤ s.size ∧ i = .int .i64 k ∧ Hid (∀ i (h : i < s.size), i < k → okAt i (s[i].toNat : Int) = true)) (fun i => s.size - (intOf i).toNat)
    case atStart => exact ⟨1, Nat.le_refl _, by omega, rfl, fun i _ hi => by obtain rfl : i = 0 := by omega
                                                                             exact H0.out⟩
    case round =>
      obtain ⟨k, hk1, hk2, rfl, hok⟩ := hrel;clear t1 t2 hb1 hb2
      by_cases hlt : k < s.size
      · have hcd : ∃ c : UInt8, s[k] = c := ⟨_, rfl⟩
        obtain ⟨c, hcd⟩ := hcd;have HC := Lib.hid hcd;have hidx : (s[k].toNat : Int) = (c.toNat : Int) := by rw [hcd]
        have hcu : (c.toNat : Int) ≤ 255 := by have := c.toNat_lt; omega
        clear hidx;have hcases : (97 ≤ (c.toNat : Int) ∧ (c.toNat : Int) ≤ 122) ∨ 122 < (c.toNat : Int) ∨ (c.toNat : Int) < 48 ∨ (48 ≤ (c.toNat : Int) ∧ (c.toNat : Int) ≤ 57) ∨ (c.toNat : Int) = 95 ∨ (57 < (c.toNat : Int) ∧ (c.toNat : Int) < 97 ∧ (c.toNat : Int) ≠ 95) := by omega
        rcases hcases with ⟨a1, a2⟩ | a1 | a1 | ⟨a1, a2⟩ | a1 | ⟨a1, a2, a3⟩
        · have t97 : decide (97 ≤ (c.toNat : Int)) = true := by simp; omega
          have t122 : decide ((c.toNat : Int) ≤ 122) = true := by simp; omega
          have HOK : Hid (okAt k (c.toNat : Int) = true) := by show _ = _; simp only [okAt, smallB, digitB]; simp; omega
          go_wp2_with fail
          go_round
          case rel =>
            refine ⟨k + 1, by omega, by omega, by go_num, fun i hi hi2 => ?_⟩
            by_cases e : i = k
            · subst e; rw [HC.out]; exact HOK.out
            · exact hok.out i hi (by omega)
          case measure => simp [intOf]; omega
        · have t97 : decide (97 ≤ (c.toNat : Int)) = true := by simp; omega
          have t122 : decide ((c.toNat : Int) ≤ 122) = false := by simp; omega
          have t48 : decide (48 ≤ (c.toNat : Int)) = true := by simp; omega
          have t57 : decide ((c.toNat : Int) ≤ 57) = false := by simp; omega
          have t95 : ((c.toNat : Int) == 95) = false := by simp; omega
          have HOK : Hid (okAt k (c.toNat : Int) = false) := by show _ = _; simp only [okAt, smallB, digitB]; simp; omega
          go_wp2_with fail
          go_ret
          exact ⟨ret_bool (nameB_false hlt (by rw [HC.out]; exact HOK.out)).symm, rfl⟩
        · have t97 : decide (97 ≤ (c.toNat : Int)) = false := by simp; omega
          have t48 : decide (48 ≤ (c.toNat : Int)) = false := by simp; omega
          have t95 : ((c.toNat : Int) == 95) = false := by simp; omega
          have HOK : Hid (okAt k (c.toNat : Int) = false) := by show _ = _; simp only [okAt, smallB, digitB]; simp; omega
          go_wp2_with fail
          go_ret
          exact ⟨ret_bool (nameB_false hlt (by rw [HC.out]; exact HOK.out)).symm, rfl⟩
        · have t97 : decide (97 ≤ (c.toNat : Int)) = false := by simp; omega
          have t48 : decide (48 ≤ (c.toNat : Int)) = true := by simp; omega
          have t57 : decide ((c.toNat : Int) ≤ 57) = true := by simp; omega
          have HOK : Hid (okAt k (c.toNat : Int) = true) := by show _ = _; simp only [okAt, smallB, digitB]; simp; omega
          go_wp2_with fail
          go_round
          case rel =>
            refine ⟨k + 1, by omega, by omega, by go_num, fun i hi hi2 => ?_⟩
            by_cases e : i = k
            · subst e; rw [HC.out]; exact HOK.out
            · exact hok.out i hi (by omega)
          case measure => simp [intOf]; omega
        · have t97 : decide (97 ≤ (c.toNat : Int)) = false := by simp; omega
          have t48 : decide (48 ≤ (c.toNat : Int)) = true := by simp; omega
          have t57 : decide ((c.toNat : Int) ≤ 57) = false := by simp; omega
          have t95 : ((c.toNat : Int) == 95) = true := by simp; omega
          have HOK : Hid (okAt k (c.toNat : Int) = true) := by show _ = _; simp only [okAt, smallB, digitB]; simp; omega
          clear a1;go_wp2_with fail
          go_round
          case rel =>
            refine ⟨k + 1, by omega, by omega, by go_num, fun i hi hi2 => ?_⟩
            by_cases e : i = k
            · subst e; rw [HC.out]; exact HOK.out
            · exact hok.out i hi (by omega)
          case measure => simp [intOf]; omega
        · have t97 : decide (97 ≤ (c.toNat : Int)) = false := by simp; omega
          have t48 : decide (48 ≤ (c.toNat : Int)) = true := by simp; omega
          have t57 : decide ((c.toNat : Int) ≤ 57) = false := by simp; omega
          have t95 : ((c.toNat : Int) == 95) = false := by simp; omega
          have HOK : Hid (okAt k (c.toNat : Int) = false) := by show _ = _; simp only [okAt, smallB, digitB]; simp; omega
          go_wp2_with fail
          go_ret
          exact ⟨ret_bool (nameB_false hlt (by rw [HC.out]; exact HOK.out)).symm, rfl⟩
      · have HF := Lib.hid (nameB_true (s := s) (by omega) (by omega) (fun i hi => hok.out i hi (by omega)))
        go_wp2_with fail
        go_ret
        exact ⟨ret_bool HF.out.symm, rfl⟩
  · have H0 : Hid (nameB s = false) := nameB_false h0 (by simp only [okAt, smallB]; simp; omega)
    by_cases h97 : (s[0].toNat : Int) < 97
    · have t1 : decide ((s[0].toNat : Int) < 97) = true := by simp; omega
      go_enter Tryz.func84, Tryz.ntmps84
      go_wp2_with fail
      go_ret
      exact ⟨ret_bool H0.out.symm, rfl⟩
    · have t1 : decide ((s[0].toNat : Int) < 97) = false := by simp; omega
      have t2 : decide (122 < (s[0].toNat : Int)) = true := by simp; omega
      go_enter Tryz.func84, Tryz.ntmps84
      go_wp2_with fail
      go_ret
      exact ⟨ret_bool H0.out.symm, rfl⟩
end Go.Proofs.YtjohcnhiblfbnaaGreat
namespace Go.Proofs.YtjohcnhiblfbnaaGreat
open Go.RowKit
def ArPost (k : Nat) (w : World) (e : Ending) (w' : World) : Prop := e = .returned (.int .i64 (fnArity k)) ∧ w = w'
set_option maxRecDepth 100000 in
set_option maxHeartbeats 2000000 in
theorem refArity_any (s : ByteArray) (w : World) : Calls Tryz.prog 32 #[.string s] w (ArPost (fnOf s) w) := by
 unfold fnOf
 cases h0 : (s.toList == [102, 95, 99, 111, 110, 115]) with
 | true =>
  rw [if_pos rfl];go_enter Tryz.func32, Tryz.ntmps32
  go_wp2_with fail
  go_ret
  exact ⟨rfl, rfl⟩
 | false =>
 rw [if_neg (by decide)]
 cases h1 : (s.toList == [102, 95, 97, 112, 112, 101, 110, 100]) with
 | true =>
  rw [if_pos rfl];go_enter Tryz.func32, Tryz.ntmps32
  go_wp2_with fail
  go_ret
  exact ⟨rfl, rfl⟩
 | false =>
 rw [if_neg (by decide)]
 cases h2 : (s.toList == [102, 95, 99, 111, 110, 99, 97, 116]) with
 | true =>
  rw [if_pos rfl];go_enter Tryz.func32, Tryz.ntmps32
  go_wp2_with fail
  go_ret
  exact ⟨rfl, rfl⟩
 | false =>
 rw [if_neg (by decide)]
 cases h3 : (s.toList == [102, 95, 109, 101, 109, 98, 101, 114]) with
 | true =>
  rw [if_pos rfl];go_enter Tryz.func32, Tryz.ntmps32
  go_wp2_with fail
  go_ret
  exact ⟨rfl, rfl⟩
 | false =>
 rw [if_neg (by decide)]
 cases h4 : (s.toList == [102, 95, 115, 105, 122, 101]) with
 | true =>
  rw [if_pos rfl];go_enter Tryz.func32, Tryz.ntmps32
  go_wp2_with fail
  go_ret
  exact ⟨rfl, rfl⟩
 | false =>
 rw [if_neg (by decide)]
 cases h5 : (s.toList == [102, 95, 102, 105, 114, 115, 116]) with
 | true =>
  rw [if_pos rfl];go_enter Tryz.func32, Tryz.ntmps32
  go_wp2_with fail
  go_ret
  exact ⟨rfl, rfl⟩
 | false =>
 rw [if_neg (by decide)]
 cases h6 : (s.toList == [102, 95, 108, 97, 115, 116]) with
 | true =>
  rw [if_pos rfl];go_enter Tryz.func32, Tryz.ntmps32
  go_wp2_with fail
  go_ret
  exact ⟨rfl, rfl⟩
 | false =>
 rw [if_neg (by decide)]
 cases h7 : (s.toList == [102, 95, 114, 101, 115, 116]) with
 | true =>
  rw [if_pos rfl];go_enter Tryz.func32, Tryz.ntmps32
  go_wp2_with fail
  go_ret
  exact ⟨rfl, rfl⟩
 | false =>
 rw [if_neg (by decide)]
 cases h8 : (s.toList == [102, 95, 114, 101, 118, 101, 114, 115, 101]) with
 | true =>
  rw [if_pos rfl];go_enter Tryz.func32, Tryz.ntmps32
  go_wp2_with fail
  go_ret
  exact ⟨rfl, rfl⟩
 | false =>
 rw [if_neg (by decide)];go_enter Tryz.func32, Tryz.ntmps32
 go_wp2_with fail
 go_ret
 exact ⟨rfl, rfl⟩
end Go.Proofs.YtjohcnhiblfbnaaGreat
