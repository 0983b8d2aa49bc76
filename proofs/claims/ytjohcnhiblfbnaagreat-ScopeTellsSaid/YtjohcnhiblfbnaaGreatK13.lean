/-
  ScGoOn, PrSmall
-/
import Derived.Test.YtjohcnhiblfbnaaGreatK12
import Derived.Test.YtjohcnhiblfbnaaGreatK10
import Derived.Test.YtjohcnhiblfbnaaGreatK08
namespace Go.Proofs.YtjohcnhiblfbnaaGreat
open Go.RowKit
def argNames (L : List Tm) : List ByteArray := (L.filter fun t => t.kind == 1).map Tm.name
theorem argNames_take (L : List Tm) {k : Nat} (h : k < L.length) : argNames (L.take (k + 1)) = argNames (L.take k) ++ (if L[k].kind = 1 then [L[k].name] else []) := by
 rw [argNames, List.take_succ_eq_append_getElem h, List.filter_append, List.map_append, ← argNames]
 by_cases hk : L[k].kind = 1
 ·rw [if_pos hk, List.filter_cons, if_pos (by simp [hk])]; rfl
 ·rw [if_neg hk, List.filter_cons, if_neg (by simp [hk])]; rfl
theorem grownT {a b c : World} {row : Option Nat} (h : a.grownBy b row) (k : b.grownBy c row) : a.grownBy c row :=
 ⟨k.os.trans h.os, k.tape.trans h.tape, k.output.trans h.output, Nat.le_trans h.size k.size, fun i hi hne => (k.block i (Nat.lt_of_lt_of_le hi h.size) hne).trans (h.block i hi hne)⟩
theorem grownT_below {a b c : World} {row : Option Nat} (h : a.grownBy b row) (k : Below b.heap.size b c) : a.grownBy c row :=
 grownT h ⟨k.os, k.tape, k.output, k.size, fun i hi _ => k.block i hi⟩
set_option maxRecDepth 100000 in
set_option maxHeartbeats 1000000 in
theorem addArgs_any (b n : Nat) (l : List ByteArray) (L : List Tm) (S : Nat → Prop) (w : World) (v : Value) (hn : n ≤ 100000) (hS : ∀ k, S k → k < w.heap.size ∧ k ≠ b) (hset : SetAt w b n l) (hrep : RepMs S w L v) :
  Calls Tryz.prog 83 #[.map (some b), v] w fun e w' => e = .returned (.tuple #[]) ∧ SetAt w' b (n + L.length) (l ++ argNames L) ∧ w.grownBy w' (some b) := by
 have hlb := SlG.bytes hrep;have HA := Lib.hid hrep; have HS := Lib.hid hS; have HW := Lib.hid hset
 have hbw := hset.lt;obtain ⟨f0, f1, rfl⟩ := SlG.form hrep;clear hrep hS hset;go_enter Tryz.func83, Tryz.ntmps83
 go_wp2_with fail
 go_loopw [8] (fun i wr => ∃ k : Nat, k ≤ L.length ∧ i = .int .i64 k ∧ Hid (SetAt wr b (n + k) (l ++ argNames (L.take k))) ∧ Hid (w.grownBy wr (some b))) (fun i _ => L.length - (intOf i).toNat)
 case atStart => exact ⟨0, Nat.zero_le _, rfl, by show SetAt _ _ _ _; simpa [argNames] using HW.out, ⟨rfl, rfl, rfl, Nat.le_refl _, fun _ _ _ => rfl⟩⟩
 case round =>
  obtain ⟨k, hk, rfl, hset, hg⟩ := hrel
  by_cases hl : k < L.length
  ·have hA := (RepMs.on (fun _ h => h) (fun j hj => hg.out.block j (HS.out j hj).1 (fun e => (HS.out j hj).2 (Option.some.inj e))) HA.out : RepMs S wr L (.slice f0 L.length f1))
   obtain ⟨-, -, lb, lo, fa, fc, ga, gc, rfl, -, g0, g1, g2, g3, g4, g5, g6, g⟩ := RepMs.at hA k hl;have HT := Lib.hid (argNames_take L hl);have HN := Lib.hid (RepM.bounds g).2;clear hA g;generalize L[k] = z at *;have hba := below_alloc wr (.cells #[.int .i64 z.kind, .string z.name, .int .i64 z.val.kind, .int .i64 z.val.num, .string z.val.text, .slice fa z.val.list.length fc, .slice ga z.args.length gc] 34);have hbx := boxM_new wr (.int .i64 z.kind) (.string z.name) (.int .i64 z.val.kind) (.int .i64 z.val.num) (.string z.val.text) (.slice fa z.val.list.length fc) (.slice ga z.args.length gc);have HG1 := Lib.hid (grownT_below hg.out hba);have HS1 := Lib.hid (hset.out.on hba);obtain ⟨e0, e1, e2, e3, e4, e5, e6⟩ := hbx.cells;clear hba hbx hset hg
   by_cases hkd : z.kind = 1
   ·have hk1 : (z.kind == 1) = true := by simp [hkd]
    rw [if_pos hkd] at HT;clear hkd;go_wp2_with fail
    clear g0 g1 g2 g3 g4 g5 g6;generalize wr.alloc (.cells #[.int .i64 z.kind, .string z.name, .int .i64 z.val.kind, .int .i64 z.val.num, .string z.val.text, .slice fa z.val.list.length fc, .slice ga z.args.length gc] 34) = wa at *;refine (add_any b (n + k) _ z.name wa (by unfold maxLen; omega) HN.out HS1.out).mono ?_;rintro e w4 ⟨rfl, hs4, hg4⟩;have HS4 : Hid (SetAt w4 b (n + (k + 1)) (l ++ argNames (L.take (k + 1)))) := by show SetAt _ _ _ _; rw [HT.out, ← List.append_assoc]; exact hs4
    have HG4 := Lib.hid (grownT HG1.out hg4);clear hs4 hg4 e0 e1 e2 e3 e4 e5 e6;go_wp2_with fail
    go_roundw
    case rel => exact ⟨k + 1, hl, by go_num, HS4, HG4.out⟩
    case measure => simp [intOf]; omega
   ·have hk1 : (z.kind == 1) = false := by simp [hkd]
    rw [if_neg hkd, List.append_nil] at HT;clear hkd;go_wp2_with fail
    go_roundw
    case rel => exact ⟨k + 1, hl, by go_num, by rw [HT.out]; exact HS1.out.mono (by omega), HG1.out⟩
    case measure => simp [intOf]; omega
  ·obtain rfl : k = L.length := by omega
   rw [List.take_length] at hset;go_wp2_with fail
   go_end0
   exact ⟨rfl, hset.out, hg.out⟩
def goArgs (l : List ByteArray) (z : Li) : List ByteArray := if z.kind = 1 then l ++ argNames z.args else l
def goErr (l : List ByteArray) (z : Li) : Int := if (varsL z.args).all (inB (goArgs l z)) = true then (if z.kind = 4 ∧ inB (goArgs l z) z.name = true then 62 else 0) else 61
def goSet (l : List ByteArray) (z : Li) : List ByteArray := if z.kind = 4 then goArgs l z ++ [z.name] else goArgs l z
def GoPost (b n : Nat) (l : List ByteArray) (z : Li) (w : World) (e : Ending) (w' : World) : Prop :=
 e = .returned (.int .i64 (goErr l z)) ∧ w.grownBy w' (some b) ∧ (goErr l z = 0 → SetAt w' b (n + z.args.length + 1) (goSet l z))
theorem BoxLi.grown {w w' : World} {k : Nat} {c0 c1 c2 : Value} (h : BoxLi w k c0 c1 c2) {row : Option Nat} (hg : w.grownBy w' row) (hne : some k ≠ row) : BoxLi w' k c0 c1 c2 := (hg.block k h.lt hne).trans h
set_option maxRecDepth 100000 in
set_option maxHeartbeats 1000000 in
theorem goOn_any (b n : Nat) (l : List ByteArray) (z : Li) (S : Nat → Prop) (w : World) (c0 c1 c2 : Value) (hn : n ≤ 100000) (hlen : z.args.length ≤ 8) (hS : ∀ k, S k → k < w.heap.size ∧ k ≠ b) (hset : SetAt w b n l) (hrep : RepLi S w z c0 c1 c2) :
  Calls Tryz.prog 63 #[.map (some b), .agg #[c0, c1, c2]] w (GoPost b n l z w) := by
 have hbw := hset.lt;have HR := Lib.hid hrep; have HS := Lib.hid hS; have HW := Lib.hid hset; have HN := Lib.hid hrep.2.2.2.1
 obtain ⟨ga, gc, rfl, rfl, rfl⟩ := RepLi.form hrep;clear hrep hS hset
 by_cases hk1 : z.kind = 1
 ·have hkb : (z.kind == 1) = true := by simp [hk1]
  have hkc : (z.kind == 4) = false := by simp [hk1]
  have HGA : Hid (goArgs l z = l ++ argNames z.args) := by show _ = _; rw [goArgs, if_pos hk1]
  have HE : Hid (goErr l z = if (varsL z.args).all (inB (l ++ argNames z.args)) = true then 0 else 61) := by show _ = _; rw [goErr, HGA.out, if_neg (show ¬ (z.kind = 4 ∧ _) from fun h => by omega)]
  have HGS : Hid (goSet l z = l ++ argNames z.args) := by show _ = _; rw [goSet, if_neg (by omega), HGA.out]
  clear hk1;go_enter Tryz.func63, Tryz.ntmps63
  go_wp2_with fail
  have x0 := boxLi_new w (.int .i64 z.kind) (.string z.name) (.slice ga z.args.length gc);have d0 := below_alloc w (.cells #[.int .i64 z.kind, .string z.name, .slice ga z.args.length gc] 63);generalize w.alloc (.cells #[.int .i64 z.kind, .string z.name, .slice ga z.args.length gc] 63) = w1 at *;have X1 := Lib.hid x0; have HG1 := Lib.hid (grownT_below (World.grownBy.refl w (some b)) d0); have S1 := Lib.hid (HW.out.on d0)
  have HB1 := Lib.hid d0;have R1 := Lib.hid (RepMs.on (S' := fun k => k < w.heap.size ∧ k ≠ b) HS.out (fun k hk => d0.block k (HS.out k hk).1) HR.out.2.2.2.2);have Z1 := Lib.hid d0.size;clear d0 x0 HR HS HW;obtain ⟨e0, e1, e2⟩ := X1.out.cells;go_wp2_with fail
  refine (addArgs_any b n l z.args (fun k => k < w.heap.size ∧ k ≠ b) w1 _ hn (fun k hk => ⟨Nat.lt_of_lt_of_le hk.1 Z1.out, hk.2⟩) S1.out R1.out).mono ?_;rintro e w2 ⟨rfl, hs, hg⟩;have X2 := Lib.hid (X1.out.grown hg (by intro h; cases h; omega)); have HG2 := Lib.hid (grownT HG1.out hg); have S2 := Lib.hid hs; have Z2 := Lib.hid hg.size
  have R2 := Lib.hid (RepMs.on (fun _ h => h) (fun k (hk : k < w.heap.size ∧ k ≠ b) => hg.block k (Nat.lt_of_lt_of_le hk.1 Z1.out) (fun e => hk.2 (Option.some.inj e))) R1.out);clear hs hg e0 e1 e2 X1 HG1 S1 R1;obtain ⟨e0, e1, e2⟩ := X2.out.cells;go_wp2_with fail
  refine (all_any b (n + z.args.length) (l ++ argNames z.args) z.args (fun k => k < w.heap.size ∧ k ≠ b) w2 _ (fun k hk => Nat.lt_of_lt_of_le hk.1 (Nat.le_trans Z1.out Z2.out)) S2.out R2.out).mono ?_;rintro e w3 ⟨rfl, hb⟩;have X2' := Lib.hid (X2.out.on hb); have HG2' := Lib.hid (grownT_below HG2.out hb); have S2' := Lib.hid (S2.out.on hb)
  clear hb;clear e0 e1 e2;obtain ⟨e0, e1, e2⟩ := X2'.out.cells
  cases hc : (varsL z.args).all (inB (l ++ argNames z.args)) with
  | false =>
   have HF : Hid (goErr l z = 61) := by show _ = _; rw [HE.out, hc]; rfl
   clear hc;go_wp2_with fail
   go_ret
   exact ⟨ret_i HF.out.symm, HG2'.out, fun h => by rw [HF.out] at h; cases h⟩
  | true =>
   have HF : Hid (goErr l z = 0) := by show _ = _; rw [HE.out, hc]; rfl
   clear hc;go_wp2_with fail
   go_ret
   exact ⟨ret_i HF.out.symm, HG2'.out, fun _ => by rw [HGS.out]; exact S2'.out.mono (by omega)⟩
 ·have hkb : (z.kind == 1) = false := by simp [hk1]
  have HGA : Hid (goArgs l z = l) := by show _ = _; rw [goArgs, if_neg hk1]
  by_cases hk4 : z.kind = 4
  ·have hkc : (z.kind == 4) = true := by simp [hk4]
   have HE : Hid (goErr l z = if (varsL z.args).all (inB l) = true then (if inB l z.name = true then 62 else 0) else 61) := by show _ = _; rw [goErr, HGA.out]; simp only [hk4, true_and]
   have HGS : Hid (goSet l z = l ++ [z.name]) := by show _ = _; rw [goSet, if_pos hk4, HGA.out]
   clear hk1 hk4;go_enter Tryz.func63, Tryz.ntmps63
   go_wp2_with fail
   have x0 := boxLi_new w (.int .i64 z.kind) (.string z.name) (.slice ga z.args.length gc);have d0 := below_alloc w (.cells #[.int .i64 z.kind, .string z.name, .slice ga z.args.length gc] 63);generalize w.alloc (.cells #[.int .i64 z.kind, .string z.name, .slice ga z.args.length gc] 63) = w1 at *;have X1 := Lib.hid x0; have HG1 := Lib.hid (grownT_below (World.grownBy.refl w (some b)) d0); have S1 := Lib.hid (HW.out.on d0)
   have HB1 := Lib.hid d0;have R1 := Lib.hid (RepMs.on (S' := fun k => k < w.heap.size ∧ k ≠ b) HS.out (fun k hk => d0.block k (HS.out k hk).1) HR.out.2.2.2.2);have Z1 := Lib.hid d0.size;clear d0 x0 HR HS HW;obtain ⟨e0, e1, e2⟩ := X1.out.cells;go_wp2_with fail
   refine (all_any b (n) (l) z.args (fun k => k < w.heap.size ∧ k ≠ b) w1 _ (fun k hk => Nat.lt_of_lt_of_le hk.1 Z1.out) S1.out R1.out).mono ?_;rintro e w3 ⟨rfl, hb⟩;have X1' := Lib.hid (X1.out.on hb); have HG1' := Lib.hid (grownT_below HG1.out hb); have S1' := Lib.hid (S1.out.on hb)
   clear hb;clear e0 e1 e2;obtain ⟨e0, e1, e2⟩ := X1'.out.cells
   cases hc : (varsL z.args).all (inB l) with
   | false =>
    have HF : Hid (goErr l z = 61) := by show _ = _; rw [HE.out, hc]; rfl
    clear hc;go_wp2_with fail
    go_ret
    exact ⟨ret_i HF.out.symm, HG1'.out, fun h => by rw [HF.out] at h; cases h⟩
   | true =>
    have HE2 : Hid (goErr l z = if inB l z.name = true then 62 else 0) := by show _ = _; rw [HE.out, hc]; rfl
    clear hc;go_wp2_with fail
    refine (has_any b n l z.name w3 HN.out S1'.out).mono ?_;rintro e w4 ⟨rfl, hb⟩;have X4 := Lib.hid (X1'.out.on hb); have HG4 := Lib.hid (grownT_below HG1'.out hb); have S4 := Lib.hid (S1'.out.on hb)
    clear hb e0 e1 e2;obtain ⟨e0, e1, e2⟩ := X4.out.cells
    cases hc : inB l z.name with
    | true =>
     have HF : Hid (goErr l z = 62) := by show _ = _; rw [HE2.out, hc]; rfl
     clear hc;go_wp2_with fail
     go_ret
     exact ⟨ret_i HF.out.symm, HG4.out, fun h => by rw [HF.out] at h; cases h⟩
    | false =>
     have HF : Hid (goErr l z = 0) := by show _ = _; rw [HE2.out, hc]; rfl
     clear hc;go_wp2_with fail
     refine (add_any b n l z.name w4 (by unfold maxLen; omega) HN.out S4.out).mono ?_;rintro e w5 ⟨rfl, hs5, hg5⟩;have HG5 := Lib.hid (grownT HG4.out hg5); have S5 := Lib.hid hs5
     clear hs5 hg5 e0 e1 e2;go_wp2_with fail
     go_ret
     exact ⟨ret_i HF.out.symm, HG5.out, fun _ => by rw [HGS.out]; exact S5.out.mono (by omega)⟩
  ·have hkc : (z.kind == 4) = false := by simp [hk4]
   have HE : Hid (goErr l z = if (varsL z.args).all (inB l) = true then 0 else 61) := by show _ = _; rw [goErr, HGA.out, if_neg (show ¬ (z.kind = 4 ∧ _) from fun h => hk4 h.1)]
   have HGS : Hid (goSet l z = l) := by show _ = _; rw [goSet, if_neg hk4, HGA.out]
   clear hk1 hk4;go_enter Tryz.func63, Tryz.ntmps63
   go_wp2_with fail
   have x0 := boxLi_new w (.int .i64 z.kind) (.string z.name) (.slice ga z.args.length gc);have d0 := below_alloc w (.cells #[.int .i64 z.kind, .string z.name, .slice ga z.args.length gc] 63);generalize w.alloc (.cells #[.int .i64 z.kind, .string z.name, .slice ga z.args.length gc] 63) = w1 at *;have X1 := Lib.hid x0; have HG1 := Lib.hid (grownT_below (World.grownBy.refl w (some b)) d0); have S1 := Lib.hid (HW.out.on d0)
   have HB1 := Lib.hid d0;have R1 := Lib.hid (RepMs.on (S' := fun k => k < w.heap.size ∧ k ≠ b) HS.out (fun k hk => d0.block k (HS.out k hk).1) HR.out.2.2.2.2);have Z1 := Lib.hid d0.size;clear d0 x0 HR HS HW;obtain ⟨e0, e1, e2⟩ := X1.out.cells;go_wp2_with fail
   refine (all_any b (n) (l) z.args (fun k => k < w.heap.size ∧ k ≠ b) w1 _ (fun k hk => Nat.lt_of_lt_of_le hk.1 Z1.out) S1.out R1.out).mono ?_;rintro e w3 ⟨rfl, hb⟩;have X1' := Lib.hid (X1.out.on hb); have HG1' := Lib.hid (grownT_below HG1.out hb); have S1' := Lib.hid (S1.out.on hb)
   clear hb;clear e0 e1 e2;obtain ⟨e0, e1, e2⟩ := X1'.out.cells
   cases hc : (varsL z.args).all (inB l) with
   | false =>
    have HF : Hid (goErr l z = 61) := by show _ = _; rw [HE.out, hc]; rfl
    clear hc;go_wp2_with fail
    go_ret
    exact ⟨ret_i HF.out.symm, HG1'.out, fun h => by rw [HF.out] at h; cases h⟩
   | true =>
    have HF : Hid (goErr l z = 0) := by show _ = _; rw [HE.out, hc]; rfl
    clear hc;go_wp2_with fail
    go_ret
    exact ⟨ret_i HF.out.symm, HG1'.out, fun _ => by rw [HGS.out]; exact S1'.out.mono (by omega)⟩
end Go.Proofs.YtjohcnhiblfbnaaGreat
namespace Go.Proofs.YtjohcnhiblfbnaaGreat
open Go.RowKit
set_option maxRecDepth 100000 in
theorem function_any (s : ByteArray) (w : World) : Calls Tryz.prog 94 #[.string s] w fun e w' => e = .returned (.bool (fnB s)) ∧ Below w.heap.size w w' := by
 have HF : Hid (decide (0 ≤ fnArity (fnOf s)) = fnB s) := rfl;go_enter Tryz.func94, Tryz.ntmps94
 go_wp2_with fail
 refine (arity_any s _).mono ?_;rintro e w1 ⟨rfl, hb⟩;go_wp2_with fail
 go_ret
 exact ⟨ret_bool HF.out, hb⟩
set_option maxRecDepth 100000 in
theorem relation_any (s : ByteArray) (w : World) (hs : s.size ≤ maxLen) : Calls Tryz.prog 76 #[.string s] w fun e w' => e = .returned (.bool (relB s)) ∧ Below w.heap.size w w' := by
 cases h1 : nameB s with
 | false =>
  have HF : Hid (relB s = false) := by show _ = _; simp [relB, h1]
  have H1 := Lib.hid h1; clear h1
  go_enter Tryz.func76, Tryz.ntmps76
  go_wp2_with fail
  refine (name_any s _ hs).mono ?_;rw [H1.out];rintro e w1 ⟨rfl, hb⟩;go_wp2_with fail
  go_ret
  exact ⟨ret_bool HF.out.symm, hb⟩
 | true =>
 cases h2 : fnB s with
 | true =>
  have HF : Hid (relB s = false) := by show _ = _; simp [relB, h1, h2]
  have H1 := Lib.hid h1; have H2 := Lib.hid h2; clear h1 h2
  go_enter Tryz.func76, Tryz.ntmps76
  go_wp2_with fail
  refine (name_any s _ hs).mono ?_;rw [H1.out];rintro e w1 ⟨rfl, hb⟩;go_wp2_with fail
  refine (function_any s _).mono ?_;rw [H2.out];rintro e w2 ⟨rfl, hb2⟩;go_wp2_with fail
  go_ret
  exact ⟨ret_bool HF.out.symm, Below.step hb hb2⟩
 | false =>
 cases h3 : declB s
 all_goals
  have HF := Lib.hid (show relB s = (!declB s) by simp [relB, h1, h2]);have HF' := HF.out;rw [h3] at HF';have HG := Lib.hid HF';have H1 := Lib.hid h1; have H2 := Lib.hid h2; unfold declB at h3; clear h1 h2 HF HF'
  go_enter Tryz.func76, Tryz.ntmps76
  go_wp2_with fail
  refine (name_any s _ hs).mono ?_;rw [H1.out];rintro e w1 ⟨rfl, hb⟩;go_wp2_with fail
  refine (function_any s _).mono ?_;rw [H2.out];rintro e w2 ⟨rfl, hb2⟩;go_wp2_with fail
  go_ret
  exact ⟨ret_bool HG.out.symm, Below.step hb hb2⟩
theorem isEmpty_len {α : Type} (l : List α) : l.isEmpty = ((l.length : Int) == 0) := by
 cases l with
 | nil => rfl
 | cons x l => symm; rw [beq_eq_false_iff_ne.2 (by simp; omega)]; rfl
set_option maxRecDepth 100000 in
theorem nothing_any (x : V) (S : Nat → Prop) (w : World) (c0 c1 c2 c3 : Value) (hx : RepG S w x c0 c1 c2 c3) : Calls Tryz.prog 119 #[.agg #[c0, c1, c2, c3]] w fun e w' => e = .returned (.bool (noneB x)) ∧ Below w.heap.size w w' := by
 obtain ⟨fa, fc, rfl, rfl, rfl, rfl⟩ := hx.form;clear hx
 cases h0 : (x.kind == 0) with
 | false =>
  have HF : Hid (noneB x = false) := by show _ = _; simp only [noneB, h0, Bool.false_and]
  go_enter Tryz.func119, Tryz.ntmps119
  go_wp2_with fail
  go_ret
  exact ⟨ret_bool HF.out.symm, below_alloc _ _⟩
 | true =>
 cases h1 : (x.num == 0) with
 | false =>
  have HF : Hid (noneB x = false) := by show _ = _; simp only [noneB, h0, h1, Bool.false_and, Bool.true_and]
  go_enter Tryz.func119, Tryz.ntmps119
  go_wp2_with fail
  go_ret
  exact ⟨ret_bool HF.out.symm, below_alloc _ _⟩
 | true =>
 cases h2 : (x.text.toList.isEmpty) with
 | false =>
  have HF : Hid (noneB x = false) := by show _ = _; simp only [noneB, h0, h1, h2, Bool.false_and, Bool.true_and]
  go_enter Tryz.func119, Tryz.ntmps119
  go_wp2_with fail
  go_ret
  exact ⟨ret_bool HF.out.symm, below_alloc _ _⟩
 | true =>
 have h3 := isEmpty_len x.list
 cases h4 : ((x.list.length : Int) == 0) with
 | false =>
  have HF : Hid (noneB x = false) := by show _ = _; simp only [noneB, h0, h1, h2, h3, h4, Bool.true_and]
  clear h3;go_enter Tryz.func119, Tryz.ntmps119
  go_wp2_with fail
  go_ret
  exact ⟨ret_bool HF.out.symm, below_alloc _ _⟩
 | true =>
  have HF : Hid (noneB x = true) := by show _ = _; simp only [noneB, h0, h1, h2, h3, h4, Bool.true_and]
  clear h3;go_enter Tryz.func119, Tryz.ntmps119
  go_wp2_with fail
  go_ret
  exact ⟨ret_bool HF.out.symm, below_alloc _ _⟩
set_option maxRecDepth 100000 in
theorem rightValue_any (x : V) (S : Nat → Prop) (w : World) (c0 c1 c2 c3 : Value) (hS : ∀ k, S k → k < w.heap.size) (hx : RepG S w x c0 c1 c2 c3) : Calls Tryz.prog 120 #[.agg #[c0, c1, c2, c3]] w fun e w' => e = .returned (.bool (valB x)) ∧ Below w.heap.size w w' := by
 have HX := Lib.hid hx;obtain ⟨fa, fc, rfl, rfl, rfl, rfl⟩ := hx.form;clear hx
 cases h0 : rightV 4 x with
 | false =>
  have HF : Hid (valB x = false) := by show _ = _; simp only [valB, h0, Bool.false_and]
  have HR := Lib.hid h0; clear h0
  go_enter Tryz.func120, Tryz.ntmps120
  go_wp2_with fail
  have x1 := boxed_new w (.int .i64 x.kind) (.int .i64 x.num) (.string x.text) (.slice fa x.list.length fc);have b1 := below_alloc w (.cells #[.int .i64 x.kind, .int .i64 x.num, .string x.text, .slice fa x.list.length fc] 31);generalize w.alloc (.cells #[.int .i64 x.kind, .int .i64 x.num, .string x.text, .slice fa x.list.length fc] 31) = w1 at *;refine (right_any x w1.heap.size w1 _ _ _ _ (Nat.le_refl _) (RepG.on (fun k hk => Nat.lt_of_lt_of_le (hS k hk) b1.size) (fun k hk => b1.block k (hS k hk)) x HX.out)).mono ?_;rw [HR.out];rintro e w2 ⟨rfl, hb2⟩;obtain ⟨q0, q1, q2, q3⟩ := (x1.on hb2).cells;go_wp2_with fail
  go_ret
  exact ⟨ret_bool HF.out.symm, Below.step b1 hb2⟩
 | true =>
 cases h1 : (x.kind == 3) with
 | false =>
  have HF : Hid (valB x = true) := by show _ = _; simp only [valB, h0, h1, Bool.false_and, Bool.true_and, Bool.not_false]
  have HR := Lib.hid h0; clear h0
  go_enter Tryz.func120, Tryz.ntmps120
  go_wp2_with fail
  have x1 := boxed_new w (.int .i64 x.kind) (.int .i64 x.num) (.string x.text) (.slice fa x.list.length fc);have b1 := below_alloc w (.cells #[.int .i64 x.kind, .int .i64 x.num, .string x.text, .slice fa x.list.length fc] 31);generalize w.alloc (.cells #[.int .i64 x.kind, .int .i64 x.num, .string x.text, .slice fa x.list.length fc] 31) = w1 at *;refine (right_any x w1.heap.size w1 _ _ _ _ (Nat.le_refl _) (RepG.on (fun k hk => Nat.lt_of_lt_of_le (hS k hk) b1.size) (fun k hk => b1.block k (hS k hk)) x HX.out)).mono ?_;rw [HR.out];rintro e w2 ⟨rfl, hb2⟩;obtain ⟨q0, q1, q2, q3⟩ := (x1.on hb2).cells;go_wp2_with fail
  go_ret
  exact ⟨ret_bool HF.out.symm, Below.step b1 hb2⟩
 | true =>
 cases h2 : fnB x.text
 all_goals
  have HF := Lib.hid (show valB x = (!fnB x.text) by simp only [valB, h0, h1, Bool.true_and]);have HF' := HF.out;rw [h2] at HF';have HG := Lib.hid HF';have H2 := Lib.hid h2;have HR := Lib.hid h0; clear h0 h2 HF HF'
  go_enter Tryz.func120, Tryz.ntmps120
  go_wp2_with fail
  have x1 := boxed_new w (.int .i64 x.kind) (.int .i64 x.num) (.string x.text) (.slice fa x.list.length fc);have b1 := below_alloc w (.cells #[.int .i64 x.kind, .int .i64 x.num, .string x.text, .slice fa x.list.length fc] 31);generalize w.alloc (.cells #[.int .i64 x.kind, .int .i64 x.num, .string x.text, .slice fa x.list.length fc] 31) = w1 at *;refine (right_any x w1.heap.size w1 _ _ _ _ (Nat.le_refl _) (RepG.on (fun k hk => Nat.lt_of_lt_of_le (hS k hk) b1.size) (fun k hk => b1.block k (hS k hk)) x HX.out)).mono ?_;rw [HR.out];rintro e w2 ⟨rfl, hb2⟩;obtain ⟨q0, q1, q2, q3⟩ := (x1.on hb2).cells;go_wp2_with fail
  refine (function_any x.text _).mono ?_;rw [H2.out];rintro e w3 ⟨rfl, hb3⟩;go_wp2_with fail
  go_ret
  exact ⟨ret_bool HG.out.symm, Below.step (Below.step b1 hb2) hb3⟩
set_option maxRecDepth 100000 in
theorem reckoning_any (s : ByteArray) (w : World) : Calls Tryz.prog 122 #[.string s] w fun e w' => e = .returned (.bool (opB s)) ∧ w = w' := by
 cases h0 : (s.toList == [43]) with
 | true =>
  have HF : Hid (opB s = true) := by show _ = _; simp [opB, h0]
  go_enter Tryz.func122, Tryz.ntmps122
  go_wp2_with fail
  go_ret
  exact ⟨ret_bool HF.out.symm, rfl⟩
 | false =>
 cases h1 : (s.toList == [45]) with
 | true =>
  have HF : Hid (opB s = true) := by show _ = _; simp [opB, h0, h1]
  go_enter Tryz.func122, Tryz.ntmps122
  go_wp2_with fail
  go_ret
  exact ⟨ret_bool HF.out.symm, rfl⟩
 | false =>
 cases h2 : (s.toList == [42]) with
 | true =>
  have HF : Hid (opB s = true) := by show _ = _; simp [opB, h0, h1, h2]
  go_enter Tryz.func122, Tryz.ntmps122
  go_wp2_with fail
  go_ret
  exact ⟨ret_bool HF.out.symm, rfl⟩
 | false =>
  have HF : Hid (opB s = false) := by show _ = _; simp only [opB, h0, h1, h2, Bool.false_or]
  go_enter Tryz.func122, Tryz.ntmps122
  go_wp2_with fail
  go_ret
  exact ⟨ret_bool HF.out.symm, rfl⟩
set_option maxRecDepth 100000 in
theorem comparing_any (s : ByteArray) (w : World) : Calls Tryz.prog 99 #[.string s] w fun e w' => e = .returned (.bool (cmpB s)) ∧ w = w' := by
 cases h0 : (s.toList == [61, 61]) with
 | true =>
  have HF : Hid (cmpB s = true) := by show _ = _; simp [cmpB, h0]
  go_enter Tryz.func99, Tryz.ntmps99
  go_wp2_with fail
  go_ret
  exact ⟨ret_bool HF.out.symm, rfl⟩
 | false =>
 cases h1 : (s.toList == [33, 61]) with
 | true =>
  have HF : Hid (cmpB s = true) := by show _ = _; simp [cmpB, h0, h1]
  go_enter Tryz.func99, Tryz.ntmps99
  go_wp2_with fail
  go_ret
  exact ⟨ret_bool HF.out.symm, rfl⟩
 | false =>
 cases h2 : (s.toList == [60]) with
 | true =>
  have HF : Hid (cmpB s = true) := by show _ = _; simp [cmpB, h0, h1, h2]
  go_enter Tryz.func99, Tryz.ntmps99
  go_wp2_with fail
  go_ret
  exact ⟨ret_bool HF.out.symm, rfl⟩
 | false =>
 cases h3 : (s.toList == [60, 61]) with
 | true =>
  have HF : Hid (cmpB s = true) := by show _ = _; simp [cmpB, h0, h1, h2, h3]
  go_enter Tryz.func99, Tryz.ntmps99
  go_wp2_with fail
  go_ret
  exact ⟨ret_bool HF.out.symm, rfl⟩
 | false =>
 cases h4 : (s.toList == [62]) with
 | true =>
  have HF : Hid (cmpB s = true) := by show _ = _; simp [cmpB, h0, h1, h2, h3, h4]
  go_enter Tryz.func99, Tryz.ntmps99
  go_wp2_with fail
  go_ret
  exact ⟨ret_bool HF.out.symm, rfl⟩
 | false =>
 cases h5 : (s.toList == [62, 61]) with
 | true =>
  have HF : Hid (cmpB s = true) := by show _ = _; simp [cmpB, h0, h1, h2, h3, h4, h5]
  go_enter Tryz.func99, Tryz.ntmps99
  go_wp2_with fail
  go_ret
  exact ⟨ret_bool HF.out.symm, rfl⟩
 | false =>
  have HF : Hid (cmpB s = false) := by show _ = _; simp only [cmpB, h0, h1, h2, h3, h4, h5, Bool.false_or]
  go_enter Tryz.func99, Tryz.ntmps99
  go_wp2_with fail
  go_ret
  exact ⟨ret_bool HF.out.symm, rfl⟩
set_option maxRecDepth 100000 in
theorem place_any (t : Tm) (S : Nat → Prop) (w : World) (c0 c1 c2 c3 c4 c5 c6 : Value) (ht : RepM S w t c0 c1 c2 c3 c4 c5 c6) : Calls Tryz.prog 98 #[.agg #[c0, c1, c2, c3, c4, c5, c6]] w fun e w' => e = .returned (.bool (placeB t)) ∧ Below w.heap.size w w' := by
 obtain ⟨fa, fc, ga, gc, rfl, rfl, rfl, rfl, rfl, rfl, rfl⟩ := ht.form;clear ht
 cases h0 : (t.kind == 1) with
 | true =>
  have HF : Hid (placeB t = true) := by show _ = _; simp only [placeB, h0, Bool.true_or]
  go_enter Tryz.func98, Tryz.ntmps98
  go_wp2_with fail
  go_ret
  exact ⟨ret_bool HF.out.symm, below_alloc _ _⟩
 | false =>
 cases h1 : (t.kind == 2) with
 | false =>
  have HF : Hid (placeB t = false) := by show _ = _; simp only [placeB, h0, h1, Bool.false_or, Bool.false_and]
  go_enter Tryz.func98, Tryz.ntmps98
  go_wp2_with fail
  go_ret
  exact ⟨ret_bool HF.out.symm, below_alloc _ _⟩
 | true =>
 cases h2 : (t.val.kind == 3) with
 | false =>
  have HF : Hid (placeB t = false) := by show _ = _; simp only [placeB, h0, h1, h2, Bool.false_or, Bool.and_false]
  go_enter Tryz.func98, Tryz.ntmps98
  go_wp2_with fail
  go_ret
  exact ⟨ret_bool HF.out.symm, below_alloc _ _⟩
 | true =>
  have HF : Hid (placeB t = true) := by show _ = _; simp only [placeB, h0, h1, h2, Bool.false_or, Bool.true_and]
  go_enter Tryz.func98, Tryz.ntmps98
  go_wp2_with fail
  go_ret
  exact ⟨ret_bool HF.out.symm, below_alloc _ _⟩
end Go.Proofs.YtjohcnhiblfbnaaGreat
