/-
  WTerm
-/
import Derived.Test.YtcmlojigcgihbaaGreatDoorKR34
import Derived.Test.YtcmlojigcgihbaaGreatDoorKR04
import Derived.Deep.RegionHeld3
namespace Go.Proofs.YtcmlojigcgihbaaGreatDoor
open Go.RowKit
def WTermAt (t : Tm) : Prop := ∀ (S : Nat → Prop) (B b : Nat) (acc : List UInt8) (w : World) (c0 c1 c2 c3 c4 c5 c6 : Value), (∀ k, S k → k < B) → B ≤ w.heap.size → 0 < B → TabOk w → RepM S w t c0 c1 c2 c3 c4 c5 c6 →
 Lib.IsBuilderF 149 5 B b (Lib.byteCells acc) w → acc.length + (showM t).length ≤ 140737488355328 →
 Calls Tryz.prog 145 #[.pointer (some ⟨b, 0, none⟩), .agg #[c0, c1, c2, c3, c4, c5, c6]] w fun e w' => e = .returned (.tuple #[]) ∧ pw.Wrote B b (acc ++ showM t) w w'
theorem wrote_drew {B b : Nat} {acc : List UInt8} {w : World} (hbu : Lib.IsBuilderF 149 5 B b (Lib.byteCells acc) w) (hB : B ≤ w.heap.size) : pw.Wrote B b acc w w.drew :=
 pw.Wrote.start hbu hB (Below.drew (Below.refl _ _))
theorem kept_cell {b k i : Nat} {w w' : World} (h : Lib.OthersKept 5 (some b) w w') {cs : Array Value} {t : TypeId} {fz : Nat × Nat} (hb : w.heap[k]? = some (.cells cs t fz)) (ht : t ≠ 5) (hk : k ≠ b) (v : Value) (hv : cs[i]? = some v) : w'.cell? ⟨k, i, none⟩ = some v :=
 cell_of_block' (h k _ hb (fun e => hk (Option.some.inj e)) (fun c f e => ht (by cases e; rfl))) v hv
theorem kept_block {b k : Nat} {w w' : World} (h : Lib.OthersKept 5 (some b) w w') {cs : Array Value} {t : TypeId} {fz : Nat × Nat} (hb : w.heap[k]? = some (.cells cs t fz)) (ht : t ≠ 5) (hk : k ≠ b) : w'.heap[k]? = some (.cells cs t fz) :=
 h k _ hb (fun e => hk (Option.some.inj e)) (fun c f e => ht (by cases e; rfl))
set_option maxRecDepth 100000 in
set_option maxHeartbeats 2000000 in
theorem term1_tells (l : List Tm) (HH : ∀ x ∈ l, WTermAt x) (S : Nat → Prop) (B b p1 p2 : Nat) (ga : Option Addr) (gc : Nat) (w : World) (cs : Array Value) (hS : ∀ k, S k → k < B) (hB : B ≤ w.heap.size) (hg : 0 < B) (htab : TabOk w) (hl : RepMs S w l (.slice ga l.length gc))
  (h1 : w.heap[p1]? = some (.cells #[.pointer (some ⟨b, 0, none⟩)] 105 (0, 0))) (h2 : w.heap[p2]? = some (.cells cs 58 (0, 0))) (h3 : cs[6]? = some (.slice ga l.length gc)) (n1 : p1 ≠ b) (n2 : p2 ≠ b) :
  TellsAt 163 (.pointer (some ⟨p1, 0, none⟩)) (.pointer (some ⟨p2, 0, none⟩)) B b w (l.map showM) := by
 intro i hi acc wx hw hlen;rw [List.length_map] at hi;rw [List.getElem_map] at hlen ⊢;have HA := Lib.hid (RepMs.on (fun _ h => h) (fun k hk => hw.2.1.block k (hS k hk)) hl : RepMs S wx l (.slice ga l.length gc));obtain ⟨-, hcap, lb, lo, ea, ec, ia, ic, rfl, hSb, g0, g1, g2, g3, g4, g5, g6, g⟩ := RepMs.at HA.out i hi;have hbl : lb < B := hS lb hSb;have HZ := Lib.hid (HH _ (List.getElem_mem hi));have G := Lib.hid g;clear g HA;generalize l[i] = z at *;have HTX := Lib.hid (TabOk.below htab hg hw.2.1);have HBX := Lib.hid (Nat.le_trans hB hw.2.1.size);have HWX := Lib.hid hw;have k1 := kept_block hw.2.2 h1 (by decide) n1;have k2 := kept_block hw.2.2 h2 (by decide) n2
 have HS1 : Hid (∀ w', wx.heap.size ≤ w'.heap.size → Below B wx w' → Lib.OthersKept 5 (some b) wx w' → (w'.cell? ⟨p1, 0, none⟩ = some (.pointer (some ⟨b, 0, none⟩)) ∧ w'.cell? ⟨p2, 6, none⟩ = some (.slice (some ⟨lb, lo, none⟩) l.length gc) ∧ w'.cell? ⟨lb, lo + i * 7, none⟩ = some (.int .i64 z.kind) ∧ w'.cell? ⟨lb, lo + i * 7 + 1, none⟩ = some (.string z.name) ∧ w'.cell? ⟨lb, lo + i * 7 + 2, none⟩ = some (.int .i64 z.val.kind) ∧ w'.cell? ⟨lb, lo + i * 7 + 3, none⟩ = some (.int .i64 z.val.num) ∧ w'.cell? ⟨lb, lo + i * 7 + 4, none⟩ = some (.string z.val.text) ∧ w'.cell? ⟨lb, lo + i * 7 + 5, none⟩ = some (.slice ea z.val.list.length ec) ∧ w'.cell? ⟨lb, lo + i * 7 + 6, none⟩ = some (.slice ia z.args.length ic))) :=
  Lib.hid (fun w' _ hb hk => ⟨kept_cell hk k1 (by decide) n1 _ rfl, kept_cell hk k2 (by decide) n2 _ h3, (hb.cell (p := ⟨lb, lo + i * 7, none⟩) (by exact hbl)).trans g0, (hb.cell (p := ⟨lb, lo + i * 7 + 1, none⟩) (by exact hbl)).trans g1, (hb.cell (p := ⟨lb, lo + i * 7 + 2, none⟩) (by exact hbl)).trans g2, (hb.cell (p := ⟨lb, lo + i * 7 + 3, none⟩) (by exact hbl)).trans g3, (hb.cell (p := ⟨lb, lo + i * 7 + 4, none⟩) (by exact hbl)).trans g4, (hb.cell (p := ⟨lb, lo + i * 7 + 5, none⟩) (by exact hbl)).trans g5, (hb.cell (p := ⟨lb, lo + i * 7 + 6, none⟩) (by exact hbl)).trans g6⟩)
 have HL := Lib.hid hlen;have hi0 : (0 : Int) ≤ (i : Int) := by omega
 have hi1 : (i : Int) < (l.length : Int) := by omega
 have c1 := cell_of_block' k1 (.pointer (some ⟨b, 0, none⟩)) (i := 0) rfl;have c2 := cell_of_block' k2 _ h3;have HK := Lib.hid (wrote_drew hw.1 HBX.out);clear hw hlen k1 k2;go_enter Tryz.func163, Tryz.ntmps163
 go_wp2_with fail
 go_region_held3 (fun w' => w'.cell? ⟨p1, 0, none⟩ = some (.pointer (some ⟨b, 0, none⟩)) ∧ w'.cell? ⟨p2, 6, none⟩ = some (.slice (some ⟨lb, lo, none⟩) l.length gc) ∧ w'.cell? ⟨lb, lo + i * 7, none⟩ = some (.int .i64 z.kind) ∧ w'.cell? ⟨lb, lo + i * 7 + 1, none⟩ = some (.string z.name) ∧ w'.cell? ⟨lb, lo + i * 7 + 2, none⟩ = some (.int .i64 z.val.kind) ∧ w'.cell? ⟨lb, lo + i * 7 + 3, none⟩ = some (.int .i64 z.val.num) ∧ w'.cell? ⟨lb, lo + i * 7 + 4, none⟩ = some (.string z.val.text) ∧ w'.cell? ⟨lb, lo + i * 7 + 5, none⟩ = some (.slice ea z.val.list.length ec) ∧ w'.cell? ⟨lb, lo + i * 7 + 6, none⟩ = some (.slice ia z.args.length ic))
  (first | exact HS1.out _ HK.out.2.1.size HK.out.2.1 HK.out.2.2)
  (first | (go_at_call 145; refine (HZ.out S B b acc _ _ _ _ _ _ _ _ hS (Nat.le_trans HBX.out HK.out.2.1.size) hg (TabOk.below HTX.out hg HK.out.2.1) (RepM.on (fun _ h => h) (fun k hk => HK.out.2.1.block k (hS k hk)) _ G.out) HK.out.1 HL.out).mono ?_; rintro e w' ⟨rfl, W⟩; replace HK := Lib.hid (HK.out.trans W); clear W))
 go_wp2_with fail
 go_end0
 exact ⟨rfl, HK.out⟩
set_option maxRecDepth 100000 in
set_option maxHeartbeats 2000000 in
theorem literal1_tells (l : List Tm) (HH : ∀ x ∈ l, WTermAt x) (S : Nat → Prop) (B b p1 p2 : Nat) (ga : Option Addr) (gc : Nat) (w : World) (cs : Array Value) (hS : ∀ k, S k → k < B) (hB : B ≤ w.heap.size) (hg : 0 < B) (htab : TabOk w) (hl : RepMs S w l (.slice ga l.length gc))
  (h1 : w.heap[p1]? = some (.cells #[.pointer (some ⟨b, 0, none⟩)] 105 (0, 0))) (h2 : w.heap[p2]? = some (.cells cs 61 (0, 0))) (h3 : cs[2]? = some (.slice ga l.length gc)) (n1 : p1 ≠ b) (n2 : p2 ≠ b) :
  TellsAt 146 (.pointer (some ⟨p1, 0, none⟩)) (.pointer (some ⟨p2, 0, none⟩)) B b w (l.map showM) := by
 intro i hi acc wx hw hlen;rw [List.length_map] at hi;rw [List.getElem_map] at hlen ⊢;have HA := Lib.hid (RepMs.on (fun _ h => h) (fun k hk => hw.2.1.block k (hS k hk)) hl : RepMs S wx l (.slice ga l.length gc));obtain ⟨-, hcap, lb, lo, ea, ec, ia, ic, rfl, hSb, g0, g1, g2, g3, g4, g5, g6, g⟩ := RepMs.at HA.out i hi;have hbl : lb < B := hS lb hSb;have HZ := Lib.hid (HH _ (List.getElem_mem hi));have G := Lib.hid g;clear g HA;generalize l[i] = z at *;have HTX := Lib.hid (TabOk.below htab hg hw.2.1);have HBX := Lib.hid (Nat.le_trans hB hw.2.1.size);have HWX := Lib.hid hw;have k1 := kept_block hw.2.2 h1 (by decide) n1;have k2 := kept_block hw.2.2 h2 (by decide) n2
 have HS1 : Hid (∀ w', wx.heap.size ≤ w'.heap.size → Below B wx w' → Lib.OthersKept 5 (some b) wx w' → (w'.cell? ⟨p1, 0, none⟩ = some (.pointer (some ⟨b, 0, none⟩)) ∧ w'.cell? ⟨p2, 2, none⟩ = some (.slice (some ⟨lb, lo, none⟩) l.length gc) ∧ w'.cell? ⟨lb, lo + i * 7, none⟩ = some (.int .i64 z.kind) ∧ w'.cell? ⟨lb, lo + i * 7 + 1, none⟩ = some (.string z.name) ∧ w'.cell? ⟨lb, lo + i * 7 + 2, none⟩ = some (.int .i64 z.val.kind) ∧ w'.cell? ⟨lb, lo + i * 7 + 3, none⟩ = some (.int .i64 z.val.num) ∧ w'.cell? ⟨lb, lo + i * 7 + 4, none⟩ = some (.string z.val.text) ∧ w'.cell? ⟨lb, lo + i * 7 + 5, none⟩ = some (.slice ea z.val.list.length ec) ∧ w'.cell? ⟨lb, lo + i * 7 + 6, none⟩ = some (.slice ia z.args.length ic))) :=
  Lib.hid (fun w' _ hb hk => ⟨kept_cell hk k1 (by decide) n1 _ rfl, kept_cell hk k2 (by decide) n2 _ h3, (hb.cell (p := ⟨lb, lo + i * 7, none⟩) (by exact hbl)).trans g0, (hb.cell (p := ⟨lb, lo + i * 7 + 1, none⟩) (by exact hbl)).trans g1, (hb.cell (p := ⟨lb, lo + i * 7 + 2, none⟩) (by exact hbl)).trans g2, (hb.cell (p := ⟨lb, lo + i * 7 + 3, none⟩) (by exact hbl)).trans g3, (hb.cell (p := ⟨lb, lo + i * 7 + 4, none⟩) (by exact hbl)).trans g4, (hb.cell (p := ⟨lb, lo + i * 7 + 5, none⟩) (by exact hbl)).trans g5, (hb.cell (p := ⟨lb, lo + i * 7 + 6, none⟩) (by exact hbl)).trans g6⟩)
 have HL := Lib.hid hlen;have hi0 : (0 : Int) ≤ (i : Int) := by omega
 have hi1 : (i : Int) < (l.length : Int) := by omega
 have c1 := cell_of_block' k1 (.pointer (some ⟨b, 0, none⟩)) (i := 0) rfl;have c2 := cell_of_block' k2 _ h3;have HK := Lib.hid (wrote_drew hw.1 HBX.out);clear hw hlen k1 k2;go_enter Tryz.func146, Tryz.ntmps146
 go_wp2_with fail
 go_region_held3 (fun w' => w'.cell? ⟨p1, 0, none⟩ = some (.pointer (some ⟨b, 0, none⟩)) ∧ w'.cell? ⟨p2, 2, none⟩ = some (.slice (some ⟨lb, lo, none⟩) l.length gc) ∧ w'.cell? ⟨lb, lo + i * 7, none⟩ = some (.int .i64 z.kind) ∧ w'.cell? ⟨lb, lo + i * 7 + 1, none⟩ = some (.string z.name) ∧ w'.cell? ⟨lb, lo + i * 7 + 2, none⟩ = some (.int .i64 z.val.kind) ∧ w'.cell? ⟨lb, lo + i * 7 + 3, none⟩ = some (.int .i64 z.val.num) ∧ w'.cell? ⟨lb, lo + i * 7 + 4, none⟩ = some (.string z.val.text) ∧ w'.cell? ⟨lb, lo + i * 7 + 5, none⟩ = some (.slice ea z.val.list.length ec) ∧ w'.cell? ⟨lb, lo + i * 7 + 6, none⟩ = some (.slice ia z.args.length ic))
  (first | exact HS1.out _ HK.out.2.1.size HK.out.2.1 HK.out.2.2)
  (first | (go_at_call 145; refine (HZ.out S B b acc _ _ _ _ _ _ _ _ hS (Nat.le_trans HBX.out HK.out.2.1.size) hg (TabOk.below HTX.out hg HK.out.2.1) (RepM.on (fun _ h => h) (fun k hk => HK.out.2.1.block k (hS k hk)) _ G.out) HK.out.1 HL.out).mono ?_; rintro e w' ⟨rfl, W⟩; replace HK := Lib.hid (HK.out.trans W); clear W))
 go_wp2_with fail
 go_end0
 exact ⟨rfl, HK.out⟩
theorem kinds_of (t : Tm) : showM t = if t.kind = 1 then t.name.data.toList
  else if t.kind = 2 then printB t.val
  else if t.kind = 3 then t.name.data.toList ++ (40 :: (sepL [44] (t.args.map showM) ++ [41]))
  else if t.kind = 4 then 40 :: (sepL t.name.data.toList (t.args.map showM) ++ [41])
  else [] := by cases t; exact showM_mk _ _ _ _
set_option maxRecDepth 100000 in
set_option maxHeartbeats 4000000 in
theorem wterm_of (t : Tm) (HH : ∀ x ∈ t.args, WTermAt x) : WTermAt t := by
 intro S B b acc w c0 c1 c2 c3 c4 c5 c6 hS hB hg htab ht hbu hlen;have HV := Lib.hid ht.value; have HL := Lib.hid ht.lst; have HTB := Lib.hid htab; have HBU := Lib.hid hbu
 have HN : Hid (t.args.length ≤ 140737488355328) := by show _ ≤ _; have := SlG.bytes ht.lst; omega
 obtain ⟨fa, fc, ga, gc, rfl, rfl, rfl, rfl, rfl, rfl, rfl⟩ := ht.form;have HF0 := Lib.hid (kinds_of t); have HLEN := Lib.hid hlen
 clear ht htab hbu hlen
 by_cases e1 : t.kind = 1
 ·have HF : Hid (showM t = t.name.data.toList) := by show _ = _; rw [HF0.out, if_pos e1]
  have HLN : Hid (acc.length + t.name.size ≤ 140737488355328) := by show _ ≤ _; have h := HLEN.out; rw [HF.out, size_list] at h; exact h
  have k1 : (t.kind == 1) = true := by simp [e1]
  clear e1 HF0 HLEN;go_enter Tryz.func145, Tryz.ntmps145
  go_wp2_with fail
  have q1 := alloc_new' w (.cells #[.pointer (some ⟨b, 0, none⟩)] 105);have s1 := World.size_alloc w (.cells #[.pointer (some ⟨b, 0, none⟩)] 105);have b1 := below_alloc w (.cells #[.pointer (some ⟨b, 0, none⟩)] 105);generalize w.alloc (.cells #[.pointer (some ⟨b, 0, none⟩)] 105) = w1 at *;have q2 := alloc_new' w1 (.cells #[.int .i64 t.kind, .string t.name, .int .i64 t.val.kind, .int .i64 t.val.num, .string t.val.text, .slice fa t.val.list.length fc, .slice ga t.args.length gc] 58);have b2 := below_alloc w1 (.cells #[.int .i64 t.kind, .string t.name, .int .i64 t.val.kind, .int .i64 t.val.num, .string t.val.text, .slice fa t.val.list.length fc, .slice ga t.args.length gc] 58);generalize w1.alloc (.cells #[.int .i64 t.kind, .string t.name, .int .i64 t.val.kind, .int .i64 t.val.num, .string t.val.text, .slice fa t.val.list.length fc, .slice ga t.args.length gc] 58) = w2 at *;rw [s1] at q2;have Q1 := Lib.hid ((b2.block w.heap.size (by omega)).trans q1); have Q2 := Lib.hid q2
  have W2 := Lib.hid (pw.Wrote.start HBU.out hB (Below.step b1 b2));have N1 : Hid (w.heap.size ≠ b) := by show _ ≠ _; have := builder_lt HBU.out; omega
  have N2 : Hid (w.heap.size + 1 ≠ b) := by show _ ≠ _; have := builder_lt HBU.out; omega
  have HWB := Lib.hid (Below.step b1 b2);clear q1 q2 b1 b2 s1;generalize hpb : w.heap.size = pb at Q1 Q2 N1 N2 ⊢;clear hpb;have HW : Hid (pw.Wrote B b acc w2 w2) := Lib.hid ⟨W2.out.1, Below.refl _ _, Lib.OthersKept.refl _ _ _⟩;have QK1 := Lib.hid (kept_block HW.out.2.2 Q1.out (by decide) N1.out); have QK2 := Lib.hid (kept_block HW.out.2.2 Q2.out (by decide) N2.out)
  have HK := Lib.hid (wrote_drew HW.out.1 (Nat.le_trans hB HWB.out.size))
  go_region_held3 (fun w' => w'.cell? ⟨pb, 0, none⟩ = some (.pointer (some ⟨b, 0, none⟩)) ∧ w'.cell? ⟨pb + 1, 0, none⟩ = some (.int .i64 t.kind) ∧ w'.cell? ⟨pb + 1, 1, none⟩ = some (.string t.name) ∧ w'.cell? ⟨pb + 1, 2, none⟩ = some (.int .i64 t.val.kind) ∧ w'.cell? ⟨pb + 1, 3, none⟩ = some (.int .i64 t.val.num) ∧ w'.cell? ⟨pb + 1, 4, none⟩ = some (.string t.val.text) ∧ w'.cell? ⟨pb + 1, 5, none⟩ = some (.slice fa t.val.list.length fc) ∧ w'.cell? ⟨pb + 1, 6, none⟩ = some (.slice ga t.args.length gc))
   (first | exact ⟨kept_cell HK.out.2.2 QK1.out (by decide) N1.out _ rfl, kept_cell HK.out.2.2 QK2.out (by decide) N2.out _ rfl, kept_cell HK.out.2.2 QK2.out (by decide) N2.out _ rfl, kept_cell HK.out.2.2 QK2.out (by decide) N2.out _ rfl, kept_cell HK.out.2.2 QK2.out (by decide) N2.out _ rfl, kept_cell HK.out.2.2 QK2.out (by decide) N2.out _ rfl, kept_cell HK.out.2.2 QK2.out (by decide) N2.out _ rfl, kept_cell HK.out.2.2 QK2.out (by decide) N2.out _ rfl⟩)
   (first
    | (go_at_call 110; refine (pw.wstr B b _ t.name _ HK.out.1 (HLN.out) (Nat.le_trans (Nat.le_trans hB HWB.out.size) HK.out.2.1.size)).mono ?_; rintro e w' ⟨rfl, W⟩; replace HK := Lib.hid (HK.out.trans W); clear W))
  go_wp2_with fail
  go_end0
  refine ⟨rfl, ?_⟩;rw [HF.out];exact W2.out.trans HK.out
 have k1 : (t.kind == 1) = false := by simp [e1]
 by_cases e2 : t.kind = 2
 ·have HF : Hid (showM t = printB t.val) := by show _ = _; rw [HF0.out, if_neg e1, if_pos e2]
  have HLN : Hid (acc.length + (printB t.val).length ≤ 140737488355328) := by show _ ≤ _; have h := HLEN.out; rw [HF.out] at h; exact h
  have k2 : (t.kind == 2) = true := by simp [e2]
  clear e1 e2 HF0 HLEN;go_enter Tryz.func145, Tryz.ntmps145
  go_wp2_with fail
  have q1 := alloc_new' w (.cells #[.pointer (some ⟨b, 0, none⟩)] 105);have s1 := World.size_alloc w (.cells #[.pointer (some ⟨b, 0, none⟩)] 105);have b1 := below_alloc w (.cells #[.pointer (some ⟨b, 0, none⟩)] 105);generalize w.alloc (.cells #[.pointer (some ⟨b, 0, none⟩)] 105) = w1 at *;have q2 := alloc_new' w1 (.cells #[.int .i64 t.kind, .string t.name, .int .i64 t.val.kind, .int .i64 t.val.num, .string t.val.text, .slice fa t.val.list.length fc, .slice ga t.args.length gc] 58);have b2 := below_alloc w1 (.cells #[.int .i64 t.kind, .string t.name, .int .i64 t.val.kind, .int .i64 t.val.num, .string t.val.text, .slice fa t.val.list.length fc, .slice ga t.args.length gc] 58);generalize w1.alloc (.cells #[.int .i64 t.kind, .string t.name, .int .i64 t.val.kind, .int .i64 t.val.num, .string t.val.text, .slice fa t.val.list.length fc, .slice ga t.args.length gc] 58) = w2 at *;rw [s1] at q2;have Q1 := Lib.hid ((b2.block w.heap.size (by omega)).trans q1); have Q2 := Lib.hid q2
  have W2 := Lib.hid (pw.Wrote.start HBU.out hB (Below.step b1 b2));have N1 : Hid (w.heap.size ≠ b) := by show _ ≠ _; have := builder_lt HBU.out; omega
  have N2 : Hid (w.heap.size + 1 ≠ b) := by show _ ≠ _; have := builder_lt HBU.out; omega
  have HWB := Lib.hid (Below.step b1 b2);clear q1 q2 b1 b2 s1;generalize hpb : w.heap.size = pb at Q1 Q2 N1 N2 ⊢;clear hpb;have HW : Hid (pw.Wrote B b acc w2 w2) := Lib.hid ⟨W2.out.1, Below.refl _ _, Lib.OthersKept.refl _ _ _⟩;have QK1 := Lib.hid (kept_block HW.out.2.2 Q1.out (by decide) N1.out); have QK2 := Lib.hid (kept_block HW.out.2.2 Q2.out (by decide) N2.out)
  have HK := Lib.hid (wrote_drew HW.out.1 (Nat.le_trans hB HWB.out.size))
  go_region_held3 (fun w' => w'.cell? ⟨pb, 0, none⟩ = some (.pointer (some ⟨b, 0, none⟩)) ∧ w'.cell? ⟨pb + 1, 0, none⟩ = some (.int .i64 t.kind) ∧ w'.cell? ⟨pb + 1, 1, none⟩ = some (.string t.name) ∧ w'.cell? ⟨pb + 1, 2, none⟩ = some (.int .i64 t.val.kind) ∧ w'.cell? ⟨pb + 1, 3, none⟩ = some (.int .i64 t.val.num) ∧ w'.cell? ⟨pb + 1, 4, none⟩ = some (.string t.val.text) ∧ w'.cell? ⟨pb + 1, 5, none⟩ = some (.slice fa t.val.list.length fc) ∧ w'.cell? ⟨pb + 1, 6, none⟩ = some (.slice ga t.args.length gc))
   (first | exact ⟨kept_cell HK.out.2.2 QK1.out (by decide) N1.out _ rfl, kept_cell HK.out.2.2 QK2.out (by decide) N2.out _ rfl, kept_cell HK.out.2.2 QK2.out (by decide) N2.out _ rfl, kept_cell HK.out.2.2 QK2.out (by decide) N2.out _ rfl, kept_cell HK.out.2.2 QK2.out (by decide) N2.out _ rfl, kept_cell HK.out.2.2 QK2.out (by decide) N2.out _ rfl, kept_cell HK.out.2.2 QK2.out (by decide) N2.out _ rfl, kept_cell HK.out.2.2 QK2.out (by decide) N2.out _ rfl⟩)
   (first
    | (go_at_call 164; refine (print_any t.val B _ _ _ _ _ (Nat.le_trans (Nat.le_trans hB HWB.out.size) HK.out.2.1.size) (Nat.lt_of_lt_of_le hg (Nat.le_trans (Nat.le_trans hB HWB.out.size) HK.out.2.1.size)) (TabOk.below HTB.out hg ((HWB.out.mono hB).trans HK.out.2.1)) (RepG.on hS (fun k hk => ((HWB.out.mono hB).trans HK.out.2.1).block k (hS k hk)) t.val HV.out)).mono ?_; rintro e w' ⟨rfl, hb⟩; replace HK := Lib.hid (HK.out.trans (pw.Wrote.start HK.out.1 (Nat.le_trans (Nat.le_trans hB HWB.out.size) HK.out.2.1.size) hb)); clear hb)
    | (go_at_call 110; refine (pw.wstr B b _ ⟨(printB t.val).toArray⟩ _ HK.out.1 (by rw [size_mk]; exact HLN.out) (Nat.le_trans (Nat.le_trans hB HWB.out.size) HK.out.2.1.size)).mono ?_; rintro e w' ⟨rfl, W⟩; replace HK := Lib.hid (HK.out.trans W); clear W))
  go_wp2_with fail
  go_end0
  refine ⟨rfl, ?_⟩;rw [HF.out];exact W2.out.trans HK.out
 have k2 : (t.kind == 2) = false := by simp [e2]
 by_cases e3 : t.kind = 3
 ·have HF : Hid (showM t = t.name.data.toList ++ (40 :: (sepL [44] (t.args.map showM) ++ [41]))) := by show _ = _; rw [HF0.out, if_neg e1, if_neg e2, if_pos e3]
  have HLN : Hid (acc.length + t.name.size + 2 + (sepL [44] (t.args.map showM)).length ≤ 140737488355328) := by show _ ≤ _; have h := HLEN.out; rw [HF.out] at h; simp only [List.length_append, List.length_cons, List.length_nil, size_list] at h; omega
  have k3 : (t.kind == 3) = true := by simp [e3]
  clear e1 e2 e3 HF0 HLEN;go_enter Tryz.func145, Tryz.ntmps145
  go_wp2_with fail
  have q1 := alloc_new' w (.cells #[.pointer (some ⟨b, 0, none⟩)] 105);have s1 := World.size_alloc w (.cells #[.pointer (some ⟨b, 0, none⟩)] 105);have b1 := below_alloc w (.cells #[.pointer (some ⟨b, 0, none⟩)] 105);generalize w.alloc (.cells #[.pointer (some ⟨b, 0, none⟩)] 105) = w1 at *;have q2 := alloc_new' w1 (.cells #[.int .i64 t.kind, .string t.name, .int .i64 t.val.kind, .int .i64 t.val.num, .string t.val.text, .slice fa t.val.list.length fc, .slice ga t.args.length gc] 58);have b2 := below_alloc w1 (.cells #[.int .i64 t.kind, .string t.name, .int .i64 t.val.kind, .int .i64 t.val.num, .string t.val.text, .slice fa t.val.list.length fc, .slice ga t.args.length gc] 58);generalize w1.alloc (.cells #[.int .i64 t.kind, .string t.name, .int .i64 t.val.kind, .int .i64 t.val.num, .string t.val.text, .slice fa t.val.list.length fc, .slice ga t.args.length gc] 58) = w2 at *;rw [s1] at q2;have Q1 := Lib.hid ((b2.block w.heap.size (by omega)).trans q1); have Q2 := Lib.hid q2
  have W2 := Lib.hid (pw.Wrote.start HBU.out hB (Below.step b1 b2));have N1 : Hid (w.heap.size ≠ b) := by show _ ≠ _; have := builder_lt HBU.out; omega
  have N2 : Hid (w.heap.size + 1 ≠ b) := by show _ ≠ _; have := builder_lt HBU.out; omega
  have HWB := Lib.hid (Below.step b1 b2);clear q1 q2 b1 b2 s1;generalize hpb : w.heap.size = pb at Q1 Q2 N1 N2 ⊢;clear hpb;have HW : Hid (pw.Wrote B b acc w2 w2) := Lib.hid ⟨W2.out.1, Below.refl _ _, Lib.OthersKept.refl _ _ _⟩;have QK1 := Lib.hid (kept_block HW.out.2.2 Q1.out (by decide) N1.out); have QK2 := Lib.hid (kept_block HW.out.2.2 Q2.out (by decide) N2.out)
  have HK := Lib.hid (wrote_drew HW.out.1 (Nat.le_trans hB HWB.out.size))
  go_region_held3 (fun w' => w'.cell? ⟨pb, 0, none⟩ = some (.pointer (some ⟨b, 0, none⟩)) ∧ w'.cell? ⟨pb + 1, 0, none⟩ = some (.int .i64 t.kind) ∧ w'.cell? ⟨pb + 1, 1, none⟩ = some (.string t.name) ∧ w'.cell? ⟨pb + 1, 2, none⟩ = some (.int .i64 t.val.kind) ∧ w'.cell? ⟨pb + 1, 3, none⟩ = some (.int .i64 t.val.num) ∧ w'.cell? ⟨pb + 1, 4, none⟩ = some (.string t.val.text) ∧ w'.cell? ⟨pb + 1, 5, none⟩ = some (.slice fa t.val.list.length fc) ∧ w'.cell? ⟨pb + 1, 6, none⟩ = some (.slice ga t.args.length gc))
   (first | exact ⟨kept_cell HK.out.2.2 QK1.out (by decide) N1.out _ rfl, kept_cell HK.out.2.2 QK2.out (by decide) N2.out _ rfl, kept_cell HK.out.2.2 QK2.out (by decide) N2.out _ rfl, kept_cell HK.out.2.2 QK2.out (by decide) N2.out _ rfl, kept_cell HK.out.2.2 QK2.out (by decide) N2.out _ rfl, kept_cell HK.out.2.2 QK2.out (by decide) N2.out _ rfl, kept_cell HK.out.2.2 QK2.out (by decide) N2.out _ rfl, kept_cell HK.out.2.2 QK2.out (by decide) N2.out _ rfl⟩)
   (first
    | (go_at_call 110; refine (pw.wstr B b _ t.name _ HK.out.1 (by have := HLN.out; omega) (Nat.le_trans (Nat.le_trans hB HWB.out.size) HK.out.2.1.size)).mono ?_; rintro e w' ⟨rfl, W⟩; replace HK := Lib.hid (HK.out.trans W); clear W))
  replace HW := Lib.hid (HW.out.trans HK.out);clear HK QK1 QK2;have c0 := kept_cell (i := 0) HW.out.2.2 Q1.out (by decide) N1.out _ rfl;have d0 := kept_cell (i := 0) HW.out.2.2 Q2.out (by decide) N2.out _ rfl;have d1 := kept_cell (i := 1) HW.out.2.2 Q2.out (by decide) N2.out _ rfl;have d2 := kept_cell (i := 2) HW.out.2.2 Q2.out (by decide) N2.out _ rfl;have d3 := kept_cell (i := 3) HW.out.2.2 Q2.out (by decide) N2.out _ rfl;have d4 := kept_cell (i := 4) HW.out.2.2 Q2.out (by decide) N2.out _ rfl;have d5 := kept_cell (i := 5) HW.out.2.2 Q2.out (by decide) N2.out _ rfl;have d6 := kept_cell (i := 6) HW.out.2.2 Q2.out (by decide) N2.out _ rfl;go_wp2_with fail
  refine (pw.wbyte B b _ 40 _ HW.out.1 (by have := HLN.out; simp only [List.length_append, size_list]; omega) (Nat.le_trans (Nat.le_trans hB HWB.out.size) HW.out.2.1.size)).mono ?_;rintro e w4 ⟨rfl, W⟩;replace HW := Lib.hid (HW.out.trans W); clear W
  clear c0 d0 d1 d2 d3 d4 d5 d6;have c0 := kept_cell (i := 0) HW.out.2.2 Q1.out (by decide) N1.out _ rfl;have d0 := kept_cell (i := 0) HW.out.2.2 Q2.out (by decide) N2.out _ rfl;have d1 := kept_cell (i := 1) HW.out.2.2 Q2.out (by decide) N2.out _ rfl;have d2 := kept_cell (i := 2) HW.out.2.2 Q2.out (by decide) N2.out _ rfl;have d3 := kept_cell (i := 3) HW.out.2.2 Q2.out (by decide) N2.out _ rfl;have d4 := kept_cell (i := 4) HW.out.2.2 Q2.out (by decide) N2.out _ rfl;have d5 := kept_cell (i := 5) HW.out.2.2 Q2.out (by decide) N2.out _ rfl;have d6 := kept_cell (i := 6) HW.out.2.2 Q2.out (by decide) N2.out _ rfl;go_wp2_with fail
  have hx := wlist_any 163 (.pointer (some ⟨pb, 0, none⟩)) (.pointer (some ⟨pb + 1, 0, none⟩)) B b _ _ ⟨#[44]⟩ (t.args.map showM) (fun _ _ => by kernel_rfl) (Nat.le_trans (Nat.le_trans hB HWB.out.size) HW.out.2.1.size) HW.out.1 (by have := HLN.out; simp only [List.length_append, List.length_cons, List.length_nil, size_list]; show _ + 0 + 1 + (sepL [44] (t.args.map showM)).length ≤ _; omega) (by rw [List.length_map]; exact HN.out) (term1_tells t.args HH S B b pb (pb + 1) ga gc _ _ hS (Nat.le_trans (Nat.le_trans hB HWB.out.size) HW.out.2.1.size) hg (TabOk.below HTB.out hg ((HWB.out.mono hB).trans HW.out.2.1)) (RepMs.on (fun _ h => h) (fun k hk => ((HWB.out.mono hB).trans HW.out.2.1).block k (hS k hk)) HL.out) (kept_block HW.out.2.2 Q1.out (by decide) N1.out) (kept_block HW.out.2.2 Q2.out (by decide) N2.out) rfl N1.out N2.out);rw [List.length_map] at hx;refine hx.mono ?_;clear hx;rintro e w5 ⟨rfl, W⟩;replace HW := Lib.hid (HW.out.trans W); clear W
  clear c0 d0 d1 d2 d3 d4 d5 d6;have c0 := kept_cell (i := 0) HW.out.2.2 Q1.out (by decide) N1.out _ rfl;have d0 := kept_cell (i := 0) HW.out.2.2 Q2.out (by decide) N2.out _ rfl;have d1 := kept_cell (i := 1) HW.out.2.2 Q2.out (by decide) N2.out _ rfl;have d2 := kept_cell (i := 2) HW.out.2.2 Q2.out (by decide) N2.out _ rfl;have d3 := kept_cell (i := 3) HW.out.2.2 Q2.out (by decide) N2.out _ rfl;have d4 := kept_cell (i := 4) HW.out.2.2 Q2.out (by decide) N2.out _ rfl;have d5 := kept_cell (i := 5) HW.out.2.2 Q2.out (by decide) N2.out _ rfl;have d6 := kept_cell (i := 6) HW.out.2.2 Q2.out (by decide) N2.out _ rfl;go_wp2_with fail
  refine (pw.wbyte B b _ 41 _ HW.out.1 (by have := HLN.out; simp only [List.length_append, List.length_cons, List.length_nil, size_list]; show _ + 0 + 1 + (sepL [44] (t.args.map showM)).length + 1 ≤ _; omega) (Nat.le_trans (Nat.le_trans hB HWB.out.size) HW.out.2.1.size)).mono ?_;rintro e w6 ⟨rfl, W⟩;replace HW := Lib.hid (HW.out.trans W); clear W
  clear c0 d0 d1 d2 d3 d4 d5 d6;go_wp2_with fail
  go_end0
  refine ⟨rfl, ?_⟩;rw [HF.out];have h := W2.out.trans HW.out
  simpa [List.append_assoc] using h
 have k3 : (t.kind == 3) = false := by simp [e3]
 by_cases e4 : t.kind = 4
 ·have HF : Hid (showM t = 40 :: (sepL t.name.data.toList (t.args.map showM) ++ [41])) := by show _ = _; rw [HF0.out, if_neg e1, if_neg e2, if_neg e3, if_pos e4]
  have HLN : Hid (acc.length + 2 + (sepL t.name.data.toList (t.args.map showM)).length ≤ 140737488355328) := by show _ ≤ _; have h := HLEN.out; rw [HF.out] at h; simp only [List.length_append, List.length_cons, List.length_nil] at h; omega
  have k4 : (t.kind == 4) = true := by simp [e4]
  clear e1 e2 e3 e4 HF0 HLEN;go_enter Tryz.func145, Tryz.ntmps145
  go_wp2_with fail
  have q1 := alloc_new' w (.cells #[.pointer (some ⟨b, 0, none⟩)] 105);have s1 := World.size_alloc w (.cells #[.pointer (some ⟨b, 0, none⟩)] 105);have b1 := below_alloc w (.cells #[.pointer (some ⟨b, 0, none⟩)] 105);generalize w.alloc (.cells #[.pointer (some ⟨b, 0, none⟩)] 105) = w1 at *;have q2 := alloc_new' w1 (.cells #[.int .i64 t.kind, .string t.name, .int .i64 t.val.kind, .int .i64 t.val.num, .string t.val.text, .slice fa t.val.list.length fc, .slice ga t.args.length gc] 58);have b2 := below_alloc w1 (.cells #[.int .i64 t.kind, .string t.name, .int .i64 t.val.kind, .int .i64 t.val.num, .string t.val.text, .slice fa t.val.list.length fc, .slice ga t.args.length gc] 58);generalize w1.alloc (.cells #[.int .i64 t.kind, .string t.name, .int .i64 t.val.kind, .int .i64 t.val.num, .string t.val.text, .slice fa t.val.list.length fc, .slice ga t.args.length gc] 58) = w2 at *;rw [s1] at q2;have Q1 := Lib.hid ((b2.block w.heap.size (by omega)).trans q1); have Q2 := Lib.hid q2
  have W2 := Lib.hid (pw.Wrote.start HBU.out hB (Below.step b1 b2));have N1 : Hid (w.heap.size ≠ b) := by show _ ≠ _; have := builder_lt HBU.out; omega
  have N2 : Hid (w.heap.size + 1 ≠ b) := by show _ ≠ _; have := builder_lt HBU.out; omega
  have HWB := Lib.hid (Below.step b1 b2);clear q1 q2 b1 b2 s1;generalize hpb : w.heap.size = pb at Q1 Q2 N1 N2 ⊢;clear hpb;have HW : Hid (pw.Wrote B b acc w2 w2) := Lib.hid ⟨W2.out.1, Below.refl _ _, Lib.OthersKept.refl _ _ _⟩;refine (pw.wbyte B b _ 40 _ HW.out.1 (by have := HLN.out; omega) (Nat.le_trans (Nat.le_trans hB HWB.out.size) HW.out.2.1.size)).mono ?_;rintro e w4 ⟨rfl, W⟩;replace HW := Lib.hid (HW.out.trans W); clear W
  have c0 := kept_cell (i := 0) HW.out.2.2 Q1.out (by decide) N1.out _ rfl;have d0 := kept_cell (i := 0) HW.out.2.2 Q2.out (by decide) N2.out _ rfl;have d1 := kept_cell (i := 1) HW.out.2.2 Q2.out (by decide) N2.out _ rfl;have d2 := kept_cell (i := 2) HW.out.2.2 Q2.out (by decide) N2.out _ rfl;have d3 := kept_cell (i := 3) HW.out.2.2 Q2.out (by decide) N2.out _ rfl;have d4 := kept_cell (i := 4) HW.out.2.2 Q2.out (by decide) N2.out _ rfl;have d5 := kept_cell (i := 5) HW.out.2.2 Q2.out (by decide) N2.out _ rfl;have d6 := kept_cell (i := 6) HW.out.2.2 Q2.out (by decide) N2.out _ rfl;go_wp2_with fail
  have hx := wlist_any 163 (.pointer (some ⟨pb, 0, none⟩)) (.pointer (some ⟨pb + 1, 0, none⟩)) B b _ _ t.name (t.args.map showM) (fun _ _ => by kernel_rfl) (Nat.le_trans (Nat.le_trans hB HWB.out.size) HW.out.2.1.size) HW.out.1 (by have := HLN.out; simp only [List.length_append, List.length_cons, List.length_nil]; omega) (by rw [List.length_map]; exact HN.out) (term1_tells t.args HH S B b pb (pb + 1) ga gc _ _ hS (Nat.le_trans (Nat.le_trans hB HWB.out.size) HW.out.2.1.size) hg (TabOk.below HTB.out hg ((HWB.out.mono hB).trans HW.out.2.1)) (RepMs.on (fun _ h => h) (fun k hk => ((HWB.out.mono hB).trans HW.out.2.1).block k (hS k hk)) HL.out) (kept_block HW.out.2.2 Q1.out (by decide) N1.out) (kept_block HW.out.2.2 Q2.out (by decide) N2.out) rfl N1.out N2.out);rw [List.length_map] at hx;refine hx.mono ?_;clear hx;rintro e w5 ⟨rfl, W⟩;replace HW := Lib.hid (HW.out.trans W); clear W
  clear c0 d0 d1 d2 d3 d4 d5 d6;have c0 := kept_cell (i := 0) HW.out.2.2 Q1.out (by decide) N1.out _ rfl;have d0 := kept_cell (i := 0) HW.out.2.2 Q2.out (by decide) N2.out _ rfl;have d1 := kept_cell (i := 1) HW.out.2.2 Q2.out (by decide) N2.out _ rfl;have d2 := kept_cell (i := 2) HW.out.2.2 Q2.out (by decide) N2.out _ rfl;have d3 := kept_cell (i := 3) HW.out.2.2 Q2.out (by decide) N2.out _ rfl;have d4 := kept_cell (i := 4) HW.out.2.2 Q2.out (by decide) N2.out _ rfl;have d5 := kept_cell (i := 5) HW.out.2.2 Q2.out (by decide) N2.out _ rfl;have d6 := kept_cell (i := 6) HW.out.2.2 Q2.out (by decide) N2.out _ rfl;go_wp2_with fail
  refine (pw.wbyte B b _ 41 _ HW.out.1 (by have := HLN.out; simp only [List.length_append, List.length_cons, List.length_nil]; omega) (Nat.le_trans (Nat.le_trans hB HWB.out.size) HW.out.2.1.size)).mono ?_;rintro e w6 ⟨rfl, W⟩;replace HW := Lib.hid (HW.out.trans W); clear W
  clear c0 d0 d1 d2 d3 d4 d5 d6;go_wp2_with fail
  go_end0
  refine ⟨rfl, ?_⟩;rw [HF.out];have h := W2.out.trans HW.out
  simpa [List.append_assoc] using h
 have k4 : (t.kind == 4) = false := by simp [e4]
 have HF : Hid (showM t = []) := by show _ = _; rw [HF0.out, if_neg e1, if_neg e2, if_neg e3, if_neg e4]
 clear e1 e2 e3 e4 HF0 HLEN;go_enter Tryz.func145, Tryz.ntmps145
 go_wp2_with fail
 have q1 := alloc_new' w (.cells #[.pointer (some ⟨b, 0, none⟩)] 105);have s1 := World.size_alloc w (.cells #[.pointer (some ⟨b, 0, none⟩)] 105);have b1 := below_alloc w (.cells #[.pointer (some ⟨b, 0, none⟩)] 105);generalize w.alloc (.cells #[.pointer (some ⟨b, 0, none⟩)] 105) = w1 at *;have q2 := alloc_new' w1 (.cells #[.int .i64 t.kind, .string t.name, .int .i64 t.val.kind, .int .i64 t.val.num, .string t.val.text, .slice fa t.val.list.length fc, .slice ga t.args.length gc] 58);have b2 := below_alloc w1 (.cells #[.int .i64 t.kind, .string t.name, .int .i64 t.val.kind, .int .i64 t.val.num, .string t.val.text, .slice fa t.val.list.length fc, .slice ga t.args.length gc] 58);generalize w1.alloc (.cells #[.int .i64 t.kind, .string t.name, .int .i64 t.val.kind, .int .i64 t.val.num, .string t.val.text, .slice fa t.val.list.length fc, .slice ga t.args.length gc] 58) = w2 at *;rw [s1] at q2;have Q1 := Lib.hid ((b2.block w.heap.size (by omega)).trans q1); have Q2 := Lib.hid q2
 have W2 := Lib.hid (pw.Wrote.start HBU.out hB (Below.step b1 b2));have N1 : Hid (w.heap.size ≠ b) := by show _ ≠ _; have := builder_lt HBU.out; omega
 have N2 : Hid (w.heap.size + 1 ≠ b) := by show _ ≠ _; have := builder_lt HBU.out; omega
 have HWB := Lib.hid (Below.step b1 b2);clear q1 q2 b1 b2 s1;go_end0
 refine ⟨rfl, ?_⟩;rw [HF.out, List.append_nil];exact W2.out
theorem wterm_any (t : Tm) : WTermAt t := by
 cases t with
 | mk k s x l => exact wterm_of (.mk k s x l) (fun y hy => wterm_any y)
 termination_by SizeOf.sizeOf t
 decreasing_by
  have := List.sizeOf_lt_of_mem (show y ∈ l from hy);simp only [Tm.mk.sizeOf_spec]
  omega
end Go.Proofs.YtcmlojigcgihbaaGreatDoor
