/-
  WRule
-/
import Derived.Test.YtjohcnhiblfbnaaGreatDoorR16
namespace Go.Proofs.YtjohcnhiblfbnaaGreatDoor
open Go.RowKit
theorem aggAt_le (x : Ru) (i : Nat) (t : List UInt8) : t.length ≤ (aggAt x i t).length := by
 unfold aggAt
 split
 ·exact Nat.le_refl _
 ·simp; omega
set_option maxRecDepth 100000 in
set_option maxHeartbeats 4000000 in
theorem head1_tells (x : Ru) (S : Nat → Prop) (B b pb rb : Nat) (fa : Option Addr) (fc : Nat) (ga : Option Addr) (gc : Nat) (w : World) (hS : ∀ k, S k → k < B) (hB : B ≤ w.heap.size) (hg : 0 < B) (htab : TabOk w) (hl : RepMs S w x.args (.slice fa x.args.length fc))
  (h1 : w.heap[pb]? = some (.cells #[.pointer (some ⟨b, 0, none⟩)] 108 (0, 0))) (h2 : w.heap[rb]? = some (.cells #[.string x.label, .string x.head, .slice fa x.args.length fc, .string x.agg, .int .i64 x.at', .slice ga x.body.length gc] 43 (0, 0))) (n1 : pb ≠ b) (n2 : rb ≠ b) :
  TellsAt 151 (.pointer (some ⟨rb, 0, none⟩)) (.pointer (some ⟨pb, 0, none⟩)) B b w ((x.args.map showM).mapIdx fun i t => aggAt x i t) := by
 intro i hi acc wx hw hlen
 rw [List.length_mapIdx, List.length_map] at hi
 rw [List.getElem_mapIdx, List.getElem_map] at hlen ⊢
 have HA := Lib.hid (RepMs.on (fun _ h => h) (fun k hk => hw.2.1.block k (hS k hk)) hl : RepMs S wx x.args (.slice fa x.args.length fc))
 obtain ⟨-, hcap, lb, lo, ea, ec, ia, ic, rfl, hSb, g0, g1, g2, g3, g4, g5, g6, g⟩ := RepMs.at HA.out i hi
 have hbl : lb < B := hS lb hSb
 have G := Lib.hid g
 clear g HA
 have hle := aggAt_le x i (showM x.args[i])
 generalize x.args[i] = z at *
 have HTX := Lib.hid (TabOk.below htab hg hw.2.1)
 have HBX := Lib.hid (Nat.le_trans hB hw.2.1.size)
 have Q1 := Lib.hid (kept_block hw.2.2 h1 (by decide) n1); have Q2 := Lib.hid (kept_block hw.2.2 h2 (by decide) n2)
 have N1 := Lib.hid n1; have N2 := Lib.hid n2
 have HW : Hid (pw.Wrote B b acc wx wx) := Lib.hid ⟨hw.1, Below.refl _ _, Lib.OthersKept.refl _ _ _⟩
 have HLN := Lib.hid hlen; have HLE := Lib.hid hle
 have hi0 : (0 : Int) ≤ (i : Int) := by omega
 have hi1 : (i : Int) < (x.args.length : Int) := by omega
 clear hw hlen h1 h2 n1 n2 hle
 cases h0 : x.agg.toList.isEmpty with
 | true =>
  have HF : Hid (aggAt x i (showM z) = showM z) := by show _ = _; rw [aggAt, if_pos (.inl h0)]
  have c0 := kept_cell (i := 0) HW.out.2.2 Q1.out (by decide) N1.out _ rfl
  have d0 := kept_cell (i := 0) HW.out.2.2 Q2.out (by decide) N2.out _ rfl
  have d1 := kept_cell (i := 1) HW.out.2.2 Q2.out (by decide) N2.out _ rfl
  have d2 := kept_cell (i := 2) HW.out.2.2 Q2.out (by decide) N2.out _ rfl
  have d3 := kept_cell (i := 3) HW.out.2.2 Q2.out (by decide) N2.out _ rfl
  have d4 := kept_cell (i := 4) HW.out.2.2 Q2.out (by decide) N2.out _ rfl
  have d5 := kept_cell (i := 5) HW.out.2.2 Q2.out (by decide) N2.out _ rfl
  go_enter Tryz.func151, Tryz.ntmps151
  go_wp2_with fail
  have QK1 := Lib.hid (kept_block HW.out.2.2 Q1.out (by decide) N1.out); have QK2 := Lib.hid (kept_block HW.out.2.2 Q2.out (by decide) N2.out)
  have HK := Lib.hid (wrote_drew HW.out.1 (Nat.le_trans HBX.out HW.out.2.1.size))
  go_region_held3 (fun w' => w'.cell? ⟨pb, 0, none⟩ = some (.pointer (some ⟨b, 0, none⟩)) ∧ w'.cell? ⟨rb, 0, none⟩ = some (.string x.label) ∧ w'.cell? ⟨rb, 1, none⟩ = some (.string x.head) ∧ w'.cell? ⟨rb, 2, none⟩ = some (.slice (some ⟨lb, lo, none⟩) x.args.length fc) ∧ w'.cell? ⟨rb, 3, none⟩ = some (.string x.agg) ∧ w'.cell? ⟨rb, 4, none⟩ = some (.int .i64 x.at') ∧ w'.cell? ⟨rb, 5, none⟩ = some (.slice ga x.body.length gc) ∧ w'.cell? ⟨lb, lo + i * 7, none⟩ = some (.int .i64 z.kind) ∧ w'.cell? ⟨lb, lo + i * 7 + 1, none⟩ = some (.string z.name) ∧ w'.cell? ⟨lb, lo + i * 7 + 2, none⟩ = some (.int .i64 z.val.kind) ∧ w'.cell? ⟨lb, lo + i * 7 + 3, none⟩ = some (.int .i64 z.val.num) ∧ w'.cell? ⟨lb, lo + i * 7 + 4, none⟩ = some (.string z.val.text) ∧ w'.cell? ⟨lb, lo + i * 7 + 5, none⟩ = some (.slice ea z.val.list.length ec) ∧ w'.cell? ⟨lb, lo + i * 7 + 6, none⟩ = some (.slice ia z.args.length ic))
   (first | exact ⟨kept_cell HK.out.2.2 QK1.out (by decide) N1.out _ rfl, kept_cell HK.out.2.2 QK2.out (by decide) N2.out _ rfl, kept_cell HK.out.2.2 QK2.out (by decide) N2.out _ rfl, kept_cell HK.out.2.2 QK2.out (by decide) N2.out _ rfl, kept_cell HK.out.2.2 QK2.out (by decide) N2.out _ rfl, kept_cell HK.out.2.2 QK2.out (by decide) N2.out _ rfl, kept_cell HK.out.2.2 QK2.out (by decide) N2.out _ rfl, ((HW.out.2.1.trans HK.out.2.1).cell (p := ⟨lb, lo + i * 7, none⟩) (by exact hbl)).trans g0, ((HW.out.2.1.trans HK.out.2.1).cell (p := ⟨lb, lo + i * 7 + 1, none⟩) (by exact hbl)).trans g1, ((HW.out.2.1.trans HK.out.2.1).cell (p := ⟨lb, lo + i * 7 + 2, none⟩) (by exact hbl)).trans g2, ((HW.out.2.1.trans HK.out.2.1).cell (p := ⟨lb, lo + i * 7 + 3, none⟩) (by exact hbl)).trans g3, ((HW.out.2.1.trans HK.out.2.1).cell (p := ⟨lb, lo + i * 7 + 4, none⟩) (by exact hbl)).trans g4, ((HW.out.2.1.trans HK.out.2.1).cell (p := ⟨lb, lo + i * 7 + 5, none⟩) (by exact hbl)).trans g5, ((HW.out.2.1.trans HK.out.2.1).cell (p := ⟨lb, lo + i * 7 + 6, none⟩) (by exact hbl)).trans g6⟩)
   (first
    | (go_at_call 152; refine (wterm_any z S B b _ _ _ _ _ _ _ _ _ hS (Nat.le_trans (Nat.le_trans HBX.out HW.out.2.1.size) HK.out.2.1.size) hg (TabOk.below HTX.out hg (HW.out.2.1.trans HK.out.2.1)) (RepM.on (fun _ h => h) (fun k hk => (HW.out.2.1.trans HK.out.2.1).block k (hS k hk)) _ G.out) HK.out.1 (by have := HLN.out; have := HLE.out; omega)).mono ?_; rintro e w' ⟨rfl, W⟩; replace HK := Lib.hid (HK.out.trans W); clear W))
  replace HW := Lib.hid (HW.out.trans HK.out)
  clear HK QK1 QK2
  go_wp2_with fail
  (try simp only [Exit.inBlock, Exit.then])
  refine bodyPost_ret (results_none rfl _ _ _) rfl ?_
  refine ⟨rfl, ?_⟩
  rw [HF.out]
  exact HW.out
 | false =>
 cases h9 : ((i : Int) != x.at') with
 | true =>
  have HF : Hid (aggAt x i (showM z) = showM z) := by show _ = _; rw [aggAt, if_pos (.inr (by simpa using h9))]
  have c0 := kept_cell (i := 0) HW.out.2.2 Q1.out (by decide) N1.out _ rfl
  have d0 := kept_cell (i := 0) HW.out.2.2 Q2.out (by decide) N2.out _ rfl
  have d1 := kept_cell (i := 1) HW.out.2.2 Q2.out (by decide) N2.out _ rfl
  have d2 := kept_cell (i := 2) HW.out.2.2 Q2.out (by decide) N2.out _ rfl
  have d3 := kept_cell (i := 3) HW.out.2.2 Q2.out (by decide) N2.out _ rfl
  have d4 := kept_cell (i := 4) HW.out.2.2 Q2.out (by decide) N2.out _ rfl
  have d5 := kept_cell (i := 5) HW.out.2.2 Q2.out (by decide) N2.out _ rfl
  go_enter Tryz.func151, Tryz.ntmps151
  go_wp2_with fail
  have QK1 := Lib.hid (kept_block HW.out.2.2 Q1.out (by decide) N1.out); have QK2 := Lib.hid (kept_block HW.out.2.2 Q2.out (by decide) N2.out)
  have HK := Lib.hid (wrote_drew HW.out.1 (Nat.le_trans HBX.out HW.out.2.1.size))
  go_region_held3 (fun w' => w'.cell? ⟨pb, 0, none⟩ = some (.pointer (some ⟨b, 0, none⟩)) ∧ w'.cell? ⟨rb, 0, none⟩ = some (.string x.label) ∧ w'.cell? ⟨rb, 1, none⟩ = some (.string x.head) ∧ w'.cell? ⟨rb, 2, none⟩ = some (.slice (some ⟨lb, lo, none⟩) x.args.length fc) ∧ w'.cell? ⟨rb, 3, none⟩ = some (.string x.agg) ∧ w'.cell? ⟨rb, 4, none⟩ = some (.int .i64 x.at') ∧ w'.cell? ⟨rb, 5, none⟩ = some (.slice ga x.body.length gc) ∧ w'.cell? ⟨lb, lo + i * 7, none⟩ = some (.int .i64 z.kind) ∧ w'.cell? ⟨lb, lo + i * 7 + 1, none⟩ = some (.string z.name) ∧ w'.cell? ⟨lb, lo + i * 7 + 2, none⟩ = some (.int .i64 z.val.kind) ∧ w'.cell? ⟨lb, lo + i * 7 + 3, none⟩ = some (.int .i64 z.val.num) ∧ w'.cell? ⟨lb, lo + i * 7 + 4, none⟩ = some (.string z.val.text) ∧ w'.cell? ⟨lb, lo + i * 7 + 5, none⟩ = some (.slice ea z.val.list.length ec) ∧ w'.cell? ⟨lb, lo + i * 7 + 6, none⟩ = some (.slice ia z.args.length ic))
   (first | exact ⟨kept_cell HK.out.2.2 QK1.out (by decide) N1.out _ rfl, kept_cell HK.out.2.2 QK2.out (by decide) N2.out _ rfl, kept_cell HK.out.2.2 QK2.out (by decide) N2.out _ rfl, kept_cell HK.out.2.2 QK2.out (by decide) N2.out _ rfl, kept_cell HK.out.2.2 QK2.out (by decide) N2.out _ rfl, kept_cell HK.out.2.2 QK2.out (by decide) N2.out _ rfl, kept_cell HK.out.2.2 QK2.out (by decide) N2.out _ rfl, ((HW.out.2.1.trans HK.out.2.1).cell (p := ⟨lb, lo + i * 7, none⟩) (by exact hbl)).trans g0, ((HW.out.2.1.trans HK.out.2.1).cell (p := ⟨lb, lo + i * 7 + 1, none⟩) (by exact hbl)).trans g1, ((HW.out.2.1.trans HK.out.2.1).cell (p := ⟨lb, lo + i * 7 + 2, none⟩) (by exact hbl)).trans g2, ((HW.out.2.1.trans HK.out.2.1).cell (p := ⟨lb, lo + i * 7 + 3, none⟩) (by exact hbl)).trans g3, ((HW.out.2.1.trans HK.out.2.1).cell (p := ⟨lb, lo + i * 7 + 4, none⟩) (by exact hbl)).trans g4, ((HW.out.2.1.trans HK.out.2.1).cell (p := ⟨lb, lo + i * 7 + 5, none⟩) (by exact hbl)).trans g5, ((HW.out.2.1.trans HK.out.2.1).cell (p := ⟨lb, lo + i * 7 + 6, none⟩) (by exact hbl)).trans g6⟩)
   (first
    | (go_at_call 152; refine (wterm_any z S B b _ _ _ _ _ _ _ _ _ hS (Nat.le_trans (Nat.le_trans HBX.out HW.out.2.1.size) HK.out.2.1.size) hg (TabOk.below HTX.out hg (HW.out.2.1.trans HK.out.2.1)) (RepM.on (fun _ h => h) (fun k hk => (HW.out.2.1.trans HK.out.2.1).block k (hS k hk)) _ G.out) HK.out.1 (by have := HLN.out; have := HLE.out; omega)).mono ?_; rintro e w' ⟨rfl, W⟩; replace HK := Lib.hid (HK.out.trans W); clear W))
  replace HW := Lib.hid (HW.out.trans HK.out)
  clear HK QK1 QK2
  go_wp2_with fail
  (try simp only [Exit.inBlock, Exit.then])
  refine bodyPost_ret (results_none rfl _ _ _) rfl ?_
  refine ⟨rfl, ?_⟩
  rw [HF.out]
  exact HW.out
 | false =>
  have HF : Hid (aggAt x i (showM z) = x.agg.data.toList ++ (60 :: (showM z ++ [62]))) := by show _ = _; rw [aggAt, if_neg (by rw [h0]; simpa using h9)]
  have HL2 : Hid (acc.length + x.agg.size + 2 + (showM z).length ≤ 140737488355328) := by show _ ≤ _; have h := HLN.out; rw [HF.out] at h; simp only [List.length_append, List.length_cons, List.length_nil, size_list] at h; omega
  have c0 := kept_cell (i := 0) HW.out.2.2 Q1.out (by decide) N1.out _ rfl
  have d0 := kept_cell (i := 0) HW.out.2.2 Q2.out (by decide) N2.out _ rfl
  have d1 := kept_cell (i := 1) HW.out.2.2 Q2.out (by decide) N2.out _ rfl
  have d2 := kept_cell (i := 2) HW.out.2.2 Q2.out (by decide) N2.out _ rfl
  have d3 := kept_cell (i := 3) HW.out.2.2 Q2.out (by decide) N2.out _ rfl
  have d4 := kept_cell (i := 4) HW.out.2.2 Q2.out (by decide) N2.out _ rfl
  have d5 := kept_cell (i := 5) HW.out.2.2 Q2.out (by decide) N2.out _ rfl
  go_enter Tryz.func151, Tryz.ntmps151
  go_wp2_with fail
  have QK1 := Lib.hid (kept_block HW.out.2.2 Q1.out (by decide) N1.out); have QK2 := Lib.hid (kept_block HW.out.2.2 Q2.out (by decide) N2.out)
  have HK := Lib.hid (wrote_drew HW.out.1 (Nat.le_trans HBX.out HW.out.2.1.size))
  go_region_held3 (fun w' => w'.cell? ⟨pb, 0, none⟩ = some (.pointer (some ⟨b, 0, none⟩)) ∧ w'.cell? ⟨rb, 0, none⟩ = some (.string x.label) ∧ w'.cell? ⟨rb, 1, none⟩ = some (.string x.head) ∧ w'.cell? ⟨rb, 2, none⟩ = some (.slice (some ⟨lb, lo, none⟩) x.args.length fc) ∧ w'.cell? ⟨rb, 3, none⟩ = some (.string x.agg) ∧ w'.cell? ⟨rb, 4, none⟩ = some (.int .i64 x.at') ∧ w'.cell? ⟨rb, 5, none⟩ = some (.slice ga x.body.length gc) ∧ w'.cell? ⟨lb, lo + i * 7, none⟩ = some (.int .i64 z.kind) ∧ w'.cell? ⟨lb, lo + i * 7 + 1, none⟩ = some (.string z.name) ∧ w'.cell? ⟨lb, lo + i * 7 + 2, none⟩ = some (.int .i64 z.val.kind) ∧ w'.cell? ⟨lb, lo + i * 7 + 3, none⟩ = some (.int .i64 z.val.num) ∧ w'.cell? ⟨lb, lo + i * 7 + 4, none⟩ = some (.string z.val.text) ∧ w'.cell? ⟨lb, lo + i * 7 + 5, none⟩ = some (.slice ea z.val.list.length ec) ∧ w'.cell? ⟨lb, lo + i * 7 + 6, none⟩ = some (.slice ia z.args.length ic))
   (first | exact ⟨kept_cell HK.out.2.2 QK1.out (by decide) N1.out _ rfl, kept_cell HK.out.2.2 QK2.out (by decide) N2.out _ rfl, kept_cell HK.out.2.2 QK2.out (by decide) N2.out _ rfl, kept_cell HK.out.2.2 QK2.out (by decide) N2.out _ rfl, kept_cell HK.out.2.2 QK2.out (by decide) N2.out _ rfl, kept_cell HK.out.2.2 QK2.out (by decide) N2.out _ rfl, kept_cell HK.out.2.2 QK2.out (by decide) N2.out _ rfl, ((HW.out.2.1.trans HK.out.2.1).cell (p := ⟨lb, lo + i * 7, none⟩) (by exact hbl)).trans g0, ((HW.out.2.1.trans HK.out.2.1).cell (p := ⟨lb, lo + i * 7 + 1, none⟩) (by exact hbl)).trans g1, ((HW.out.2.1.trans HK.out.2.1).cell (p := ⟨lb, lo + i * 7 + 2, none⟩) (by exact hbl)).trans g2, ((HW.out.2.1.trans HK.out.2.1).cell (p := ⟨lb, lo + i * 7 + 3, none⟩) (by exact hbl)).trans g3, ((HW.out.2.1.trans HK.out.2.1).cell (p := ⟨lb, lo + i * 7 + 4, none⟩) (by exact hbl)).trans g4, ((HW.out.2.1.trans HK.out.2.1).cell (p := ⟨lb, lo + i * 7 + 5, none⟩) (by exact hbl)).trans g5, ((HW.out.2.1.trans HK.out.2.1).cell (p := ⟨lb, lo + i * 7 + 6, none⟩) (by exact hbl)).trans g6⟩)
   (first
    | (go_at_call 117; refine (pw.wstr B b _ x.agg _ HK.out.1 (by have := HL2.out; omega) (Nat.le_trans (Nat.le_trans HBX.out HW.out.2.1.size) HK.out.2.1.size)).mono ?_; rintro e w' ⟨rfl, W⟩; replace HK := Lib.hid (HK.out.trans W); clear W))
  replace HW := Lib.hid (HW.out.trans HK.out)
  clear HK QK1 QK2
  clear c0 d0 d1 d2 d3 d4 d5
  have c0 := kept_cell (i := 0) HW.out.2.2 Q1.out (by decide) N1.out _ rfl
  have d0 := kept_cell (i := 0) HW.out.2.2 Q2.out (by decide) N2.out _ rfl
  have d1 := kept_cell (i := 1) HW.out.2.2 Q2.out (by decide) N2.out _ rfl
  have d2 := kept_cell (i := 2) HW.out.2.2 Q2.out (by decide) N2.out _ rfl
  have d3 := kept_cell (i := 3) HW.out.2.2 Q2.out (by decide) N2.out _ rfl
  have d4 := kept_cell (i := 4) HW.out.2.2 Q2.out (by decide) N2.out _ rfl
  have d5 := kept_cell (i := 5) HW.out.2.2 Q2.out (by decide) N2.out _ rfl
  go_wp2_with fail
  refine (pw.wbyte B b _ 60 _ HW.out.1 (by have := HL2.out; simp only [List.length_append, size_list]; omega) (Nat.le_trans HBX.out HW.out.2.1.size)).mono ?_
  rintro e w5 ⟨rfl, W⟩
  replace HW := Lib.hid (HW.out.trans W); clear W
  clear c0 d0 d1 d2 d3 d4 d5
  have c0 := kept_cell (i := 0) HW.out.2.2 Q1.out (by decide) N1.out _ rfl
  have d0 := kept_cell (i := 0) HW.out.2.2 Q2.out (by decide) N2.out _ rfl
  have d1 := kept_cell (i := 1) HW.out.2.2 Q2.out (by decide) N2.out _ rfl
  have d2 := kept_cell (i := 2) HW.out.2.2 Q2.out (by decide) N2.out _ rfl
  have d3 := kept_cell (i := 3) HW.out.2.2 Q2.out (by decide) N2.out _ rfl
  have d4 := kept_cell (i := 4) HW.out.2.2 Q2.out (by decide) N2.out _ rfl
  have d5 := kept_cell (i := 5) HW.out.2.2 Q2.out (by decide) N2.out _ rfl
  go_wp2_with fail
  have QK1 := Lib.hid (kept_block HW.out.2.2 Q1.out (by decide) N1.out); have QK2 := Lib.hid (kept_block HW.out.2.2 Q2.out (by decide) N2.out)
  have HK := Lib.hid (wrote_drew HW.out.1 (Nat.le_trans HBX.out HW.out.2.1.size))
  go_region_held3 (fun w' => w'.cell? ⟨pb, 0, none⟩ = some (.pointer (some ⟨b, 0, none⟩)) ∧ w'.cell? ⟨rb, 0, none⟩ = some (.string x.label) ∧ w'.cell? ⟨rb, 1, none⟩ = some (.string x.head) ∧ w'.cell? ⟨rb, 2, none⟩ = some (.slice (some ⟨lb, lo, none⟩) x.args.length fc) ∧ w'.cell? ⟨rb, 3, none⟩ = some (.string x.agg) ∧ w'.cell? ⟨rb, 4, none⟩ = some (.int .i64 x.at') ∧ w'.cell? ⟨rb, 5, none⟩ = some (.slice ga x.body.length gc) ∧ w'.cell? ⟨lb, lo + i * 7, none⟩ = some (.int .i64 z.kind) ∧ w'.cell? ⟨lb, lo + i * 7 + 1, none⟩ = some (.string z.name) ∧ w'.cell? ⟨lb, lo + i * 7 + 2, none⟩ = some (.int .i64 z.val.kind) ∧ w'.cell? ⟨lb, lo + i * 7 + 3, none⟩ = some (.int .i64 z.val.num) ∧ w'.cell? ⟨lb, lo + i * 7 + 4, none⟩ = some (.string z.val.text) ∧ w'.cell? ⟨lb, lo + i * 7 + 5, none⟩ = some (.slice ea z.val.list.length ec) ∧ w'.cell? ⟨lb, lo + i * 7 + 6, none⟩ = some (.slice ia z.args.length ic))
   (first | exact ⟨kept_cell HK.out.2.2 QK1.out (by decide) N1.out _ rfl, kept_cell HK.out.2.2 QK2.out (by decide) N2.out _ rfl, kept_cell HK.out.2.2 QK2.out (by decide) N2.out _ rfl, kept_cell HK.out.2.2 QK2.out (by decide) N2.out _ rfl, kept_cell HK.out.2.2 QK2.out (by decide) N2.out _ rfl, kept_cell HK.out.2.2 QK2.out (by decide) N2.out _ rfl, kept_cell HK.out.2.2 QK2.out (by decide) N2.out _ rfl, ((HW.out.2.1.trans HK.out.2.1).cell (p := ⟨lb, lo + i * 7, none⟩) (by exact hbl)).trans g0, ((HW.out.2.1.trans HK.out.2.1).cell (p := ⟨lb, lo + i * 7 + 1, none⟩) (by exact hbl)).trans g1, ((HW.out.2.1.trans HK.out.2.1).cell (p := ⟨lb, lo + i * 7 + 2, none⟩) (by exact hbl)).trans g2, ((HW.out.2.1.trans HK.out.2.1).cell (p := ⟨lb, lo + i * 7 + 3, none⟩) (by exact hbl)).trans g3, ((HW.out.2.1.trans HK.out.2.1).cell (p := ⟨lb, lo + i * 7 + 4, none⟩) (by exact hbl)).trans g4, ((HW.out.2.1.trans HK.out.2.1).cell (p := ⟨lb, lo + i * 7 + 5, none⟩) (by exact hbl)).trans g5, ((HW.out.2.1.trans HK.out.2.1).cell (p := ⟨lb, lo + i * 7 + 6, none⟩) (by exact hbl)).trans g6⟩)
   (first
    | (go_at_call 152; refine (wterm_any z S B b _ _ _ _ _ _ _ _ _ hS (Nat.le_trans (Nat.le_trans HBX.out HW.out.2.1.size) HK.out.2.1.size) hg (TabOk.below HTX.out hg (HW.out.2.1.trans HK.out.2.1)) (RepM.on (fun _ h => h) (fun k hk => (HW.out.2.1.trans HK.out.2.1).block k (hS k hk)) _ G.out) HK.out.1 (by have := HL2.out; simp only [List.length_append, List.length_cons, List.length_nil, size_list]; omega)).mono ?_; rintro e w' ⟨rfl, W⟩; replace HK := Lib.hid (HK.out.trans W); clear W))
  replace HW := Lib.hid (HW.out.trans HK.out)
  clear HK QK1 QK2
  clear c0 d0 d1 d2 d3 d4 d5
  have c0 := kept_cell (i := 0) HW.out.2.2 Q1.out (by decide) N1.out _ rfl
  have d0 := kept_cell (i := 0) HW.out.2.2 Q2.out (by decide) N2.out _ rfl
  have d1 := kept_cell (i := 1) HW.out.2.2 Q2.out (by decide) N2.out _ rfl
  have d2 := kept_cell (i := 2) HW.out.2.2 Q2.out (by decide) N2.out _ rfl
  have d3 := kept_cell (i := 3) HW.out.2.2 Q2.out (by decide) N2.out _ rfl
  have d4 := kept_cell (i := 4) HW.out.2.2 Q2.out (by decide) N2.out _ rfl
  have d5 := kept_cell (i := 5) HW.out.2.2 Q2.out (by decide) N2.out _ rfl
  go_wp2_with fail
  refine (pw.wbyte B b _ 62 _ HW.out.1 (by have := HL2.out; simp only [List.length_append, List.length_cons, List.length_nil, size_list]; omega) (Nat.le_trans HBX.out HW.out.2.1.size)).mono ?_
  rintro e w6 ⟨rfl, W⟩
  replace HW := Lib.hid (HW.out.trans W); clear W
  clear c0 d0 d1 d2 d3 d4 d5
  go_wp2_with fail
  go_end0
  refine ⟨rfl, ?_⟩
  rw [HF.out]
  simpa [List.append_assoc] using HW.out
set_option maxRecDepth 100000 in
set_option maxHeartbeats 4000000 in
theorem whead_any (x : Ru) (S : Nat → Prop) (B b : Nat) (acc : List UInt8) (w : World) (c0 c1 c2 c3 c4 c5 : Value) (hS : ∀ k, S k → k < B) (hB : B ≤ w.heap.size) (hg : 0 < B) (htab : TabOk w) (hx : RepRu S w x c0 c1 c2 c3 c4 c5)
  (hbu : Lib.IsBuilderF 152 5 B b (Lib.byteCells acc) w) (hlen : acc.length + (showHead x).length ≤ 140737488355328) :
  Calls Tryz.prog 119 #[.pointer (some ⟨b, 0, none⟩), .agg #[c0, c1, c2, c3, c4, c5]] w fun e w' => e = .returned (.tuple #[]) ∧ pw.Wrote B b (acc ++ showHead x) w w' := by
 have HL := Lib.hid hx.2.2.2.2.2.2.2.2.1; have HTB := Lib.hid htab; have HBU := Lib.hid hbu; have HLEN := Lib.hid hlen
 have HN : Hid (x.args.length ≤ 140737488355328) := by show _ ≤ _; have := SlG.bytes hx.2.2.2.2.2.2.2.2.1; omega
 obtain ⟨fa, fc, ga, gc, rfl, rfl, rfl, rfl, rfl, rfl⟩ := hx.form
 clear hx htab hbu hlen
 go_enter Tryz.func119, Tryz.ntmps119
 go_wp2_with fail
 have q1 := alloc_new' w (.cells #[.pointer (some ⟨b, 0, none⟩)] 108)
 have s1 := World.size_alloc w (.cells #[.pointer (some ⟨b, 0, none⟩)] 108)
 have b1 := below_alloc w (.cells #[.pointer (some ⟨b, 0, none⟩)] 108)
 generalize w.alloc (.cells #[.pointer (some ⟨b, 0, none⟩)] 108) = w1 at *
 have q2 := alloc_new' w1 (.cells #[.string x.label, .string x.head, .slice fa x.args.length fc, .string x.agg, .int .i64 x.at', .slice ga x.body.length gc] 43)
 have b2 := below_alloc w1 (.cells #[.string x.label, .string x.head, .slice fa x.args.length fc, .string x.agg, .int .i64 x.at', .slice ga x.body.length gc] 43)
 generalize w1.alloc (.cells #[.string x.label, .string x.head, .slice fa x.args.length fc, .string x.agg, .int .i64 x.at', .slice ga x.body.length gc] 43) = w2 at *
 rw [s1] at q2
 have Q1 := Lib.hid ((b2.block w.heap.size (by omega)).trans q1); have Q2 := Lib.hid q2
 have W2 := Lib.hid (pw.Wrote.start HBU.out hB (Below.step b1 b2))
 have N1 : Hid (w.heap.size ≠ b) := by show _ ≠ _; have := builder_lt HBU.out; omega
 have N2 : Hid (w.heap.size + 1 ≠ b) := by show _ ≠ _; have := builder_lt HBU.out; omega
 have HWB := Lib.hid (Below.step b1 b2)
 clear q1 q2 b1 b2 s1
 generalize hpb : w.heap.size = pb at Q1 Q2 N1 N2 ⊢
 clear hpb
 have HW : Hid (pw.Wrote B b acc w2 w2) := Lib.hid ⟨W2.out.1, Below.refl _ _, Lib.OthersKept.refl _ _ _⟩
 have HBX := Lib.hid (Nat.le_trans hB HWB.out.size)
 have HTX := Lib.hid (TabOk.below HTB.out hg (HWB.out.mono hB))
 have hx := watom_any 151 (.pointer (some ⟨pb + 1, 0, none⟩)) (.pointer (some ⟨pb, 0, none⟩)) B b _ _ x.head ((x.args.map showM).mapIdx fun i t => aggAt x i t) (fun _ _ => by kernel_rfl) HBX.out HW.out.1 HLEN.out (by rw [List.length_mapIdx, List.length_map]; exact HN.out) (head1_tells x S B b pb (pb + 1) fa fc ga gc _ hS HBX.out hg HTX.out (RepMs.on (fun _ h => h) (fun k hk => (HWB.out.mono hB).block k (hS k hk)) HL.out) Q1.out Q2.out N1.out N2.out)
 rw [List.length_mapIdx, List.length_map] at hx
 refine hx.mono ?_
 clear hx
 rintro e w5 ⟨rfl, W⟩
 replace HW := Lib.hid (HW.out.trans W); clear W
 go_wp2_with fail
 go_end0
 exact ⟨rfl, W2.out.trans HW.out⟩
set_option maxRecDepth 100000 in
set_option maxHeartbeats 4000000 in
theorem rule1_tells (x : Ru) (hr : ∀ y ∈ x.body, liB y = true) (S : Nat → Prop) (B b pb rb : Nat) (fa : Option Addr) (fc : Nat) (ga : Option Addr) (gc : Nat) (w : World) (hS : ∀ k, S k → k < B) (hB : B ≤ w.heap.size) (hg : 0 < B) (htab : TabOk w) (hl : RepLis S w x.body (.slice ga x.body.length gc))
  (h1 : w.heap[pb]? = some (.cells #[.pointer (some ⟨b, 0, none⟩)] 108 (0, 0))) (h2 : w.heap[rb]? = some (.cells #[.string x.label, .string x.head, .slice fa x.args.length fc, .string x.agg, .int .i64 x.at', .slice ga x.body.length gc] 43 (0, 0))) (n1 : pb ≠ b) (n2 : rb ≠ b) :
  TellsAt 121 (.pointer (some ⟨pb, 0, none⟩)) (.pointer (some ⟨rb, 0, none⟩)) B b w (x.body.map showLi) := by
 intro i hi acc wx hw hlen
 rw [List.length_map] at hi
 rw [List.getElem_map] at hlen ⊢
 have HA := Lib.hid (RepLis.on (fun _ h => h) (fun k hk => hw.2.1.block k (hS k hk)) hl : RepLis S wx x.body (.slice ga x.body.length gc))
 obtain ⟨-, hcap, lb, lo, ia, ic, rfl, hSb, g0, g1, g2, g⟩ := RepLis.at HA.out i hi
 have hbl : lb < B := hS lb hSb
 have HZR := Lib.hid (hr _ (List.getElem_mem hi))
 have G := Lib.hid g
 clear g HA
 generalize x.body[i] = z at *
 have HTX := Lib.hid (TabOk.below htab hg hw.2.1)
 have HBX := Lib.hid (Nat.le_trans hB hw.2.1.size)
 have Q1 := Lib.hid (kept_block hw.2.2 h1 (by decide) n1); have Q2 := Lib.hid (kept_block hw.2.2 h2 (by decide) n2)
 have N1 := Lib.hid n1; have N2 := Lib.hid n2
 have HW : Hid (pw.Wrote B b acc wx wx) := Lib.hid ⟨hw.1, Below.refl _ _, Lib.OthersKept.refl _ _ _⟩
 have HLN := Lib.hid hlen
 have hi0 : (0 : Int) ≤ (i : Int) := by omega
 have hi1 : (i : Int) < (x.body.length : Int) := by omega
 clear hw hlen h1 h2 n1 n2
 have c0 := kept_cell (i := 0) HW.out.2.2 Q1.out (by decide) N1.out _ rfl
 have d0 := kept_cell (i := 0) HW.out.2.2 Q2.out (by decide) N2.out _ rfl
 have d1 := kept_cell (i := 1) HW.out.2.2 Q2.out (by decide) N2.out _ rfl
 have d2 := kept_cell (i := 2) HW.out.2.2 Q2.out (by decide) N2.out _ rfl
 have d3 := kept_cell (i := 3) HW.out.2.2 Q2.out (by decide) N2.out _ rfl
 have d4 := kept_cell (i := 4) HW.out.2.2 Q2.out (by decide) N2.out _ rfl
 have d5 := kept_cell (i := 5) HW.out.2.2 Q2.out (by decide) N2.out _ rfl
 go_enter Tryz.func121, Tryz.ntmps121
 go_wp2_with fail
 have QK1 := Lib.hid (kept_block HW.out.2.2 Q1.out (by decide) N1.out); have QK2 := Lib.hid (kept_block HW.out.2.2 Q2.out (by decide) N2.out)
 have HK := Lib.hid (wrote_drew HW.out.1 (Nat.le_trans HBX.out HW.out.2.1.size))
 go_region_held3 (fun w' => w'.cell? ⟨pb, 0, none⟩ = some (.pointer (some ⟨b, 0, none⟩)) ∧ w'.cell? ⟨rb, 0, none⟩ = some (.string x.label) ∧ w'.cell? ⟨rb, 1, none⟩ = some (.string x.head) ∧ w'.cell? ⟨rb, 2, none⟩ = some (.slice fa x.args.length fc) ∧ w'.cell? ⟨rb, 3, none⟩ = some (.string x.agg) ∧ w'.cell? ⟨rb, 4, none⟩ = some (.int .i64 x.at') ∧ w'.cell? ⟨rb, 5, none⟩ = some (.slice (some ⟨lb, lo, none⟩) x.body.length gc) ∧ w'.cell? ⟨lb, lo + i * 3, none⟩ = some (.int .i64 z.kind) ∧ w'.cell? ⟨lb, lo + i * 3 + 1, none⟩ = some (.string z.name) ∧ w'.cell? ⟨lb, lo + i * 3 + 2, none⟩ = some (.slice ia z.args.length ic))
  (first | exact ⟨kept_cell HK.out.2.2 QK1.out (by decide) N1.out _ rfl, kept_cell HK.out.2.2 QK2.out (by decide) N2.out _ rfl, kept_cell HK.out.2.2 QK2.out (by decide) N2.out _ rfl, kept_cell HK.out.2.2 QK2.out (by decide) N2.out _ rfl, kept_cell HK.out.2.2 QK2.out (by decide) N2.out _ rfl, kept_cell HK.out.2.2 QK2.out (by decide) N2.out _ rfl, kept_cell HK.out.2.2 QK2.out (by decide) N2.out _ rfl, ((HW.out.2.1.trans HK.out.2.1).cell (p := ⟨lb, lo + i * 3, none⟩) (by exact hbl)).trans g0, ((HW.out.2.1.trans HK.out.2.1).cell (p := ⟨lb, lo + i * 3 + 1, none⟩) (by exact hbl)).trans g1, ((HW.out.2.1.trans HK.out.2.1).cell (p := ⟨lb, lo + i * 3 + 2, none⟩) (by exact hbl)).trans g2⟩)
  (first
   | (go_at_call 122; refine (wliteral_any z HZR.out S B b _ _ _ _ _ hS (Nat.le_trans (Nat.le_trans HBX.out HW.out.2.1.size) HK.out.2.1.size) hg (TabOk.below HTX.out hg (HW.out.2.1.trans HK.out.2.1)) (RepLi.on (fun _ h => h) (fun k hk => (HW.out.2.1.trans HK.out.2.1).block k (hS k hk)) G.out) HK.out.1 HLN.out).mono ?_; rintro e w' ⟨rfl, W⟩; replace HK := Lib.hid (HK.out.trans W); clear W))
 replace HW := Lib.hid (HW.out.trans HK.out)
 clear HK QK1 QK2
 go_wp2_with fail
 go_end0
 exact ⟨rfl, HW.out⟩
set_option maxRecDepth 100000 in
set_option maxHeartbeats 4000000 in
theorem wrule_any (x : Ru) (S : Nat → Prop) (B b : Nat) (acc : List UInt8) (w : World) (c0 c1 c2 c3 c4 c5 : Value) (hS : ∀ k, S k → k < B) (hB : B ≤ w.heap.size) (hg : 0 < B) (htab : TabOk w) (hx : RepRu S w x c0 c1 c2 c3 c4 c5)
  (hbu : Lib.IsBuilderF 152 5 B b (Lib.byteCells acc) w) (hr : ruB x = true) (hlen : acc.length + (showRu x).length ≤ 140737488355328) :
  Calls Tryz.prog 72 #[.pointer (some ⟨b, 0, none⟩), .agg #[c0, c1, c2, c3, c4, c5]] w fun e w' => e = .returned (.tuple #[]) ∧ pw.Wrote B b (acc ++ showRu x) w w' := by
 have HXX := Lib.hid hx
 have HL := Lib.hid hx.2.2.2.2.2.2.2.2.2; have HTB := Lib.hid htab; have HBU := Lib.hid hbu
 have HN : Hid (x.body.length ≤ 140737488355328) := by show _ ≤ _; have := SlG.bytes hx.2.2.2.2.2.2.2.2.2; omega
 have HR : Hid (∀ y ∈ x.body, liB y = true) := by
  show ∀ y ∈ x.body, liB y = true
  simp only [ruB, Bool.and_eq_true] at hr
  exact (listB_bounds hr.2.2.2).2.2
 have HLN : Hid (acc.length + x.label.size + 1 + (showHead x).length + 4 + (sepL [44, 32] (x.body.map showLi)).length + 1 ≤ 140737488355328) := by
  show _ ≤ _
  simp only [showRu, List.length_append, List.length_cons, List.length_nil, size_list] at hlen
  omega
 obtain ⟨fa, fc, ga, gc, rfl, rfl, rfl, rfl, rfl, rfl⟩ := hx.form
 clear hx htab hbu hlen hr
 go_enter Tryz.func72, Tryz.ntmps72
 go_wp2_with fail
 have q1 := alloc_new' w (.cells #[.pointer (some ⟨b, 0, none⟩)] 108)
 have s1 := World.size_alloc w (.cells #[.pointer (some ⟨b, 0, none⟩)] 108)
 have b1 := below_alloc w (.cells #[.pointer (some ⟨b, 0, none⟩)] 108)
 generalize w.alloc (.cells #[.pointer (some ⟨b, 0, none⟩)] 108) = w1 at *
 have q2 := alloc_new' w1 (.cells #[.string x.label, .string x.head, .slice fa x.args.length fc, .string x.agg, .int .i64 x.at', .slice ga x.body.length gc] 43)
 have b2 := below_alloc w1 (.cells #[.string x.label, .string x.head, .slice fa x.args.length fc, .string x.agg, .int .i64 x.at', .slice ga x.body.length gc] 43)
 generalize w1.alloc (.cells #[.string x.label, .string x.head, .slice fa x.args.length fc, .string x.agg, .int .i64 x.at', .slice ga x.body.length gc] 43) = w2 at *
 rw [s1] at q2
 have Q1 := Lib.hid ((b2.block w.heap.size (by omega)).trans q1); have Q2 := Lib.hid q2
 have W2 := Lib.hid (pw.Wrote.start HBU.out hB (Below.step b1 b2))
 have N1 : Hid (w.heap.size ≠ b) := by show _ ≠ _; have := builder_lt HBU.out; omega
 have N2 : Hid (w.heap.size + 1 ≠ b) := by show _ ≠ _; have := builder_lt HBU.out; omega
 have HWB := Lib.hid (Below.step b1 b2)
 clear q1 q2 b1 b2 s1
 generalize hpb : w.heap.size = pb at Q1 Q2 N1 N2 ⊢
 clear hpb
 have HW : Hid (pw.Wrote B b acc w2 w2) := Lib.hid ⟨W2.out.1, Below.refl _ _, Lib.OthersKept.refl _ _ _⟩
 have HBX := Lib.hid (Nat.le_trans hB HWB.out.size)
 have HTX := Lib.hid (TabOk.below HTB.out hg (HWB.out.mono hB))
 have QK1 := Lib.hid (kept_block HW.out.2.2 Q1.out (by decide) N1.out); have QK2 := Lib.hid (kept_block HW.out.2.2 Q2.out (by decide) N2.out)
 have HK := Lib.hid (wrote_drew HW.out.1 (Nat.le_trans HBX.out HW.out.2.1.size))
 go_region_held3 (fun w' => w'.cell? ⟨pb, 0, none⟩ = some (.pointer (some ⟨b, 0, none⟩)) ∧ w'.cell? ⟨pb + 1, 0, none⟩ = some (.string x.label) ∧ w'.cell? ⟨pb + 1, 1, none⟩ = some (.string x.head) ∧ w'.cell? ⟨pb + 1, 2, none⟩ = some (.slice fa x.args.length fc) ∧ w'.cell? ⟨pb + 1, 3, none⟩ = some (.string x.agg) ∧ w'.cell? ⟨pb + 1, 4, none⟩ = some (.int .i64 x.at') ∧ w'.cell? ⟨pb + 1, 5, none⟩ = some (.slice ga x.body.length gc))
  (first | exact ⟨kept_cell HK.out.2.2 QK1.out (by decide) N1.out _ rfl, kept_cell HK.out.2.2 QK2.out (by decide) N2.out _ rfl, kept_cell HK.out.2.2 QK2.out (by decide) N2.out _ rfl, kept_cell HK.out.2.2 QK2.out (by decide) N2.out _ rfl, kept_cell HK.out.2.2 QK2.out (by decide) N2.out _ rfl, kept_cell HK.out.2.2 QK2.out (by decide) N2.out _ rfl, kept_cell HK.out.2.2 QK2.out (by decide) N2.out _ rfl⟩)
  (first
   | (go_at_call 117; refine (pw.wstr B b _ x.label _ HK.out.1 (by have := HLN.out; omega) (Nat.le_trans (Nat.le_trans HBX.out HW.out.2.1.size) HK.out.2.1.size)).mono ?_; rintro e w' ⟨rfl, W⟩; replace HK := Lib.hid (HK.out.trans W); clear W))
 replace HW := Lib.hid (HW.out.trans HK.out)
 clear HK QK1 QK2
 have c0 := kept_cell (i := 0) HW.out.2.2 Q1.out (by decide) N1.out _ rfl
 have d0 := kept_cell (i := 0) HW.out.2.2 Q2.out (by decide) N2.out _ rfl
 have d1 := kept_cell (i := 1) HW.out.2.2 Q2.out (by decide) N2.out _ rfl
 have d2 := kept_cell (i := 2) HW.out.2.2 Q2.out (by decide) N2.out _ rfl
 have d3 := kept_cell (i := 3) HW.out.2.2 Q2.out (by decide) N2.out _ rfl
 have d4 := kept_cell (i := 4) HW.out.2.2 Q2.out (by decide) N2.out _ rfl
 have d5 := kept_cell (i := 5) HW.out.2.2 Q2.out (by decide) N2.out _ rfl
 go_wp2_with fail
 refine (pw.wbyte B b _ 32 _ HW.out.1 (by have := HLN.out; simp only [List.length_append, size_list]; omega) (Nat.le_trans HBX.out HW.out.2.1.size)).mono ?_
 rintro e w5 ⟨rfl, W⟩
 replace HW := Lib.hid (HW.out.trans W); clear W
 clear c0 d0 d1 d2 d3 d4 d5
 have c0 := kept_cell (i := 0) HW.out.2.2 Q1.out (by decide) N1.out _ rfl
 have d0 := kept_cell (i := 0) HW.out.2.2 Q2.out (by decide) N2.out _ rfl
 have d1 := kept_cell (i := 1) HW.out.2.2 Q2.out (by decide) N2.out _ rfl
 have d2 := kept_cell (i := 2) HW.out.2.2 Q2.out (by decide) N2.out _ rfl
 have d3 := kept_cell (i := 3) HW.out.2.2 Q2.out (by decide) N2.out _ rfl
 have d4 := kept_cell (i := 4) HW.out.2.2 Q2.out (by decide) N2.out _ rfl
 have d5 := kept_cell (i := 5) HW.out.2.2 Q2.out (by decide) N2.out _ rfl
 go_wp2_with fail
 refine (whead_any x S B b _ _ _ _ _ _ _ _ hS (Nat.le_trans HBX.out HW.out.2.1.size) hg (TabOk.below HTX.out hg HW.out.2.1) (RepRu.on (fun _ h => h) (fun k hk => ((HWB.out.mono hB).trans HW.out.2.1).block k (hS k hk)) HXX.out) HW.out.1 (by have := HLN.out; simp only [List.length_append, List.length_cons, List.length_nil, size_list]; omega)).mono ?_
 rintro e w6 ⟨rfl, W⟩
 replace HW := Lib.hid (HW.out.trans W); clear W
 clear c0 d0 d1 d2 d3 d4 d5
 have c0 := kept_cell (i := 0) HW.out.2.2 Q1.out (by decide) N1.out _ rfl
 have d0 := kept_cell (i := 0) HW.out.2.2 Q2.out (by decide) N2.out _ rfl
 have d1 := kept_cell (i := 1) HW.out.2.2 Q2.out (by decide) N2.out _ rfl
 have d2 := kept_cell (i := 2) HW.out.2.2 Q2.out (by decide) N2.out _ rfl
 have d3 := kept_cell (i := 3) HW.out.2.2 Q2.out (by decide) N2.out _ rfl
 have d4 := kept_cell (i := 4) HW.out.2.2 Q2.out (by decide) N2.out _ rfl
 have d5 := kept_cell (i := 5) HW.out.2.2 Q2.out (by decide) N2.out _ rfl
 go_wp2_with fail
 refine (pw.wstr B b _ ⟨#[32, 58, 45, 32]⟩ _ HW.out.1 (by have := HLN.out; simp only [List.length_append, List.length_cons, List.length_nil, size_list]; show _ + 4 ≤ _; omega) (Nat.le_trans HBX.out HW.out.2.1.size)).mono ?_
 rintro e w7 ⟨rfl, W⟩
 replace HW := Lib.hid (HW.out.trans W); clear W
 clear c0 d0 d1 d2 d3 d4 d5
 have c0 := kept_cell (i := 0) HW.out.2.2 Q1.out (by decide) N1.out _ rfl
 have d0 := kept_cell (i := 0) HW.out.2.2 Q2.out (by decide) N2.out _ rfl
 have d1 := kept_cell (i := 1) HW.out.2.2 Q2.out (by decide) N2.out _ rfl
 have d2 := kept_cell (i := 2) HW.out.2.2 Q2.out (by decide) N2.out _ rfl
 have d3 := kept_cell (i := 3) HW.out.2.2 Q2.out (by decide) N2.out _ rfl
 have d4 := kept_cell (i := 4) HW.out.2.2 Q2.out (by decide) N2.out _ rfl
 have d5 := kept_cell (i := 5) HW.out.2.2 Q2.out (by decide) N2.out _ rfl
 go_wp2_with fail
 have hx := wlist_any 121 (.pointer (some ⟨pb, 0, none⟩)) (.pointer (some ⟨pb + 1, 0, none⟩)) B b _ _ ⟨#[44, 32]⟩ (x.body.map showLi) (fun _ _ => by kernel_rfl) (Nat.le_trans HBX.out HW.out.2.1.size) HW.out.1 (by have := HLN.out; simp only [List.length_append, List.length_cons, List.length_nil, size_list]; show _ + 4 + (sepL [44, 32] (x.body.map showLi)).length ≤ _; omega) (by rw [List.length_map]; exact HN.out) (rule1_tells x HR.out S B b pb (pb + 1) fa fc ga gc _ hS (Nat.le_trans HBX.out HW.out.2.1.size) hg (TabOk.below HTX.out hg HW.out.2.1) (RepLis.on (fun _ h => h) (fun k hk => ((HWB.out.mono hB).trans HW.out.2.1).block k (hS k hk)) HL.out) (kept_block HW.out.2.2 Q1.out (by decide) N1.out) (kept_block HW.out.2.2 Q2.out (by decide) N2.out) N1.out N2.out)
 rw [List.length_map] at hx
 refine hx.mono ?_
 clear hx
 rintro e w8 ⟨rfl, W⟩
 replace HW := Lib.hid (HW.out.trans W); clear W
 clear c0 d0 d1 d2 d3 d4 d5
 have c0 := kept_cell (i := 0) HW.out.2.2 Q1.out (by decide) N1.out _ rfl
 have d0 := kept_cell (i := 0) HW.out.2.2 Q2.out (by decide) N2.out _ rfl
 have d1 := kept_cell (i := 1) HW.out.2.2 Q2.out (by decide) N2.out _ rfl
 have d2 := kept_cell (i := 2) HW.out.2.2 Q2.out (by decide) N2.out _ rfl
 have d3 := kept_cell (i := 3) HW.out.2.2 Q2.out (by decide) N2.out _ rfl
 have d4 := kept_cell (i := 4) HW.out.2.2 Q2.out (by decide) N2.out _ rfl
 have d5 := kept_cell (i := 5) HW.out.2.2 Q2.out (by decide) N2.out _ rfl
 go_wp2_with fail
 refine (pw.wbyte B b _ 46 _ HW.out.1 (by have := HLN.out; simp only [List.length_append, List.length_cons, List.length_nil, size_list]; show _ + 4 + (sepL [44, 32] (x.body.map showLi)).length + 1 ≤ _; omega) (Nat.le_trans HBX.out HW.out.2.1.size)).mono ?_
 rintro e w9 ⟨rfl, W⟩
 replace HW := Lib.hid (HW.out.trans W); clear W
 clear c0 d0 d1 d2 d3 d4 d5
 go_wp2_with fail
 go_end0
 refine ⟨rfl, ?_⟩
 have h := W2.out.trans HW.out
 simpa [showRu, List.append_assoc] using h
end Go.Proofs.YtjohcnhiblfbnaaGreatDoor
