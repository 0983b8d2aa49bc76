/-
  GrSets
-/
import Derived.Test.YtpnaegohjbaggaaKD11
import Derived.Test.YtpnaegohjbaggaaKD08
namespace Go.Proofs.Ytpnaegohjbaggaa
open Go.RowKit
abbrev Sl := Nat × Nat × Nat × Nat
def kdSl : Kd Sl where
 T := 40
 ST := 74
 n := 1
 bytes := 24
 R := fun _ _ x c => c 0 = .slice (some ⟨x.1, x.2.1 * 3, none⟩) x.2.2.1 x.2.2.2
 pos := by omega
 few := by omega
 on := fun _ _ h => h
 one := fun h j hj => by
  obtain rfl : j = 0 := by omega
  rw [h]; rfl
 und := Try.underlying74
 info := info_of (by kernel_rfl)
inductive Segs (n : Nat) (M : List Cel) (blk : Nat) : Nat → List Sl → Prop
 | nil : Segs n M blk 0 []
 | snoc {o k c : Nat} {l : List Sl} : Segs n M blk o l → 0 < k → o + k ≤ M.length → (∀ i (h : i < M.length) (h0 : o < M.length), o ≤ i → i < o + k → cmpBut n M[o].1 M[i].1 = 0) →
   (∀ (h : o + k < M.length) (h0 : o < M.length), cmpBut n M[o].1 M[o + k].1 ≠ 0) → k ≤ c → Segs n M blk (o + k) (l ++ [(blk, o, k, c)])
theorem Segs.len {n : Nat} {M : List Cel} {blk o : Nat} {l : List Sl} (h : Segs n M blk o l) : l.length ≤ o := by
 induction h with
 | nil => exact Nat.le_refl _
 | snoc _ hk _ _ _ _ ih => rw [List.length_append, List.length_singleton]; omega
theorem RowsAt.same {w w' : World} {blk n : Nat} {L : List Cel} (h : RowsAt w blk n L) (hb : w'.heap[blk]? = w.heap[blk]?) : RowsAt w' blk n L := by
 obtain ⟨⟨cur, hc, hn⟩, hl, hr⟩ := h;refine ⟨⟨cur, hb.trans hc, hn⟩, hl, fun j hj => ?_⟩;obtain ⟨e0, e1, e2⟩ := hr j hj;simp only [HasRow, World.cell?, hb]
 exact ⟨e0, e1, e2⟩
theorem MineS.downS {α : Type} {K : Kd α} {S : Nat → Prop} {w : World} {B B' : Nat} {l : List α} {v : Value} (h : MineS K S w B l v) (hB : B' ≤ B) : MineS K S w B' l v := by
 obtain ⟨xs, hown, hr⟩ := h;refine ⟨xs, ownsRow_down hown hB, fun i hi => ?_⟩;obtain ⟨c, hc, hR⟩ := hr i hi;exact ⟨c, hc, K.on (fun k hk => ⟨hk.1.imp_right (Nat.le_trans hB), hk.2⟩) (fun _ _ => rfl) hR⟩
def leftR (rb : Nat) (w : World) : Nat := match w.cell? ⟨rb, 0, none⟩ with | some (.slice _ m _) => m | _ => 0
theorem leftR_at {rb : Nat} {w : World} {a : Option Addr} {m c : Nat} (h : w.cell? ⟨rb, 0, none⟩ = some (.slice a m c)) : leftR rb w = m := by unfold leftR; rw [h]
def SlForm (v : Value) (l : List Sl) : Prop := ∃ la lc, v = .slice la l.length lc
def SetsInv (n cap : Nat) (M : List Cel) (blk rb : Nat) (w2 : World) (ov : Value) (wr : World) : Prop :=
 ∃ (o : Nat) (segs : List Sl) (q : Addr) (c : Nat), o ≤ M.length ∧ Segs n M blk o segs ∧ SlForm ov segs ∧ (o < M.length → q = ⟨blk, o * 3, none⟩ ∧ c = cap - o) ∧
  MineS kdSl (fun _ => False) wr w2.heap.size segs ov ∧ wr.heap[rb]? = some (.cells #[.slice (some q) (M.length - o) c] 40 (0, 0)) ∧ Beside rb w2 wr
def SetsPost (n blk N : Nat) (L : List Cel) (w : World) (e : Ending) (w' : World) : Prop :=
 ∃ (M : List Cel) (segs : List Sl) (la : Option Addr) (lc : Nat), e = .returned (.slice la segs.length lc) ∧ M.Perm L ∧ M.Pairwise (fun a b => ¬ cmpBut n b.1 a.1 < 0) ∧ RowsAt w' blk N M ∧ Segs n M blk M.length segs ∧ MineS kdSl (fun _ => False) w' w.heap.size segs (.slice la segs.length lc) ∧ Beside blk w w'
set_option maxRecDepth 100000 in
set_option maxHeartbeats 8000000 in
theorem sets_any (n : Nat) (L : List Cel) (hne : L ≠ []) (blk cap N : Nat) (w : World) (S : Nat → Prop) (_hn63 : n ≤ 140737488355328) (hcap : L.length ≤ cap) (h63 : L.length * 48 ≤ 140737488355328) (hrow : RowsAt w blk N L)
  (hS : ∀ k, S k → k < w.heap.size ∧ k ≠ blk) (hrep : ∀ x ∈ L, RepRo S w x.1 (.string x.1.name) x.2 (.int .i64 x.1.stamp)) (hlong : ∀ x ∈ L, n < x.1.args.length) :
  Calls Try.prog 37 #[.int .i64 (n : Int), .slice (some ⟨blk, 0, none⟩) L.length cap] w (SetsPost n blk N L w) := by
 have eg1 : ∀ args w, (callFunc 63 args).run Try.prog w = .ok (.enter 63 args) w := fun args w => by kernel_rfl
 have eg2 : ∀ args w, Sem.run Try.prog (callFunc 65 args) w = .ok (.enter 65 args) w := fun args w => by kernel_rfl
 have HE1 := Lib.hid eg1; have HE2 := Lib.hid eg2
 have HNE := Lib.hid hne; have HCP := Lib.hid hcap; have H63 := Lib.hid h63; have HRW0 := Lib.hid hrow; have HS := Lib.hid hS; have HRP := Lib.hid hrep; have HLG := Lib.hid hlong
 clear eg1 eg2 hne hcap h63 hrow hS hrep hlong;go_enter Try.func37, Try.ntmps37
 go_upto_region 1 with fail
 obtain ⟨w1, hw1, m0, m1, ho⟩ := boxed2 w (.cells #[.int .i64 (n : Int)] 3) (.cells #[.slice (some ⟨blk, 0, none⟩) L.length cap] 40);rw [hw1];have hbl : blk < w.heap.size := HRW0.out.1.lt;have hb0 : w.heap.size < w1.heap.size := (Array.getElem?_eq_some_iff.1 m0).1;have hb1' : w.heap.size + 1 < w1.heap.size := (Array.getElem?_eq_some_iff.1 m1).1;have HO := Lib.hid ho;clear hw1 ho;obtain ⟨rb, hrb⟩ : ∃ b, w.heap.size + 1 = b := ⟨_, rfl⟩;obtain ⟨ab, hab⟩ : ∃ b, w.heap.size = b := ⟨_, rfl⟩;rw [hrb] at m1 hb1' ⊢;rw [hab] at m0 hb0 ⊢;have HIX : Hid (blk < ab ∧ rb = ab + 1 ∧ ab < w1.heap.size ∧ rb < w1.heap.size ∧ w.heap.size = ab) := ⟨by omega, by omega, hb0, hb1', hab⟩;clear hrb hab hbl hb0 hb1';have M0 := Lib.hid m0; have M1 := Lib.hid m1
 have a0 := cell_of_block' (i := 0) m0 _ rfl;have r0 := cell_of_block' (i := 0) m1 _ rfl;clear m0 m1;have RW1 : RowsAt w1 blk N L := HRW0.out.on HO.out.below;obtain ⟨cur, hcur, hcn, hce⟩ := RW1.cel;have hS1 : ∀ k, S k → k < w1.heap.size ∧ k ≠ blk := fun k hk => ⟨Nat.lt_of_lt_of_le (HS.out k hk).1 HO.out.below.size, (HS.out k hk).2⟩
 have hrep1 : ∀ x ∈ L, RepRo S w1 x.1 (.string x.1.name) x.2 (.int .i64 x.1.stamp) := fun x hx => RepRo.on (fun _ h => h) (fun k hk => HO.out.below.block k (HS.out k hk).1) (HRP.out x hx)
 have hsort := sortRowQ_any (fun x => n < x.1.args.length) L HLG.out HNE.out (cmpBut n) (ord_cmpBut n) 63 #[.pointer (some ⟨ab, 0, none⟩)] blk cap cur w1 S HE1.out hcur hce (by have := H63.out; omega) hS1 hrep1 (fun x y W hW hx hy hnx hny => bySet_any n ab x.1 y.1 S W x.2 y.2 (fun k hk => Nat.lt_of_lt_of_le (hS1 k hk).1 hW.size) (by
  have e := hW.block ab HIX.out.2.2.1 (by have := HIX.out.1; omega);rw [M0.out] at e
  exact cell_of_block' (i := 0) e _ rfl) hx hy hnx hny)
 have HSO := Lib.hid hsort;clear hsort hce hcur hrep1 RW1;go_wp2_with fail
 refine HSO.out.mono ?_;clear HSO;rintro e w2 ⟨rfl, M, cur', hp, hs, hc2, hcs, hce2, hbes⟩;have hs' : M.Pairwise (fun a b => ¬ cmpBut n b.1 a.1 < 0) := hs.imp fun h => by omega
 have hlm : M.length = L.length := hp.length_eq;have hrow2 : RowsAt w2 blk N M := by rw [← hcn, ← hcs]; exact RowsAt.of hc2 hce2
 have RM : Hid (RowsAt w2 blk N M) := hrow2;have HRM : Hid (∀ x ∈ M, RepRo S w2 x.1 (.string x.1.name) x.2 (.int .i64 x.1.stamp)) := fun x hx => RepRo.on (fun _ h => h) (fun k hk => (hbes.block k (hS1 k hk).1 (hS1 k hk).2).trans (HO.out.below.block k (HS.out k hk).1)) (HRP.out x (hp.mem_iff.1 hx))
 have HLM : Hid (∀ x ∈ M, n < x.1.args.length) := fun x hx => HLG.out x (hp.mem_iff.1 hx)
 have HS2 : Hid (∀ k, S k → k < w2.heap.size ∧ k ≠ rb) := fun k hk => ⟨Nat.lt_of_lt_of_le (hS1 k hk).1 hbes.size, by have := (HS.out k hk).1; have := HIX.out.2.1; have := HIX.out.2.2.2.2; omega⟩
 have HBL : Hid (blk < w2.heap.size ∧ blk ≠ rb) := ⟨hrow2.1.lt, by have := HIX.out; omega⟩;have A2 : Hid (w2.heap[ab]? = some (.cells #[.int .i64 (n : Int)] 3 (0, 0))) := (hbes.block ab HIX.out.2.2.1 (by have := HIX.out.1; omega)).trans M0.out;have R2 : Hid (w2.heap[rb]? = some (.cells #[.slice (some ⟨blk, 0, none⟩) L.length cap] 40 (0, 0))) := (hbes.block rb HIX.out.2.2.2.1 (by have := HIX.out; omega)).trans M1.out;have HRB : Hid (rb < w2.heap.size) := Nat.lt_of_lt_of_le HIX.out.2.2.2.1 hbes.size;have HAB : Hid (ab < w2.heap.size ∧ ab ≠ rb) := ⟨Nat.lt_of_lt_of_le HIX.out.2.2.1 hbes.size, by have := HIX.out; omega⟩;have HFIN : Hid (M.Perm L ∧ M.Pairwise (fun a b => ¬ cmpBut n b.1 a.1 < 0) ∧ Beside blk w w2 ∧ w.heap.size ≤ w2.heap.size) := ⟨hp, hs', (Beside.of_below HO.out.below).trans hbes, Nat.le_trans HO.out.below.size hbes.size⟩;have HLN := Lib.hid hlm;have HMN : Hid (M.length * 48 ≤ 140737488355328) := by have := H63.out; show _ ≤ _; omega
 have HCM : Hid (M.length ≤ cap) := by have := HCP.out; show _ ≤ _; omega
 clear hp hs hs' hc2 hcs hce2 hbes hrow2 hlm hcn hS1 HRW0 HRP HLG M0 M1 HO a0 r0 HNE;go_wp2_with fail
 go_loopw [5] (fun ov wr => Hid (SetsInv n cap M blk rb w2 ov wr)) (fun _ wr => leftR rb wr)
 case atStart => exact (⟨0, [], ⟨blk, 0, none⟩, cap, Nat.zero_le _, .nil, ⟨none, 0, rfl⟩, fun _ => ⟨by rw [Nat.zero_mul], rfl⟩, MineS.nil _ _, (by rw [Nat.sub_zero, HLN.out]; exact R2.out), Beside.of_below (Below.refl _ _)⟩ : SetsInv n cap M blk rb w2 _ _)
 case round =>
  obtain ⟨o, segs, q, c, ho, hsg, hfo, hq, hmine, hrb0, hbe⟩ := hrel.out;obtain ⟨la, lc, rfl⟩ := hfo;have hsegs := Lib.hid hsg; have hrb := Lib.hid hrb0
  have HMI := Lib.hid hmine; have HBE := Lib.hid hbe; have HRW := hrb
  clear hmine hbe hsg hrb0 hrel;obtain ⟨m, hm⟩ : ∃ m, M.length - o = m := ⟨_, rfl⟩;rw [hm] at hrb HRW;have r0 := cell_of_block' (i := 0) hrb.out _ rfl;have HR0 : Hid (wr.cell? ⟨rb, 0, none⟩ = some (.slice (some q) m c)) := r0;clear hrb
  by_cases hlt : o < M.length
  ·obtain ⟨rfl, rfl⟩ := hq hlt
   clear hq;have k1 : decide ((0 : Int) < (m : Int)) = true := decide_eq_true (by omega);have k2 : decide (0 < m) = true := decide_eq_true (by omega);have HM : Hid (o + m = M.length) := by show _ = _; omega
   obtain ⟨cc, hcc⟩ : ∃ cc, cap - o = cc := ⟨_, rfl⟩;rw [hcc] at r0 HR0 HRW;have HCC : Hid (cap = o + cc) := by have := HCM.out; show _ = _; omega
   have HMC : Hid (m ≤ cc) := by have := HCM.out; show _ ≤ _; omega
   obtain ⟨y, hy⟩ : ∃ y, M[o] = y := ⟨_, rfl⟩;have HY : Hid (∀ h0 : o < M.length, M[o]'h0 = y) := fun _ => hy
   have hym : y ∈ M := by rw [← hy]; exact List.getElem_mem hlt
   have HLT := Lib.hid hlt
   have hix := index_any (M.drop o) (fun x => cmpBut n y.1 x.1 != 0) blk o cc 65 #[.pointer (some ⟨ab, 0, none⟩), .pointer (some ⟨rb, 0, none⟩)] wr (by rw [List.length_drop]; have := HMN.out; omega) HE2.out
    (fun j h => by
     rw [List.length_drop] at h;rw [List.getElem_drop];obtain ⟨e0, e1, e2⟩ := RM.out.2.2 (o + j) (by omega);have hb := HBE.out.block blk HBL.out.1 HBL.out.2;simp only [HasRow, World.cell?, hb]
     exact ⟨e0, e1, e2⟩) (Nat.lt_of_lt_of_le HBL.out.1 HBE.out.size)
    (fun x hx W hW => by
     have hxm : x ∈ M := List.mem_of_mem_drop hx;have hkeep : ∀ k, k < w2.heap.size → k ≠ rb → W.heap[k]? = w2.heap[k]? := fun k h1 h2 => (hW.block k (Nat.lt_of_lt_of_le h1 HBE.out.size)).trans (HBE.out.block k h1 h2)
     have hrep : ∀ z ∈ M, RepRo S W z.1 (.string z.1.name) z.2 (.int .i64 z.1.stamp) := fun z hz => RepRo.on (fun _ h => h) (fun k hk => hkeep k (HS2.out k hk).1 (HS2.out k hk).2) (HRM.out z hz)
     have hb := hkeep blk HBL.out.1 HBL.out.2;obtain ⟨e0, e1, e2⟩ := RM.out.2.2 o HLT.out;rw [HY.out HLT.out] at e0 e1 e2
     refine (unlike_any n ab rb blk o m cc y x S W (fun k hk => Nat.lt_of_lt_of_le (HS2.out k hk).1 (Nat.le_trans HBE.out.size hW.size)) (by
      have e := hkeep ab HAB.out.1 HAB.out.2;rw [A2.out] at e
      exact cell_of_block' (i := 0) e _ rfl) ((hW.cell (p := ⟨rb, 0, none⟩) (Nat.lt_of_lt_of_le HRB.out HBE.out.size)).trans HR0.out) (by have := HM.out; have := HLT.out; omega)
      (by simp only [HasRow, World.cell?, hb]; exact ⟨e0, e1, e2⟩) (hrep x hxm) (hrep y hym) (HLM.out x hxm) (HLM.out y hym)).mono ?_
     rintro e W' ⟨he, ho⟩
     exact ⟨he, ho.below⟩)
   rw [List.length_drop, hm] at hix;have HIXC := Lib.hid hix;clear hix hm hcc hlt ho hy;go_wp2_with fail
   refine HIXC.out.mono ?_;clear HIXC;rintro e w3 ⟨rfl, hb3⟩;have HB3 := Lib.hid hb3;have r3 := (hb3.cell (p := ⟨rb, 0, none⟩) (Nat.lt_of_lt_of_le HRB.out HBE.out.size)).trans HR0.out;clear hb3 r0 k1 k2;have hself : cmpBut n y.1 y.1 = 0 := by have := (ord_cmpBut n y.1 y.1 y.1).sym; omega
   rcases idxZ_spec (fun x => cmpBut n y.1 x.1 != 0) (M.drop o) 0 with ⟨h1, h2⟩ | ⟨j, hj, h1, h2, h3⟩
   ·rw [h1]
    have hk0 : 0 < m := by have := HM.out; have := HLT.out; omega
    have hkm : m ≤ m := Nat.le_refl _
    have hkal : ∀ i (h : i < M.length) (h0 : o < M.length), o ≤ i → i < o + m → cmpBut n M[o].1 M[i].1 = 0 := fun i h h0 h4 h5 => by
     have := h2 M[i] (by
      have e : M[i] = (M.drop o)[i - o]'(by rw [List.length_drop]; omega) := by rw [List.getElem_drop]; congr 1; omega
      rw [e]; exact List.getElem_mem _)
     rw [HY.out h0]
     simpa using this
    have hknx : ∀ (h : o + m < M.length) (h0 : o < M.length), cmpBut n M[o].1 M[o + m].1 ≠ 0 := fun h => by have := HM.out; omega
    clear h1 h2 hself;go_upto_region 7 with fail
    have HK0 := Lib.hid hk0; have HKM := Lib.hid hkm
    have SG6 : Hid (Segs n M blk (o + m) (segs ++ [(blk, o, m, cc)])) := .snoc hsegs.out hk0 (by have := HM.out; omega) hkal hknx (by have := HMC.out; omega);have HOK : Hid (o + m ≤ M.length) := by have := HM.out; show _ ≤ _; omega
    have c0 : (0 : Int) ≤ (m : Int) := Int.natCast_nonneg m;have c1 : (m : Int) ≤ (m : Int) := by omega
    have c2 : (m : Int) ≤ (cc : Int) := by have := HMC.out; omega
    have c3 : ¬ cc = 0 := by have := HMC.out; omega
    have c4 : (m : Int) ≤ (cc : Int) := by have := HMC.out; omega
    have c5 : m ≤ m := hkm;have c6 : m ≤ cc := by have := HMC.out; omega
    have c7 : m ≤ cc := HMC.out;have d4 := below_alloc w3 (.cells #[.slice (some ⟨blk, o * 3, none⟩) m cc] 40);have hsl := hsegs.out.len
    obtain ⟨na, nc, w6, hrun6, hm6, hg6⟩ := MineS.appendB (K := kdSl) (y := (blk, o, m, cc)) (c := fun _ => .slice (some ⟨blk, o * 3, none⟩) m cc) ((HMI.out.on HB3.out).on d4) (Nat.le_trans HBE.out.size (Nat.le_trans HB3.out.size d4.size)) (by show _ * 24 ≤ _; have := HMN.out; have := HM.out; omega) (by have := HMN.out; have := HM.out; omega) (alloc_new' w3 _) (fun j hj => by
     have hj' : j < 1 := hj;obtain rfl : j = 0 := by omega
     rfl) (rfl : kdSl.R _ _ (blk, o, m, cc) (fun _ => .slice (some ⟨blk, o * 3, none⟩) m cc)) 74
    have HRUN := Lib.hid hrun6; have M6 := Lib.hid hm6
    have hlo := HMI.out.lies;have hk6 : ∀ b, b < w2.heap.size → w6.heap[b]? = wr.heap[b]? := fun b hb => (hg6.block b (by have := HBE.out.size; have := HB3.out.size; have := d4.size; omega) (fun e => by have := (hlo b e.symm).1; omega)).trans ((d4.block b (by have := HBE.out.size; have := HB3.out.size; omega)).trans (HB3.out.block b (by have := HBE.out.size; omega)))
    have R6 : Hid (w6.heap[rb]? = some (.cells #[.slice (some ⟨blk, o * 3, none⟩) m cc] 40 (0, 0))) := (hk6 rb HRB.out).trans HRW.out;have HBE6 : Hid (Beside rb w2 w6) := ⟨(hg6.os.trans (d4.os.trans HB3.out.os)).trans HBE.out.os, (hg6.tape.trans (d4.tape.trans HB3.out.tape)).trans HBE.out.tape, (hg6.output.trans (d4.output.trans HB3.out.output)).trans HBE.out.output, Nat.le_trans HBE.out.size (Nat.le_trans HB3.out.size (Nat.le_trans d4.size hg6.size)), fun b hb hne => (hk6 b hb).trans (HBE.out.block b hb hne)⟩;have r3 := (HB3.out.cell (p := ⟨rb, 0, none⟩) (Nat.lt_of_lt_of_le HRB.out HBE.out.size)).trans HR0.out;have x0 := cell_of_block' (i := 0) R6.out _ rfl;have z0 := frozen_of_row w6 rb 0 _ _ R6.out;clear hk0 hkm hkal hknx d4 hrun6 hm6 hlo hg6 hk6;go_wp2_with (at_builtin; refine wpList_append_by rfl _ _ _ rfl rfl rfl HRUN.out ?_; clear HRUN r3)
    by_cases hck : cc = m
    ·have HKC : Hid (cc = m) := hck
     subst hck;go_wp2_with fail
     obtain ⟨wz, hwz⟩ : ∃ z, w6.setCell ⟨rb, 0, none⟩ (.slice (some ⟨blk, o * 3, none⟩) 0 0) = z := ⟨_, rfl⟩;rw [hwz];have hzo : ∀ b, b ≠ rb → wz.heap[b]? = w6.heap[b]? := fun b hb => by rw [← hwz]; exact Below.heap_setCell _ _ _ _ (by simpa using hb)
     have hzs : wz.heap.size = w6.heap.size := by rw [← hwz]; simp [World.setCell]
     have hzr : wz.heap[rb]? = some (.cells #[.slice (some ⟨blk, o * 3, none⟩) 0 0] 40 (0, 0)) := by rw [← hwz]; exact heap_setCell_same _ _ _ _ _ _ R6.out
     have hzb : Beside rb w6 wz := ⟨by rw [← hwz]; rfl, by rw [← hwz]; rfl, by rw [← hwz]; rfl, by rw [hzs]; exact Nat.le_refl _, fun b _ hb => hzo b hb⟩;have hcz : wz.cell? ⟨rb, 0, none⟩ = some (.slice (some ⟨blk, o * 3, none⟩) 0 0) := cell_of_block' (i := 0) hzr _ rfl;have hm7 : MineS kdSl (fun _ => False) wz w2.heap.size (segs ++ [(blk, o, cc, cc)]) (.slice na (segs.length + 1) nc) := OwnK.on M6.out (fun b hb => ⟨hb.1, by rw [hzs]; exact hb.2.1, hb.2.2⟩) (fun b hb => hzo b (by rcases hb.1 with h | h; exact h.elim; have := HRB.out; omega)) (fun b hb _ _ => hzo b (by have := HRB.out; omega));have HCZ := Lib.hid hcz;clear hwz hcz x0 z0;go_roundw
     case rel => exact (⟨o + cc, segs ++ [(blk, o, cc, cc)], ⟨blk, o * 3, none⟩, 0, HOK.out, SG6.out, (show SlForm _ _ from ⟨na, nc, by rw [List.length_append, List.length_singleton]⟩), (by intro h; have := HM.out; have := HKM.out; have := HKC.out; omega), hm7, (by rw [show M.length - (o + cc) = 0 by have := HM.out; have := HKM.out; have := HMC.out; omega]; exact hzr), (HBE6.out.trans hzb)⟩ : SetsInv n cap M blk rb w2 _ _)
     case measure =>
      show leftR rb wz < leftR rb wr
      rw [leftR_at HCZ.out, leftR_at HR0.out];have := HK0.out; have := HKM.out; have := HLT.out; have := HM.out; omega
    ·have HKC : Hid (¬ cc = m) := hck
     go_wp2_with fail
     obtain ⟨wz, hwz⟩ : ∃ z, w6.setCell ⟨rb, 0, none⟩ (.slice (some ⟨blk, o * 3 + m * 3, none⟩) 0 (cc - m)) = z := ⟨_, rfl⟩;rw [hwz];have hzo : ∀ b, b ≠ rb → wz.heap[b]? = w6.heap[b]? := fun b hb => by rw [← hwz]; exact Below.heap_setCell _ _ _ _ (by simpa using hb)
     have hzs : wz.heap.size = w6.heap.size := by rw [← hwz]; simp [World.setCell]
     have hzr : wz.heap[rb]? = some (.cells #[.slice (some ⟨blk, o * 3 + m * 3, none⟩) 0 (cc - m)] 40 (0, 0)) := by rw [← hwz]; exact heap_setCell_same _ _ _ _ _ _ R6.out
     have hzb : Beside rb w6 wz := ⟨by rw [← hwz]; rfl, by rw [← hwz]; rfl, by rw [← hwz]; rfl, by rw [hzs]; exact Nat.le_refl _, fun b _ hb => hzo b hb⟩;have hcz : wz.cell? ⟨rb, 0, none⟩ = some (.slice (some ⟨blk, o * 3 + m * 3, none⟩) 0 (cc - m)) := cell_of_block' (i := 0) hzr _ rfl;have hm7 : MineS kdSl (fun _ => False) wz w2.heap.size (segs ++ [(blk, o, m, cc)]) (.slice na (segs.length + 1) nc) := OwnK.on M6.out (fun b hb => ⟨hb.1, by rw [hzs]; exact hb.2.1, hb.2.2⟩) (fun b hb => hzo b (by rcases hb.1 with h | h; exact h.elim; have := HRB.out; omega)) (fun b hb _ _ => hzo b (by have := HRB.out; omega));have HCZ := Lib.hid hcz;clear hwz hcz x0 z0;go_roundw
     case rel => exact (⟨o + m, segs ++ [(blk, o, m, cc)], ⟨blk, o * 3 + m * 3, none⟩, (cc - m), HOK.out, SG6.out, (show SlForm _ _ from ⟨na, nc, by rw [List.length_append, List.length_singleton]⟩), (by intro h; exact ⟨by rw [show o * 3 + m * 3 = (o + m) * 3 by omega], by have := HCC.out; omega⟩), hm7, (by rw [show M.length - (o + m) = 0 by have := HM.out; have := HKM.out; have := HMC.out; omega]; exact hzr), (HBE6.out.trans hzb)⟩ : SetsInv n cap M blk rb w2 _ _)
     case measure =>
      show leftR rb wz < leftR rb wr
      rw [leftR_at HCZ.out, leftR_at HR0.out];have := HK0.out; have := HKM.out; have := HLT.out; have := HM.out; omega
   ·have hj0 : j ≠ 0 := by
     intro e;subst e;rw [List.getElem_drop] at h2;simp only [Nat.add_zero] at h2
     rw [HY.out HLT.out, hself] at h2;simp at h2
    rw [h1, Nat.zero_add];obtain ⟨k, hk⟩ : ∃ k, j = k := ⟨_, rfl⟩;rw [hk];rw [List.length_drop] at hj;have hk0 : 0 < k := by omega
    have hkm : k ≤ m := by have := HM.out; omega
    have hkal : ∀ i (h : i < M.length) (h0 : o < M.length), o ≤ i → i < o + k → cmpBut n M[o].1 M[i].1 = 0 := fun i h h0 h4 h5 => by
     have := h3 (i - o) (by omega);rw [List.getElem_drop] at this;simp only [show o + (i - o) = i by omega] at this
     rw [HY.out h0]
     simpa using this
    have hknx : ∀ (h : o + k < M.length) (h0 : o < M.length), cmpBut n M[o].1 M[o + k].1 ≠ 0 := fun h h0 => by
     rw [List.getElem_drop] at h2;simp only [hk] at h2
     rw [HY.out h0]
     simpa using h2
    clear h1 h2 h3 hself hj hj0 hk;go_upto_region 7 with fail
    have HK0 := Lib.hid hk0; have HKM := Lib.hid hkm
    have SG6 : Hid (Segs n M blk (o + k) (segs ++ [(blk, o, k, cc)])) := .snoc hsegs.out hk0 (by have := HM.out; omega) hkal hknx (by have := HMC.out; omega);have HOK : Hid (o + k ≤ M.length) := by have := HM.out; show _ ≤ _; omega
    have c0 : (0 : Int) ≤ (k : Int) := Int.natCast_nonneg k;have c1 : (k : Int) ≤ (m : Int) := by omega
    have c2 : (k : Int) ≤ (cc : Int) := by have := HMC.out; omega
    have c3 : ¬ cc = 0 := by have := HMC.out; omega
    have c4 : (m : Int) ≤ (cc : Int) := by have := HMC.out; omega
    have c5 : k ≤ m := hkm;have c6 : k ≤ cc := by have := HMC.out; omega
    have c7 : m ≤ cc := HMC.out;have d4 := below_alloc w3 (.cells #[.slice (some ⟨blk, o * 3, none⟩) k cc] 40);have hsl := hsegs.out.len
    obtain ⟨na, nc, w6, hrun6, hm6, hg6⟩ := MineS.appendB (K := kdSl) (y := (blk, o, k, cc)) (c := fun _ => .slice (some ⟨blk, o * 3, none⟩) k cc) ((HMI.out.on HB3.out).on d4) (Nat.le_trans HBE.out.size (Nat.le_trans HB3.out.size d4.size)) (by show _ * 24 ≤ _; have := HMN.out; have := HM.out; omega) (by have := HMN.out; have := HM.out; omega) (alloc_new' w3 _) (fun j hj => by
     have hj' : j < 1 := hj;obtain rfl : j = 0 := by omega
     rfl) (rfl : kdSl.R _ _ (blk, o, k, cc) (fun _ => .slice (some ⟨blk, o * 3, none⟩) k cc)) 74
    have HRUN := Lib.hid hrun6; have M6 := Lib.hid hm6
    have hlo := HMI.out.lies;have hk6 : ∀ b, b < w2.heap.size → w6.heap[b]? = wr.heap[b]? := fun b hb => (hg6.block b (by have := HBE.out.size; have := HB3.out.size; have := d4.size; omega) (fun e => by have := (hlo b e.symm).1; omega)).trans ((d4.block b (by have := HBE.out.size; have := HB3.out.size; omega)).trans (HB3.out.block b (by have := HBE.out.size; omega)))
    have R6 : Hid (w6.heap[rb]? = some (.cells #[.slice (some ⟨blk, o * 3, none⟩) m cc] 40 (0, 0))) := (hk6 rb HRB.out).trans HRW.out;have HBE6 : Hid (Beside rb w2 w6) := ⟨(hg6.os.trans (d4.os.trans HB3.out.os)).trans HBE.out.os, (hg6.tape.trans (d4.tape.trans HB3.out.tape)).trans HBE.out.tape, (hg6.output.trans (d4.output.trans HB3.out.output)).trans HBE.out.output, Nat.le_trans HBE.out.size (Nat.le_trans HB3.out.size (Nat.le_trans d4.size hg6.size)), fun b hb hne => (hk6 b hb).trans (HBE.out.block b hb hne)⟩;have r3 := (HB3.out.cell (p := ⟨rb, 0, none⟩) (Nat.lt_of_lt_of_le HRB.out HBE.out.size)).trans HR0.out;have x0 := cell_of_block' (i := 0) R6.out _ rfl;have z0 := frozen_of_row w6 rb 0 _ _ R6.out;clear hk0 hkm hkal hknx d4 hrun6 hm6 hlo hg6 hk6;go_wp2_with (at_builtin; refine wpList_append_by rfl _ _ _ rfl rfl rfl HRUN.out ?_; clear HRUN r3)
    by_cases hck : cc = k
    ·have HKC : Hid (cc = k) := hck
     subst hck;go_wp2_with fail
     obtain ⟨wz, hwz⟩ : ∃ z, w6.setCell ⟨rb, 0, none⟩ (.slice (some ⟨blk, o * 3, none⟩) 0 0) = z := ⟨_, rfl⟩;rw [hwz];have hzo : ∀ b, b ≠ rb → wz.heap[b]? = w6.heap[b]? := fun b hb => by rw [← hwz]; exact Below.heap_setCell _ _ _ _ (by simpa using hb)
     have hzs : wz.heap.size = w6.heap.size := by rw [← hwz]; simp [World.setCell]
     have hzr : wz.heap[rb]? = some (.cells #[.slice (some ⟨blk, o * 3, none⟩) 0 0] 40 (0, 0)) := by rw [← hwz]; exact heap_setCell_same _ _ _ _ _ _ R6.out
     have hzb : Beside rb w6 wz := ⟨by rw [← hwz]; rfl, by rw [← hwz]; rfl, by rw [← hwz]; rfl, by rw [hzs]; exact Nat.le_refl _, fun b _ hb => hzo b hb⟩;have hcz : wz.cell? ⟨rb, 0, none⟩ = some (.slice (some ⟨blk, o * 3, none⟩) 0 0) := cell_of_block' (i := 0) hzr _ rfl;have hm7 : MineS kdSl (fun _ => False) wz w2.heap.size (segs ++ [(blk, o, cc, cc)]) (.slice na (segs.length + 1) nc) := OwnK.on M6.out (fun b hb => ⟨hb.1, by rw [hzs]; exact hb.2.1, hb.2.2⟩) (fun b hb => hzo b (by rcases hb.1 with h | h; exact h.elim; have := HRB.out; omega)) (fun b hb _ _ => hzo b (by have := HRB.out; omega));have HCZ := Lib.hid hcz;clear hwz hcz x0 z0;go_roundw
     case rel => exact (⟨o + cc, segs ++ [(blk, o, cc, cc)], ⟨blk, o * 3, none⟩, 0, HOK.out, SG6.out, (show SlForm _ _ from ⟨na, nc, by rw [List.length_append, List.length_singleton]⟩), (by intro h; have := HM.out; have := HKM.out; have := HKC.out; omega), hm7, (by rw [show M.length - (o + cc) = 0 by have := HM.out; have := HKM.out; have := HMC.out; omega]; exact hzr), (HBE6.out.trans hzb)⟩ : SetsInv n cap M blk rb w2 _ _)
     case measure =>
      show leftR rb wz < leftR rb wr
      rw [leftR_at HCZ.out, leftR_at HR0.out];have := HK0.out; have := HKM.out; have := HLT.out; have := HM.out; omega
    ·have HKC : Hid (¬ cc = k) := hck
     go_wp2_with fail
     obtain ⟨wz, hwz⟩ : ∃ z, w6.setCell ⟨rb, 0, none⟩ (.slice (some ⟨blk, o * 3 + k * 3, none⟩) (m - k) (cc - k)) = z := ⟨_, rfl⟩;rw [hwz];have hzo : ∀ b, b ≠ rb → wz.heap[b]? = w6.heap[b]? := fun b hb => by rw [← hwz]; exact Below.heap_setCell _ _ _ _ (by simpa using hb)
     have hzs : wz.heap.size = w6.heap.size := by rw [← hwz]; simp [World.setCell]
     have hzr : wz.heap[rb]? = some (.cells #[.slice (some ⟨blk, o * 3 + k * 3, none⟩) (m - k) (cc - k)] 40 (0, 0)) := by rw [← hwz]; exact heap_setCell_same _ _ _ _ _ _ R6.out
     have hzb : Beside rb w6 wz := ⟨by rw [← hwz]; rfl, by rw [← hwz]; rfl, by rw [← hwz]; rfl, by rw [hzs]; exact Nat.le_refl _, fun b _ hb => hzo b hb⟩;have hcz : wz.cell? ⟨rb, 0, none⟩ = some (.slice (some ⟨blk, o * 3 + k * 3, none⟩) (m - k) (cc - k)) := cell_of_block' (i := 0) hzr _ rfl;have hm7 : MineS kdSl (fun _ => False) wz w2.heap.size (segs ++ [(blk, o, k, cc)]) (.slice na (segs.length + 1) nc) := OwnK.on M6.out (fun b hb => ⟨hb.1, by rw [hzs]; exact hb.2.1, hb.2.2⟩) (fun b hb => hzo b (by rcases hb.1 with h | h; exact h.elim; have := HRB.out; omega)) (fun b hb _ _ => hzo b (by have := HRB.out; omega));have HCZ := Lib.hid hcz;clear hwz hcz x0 z0;go_roundw
     case rel => exact (⟨o + k, segs ++ [(blk, o, k, cc)], ⟨blk, o * 3 + k * 3, none⟩, (cc - k), HOK.out, SG6.out, (show SlForm _ _ from ⟨na, nc, by rw [List.length_append, List.length_singleton]⟩), (by intro h; exact ⟨by rw [show o * 3 + k * 3 = (o + k) * 3 by omega], by have := HCC.out; omega⟩), hm7, (by rw [show M.length - (o + k) = (m - k) by have := HM.out; have := HKM.out; have := HMC.out; omega]; exact hzr), (HBE6.out.trans hzb)⟩ : SetsInv n cap M blk rb w2 _ _)
     case measure =>
      show leftR rb wz < leftR rb wr
      rw [leftR_at HCZ.out, leftR_at HR0.out];have := HK0.out; have := HKM.out; have := HLT.out; have := HM.out; omega
  ·have hoe : o = M.length := by omega
   subst hoe;have k1 : decide ((0 : Int) < (m : Int)) = false := decide_eq_false (by omega);have k2 : decide (0 < m) = false := decide_eq_false (by omega);have hb : w2.heap.size ≤ wr.heap.size := HBE.out.size
   have HP : Hid (SetsPost n blk N L w (.returned (.slice la segs.length lc)) wr) := by
    have hbe := HBE.out;refine ⟨M, segs, la, lc, rfl, HFIN.out.1, HFIN.out.2.1.imp (fun h => by omega), RM.out.same (hbe.block blk HBL.out.1 HBL.out.2), hsegs.out, HMI.out.downS HFIN.out.2.2.2, hbe.os.trans HFIN.out.2.2.1.os, hbe.tape.trans HFIN.out.2.2.1.tape, hbe.output.trans HFIN.out.2.2.1.output, Nat.le_trans HFIN.out.2.2.2 hbe.size, fun k hk hne => ?_⟩;have h1 := HIX.out.2.1; have h2 := HIX.out.2.2.2.2; have h3 := HFIN.out.2.2.2
    exact (hbe.block k (by omega) (by omega)).trans (HFIN.out.2.2.1.block k hk hne)
   clear hq hm hlt ho hb;go_wp2_with fail
   go_ret
   exact HP.out
end Go.Proofs.Ytpnaegohjbaggaa
