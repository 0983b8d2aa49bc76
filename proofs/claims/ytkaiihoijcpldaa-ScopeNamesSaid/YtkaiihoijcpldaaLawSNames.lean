/-
  ScopeNames, the walk: for any raw rules and facts the law returns true.
-/
import Derived.Test.YtkaiihoijcpldaaW16
import Derived.Test.YtkaiihoijcpldaaSixTurn
import Derived.Test.YtkaiihoijcpldaaNamesKit
import Derived.Test.YtkaiihoijcpldaaW04
import Derived.Test.YtkaiihoijcpldaaStrAdd
namespace Go.Proofs.Ytkaiihoijcpldaa.scopeNames
open Go.RowKit

theorem li_small {z : Li} (h : liB z = true) : z.args.length ≤ 8 ∧ (∀ t ∈ z.args, rightM 8 t = true) ∧ z.name.size ≤ 16 := by
  have ha := li_args h
  have rl : ∀ {s : ByteArray}, relB s = true → s.size ≤ 16 := fun h => by rw [relB, Bool.and_eq_true] at h; exact (of_decide_eq_true h.1).2.1
  rw [liB] at h
  split at h
  · rw [atomB] at h; simp only [Bool.and_eq_true] at h
    have := (listB_bounds h.2.1).2.1
    exact ⟨by omega, ha, rl h.1⟩
  · split at h
    · rw [atomB] at h; simp only [Bool.and_eq_true] at h
      have := (listB_bounds h.2.1).2.1
      exact ⟨by omega, ha, rl h.1⟩
    · split at h
      · simp only [Bool.and_eq_true] at h
        have := (listB_bounds h.2).2.1
        refine ⟨by omega, ha, ?_⟩
        have hc := h.1
        have hsz : z.name.size = z.name.toList.length := by rw [Lib.toList_data]; rfl
        rw [hsz]
        simp only [cmpB, Bool.or_eq_true, beq_iff_eq] at hc
        rcases hc with h | h | h | h | h | h <;> rw [h] <;> decide
      · split at h
        · simp only [Bool.and_eq_true] at h
          have := (listB_bounds h.2).2.1
          exact ⟨by omega, ha, (of_decide_eq_true h.1).2.1⟩
        · cases h
def Nm9 (B k8 kx : Nat) (r : Ru) (xa : Option Addr) (xc : Nat) (w : World) : Nat → Value → Prop
  | 0, v => v = .pointer (some ⟨kx, 0, none⟩)
  | 1, v => v = .string r.label
  | 2, v => v = .pointer (some ⟨kx, 1, none⟩)
  | 3, v => v = .string r.head
  | 4, v => v = .pointer (some ⟨kx, 2, none⟩)
  | 5, v => v = .slice xa r.args.length xc
  | 6, v => k8 ≤ w.heap.size ∧ RepMs (fun b => b < k8 ∨ (B ≤ b ∧ b < w.heap.size)) w (turnL r.args) v
  | 7, v => v = .pointer (some ⟨kx, 3, none⟩)
  | 8, v => v = .string r.agg
  | 9, v => v = .pointer (some ⟨kx, 4, none⟩)
  | 10, v => v = .int .i64 r.at'
  | 11, v => ∃ ua uc, v = .agg #[.string r.label, .string r.head, .slice ua (turnL r.args).length uc, .string r.agg, .int .i64 r.at', .slice none 0 0] ∧ k8 ≤ w.heap.size ∧ RepMs (fun b => b < k8 ∨ (B ≤ b ∧ b < w.heap.size)) w (turnL r.args) (.slice ua (turnL r.args).length uc)
  | 12, v => ∃ b, v = .pointer (some ⟨b, 0, none⟩) ∧ B ≤ b ∧ BoxRu w b (.string ⟨#[]⟩) (.string ⟨#[]⟩) (.slice none 0 0) (.string ⟨#[]⟩) (.int .i64 0) (.slice none 0 0)
  | _ + 13, _ => True
theorem Nm9.stay (B k8 kx : Nat) (r : Ru) (xa : Option Addr) (xc : Nat) {w w' : World} (hb : Below w.heap.size w w') : ∀ i v, Nm9 B k8 kx r xa xc w i v → Nm9 B k8 kx r xa xc w' i v
  | 0, _, h => h
  | 1, _, h => h
  | 2, _, h => h
  | 3, _, h => h
  | 4, _, h => h
  | 5, _, h => h
  | 6, _, h => ⟨Nat.le_trans h.1 hb.size, RepMs.on (fun _b hb' => hb'.imp (fun h => h) (fun h => ⟨h.1, Nat.lt_of_lt_of_le h.2 hb.size⟩)) (fun b hb' => hb.block b (hb'.elim (fun h0 => Nat.lt_of_lt_of_le h0 h.1) (fun h0 => h0.2))) h.2⟩
  | 7, _, h => h
  | 8, _, h => h
  | 9, _, h => h
  | 10, _, h => h
  | 11, _, h => let ⟨ua, uc, e, h1, h2⟩ := h; ⟨ua, uc, e, Nat.le_trans h1 hb.size, RepMs.on (fun _b hb' => hb'.imp (fun h => h) (fun h => ⟨h.1, Nat.lt_of_lt_of_le h.2 hb.size⟩)) (fun b hb' => hb.block b (hb'.elim (fun h0 => Nat.lt_of_lt_of_le h0 h1) (fun h0 => h0.2))) h2⟩
  | 12, _, h => let ⟨b, e, h1, h2⟩ := h; ⟨b, e, h1, (hb.block b h2.lt).trans h2⟩
  | _ + 13, _, _ => trivial
def Nm17 (B BB k8 k10 k12 : Nat) (z : Li) (nm : ByteArray) (bl : List Li) (ba : Option Addr) (bc : Nat) (za : Option Addr) (zc : Nat) (ph : Bool) (w : World) : Nat → Value → Prop
  | 0, v => v = .pointer (some ⟨k10, 5, none⟩)
  | 1, v => v = .slice ba bl.length bc
  | 2, v => v = .pointer (some ⟨k12, 0, none⟩)
  | 3, v => v = .int .i64 z.kind
  | 4, v => v = .string nm
  | 5, v => v = .pointer (some ⟨k12, 2, none⟩)
  | 6, v => v = .slice za z.args.length zc
  | 7, v => ph = false → k8 ≤ w.heap.size ∧ RepMs (fun b => b < k8 ∨ (B ≤ b ∧ b < w.heap.size)) w (turnL z.args) v
  | 8, v => ph = false → ∃ uz wz, v = .agg #[.int .i64 z.kind, .string nm, .slice uz (turnL z.args).length wz] ∧ k8 ≤ w.heap.size ∧ RepMs (fun b => b < k8 ∨ (B ≤ b ∧ b < w.heap.size)) w (turnL z.args) (.slice uz (turnL z.args).length wz)
  | 9, v => ph = false → ∃ b uz wz, v = .slice (some ⟨b, 0, none⟩) 1 1 ∧ w.heap[b]? = some (.cells #[.int .i64 z.kind, .string nm, .slice uz (turnL z.args).length wz] 42 (0, 0)) ∧ k8 ≤ w.heap.size ∧ RepMs (fun b => b < k8 ∨ (B ≤ b ∧ b < w.heap.size)) w (turnL z.args) (.slice uz (turnL z.args).length wz)
  | 10, v => ph = true → ∃ a cap, v = .slice a (bl.length + 1) cap ∧ MineS kdLi (fun b => b < k8) w BB (bl ++ [turnLi z]) v
  | 11, v => v = .pointer (some ⟨k10, 5, none⟩)
  | _ + 12, _ => True
theorem Nm17.stay (B BB k8 k10 k12 : Nat) (z : Li) (nm : ByteArray) (bl : List Li) (ba : Option Addr) (bc : Nat) (za : Option Addr) (zc : Nat) {w w' : World} (hb : Below w.heap.size w w') : ∀ i v, Nm17 B BB k8 k10 k12 z nm bl ba bc za zc false w i v → Nm17 B BB k8 k10 k12 z nm bl ba bc za zc false w' i v
  | 0, _, h => h
  | 1, _, h => h
  | 2, _, h => h
  | 3, _, h => h
  | 4, _, h => h
  | 5, _, h => h
  | 6, _, h => h
  | 7, _, h => fun e => (fun h => ⟨Nat.le_trans h.1 hb.size, RepMs.on (fun b hb' => hb'.imp (fun h => h) (fun h => ⟨h.1, Nat.lt_of_lt_of_le h.2 hb.size⟩)) (fun b hb' => hb.block b (hb'.elim (fun h0 => Nat.lt_of_lt_of_le h0 h.1) (fun h0 => h0.2))) h.2⟩) (h e)
  | 8, _, h => fun e => (fun h => let ⟨uz, wz, e, h1, h2⟩ := h; ⟨uz, wz, e, Nat.le_trans h1 hb.size, RepMs.on (fun b hb' => hb'.imp (fun h => h) (fun h => ⟨h.1, Nat.lt_of_lt_of_le h.2 hb.size⟩)) (fun b hb' => hb.block b (hb'.elim (fun h0 => Nat.lt_of_lt_of_le h0 h1) (fun h0 => h0.2))) h2⟩) (h e)
  | 9, _, h => fun e => (fun h => let ⟨b, uz, wz, e, h0, h1, h2⟩ := h; ⟨b, uz, wz, e, (hb.block b (Array.getElem?_eq_some_iff.1 h0).1).trans h0, Nat.le_trans h1 hb.size, RepMs.on (fun b hb' => hb'.imp (fun h => h) (fun h => ⟨h.1, Nat.lt_of_lt_of_le h.2 hb.size⟩)) (fun b hb' => hb.block b (hb'.elim (fun h0 => Nat.lt_of_lt_of_le h0 h1) (fun h0 => h0.2))) h2⟩) (h e)
  | 10, _, _ => fun e => absurd e (by decide)
  | 11, _, h => h
  | _ + 12, _, _ => trivial
theorem Nm17.pass (B BB k8 k10 k12 : Nat) (z : Li) (nm : ByteArray) (bl : List Li) (ba : Option Addr) (bc : Nat) (za : Option Addr) (zc : Nat) {w w' : World} : ∀ i v, i ≠ 10 → Nm17 B BB k8 k10 k12 z nm bl ba bc za zc false w i v → Nm17 B BB k8 k10 k12 z nm bl ba bc za zc true w' i v
  | 0, _, _, h => h
  | 1, _, _, h => h
  | 2, _, _, h => h
  | 3, _, _, h => h
  | 4, _, _, h => h
  | 5, _, _, h => h
  | 6, _, _, h => h
  | 7, _, _, h => fun e => absurd e (by decide)
  | 8, _, _, h => fun e => absurd e (by decide)
  | 9, _, _, h => fun e => absurd e (by decide)
  | 10, _, hne, _ => absurd rfl hne
  | 11, _, _, h => h
  | _ + 12, _, _, _ => trivial

set_option maxRecDepth 100000 in
set_option maxHeartbeats 16000000 in
theorem walk (rules : List (List Rw)) (facts : List Rw) (W : World) (va vb : Value) (ga : RepRwss (fun k => k < W.heap.size) W rules va) (gb : RepRws (fun k => k < W.heap.size) W facts vb) :
    Calls Try.prog 4 #[va, vb] W fun e W' => e = .returned (.bool true) ∧ Below W.heap.size W W' := by
  have GA := Lib.hid ga; have GB := Lib.hid gb
  clear ga gb
  go_enter Try.func4, Try.ntmps4
  go_wp2_with fail
  refine (awake6_any W).mono ?_
  rintro e w1 ⟨rfl, hb⟩
  have B1 := Lib.hid hb
  clear hb
  go_wp2_with fail
  refine (program_any rules facts (fun k => k < W.heap.size) w1 va vb (fun k hk => Nat.lt_of_lt_of_le hk B1.out.size) (SlG.on (fun _ h => h) (fun k hk => B1.out.block k hk) (fun x _ c h => SlG.on (fun _ h => h) (fun k hk => B1.out.block k hk) (fun _ _ _ h => h) h) GA.out) (SlG.on (fun _ h => h) (fun k hk => B1.out.block k hk) (fun _ _ _ h => h) GB.out)).mono ?_
  rintro e w2 ⟨v0, v1, v2, rfl, hrep, hb⟩
  have HQR := Lib.hid (right_prog rules facts)
  have HCN := Lib.hid (check_names rules facts)
  have HLN : Hid ((progZ rules facts).rules.length ≤ 6) := by show _ ≤ _; show (rulesTo rules _).length ≤ 6; rw [rulesTo_len]; omega
  generalize progZ rules facts = q at *
  obtain ⟨d0, d1, rfl⟩ := SlG.form hrep.1
  obtain ⟨fa0, fa1, rfl⟩ := SlG.form hrep.2.1
  obtain ⟨r0, r1, rfl⟩ := SlG.form hrep.2.2
  have HRP := Lib.hid hrep; have B2 := Lib.hid (Below.step B1.out hb)
  clear hrep hb B1 GA GB
  go_upto_region 3 with fail
  have mk := boxPr_new w2 (.slice d0 q.decls.length d1) (.slice fa0 q.facts.length fa1) (.slice r0 q.rules.length r1)
  have da := below_alloc w2 (.cells #[.slice d0 q.decls.length d1, .slice fa0 q.facts.length fa1, .slice r0 q.rules.length r1] 29)
  have sa := World.size_alloc w2 (.cells #[.slice d0 q.decls.length d1, .slice fa0 q.facts.length fa1, .slice r0 q.rules.length r1] 29)
  generalize w2.alloc (.cells #[.slice d0 q.decls.length d1, .slice fa0 q.facts.length fa1, .slice r0 q.rules.length r1] 29) = w3 at *
  have GQ : Hid (RepPr (fun k => k < w2.heap.size) w3 q (.slice d0 q.decls.length d1) (.slice fa0 q.facts.length fa1) (.slice r0 q.rules.length r1)) := RepPr.on (fun k hk => hk.2) (fun k hk => da.block k hk.2) HRP.out
  have B3 := Lib.hid (Below.step B2.out da)
  obtain ⟨k8, hk8⟩ : ∃ k, w2.heap.size = k := ⟨_, rfl⟩
  have HWK : Hid (W.heap.size ≤ k8) := by show _ ≤ _; rw [← hk8]; exact B2.out.size
  rw [hk8] at mk GQ sa ⊢
  have X3 := Lib.hid mk
  have K3 : Hid (w3.heap.size = k8 + 1) := sa
  clear mk da sa hk8 HRP B2
  obtain ⟨o0, o1, o2⟩ := X3.out.cells
  have zt := fun i => frozen_of_row (w3.alloc (.cells #[.slice d0 q.decls.length d1, .slice fa0 q.facts.length fa1, .slice r0 q.rules.length r1] 29)) w3.heap.size i _ _ (alloc_new' w3 _)
  have z2 := zt 2
  clear zt
  go_wp2_with fail
  clear o0 o1 o2 z2
  have mk := boxPr_new w3 (.slice d0 q.decls.length d1) (.slice fa0 q.facts.length fa1) (.slice none 0 0)
  have da := below_alloc w3 (.cells #[.slice d0 q.decls.length d1, .slice fa0 q.facts.length fa1, .slice none 0 0] 29)
  have sa := World.size_alloc w3 (.cells #[.slice d0 q.decls.length d1, .slice fa0 q.facts.length fa1, .slice none 0 0] 29)
  generalize w3.alloc (.cells #[.slice d0 q.decls.length d1, .slice fa0 q.facts.length fa1, .slice none 0 0] 29) = w5 at *
  have hk7 : w3.heap.size = k8 + 1 := K3.out
  rw [hk7] at mk da sa ⊢
  have Q5 := Lib.hid mk
  have X5 : Hid (BoxPr w5 k8 (.slice d0 q.decls.length d1) (.slice fa0 q.facts.length fa1) (.slice r0 q.rules.length r1)) := (da.block k8 (by omega)).trans X3.out
  have G5 : Hid (RepPr (fun k => k < k8) w5 q (.slice d0 q.decls.length d1) (.slice fa0 q.facts.length fa1) (.slice r0 q.rules.length r1)) := RepPr.on (fun _ h => h) (fun k hk => da.block k (by omega)) GQ.out
  have BW : Hid (Below W.heap.size W w5) := Below.trans B3.out (da.mono (by have := HWK.out; omega))
  obtain ⟨k7, hk77⟩ : ∃ k7, k8 + 1 = k7 := ⟨_, rfl⟩
  rw [hk77] at mk da sa Q5 ⊢
  have KK : Hid (W.heap.size ≤ k8 ∧ k7 = k8 + 1 ∧ w5.heap.size = k7 + 1) := ⟨HWK.out, hk77.symm, sa⟩
  clear mk da sa hk7 hk77 X3 GQ B3 K3 HWK
  go_loopw [8] (fun iv wr => ∃ (k : Nat) (rv : Value), k ≤ q.rules.length ∧ iv = .int .i64 (k : Int) ∧ BoxPr wr k7 (.slice d0 q.decls.length d1) (.slice fa0 q.facts.length fa1) (rv) ∧ MineS kdRu (fun b => b < k8) wr w5.heap.size ((q.rules.take k).map turnRu) rv ∧ But k7 w5.heap.size w5 wr) (fun iv _ => q.rules.length - (intOf iv).toNat)
  case atStart => exact ⟨0, .slice none 0 0, Nat.zero_le _, rfl, Q5.out, MineS.nil _ _, But.refl _ _ _⟩
  case round =>
    obtain ⟨k, rv, hk, rfl, hqb, hmine, hbut⟩ := hrel
    have Q6 := Lib.hid hqb; have MQ := Lib.hid hmine; have HBU := Lib.hid hbut
    have HBK : Hid (Below k8 w5 wr) := hbut.below (by have := KK.out; omega) (by have := KK.out; omega)
    have hx6 : BoxPr wr k8 (.slice d0 q.decls.length d1) (.slice fa0 q.facts.length fa1) (.slice r0 q.rules.length r1) := (hbut.block k8 (by have := KK.out; omega) (by have := KK.out; omega)).trans X5.out
    obtain ⟨o0, o1, o2⟩ := hx6.cells
    clear hqb hmine hbut hx6
    by_cases hlt : k < q.rules.length
    · have i1 : decide ((k : Int) < (q.rules.length : Int)) = true := decide_eq_true (by omega)
      have i2 : decide (k < q.rules.length) = true := decide_eq_true hlt
      obtain ⟨-, -, rb, ro, xa, xc, ya, yc, hra, hrb, g0, g1, g2, g3, g4, g5, gr⟩ := RepRus.at G5.out.2.2 k hlt
      have hrb2 : rb < k8 := hrb
      replace g0 := (HBK.out.cell (p := ⟨rb, ro + k * 6, none⟩) hrb2).trans g0
      replace g1 := (HBK.out.cell (p := ⟨rb, ro + k * 6 + 1, none⟩) hrb2).trans g1
      replace g2 := (HBK.out.cell (p := ⟨rb, ro + k * 6 + 2, none⟩) hrb2).trans g2
      replace g3 := (HBK.out.cell (p := ⟨rb, ro + k * 6 + 3, none⟩) hrb2).trans g3
      replace g4 := (HBK.out.cell (p := ⟨rb, ro + k * 6 + 4, none⟩) hrb2).trans g4
      replace g5 := (HBK.out.cell (p := ⟨rb, ro + k * 6 + 5, none⟩) hrb2).trans g5
      rw [hra] at o2
      have hk1 : (0 : Int) ≤ (k : Int) := Int.natCast_nonneg k
      have hk2 : (k : Int) < (q.rules.length : Int) := by omega
      have HTK : Hid ((q.rules.take (k + 1)).map turnRu = (q.rules.take k).map turnRu ++ [turnRu q.rules[k]]) := by show _ = _; rw [List.take_succ_eq_append_getElem hlt, List.map_append]; rfl
      have HRB : Hid (ruB q.rules[k] = true) := by
        show _ = _
        have h := HQR.out
        rw [prB] at h
        simp only [Bool.and_eq_true] at h
        exact (listB_bounds h.2.2).2.2 _ (List.getElem_mem hlt)
      have HGR : Hid (RepRu (fun b => b < k8) wr q.rules[k] (.string q.rules[k].label) (.string q.rules[k].head) (.slice xa q.rules[k].args.length xc) (.string q.rules[k].agg) (.int .i64 q.rules[k].at') (.slice ya q.rules[k].body.length yc)) := RepRu.on (fun _ h => h) (fun b (hb : b < k8) => HBK.out.block b hb) gr
      have HKL := Lib.hid hlt
      clear hra hrb hrb2 gr
      generalize q.rules[k] = r at *
      clear hk hlt
      go_upto_region 9 with fail
      have mk := boxRu_new wr (.string r.label) (.string r.head) (.slice xa r.args.length xc) (.string r.agg) (.int .i64 r.at') (.slice ya r.body.length yc)
      have da := below_alloc wr (.cells #[.string r.label, .string r.head, .slice xa r.args.length xc, .string r.agg, .int .i64 r.at', .slice ya r.body.length yc] 39)
      have sa := World.size_alloc wr (.cells #[.string r.label, .string r.head, .slice xa r.args.length xc, .string r.agg, .int .i64 r.at', .slice ya r.body.length yc] 39)
      generalize wr.alloc (.cells #[.string r.label, .string r.head, .slice xa r.args.length xc, .string r.agg, .int .i64 r.at', .slice ya r.body.length yc] 39) = wx at *
      have hs5 := HBU.out.size
      have GR : Hid (RepRu (fun b => b < k8) wx r (.string r.label) (.string r.head) (.slice xa r.args.length xc) (.string r.agg) (.int .i64 r.at') (.slice ya r.body.length yc)) := RepRu.on (fun _ h => h) (fun b (hb : b < k8) => da.block b (by have := KK.out; omega)) HGR.out
      have Q7 : Hid (BoxPr wx k7 (.slice d0 q.decls.length d1) (.slice fa0 q.facts.length fa1) (rv)) := (da.block k7 (by have := KK.out; omega)).trans Q6.out
      have MX := Lib.hid (MQ.out.on da)
      have HBX : Hid (But k7 w5.heap.size w5 wx) := HBU.out.step (B' := wr.heap.size) hs5 da
      obtain ⟨kx, hkx⟩ : ∃ k, wr.heap.size = k := ⟨_, rfl⟩
      have HLI : Hid (∀ g, rv.ownBlock = some g → w5.heap.size ≤ g ∧ g < kx) := fun g hg => by rw [← hkx]; exact MQ.out.lies g hg
      rw [hkx] at mk da sa hs5 ⊢
      have Y9 := Lib.hid mk
      have KX : Hid (w5.heap.size ≤ kx ∧ wx.heap.size = kx + 1) := ⟨hs5, sa⟩
      have HA8 : Hid (r.args.length ≤ 8 ∧ ∀ t ∈ r.args, rightM 8 t = true) := by
        have h := HRB.out
        rw [ruB] at h
        simp only [Bool.and_eq_true] at h
        have h2 := h.2.1
        rw [atomB] at h2
        simp only [Bool.and_eq_true] at h2
        obtain ⟨b1, b2, b3⟩ := listB_bounds h2.2.1
        exact ⟨by omega, b3⟩
      have HB8 : Hid (r.body.length ≤ 8 ∧ ∀ z ∈ r.body, liB z = true) := by
        have h := HRB.out
        rw [ruB] at h
        simp only [Bool.and_eq_true] at h
        obtain ⟨b1, b2, b3⟩ := listB_bounds h.2.2.2
        exact ⟨by omega, b3⟩
      clear mk da sa hkx hs5 HGR Q6 MQ HBU HBK g0 g1 g2 g3 g4 g5 o0 o1 o2 hk1 hk2 i1 i2
      refine wp_region_factsL (by rfl) 106 (by rfl) (by kernel_rfl) (fun wz iz vz => Nm9 wx.heap.size k8 kx r xa xc wz iz vz) (fun w' => Below wx.heap.size wx w') (Below.drew (Below.refl _ _)) ⟨?s0, ?s1, ?s2, ?s3, ?s4, ?s5, ?s6, ?s7, ?s8, ?s9, ?s10, ?s11, ?s12, trivial⟩ (by rfl) ?last (by decide)
      case s0 =>
        intro a w' hoff hg hdep K hK
        replace hg : Below wx.heap.size wx w' := hg
        have h9 := off_at hoff 9 (v := .pointer (some ⟨kx, 0, none⟩)) (by kernel_rfl) rfl
        rw [if_pos (by rfl)]
        go_simp
        exact hK.out _ _ hg rfl (fun _ _ h => h)
      case s1 =>
        intro a w' hoff hg hdep K hK
        replace hg : Below wx.heap.size wx w' := hg
        obtain ⟨v0, e0, f0⟩ := hdep 0 _ 36 (by kernel_rfl) rfl rfl
        obtain rfl : v0 = .pointer (some ⟨kx, 0, none⟩) := f0
        rw [if_pos (by rfl)]
        obtain ⟨y0, y1, y2, y3, y4, y5⟩ := BoxRu.cells ((hg.block kx (by have := KX.out; omega)).trans Y9.out)
        go_simp
        exact hK.out _ _ hg rfl (fun _ _ h => h)
      case s2 =>
        intro a w' hoff hg hdep K hK
        replace hg : Below wx.heap.size wx w' := hg
        have h9 := off_at hoff 9 (v := .pointer (some ⟨kx, 0, none⟩)) (by kernel_rfl) rfl
        rw [if_pos (by rfl)]
        go_simp
        exact hK.out _ _ hg rfl (fun _ _ h => h)
      case s3 =>
        intro a w' hoff hg hdep K hK
        replace hg : Below wx.heap.size wx w' := hg
        obtain ⟨v2, e2, f2⟩ := hdep 2 _ 38 (by kernel_rfl) rfl rfl
        obtain rfl : v2 = .pointer (some ⟨kx, 1, none⟩) := f2
        rw [if_pos (by rfl)]
        obtain ⟨y0, y1, y2, y3, y4, y5⟩ := BoxRu.cells ((hg.block kx (by have := KX.out; omega)).trans Y9.out)
        go_simp
        exact hK.out _ _ hg rfl (fun _ _ h => h)
      case s4 =>
        intro a w' hoff hg hdep K hK
        replace hg : Below wx.heap.size wx w' := hg
        have h9 := off_at hoff 9 (v := .pointer (some ⟨kx, 0, none⟩)) (by kernel_rfl) rfl
        rw [if_pos (by rfl)]
        go_simp
        exact hK.out _ _ hg rfl (fun _ _ h => h)
      case s5 =>
        intro a w' hoff hg hdep K hK
        replace hg : Below wx.heap.size wx w' := hg
        obtain ⟨v4, e4, f4⟩ := hdep 4 _ 40 (by kernel_rfl) rfl rfl
        obtain rfl : v4 = .pointer (some ⟨kx, 2, none⟩) := f4
        rw [if_pos (by rfl)]
        obtain ⟨y0, y1, y2, y3, y4, y5⟩ := BoxRu.cells ((hg.block kx (by have := KX.out; omega)).trans Y9.out)
        go_simp
        exact hK.out _ _ hg rfl (fun _ _ h => h)
      case s6 =>
        intro a w' hoff hg hdep K hK
        replace hg : Below wx.heap.size wx w' := hg
        obtain ⟨v5, e5, f5⟩ := hdep 5 _ 41 (by kernel_rfl) rfl rfl
        obtain rfl : v5 = .slice xa r.args.length xc := f5
        rw [if_pos (by rfl)]
        go_simp
        refine (turned_any 8 r.args HA8.out.1 HA8.out.2 (fun b => b < k8) w' _ (fun b (hb : b < k8) => (by have := KX.out; have := KK.out; have := hg.size; omega : b < w'.heap.size)) (RepMs.on (fun _ h => h) (fun b (hb : b < k8) => hg.block b (by have := KX.out; have := KK.out; omega)) GR.out.2.2.2.2.2.2.2.2.1)).mono ?_
        rintro e w2' ⟨u, rfl, hrep, hb⟩
        exact hK.out _ _ (Below.step hg hb) ⟨by have := KX.out; have := KK.out; have := hg.size; have := hb.size; omega, RepMs.on (fun b hb' => hb'.imp (fun h => h) (fun h => ⟨Nat.le_trans hg.size h.1, h.2⟩)) (fun _ _ => rfl) hrep⟩ (fun j u h => Nm9.stay _ _ _ _ _ _ hb j u h)
      case s7 =>
        intro a w' hoff hg hdep K hK
        replace hg : Below wx.heap.size wx w' := hg
        have h9 := off_at hoff 9 (v := .pointer (some ⟨kx, 0, none⟩)) (by kernel_rfl) rfl
        rw [if_pos (by rfl)]
        go_simp
        exact hK.out _ _ hg rfl (fun _ _ h => h)
      case s8 =>
        intro a w' hoff hg hdep K hK
        replace hg : Below wx.heap.size wx w' := hg
        obtain ⟨v7, e7, f7⟩ := hdep 7 _ 43 (by kernel_rfl) rfl rfl
        obtain rfl : v7 = .pointer (some ⟨kx, 3, none⟩) := f7
        rw [if_pos (by rfl)]
        obtain ⟨y0, y1, y2, y3, y4, y5⟩ := BoxRu.cells ((hg.block kx (by have := KX.out; omega)).trans Y9.out)
        go_simp
        exact hK.out _ _ hg rfl (fun _ _ h => h)
      case s9 =>
        intro a w' hoff hg hdep K hK
        replace hg : Below wx.heap.size wx w' := hg
        have h9 := off_at hoff 9 (v := .pointer (some ⟨kx, 0, none⟩)) (by kernel_rfl) rfl
        rw [if_pos (by rfl)]
        go_simp
        exact hK.out _ _ hg rfl (fun _ _ h => h)
      case s10 =>
        intro a w' hoff hg hdep K hK
        replace hg : Below wx.heap.size wx w' := hg
        obtain ⟨v9, e9, f9⟩ := hdep 9 _ 45 (by kernel_rfl) rfl rfl
        obtain rfl : v9 = .pointer (some ⟨kx, 4, none⟩) := f9
        rw [if_pos (by rfl)]
        obtain ⟨y0, y1, y2, y3, y4, y5⟩ := BoxRu.cells ((hg.block kx (by have := KX.out; omega)).trans Y9.out)
        go_simp
        exact hK.out _ _ hg rfl (fun _ _ h => h)
      case s11 =>
        intro a w' hoff hg hdep K hK
        replace hg : Below wx.heap.size wx w' := hg
        obtain ⟨v1, e1, f1⟩ := hdep 1 _ 37 (by kernel_rfl) rfl rfl
        obtain rfl : v1 = .string r.label := f1
        obtain ⟨v3, e3, f3⟩ := hdep 3 _ 39 (by kernel_rfl) rfl rfl
        obtain rfl : v3 = .string r.head := f3
        obtain ⟨v6, e6, f6⟩ := hdep 6 _ 42 (by kernel_rfl) rfl rfl
        replace f6 : k8 ≤ w'.heap.size ∧ RepMs (fun b => b < k8 ∨ (wx.heap.size ≤ b ∧ b < w'.heap.size)) w' (turnL r.args) v6 := f6
        obtain ⟨v8, e8, f8⟩ := hdep 8 _ 44 (by kernel_rfl) rfl rfl
        obtain rfl : v8 = .string r.agg := f8
        obtain ⟨v10, e10, f10⟩ := hdep 10 _ 46 (by kernel_rfl) rfl rfl
        obtain rfl : v10 = .int .i64 r.at' := f10
        rw [if_pos (by rfl)]
        obtain ⟨ua, uc, rfl⟩ := SlG.form f6.2
        go_simp
        exact hK.out _ _ hg ⟨ua, uc, rfl, f6.1, f6.2⟩ (fun _ _ h => h)
      case s12 =>
        intro a w' hoff hg hdep K hK
        replace hg : Below wx.heap.size wx w' := hg
        rw [if_pos (by rfl)]
        go_simp
        have hb := below_alloc w' (.cells #[.string ⟨#[]⟩, .string ⟨#[]⟩, .slice none 0 0, .string ⟨#[]⟩, .int .i64 0, .slice none 0 0] 39)
        exact hK.out _ _ (Below.step hg hb) ⟨_, rfl, hg.size, boxRu_new w' _ _ _ _ _ _⟩ (fun j u h => Nm9.stay _ _ _ _ _ _ hb j u h)
      case last =>
        intro a w' hoff hg hf
        replace hg : Below wx.heap.size wx w' := hg
        obtain ⟨v0, e0, f0⟩ := hf 0 _ 36 (by decide) rfl rfl
        obtain rfl : v0 = .pointer (some ⟨kx, 0, none⟩) := f0
        obtain ⟨v1, e1, f1⟩ := hf 1 _ 37 (by decide) rfl rfl
        obtain rfl : v1 = .string r.label := f1
        obtain ⟨v2, e2, f2⟩ := hf 2 _ 38 (by decide) rfl rfl
        obtain rfl : v2 = .pointer (some ⟨kx, 1, none⟩) := f2
        obtain ⟨v3, e3, f3⟩ := hf 3 _ 39 (by decide) rfl rfl
        obtain rfl : v3 = .string r.head := f3
        obtain ⟨v4, e4, f4⟩ := hf 4 _ 40 (by decide) rfl rfl
        obtain rfl : v4 = .pointer (some ⟨kx, 2, none⟩) := f4
        obtain ⟨v5, e5, f5⟩ := hf 5 _ 41 (by decide) rfl rfl
        obtain rfl : v5 = .slice xa r.args.length xc := f5
        obtain ⟨v6, e6, f6⟩ := hf 6 _ 42 (by decide) rfl rfl
        replace f6 : k8 ≤ w'.heap.size ∧ RepMs (fun b => b < k8 ∨ (wx.heap.size ≤ b ∧ b < w'.heap.size)) w' (turnL r.args) v6 := f6
        obtain ⟨v7, e7, f7⟩ := hf 7 _ 43 (by decide) rfl rfl
        obtain rfl : v7 = .pointer (some ⟨kx, 3, none⟩) := f7
        obtain ⟨v8, e8, f8⟩ := hf 8 _ 44 (by decide) rfl rfl
        obtain rfl : v8 = .string r.agg := f8
        obtain ⟨v9, e9, f9⟩ := hf 9 _ 45 (by decide) rfl rfl
        obtain rfl : v9 = .pointer (some ⟨kx, 4, none⟩) := f9
        obtain ⟨v10, e10, f10⟩ := hf 10 _ 46 (by decide) rfl rfl
        obtain rfl : v10 = .int .i64 r.at' := f10
        obtain ⟨v11, e11, f11⟩ := hf 11 _ 47 (by decide) rfl rfl
        replace f11 : ∃ ua uc, v11 = .agg #[.string r.label, .string r.head, .slice ua (turnL r.args).length uc, .string r.agg, .int .i64 r.at', .slice none 0 0] ∧ k8 ≤ w'.heap.size ∧ RepMs (fun b => b < k8 ∨ (wx.heap.size ≤ b ∧ b < w'.heap.size)) w' (turnL r.args) (.slice ua (turnL r.args).length uc) := f11
        obtain ⟨v12, e12, f12⟩ := hf 12 _ 10 (by decide) rfl rfl
        replace f12 : ∃ b, v12 = .pointer (some ⟨b, 0, none⟩) ∧ wx.heap.size ≤ b ∧ BoxRu w' b (.string ⟨#[]⟩) (.string ⟨#[]⟩) (.slice none 0 0) (.string ⟨#[]⟩) (.int .i64 0) (.slice none 0 0) := f12
        obtain ⟨ua, uc, rfl, hk8, ka⟩ := f11
        obtain ⟨k10, rfl, hk10, hbox⟩ := f12
        replace ka := RepMs.offR (noRowR_ru hbox) ka
        obtain ⟨y0, y1, y2, y3, y4, y5⟩ := hbox.cells
        have z := fun i => frozen_of_row w' k10 i _ _ hbox
        have z0 := z 0; have z1 := z 1; have z2 := z 2; have z3 := z 3; have z4 := z 4; have z5 := z 5
        clear z
        rw [if_pos (by rfl)]
        rw [hoff.sets [(36, .pointer (some ⟨kx, 0, none⟩)), (37, .string r.label), (38, .pointer (some ⟨kx, 1, none⟩)), (39, .string r.head), (40, .pointer (some ⟨kx, 2, none⟩)), (41, .slice xa r.args.length xc), (42, v6), (43, .pointer (some ⟨kx, 3, none⟩)), (44, .string r.agg), (45, .pointer (some ⟨kx, 4, none⟩)), (46, .int .i64 r.at'), (47, .agg #[.string r.label, .string r.head, .slice ua (turnL r.args).length uc, .string r.agg, .int .i64 r.at', .slice none 0 0]), (10, .pointer (some ⟨k10, 0, none⟩))] (by kernel_rfl) (by intro p hp; simp only [List.mem_cons, List.not_mem_nil, or_false] at hp; rcases hp with rfl | rfl | rfl | rfl | rfl | rfl | rfl | rfl | rfl | rfl | rfl | rfl | rfl <;> assumption)]
        clear hoff hf e0 e1 e2 e3 e4 e5 e6 e7 e8 e9 e10 e11 e12 
        simp only [List.foldl_cons, List.foldl_nil, List.setIfInBounds_toArray, List.set_cons_zero, List.set_cons_succ]
        obtain ⟨ul, hul⟩ : ∃ ul, (turnL r.args).length = ul := ⟨_, rfl⟩
        rw [hul] at ka ⊢
        go_simp
        have hx10 := st6_box hbox (.string r.label) (.string r.head) (.slice ua ul uc) (.string r.agg) (.int .i64 r.at') (.slice none 0 0)
        have hb9 : Below wx.heap.size wx (st6 w' k10 (.string r.label) (.string r.head) (.slice ua ul uc) (.string r.agg) (.int .i64 r.at') (.slice none 0 0)) := st6_below hg hk10 _ _ _ _ _ _
        have hsz9 : (st6 w' k10 (.string r.label) (.string r.head) (.slice ua ul uc) (.string r.agg) (.int .i64 r.at') (.slice none 0 0)).heap.size = w'.heap.size := st6_size _ _ _ _ _ _ _ _
        have hlt10 := hbox.lt
        have HUL := Lib.hid hul
        have HB9 := Lib.hid hb9
        have HXK : Hid (wx.heap.size ≤ k10 ∧ kx < wx.heap.size) := ⟨hk10, by have := KX.out; omega⟩
        have A9 : Hid (RepMs (fun b => (b < k8 ∨ kx < b) ∧ b < (st6 w' k10 (.string r.label) (.string r.head) (.slice ua ul uc) (.string r.agg) (.int .i64 r.at') (.slice none 0 0)).heap.size ∧ b ≠ k10) (st6 w' k10 (.string r.label) (.string r.head) (.slice ua ul uc) (.string r.agg) (.int .i64 r.at') (.slice none 0 0)) (turnL r.args) (.slice ua ul uc)) := RepMs.on (fun b hb => by have := KX.out; have := KK.out; have := hg.size; rw [hsz9]; refine ⟨hb.1.imp (fun h => h) (fun h => by omega), ?_, hb.2⟩; rcases hb.1 with h | h <;> omega) (fun b hb => st6_other _ _ _ _ _ _ _ _ b hb.2) ka
        have Z10 := Lib.hid hx10
        have hkx := KX.out; have hkk := KK.out; have hgs := hg.size
        have Y10 : Hid (BoxRu (st6 w' k10 (.string r.label) (.string r.head) (.slice ua ul uc) (.string r.agg) (.int .i64 r.at') (.slice none 0 0)) kx (.string r.label) (.string r.head) (.slice xa r.args.length xc) (.string r.agg) (.int .i64 r.at') (.slice ya r.body.length yc)) := (hb9.block kx (by omega)).trans Y9.out
        have G10 : Hid (RepRu (fun b => b < k8) (st6 w' k10 (.string r.label) (.string r.head) (.slice ua ul uc) (.string r.agg) (.int .i64 r.at') (.slice none 0 0)) r (.string r.label) (.string r.head) (.slice xa r.args.length xc) (.string r.agg) (.int .i64 r.at') (.slice ya r.body.length yc)) := RepRu.on (fun _ h => h) (fun b (hb : b < k8) => hb9.block b (by omega)) GR.out
        have Q10 : Hid (BoxPr (st6 w' k10 (.string r.label) (.string r.head) (.slice ua ul uc) (.string r.agg) (.int .i64 r.at') (.slice none 0 0)) k7 (.slice d0 q.decls.length d1) (.slice fa0 q.facts.length fa1) (rv)) := (hb9.block k7 (by omega)).trans Q7.out
        have M10 := Lib.hid (MX.out.on hb9)
        have HB10 : Hid (But k7 w5.heap.size w5 (st6 w' k10 (.string r.label) (.string r.head) (.slice ua ul uc) (.string r.agg) (.int .i64 r.at') (.slice none 0 0))) := HBX.out.step (B' := wx.heap.size) (by omega) hb9
        have K10 : Hid (k8 < kx ∧ kx < k10 ∧ k10 < (st6 w' k10 (.string r.label) (.string r.head) (.slice ua ul uc) (.string r.agg) (.int .i64 r.at') (.slice none 0 0)).heap.size ∧ k7 < kx ∧ w5.heap.size ≤ kx) := by rw [hsz9]; show _ ∧ _ ∧ _ ∧ _ ∧ _; omega
        rw [show (((((w'.setCell ⟨k10, 0, none⟩ (.string r.label)).setCell ⟨k10, 1, none⟩ (.string r.head)).setCell ⟨k10, 2, none⟩ (.slice ua ul uc)).setCell ⟨k10, 3, none⟩ (.string r.agg)).setCell ⟨k10, 4, none⟩ (.int .i64 r.at')).setCell ⟨k10, 5, none⟩ (.slice none 0 0) = (st6 w' k10 (.string r.label) (.string r.head) (.slice ua ul uc) (.string r.agg) (.int .i64 r.at') (.slice none 0 0)) from rfl]
        clear hb9 hsz9 hlt10 hul hx10 hkx hkk hgs hbox ka hk8 hk10 y0 y1 y2 y3 y4 y5 z0 z1 z2 z3 z4 z5 hg f6 Y9 GR Q7 HBX KX
        generalize (st6 w' k10 (.string r.label) (.string r.head) (.slice ua ul uc) (.string r.agg) (.int .i64 r.at') (.slice none 0 0)) = w9 at *
        go_wp2_with fail
        go_loopw [11] (fun jv w2 => ∃ (j : Nat) (bv : Value), j ≤ r.body.length ∧ jv = .int .i64 (j : Int) ∧ BoxRu w2 k10 (.string r.label) (.string r.head) (.slice ua ul uc) (.string r.agg) (.int .i64 r.at') (bv) ∧ MineS kdLi (fun b => b < k8) w2 w9.heap.size ((r.body.take j).map turnLi) bv ∧ But k10 w9.heap.size w9 w2) (fun jv _ => r.body.length - (intOf jv).toNat)
        case atStart => exact ⟨0, .slice none 0 0, Nat.zero_le _, rfl, Z10.out, MineS.nil _ _, But.refl _ _ _⟩
        case round =>
          obtain ⟨j, bv, hj, rfl, hzb, hmb, hbb⟩ := hrel
          generalize wr = w2 at *
          have ZB := Lib.hid hzb; have MB := Lib.hid hmb; have HBB := Lib.hid hbb
          have HBK : Hid (Below k10 w9 w2) := hbb.below (by have := K10.out; omega) (Nat.le_refl _)
          have hyx : BoxRu w2 kx (.string r.label) (.string r.head) (.slice xa r.args.length xc) (.string r.agg) (.int .i64 r.at') (.slice ya r.body.length yc) := (HBK.out.block kx (by have := K10.out; omega)).trans Y10.out
          have YX := Lib.hid hyx
          obtain ⟨y0, y1, y2, y3, y4, y5⟩ := hyx.cells
          clear hzb hmb hbb hyx
          by_cases hjl : j < r.body.length
          · have i1 : decide ((j : Int) < (r.body.length : Int)) = true := decide_eq_true (by omega)
            have i2 : decide (j < r.body.length) = true := decide_eq_true hjl
            obtain ⟨-, -, lb, lo, za, zc, hya, hlb, g0, g1, g2, gz⟩ := RepLis.at G10.out.2.2.2.2.2.2.2.2.2 j hjl
            have hlb2 : lb < k8 := hlb
            have hlb3 : lb < k10 := by have := K10.out; omega
            replace g0 := (HBK.out.cell (p := ⟨lb, lo + j * 3, none⟩) hlb3).trans g0
            replace g1 := (HBK.out.cell (p := ⟨lb, lo + j * 3 + 1, none⟩) hlb3).trans g1
            replace g2 := (HBK.out.cell (p := ⟨lb, lo + j * 3 + 2, none⟩) hlb3).trans g2
            rw [hya] at y5
            have hk1 : (0 : Int) ≤ (j : Int) := Int.natCast_nonneg j
            have hk2 : (j : Int) < (r.body.length : Int) := by omega
            have HTJ : Hid ((r.body.take (j + 1)).map turnLi = (r.body.take j).map turnLi ++ [turnLi r.body[j]]) := by show _ = _; rw [List.take_succ_eq_append_getElem hjl, List.map_append]; rfl
            have HZB : Hid (liB r.body[j] = true) := HB8.out.2 _ (List.getElem_mem hjl)
            have HGZ : Hid (RepLi (fun b => b < k8) w2 r.body[j] (.int .i64 r.body[j].kind) (.string r.body[j].name) (.slice za r.body[j].args.length zc)) := RepLi.on (fun _ h => h) (fun b (hb : b < k8) => HBK.out.block b (by have := K10.out; omega)) gz
            have HJL := Lib.hid hjl
            have HLL : Hid (((r.body.take j).map turnLi).length ≤ 8) := by show _ ≤ _; rw [List.length_map, List.length_take]; have := HB8.out.1; omega
            clear hya hlb hlb2 hlb3 gz
            generalize r.body[j] = z at *
            clear hj hjl
            go_upto_region 14 with fail
            have mk := boxLi_new w2 (.int .i64 z.kind) (.string z.name) (.slice za z.args.length zc)
            have da := below_alloc w2 (.cells #[.int .i64 z.kind, .string z.name, .slice za z.args.length zc] 42)
            have sa := World.size_alloc w2 (.cells #[.int .i64 z.kind, .string z.name, .slice za z.args.length zc] 42)
            generalize w2.alloc (.cells #[.int .i64 z.kind, .string z.name, .slice za z.args.length zc] 42) = w3' at *
            have hs2 := HBB.out.size
            have GZ : Hid (RepLi (fun b => b < k8) w3' z (.int .i64 z.kind) (.string z.name) (.slice za z.args.length zc)) := RepLi.on (fun _ h => h) (fun b (hb : b < k8) => da.block b (by have := K10.out; omega)) HGZ.out
            have Z3 : Hid (BoxRu w3' k10 (.string r.label) (.string r.head) (.slice ua ul uc) (.string r.agg) (.int .i64 r.at') (bv)) := (da.block k10 (by have := K10.out; omega)).trans ZB.out
            have M3 := Lib.hid (MB.out.on da)
            have HB3 : Hid (But k10 w9.heap.size w9 w3') := HBB.out.step (B' := w2.heap.size) hs2 da
            obtain ⟨k12, hk12⟩ : ∃ k, w2.heap.size = k := ⟨_, rfl⟩
            have HLB : Hid (∀ g, bv.ownBlock = some g → w9.heap.size ≤ g ∧ g < k12) := fun g hg => by rw [← hk12]; exact MB.out.lies g hg
            rw [hk12] at mk da sa hs2 ⊢
            have Z12 := Lib.hid mk
            have K12 : Hid (w9.heap.size ≤ k12 ∧ w3'.heap.size = k12 + 1) := ⟨hs2, sa⟩
            have hza8 : z.args.length ≤ 8 ∧ (∀ t ∈ z.args, rightM 8 t = true) ∧ z.name.size ≤ 16 := li_small HZB.out
            have HZ8 := Lib.hid hza8
            obtain ⟨bl, hbl⟩ : ∃ bl, (r.body.take j).map turnLi = bl := ⟨_, rfl⟩
            rw [hbl] at M3 HTJ HLL
            obtain ⟨ba, bc, hbv⟩ := M3.out.form
            rw [hbv] at M3 Z3 HLB
            clear mk da sa hk12 hs2 hza8 hbl hbv HGZ ZB MB HBB HBK g0 g1 g2 y0 y1 y2 y3 y4 y5 hk1 hk2 i1 i2 YX
            obtain ⟨c0, c1, c2⟩ := Z12.out.cells
            obtain ⟨nm, hnm⟩ : ∃ nm, (turnLi z).name = nm := ⟨_, rfl⟩
            have HNM := Lib.hid hnm
            have HNS : Hid (nm.size ≤ maxLen) := by
              have h := HZ8.out.2.2
              show _ ≤ _
              rw [← hnm]
              show (if z.kind = 4 then nPre z.name else z.name).size ≤ _
              split
              · rw [show (nPre z.name).size = 1 + z.name.size by rw [nPre, ByteArray.size_append]; rfl]; unfold maxLen; omega
              · unfold maxLen; omega
            cases h4 : (z.kind == 4)
            case' false =>
              have hnz : z.name = nm := by rw [← hnm]; exact (if_neg (by simpa using h4)).symm
            case' true =>
              have hadd := strAdd ⟨#[78]⟩ z.name (by have := HZ8.out.2.2; show 1 + z.name.size ≤ _; omega)
              have hnz : (⟨#[78]⟩ : ByteArray) ++ z.name = nm := by rw [← hnm]; exact (if_pos (by simpa using h4)).symm
              rw [hnz] at hadd
            all_goals
              clear hnm
              go_upto_region 17 with fail
              first | rw [hnz] | skip
              clear hnz c0 c1 c2
              refine wp_region_factsP (by rfl) 106 (by rfl) (by kernel_rfl) 10 (fun q => q == 0 || q == 1 || q == 2 || q == 3 || q == 4 || q == 5 || q == 6 || q == 7 || q == 8 || q == 9) (by kernel_rfl) (fun ph wz iz vz => Nm17 w3'.heap.size w9.heap.size k8 k10 k12 z nm bl ba bc za zc ph wz iz vz) (fun ph w' => if ph = true then Below w9.heap.size w3' w' else Below w3'.heap.size w3' w') (Below.drew (Below.refl _ _)) ⟨?s0, ?s1, ?s2, ?s3, ?s4, ?s5, ?s6, ?s7, ?s8, ?s9, ?s10, ?s11, trivial⟩ (by rfl) ?last
              case s0 =>
                intro a w' hoff hg hdep K hK
                replace hg : Below w3'.heap.size w3' w' := hg
                have h10 := off_at hoff 10 (v := .pointer (some ⟨k10, 0, none⟩)) (by kernel_rfl) rfl
                rw [if_pos (by rfl)]
                go_simp
                exact hK.out _ _ hg rfl (fun _ _ h => h)
              case s1 =>
                intro a w' hoff hg hdep K hK
                replace hg : Below w3'.heap.size w3' w' := hg
                obtain ⟨v0, e0, f0⟩ := hdep 0 _ 67 (by kernel_rfl) rfl rfl
                obtain rfl : v0 = .pointer (some ⟨k10, 5, none⟩) := f0
                rw [if_pos (by rfl)]
                obtain ⟨y0, y1, y2, y3, y4, y5⟩ := BoxRu.cells ((hg.block k10 (by have := K12.out; have := K10.out; omega)).trans Z3.out)
                go_simp
                exact hK.out _ _ hg rfl (fun _ _ h => h)
              case s2 =>
                intro a w' hoff hg hdep K hK
                replace hg : Below w3'.heap.size w3' w' := hg
                have h12 := off_at hoff 12 (v := .pointer (some ⟨k12, 0, none⟩)) (by kernel_rfl) rfl
                rw [if_pos (by rfl)]
                go_simp
                exact hK.out _ _ hg rfl (fun _ _ h => h)
              case s3 =>
                intro a w' hoff hg hdep K hK
                replace hg : Below w3'.heap.size w3' w' := hg
                obtain ⟨v2, e2, f2⟩ := hdep 2 _ 69 (by kernel_rfl) rfl rfl
                obtain rfl : v2 = .pointer (some ⟨k12, 0, none⟩) := f2
                rw [if_pos (by rfl)]
                obtain ⟨c0, c1, c2⟩ := BoxLi.cells ((hg.block k12 (by have := K12.out; omega)).trans Z12.out)
                go_simp
                exact hK.out _ _ hg rfl (fun _ _ h => h)
              case s4 =>
                intro a w' hoff hg hdep K hK
                replace hg : Below w3'.heap.size w3' w' := hg
                have h13 := off_at hoff 13 (v := .string nm) (by kernel_rfl) rfl
                rw [if_pos (by rfl)]
                go_simp
                exact hK.out _ _ hg rfl (fun _ _ h => h)
              case s5 =>
                intro a w' hoff hg hdep K hK
                replace hg : Below w3'.heap.size w3' w' := hg
                have h12 := off_at hoff 12 (v := .pointer (some ⟨k12, 0, none⟩)) (by kernel_rfl) rfl
                rw [if_pos (by rfl)]
                go_simp
                exact hK.out _ _ hg rfl (fun _ _ h => h)
              case s6 =>
                intro a w' hoff hg hdep K hK
                replace hg : Below w3'.heap.size w3' w' := hg
                obtain ⟨v5, e5, f5⟩ := hdep 5 _ 72 (by kernel_rfl) rfl rfl
                obtain rfl : v5 = .pointer (some ⟨k12, 2, none⟩) := f5
                rw [if_pos (by rfl)]
                obtain ⟨c0, c1, c2⟩ := BoxLi.cells ((hg.block k12 (by have := K12.out; omega)).trans Z12.out)
                go_simp
                exact hK.out _ _ hg rfl (fun _ _ h => h)
              case s7 =>
                intro a w' hoff hg hdep K hK
                replace hg : Below w3'.heap.size w3' w' := hg
                obtain ⟨v6, e6, f6⟩ := hdep 6 _ 73 (by kernel_rfl) rfl rfl
                obtain rfl : v6 = .slice za z.args.length zc := f6
                rw [if_pos (by rfl)]
                go_simp
                refine (turned_any 8 z.args HZ8.out.1 HZ8.out.2.1 (fun b => b < k8) w' _ (fun b (hb : b < k8) => (by have := K12.out; have := K10.out; have := hg.size; omega : b < w'.heap.size)) (RepMs.on (fun _ h => h) (fun b (hb : b < k8) => hg.block b (by have := K12.out; have := K10.out; omega)) GZ.out.2.2.2.2)).mono ?_
                rintro e w2' ⟨u, rfl, hrep, hb⟩
                exact hK.out _ _ (Below.step hg hb) (fun _ => ⟨by have := K12.out; have := K10.out; have := hg.size; have := hb.size; omega, RepMs.on (fun b hb' => hb'.imp (fun h => h) (fun h => ⟨Nat.le_trans hg.size h.1, h.2⟩)) (fun _ _ => rfl) hrep⟩) (fun j u h => Nm17.stay _ _ _ _ _ _ _ _ _ _ _ _ hb j u h)
              case s8 =>
                intro a w' hoff hg hdep K hK
                replace hg : Below w3'.heap.size w3' w' := hg
                obtain ⟨v3, e3, f3⟩ := hdep 3 _ 70 (by kernel_rfl) rfl rfl
                obtain rfl : v3 = .int .i64 z.kind := f3
                obtain ⟨v4, e4, f4⟩ := hdep 4 _ 71 (by kernel_rfl) rfl rfl
                obtain rfl : v4 = .string nm := f4
                obtain ⟨v7, e7, f7⟩ := hdep 7 _ 74 (by kernel_rfl) rfl rfl
                replace f7 : k8 ≤ w'.heap.size ∧ RepMs (fun b => b < k8 ∨ (w3'.heap.size ≤ b ∧ b < w'.heap.size)) w' (turnL z.args) v7 := f7 rfl
                rw [if_pos (by rfl)]
                obtain ⟨uz, wz, rfl⟩ := SlG.form f7.2
                go_simp
                exact hK.out _ _ hg (fun _ => ⟨uz, wz, rfl, f7.1, f7.2⟩) (fun _ _ h => h)
              case s9 =>
                intro a w' hoff hg hdep K hK
                replace hg : Below w3'.heap.size w3' w' := hg
                obtain ⟨v8, e8, f8⟩ := hdep 8 _ 75 (by kernel_rfl) rfl rfl
                replace f8 : ∃ uz wz, v8 = .agg #[.int .i64 z.kind, .string nm, .slice uz (turnL z.args).length wz] ∧ k8 ≤ w'.heap.size ∧ RepMs (fun b => b < k8 ∨ (w3'.heap.size ≤ b ∧ b < w'.heap.size)) w' (turnL z.args) (.slice uz (turnL z.args).length wz) := f8 rfl
                rw [if_pos (by rfl)]
                obtain ⟨uz, wz, rfl, hk8, kr⟩ := f8
                go_simp
                have hb := below_alloc w' (.cells #[.int .i64 z.kind, .string nm, .slice uz (turnL z.args).length wz] 42)
                exact hK.out _ _ (Below.step hg hb) (fun _ => ⟨_, uz, wz, rfl, alloc_new' w' _, Nat.le_trans hk8 hb.size, RepMs.on (fun b hb' => hb'.imp (fun h => h) (fun h => ⟨h.1, Nat.lt_of_lt_of_le h.2 hb.size⟩)) (fun b hb' => hb.block b (hb'.elim (fun h0 => Nat.lt_of_lt_of_le h0 hk8) (fun h0 => h0.2))) kr⟩) (fun j u h => Nm17.stay _ _ _ _ _ _ _ _ _ _ _ _ hb j u h)
              case s10 =>
                intro a w' hoff hg hdep K hK
                replace hg : Below w3'.heap.size w3' w' := hg
                obtain ⟨v1, e1, f1⟩ := hdep 1 _ 68 (by kernel_rfl) rfl rfl
                obtain rfl : v1 = .slice ba bl.length bc := f1
                obtain ⟨v9, e9, f9⟩ := hdep 9 _ 76 (by kernel_rfl) rfl rfl
                replace f9 : ∃ b uz wz, v9 = .slice (some ⟨b, 0, none⟩) 1 1 ∧ w'.heap[b]? = some (.cells #[.int .i64 z.kind, .string nm, .slice uz (turnL z.args).length wz] 42 (0, 0)) ∧ k8 ≤ w'.heap.size ∧ RepMs (fun b => b < k8 ∨ (w3'.heap.size ≤ b ∧ b < w'.heap.size)) w' (turnL z.args) (.slice uz (turnL z.args).length wz) := f9 rfl
                obtain ⟨rb9, uz, wz, rfl, hbk, hk8, kr⟩ := f9
                have hm := M3.out.on hg
                have hR : kdLi.R (fun b => (b < k8 ∨ w9.heap.size ≤ b) ∧ b < w'.heap.size ∧ (.slice ba bl.length bc : Value).ownBlock ≠ some b) w' (turnLi z) (at3v (.int .i64 z.kind) (.string nm) (.slice uz (turnL z.args).length wz)) :=
                  ⟨rfl, (by rw [HNM.out]; rfl), GZ.out.2.2.1, (by rw [HNM.out]; exact HNS.out), RepMs.on (fun b hb' => by
                    have h1 := K12.out; have h2 := K10.out
                    refine ⟨hb'.imp (fun h => h) (fun h => by omega), hb'.elim (fun h => by omega) (fun h => h.2), fun e => ?_⟩
                    have h3 := HLB.out b e
                    rcases hb' with h | h <;> omega) (fun _ _ => rfl) kr⟩
                obtain ⟨a6, cap6, w6, hrun, hm6, hgr⟩ := MineS.append hm (Nat.le_trans (by have := K12.out; omega) hg.size) (by have := HLL.out; omega) hbk (fun j hj => match j, hj with | 0, _ => rfl | 1, _ => rfl | 2, _ => rfl) hR 37
                refine step_append_by rfl (.tmp 68) (.tmp 76) 37 rfl (by simp [Act.eval, e1]) (by simp [Act.eval, e9]) hrun ?_
                have hG2 : Below w9.heap.size w3' w6 := ⟨hgr.os.trans hg.os, hgr.tape.trans hg.tape, hgr.output.trans hg.output, Nat.le_trans hg.size hgr.size, fun b hb => (hgr.block b (by have := K12.out; have := hg.size; omega) (fun e => by have := (HLB.out b e.symm).1; omega)).trans (hg.block b (by have := K12.out; omega))⟩
                exact hK.out _ _ hG2 (fun _ => ⟨_, _, rfl, hm6⟩) (fun j u hne h => Nm17.pass _ _ _ _ _ _ _ _ _ _ _ _ j u hne h)
              case s11 =>
                intro ph a w' hoff hg hdep K hK
                have h10 := off_at hoff 10 (v := .pointer (some ⟨k10, 0, none⟩)) (by kernel_rfl) rfl
                rw [if_pos (by rfl)]
                go_simp
                exact hK.out _ _ hg rfl (fun _ _ h => h)
              case last =>
                intro a w' hoff hg hf
                replace hg : Below w9.heap.size w3' w' := hg
                obtain ⟨v0, e0, f0⟩ := hf 0 _ 67 (by decide) rfl rfl
                obtain rfl : v0 = .pointer (some ⟨k10, 5, none⟩) := f0
                obtain ⟨v1, e1, f1⟩ := hf 1 _ 68 (by decide) rfl rfl
                obtain rfl : v1 = .slice ba bl.length bc := f1
                obtain ⟨v2, e2, f2⟩ := hf 2 _ 69 (by decide) rfl rfl
                obtain rfl : v2 = .pointer (some ⟨k12, 0, none⟩) := f2
                obtain ⟨v3, e3, f3⟩ := hf 3 _ 70 (by decide) rfl rfl
                obtain rfl : v3 = .int .i64 z.kind := f3
                obtain ⟨v4, e4, f4⟩ := hf 4 _ 71 (by decide) rfl rfl
                obtain rfl : v4 = .string nm := f4
                obtain ⟨v5, e5, f5⟩ := hf 5 _ 72 (by decide) rfl rfl
                obtain rfl : v5 = .pointer (some ⟨k12, 2, none⟩) := f5
                obtain ⟨v6, e6, f6⟩ := hf 6 _ 73 (by decide) rfl rfl
                obtain rfl : v6 = .slice za z.args.length zc := f6
                obtain ⟨v7, e7, f7⟩ := hf 7 _ 74 (by decide) rfl rfl
                clear f7
                obtain ⟨v8, e8, f8⟩ := hf 8 _ 75 (by decide) rfl rfl
                clear f8
                obtain ⟨v9, e9, f9⟩ := hf 9 _ 76 (by decide) rfl rfl
                clear f9
                obtain ⟨v10, e10, f10⟩ := hf 10 _ 77 (by decide) rfl rfl
                replace f10 : ∃ a cap, v10 = .slice a (bl.length + 1) cap ∧ MineS kdLi (fun b => b < k8) w' w9.heap.size (bl ++ [turnLi z]) v10 := f10 rfl
                obtain ⟨v11, e11, f11⟩ := hf 11 _ 78 (by decide) rfl rfl
                obtain rfl : v11 = .pointer (some ⟨k10, 5, none⟩) := f11
                obtain ⟨a10, cap10, rfl, hm⟩ := f10
                have hy : BoxRu w' k10 (.string r.label) (.string r.head) (.slice ua ul uc) (.string r.agg) (.int .i64 r.at') (.slice ba bl.length bc) := (hg.block k10 (by have := K10.out; omega)).trans Z3.out
                obtain ⟨y0, y1, y2, y3, y4, y5⟩ := hy.cells
                have z5 := frozen_of_row w' k10 5 _ _ hy
                rw [if_pos (by rfl)]
                rw [hoff.sets [(67, .pointer (some ⟨k10, 5, none⟩)), (68, .slice ba bl.length bc), (69, .pointer (some ⟨k12, 0, none⟩)), (70, .int .i64 z.kind), (71, .string nm), (72, .pointer (some ⟨k12, 2, none⟩)), (73, .slice za z.args.length zc), (74, v7), (75, v8), (76, v9), (77, .slice a10 (bl.length + 1) cap10), (78, .pointer (some ⟨k10, 5, none⟩))] (by kernel_rfl) (by intro p hp; simp only [List.mem_cons, List.not_mem_nil, or_false] at hp; rcases hp with rfl | rfl | rfl | rfl | rfl | rfl | rfl | rfl | rfl | rfl | rfl | rfl <;> assumption)]
                clear hoff hf e0 e1 e2 e3 e4 e5 e6 e7 e8 e9 e10 e11
                simp only [List.foldl_cons, List.foldl_nil, List.setIfInBounds_toArray, List.set_cons_zero, List.set_cons_succ]
                go_simp
                have ZN : Hid (BoxRu (w'.setCell ⟨k10, 5, none⟩ (.slice a10 (bl.length + 1) cap10)) k10 (.string r.label) (.string r.head) (.slice ua ul uc) (.string r.agg) (.int .i64 r.at') (.slice a10 (bl.length + 1) cap10)) := heap_setCell_same _ _ _ _ _ _ hy
                have MN : Hid (MineS kdLi (fun b => b < k8) (w'.setCell ⟨k10, 5, none⟩ (.slice a10 (bl.length + 1) cap10)) w9.heap.size (bl ++ [turnLi z]) (.slice a10 (bl.length + 1) cap10)) := MineS.far (p := ⟨k10, 5, none⟩) hm (by have := K10.out; simp; omega) (by have := K10.out; simp; omega) _
                have HBN : Hid (But k10 w9.heap.size w9 (w'.setCell ⟨k10, 5, none⟩ (.slice a10 (bl.length + 1) cap10))) := (HB3.out.step (Nat.le_refl _) hg).set 5 _
                clear hg hm hy y0 y1 y2 y3 y4 y5 z5 M3 Z3 HB3 Z12 GZ HLB
                generalize (w'.setCell ⟨k10, 5, none⟩ (.slice a10 (bl.length + 1) cap10)) = w4' at *
                go_wp2_with fail
                go_roundw
                case rel => exact ⟨j + 1, _, HJL.out, (by have := HJL.out; have := HB8.out; rw [show wrap64 ((j : Int) + 1) = ((j + 1 : Nat) : Int) by unfold wrap64; omega]), ZN.out, by rw [HTJ.out]; exact MN.out, HBN.out⟩
                case measure => exact measure_up HJL.out (by have := HB8.out.1; omega)
          · have i1 : decide ((j : Int) < (r.body.length : Int)) = false := decide_eq_false (by omega)
            have i2 : decide (j < r.body.length) = false := decide_eq_false hjl
            have hjj : r.body.take j = r.body := List.take_of_length_le (by omega)
            rw [hjj] at MB
            obtain ⟨ba, bc, hbv⟩ := MB.out.form
            rw [hbv] at MB ZB
            clear hjj hj hjl hbv
            go_upto_region 18 with fail
            clear y0 y1 y2 y3 y4 y5 i1 i2
            have hKK := KK.out; have hK10 := K10.out; have hs2 := HBB.out.size; have hXK := HXK.out
            have hb2 : Below wx.heap.size wx w2 := Below.trans HB9.out (HBK.out.mono (by omega))
            have q2 : BoxPr w2 k7 (.slice d0 q.decls.length d1) (.slice fa0 q.facts.length fa1) (rv) := (HBK.out.block k7 (by omega)).trans Q10.out
            have da := below_alloc w2 (.cells #[.string r.label, .string r.head, .slice ua ul uc, .string r.agg, .int .i64 r.at', .slice ba (r.body.map turnLi).length bc] 39)
            have sa := World.size_alloc w2 (.cells #[.string r.label, .string r.head, .slice ua ul uc, .string r.agg, .int .i64 r.at', .slice ba (r.body.map turnLi).length bc] 39)
            have m2 := (MX.out.on hb2).on da
            have ha : RepMs (fun b => (b < k8 ∨ w5.heap.size ≤ b) ∧ b < (w2.alloc (.cells #[.string r.label, .string r.head, .slice ua ul uc, .string r.agg, .int .i64 r.at', .slice ba (r.body.map turnLi).length bc] 39)).heap.size ∧ rv.ownBlock ≠ some b) (w2.alloc (.cells #[.string r.label, .string r.head, .slice ua ul uc, .string r.agg, .int .i64 r.at', .slice ba (r.body.map turnLi).length bc] 39)) (turnL r.args) (.slice ua ul uc) :=
              RepMs.on (fun b hb => ⟨hb.1.imp (fun h => h) (fun h => by omega), by omega, fun e => by have h3 := HLI.out b e; rcases hb.1 with h | h <;> omega⟩) (fun b hb => (da.block b (by omega)).trans (HBB.out.block b hb.2.1 hb.2.2)) A9.out
            have hbd : RepLis (fun b => (b < k8 ∨ w5.heap.size ≤ b) ∧ b < (w2.alloc (.cells #[.string r.label, .string r.head, .slice ua ul uc, .string r.agg, .int .i64 r.at', .slice ba (r.body.map turnLi).length bc] 39)).heap.size ∧ rv.ownBlock ≠ some b) (w2.alloc (.cells #[.string r.label, .string r.head, .slice ua ul uc, .string r.agg, .int .i64 r.at', .slice ba (r.body.map turnLi).length bc] 39)) (r.body.map turnLi) (.slice ba (r.body.map turnLi).length bc) :=
              RepLis.on (fun b hb => ⟨hb.1.imp (fun h => h) (fun h => by omega), by omega, fun e => by have h3 := HLI.out b e; rcases hb.1 with h | h <;> omega⟩) (fun b hb => da.block b hb.2) (MB.out.slg (by rw [List.length_map]; have := HB8.out.1; omega))
            have gr10 := G10.out
            have hR : kdRu.R (fun b => (b < k8 ∨ w5.heap.size ≤ b) ∧ b < (w2.alloc (.cells #[.string r.label, .string r.head, .slice ua ul uc, .string r.agg, .int .i64 r.at', .slice ba (r.body.map turnLi).length bc] 39)).heap.size ∧ rv.ownBlock ≠ some b) (w2.alloc (.cells #[.string r.label, .string r.head, .slice ua ul uc, .string r.agg, .int .i64 r.at', .slice ba (r.body.map turnLi).length bc] 39)) (turnRu r) (at6v (.string r.label) (.string r.head) (.slice ua ul uc) (.string r.agg) (.int .i64 r.at') (.slice ba (r.body.map turnLi).length bc)) :=
              ⟨rfl, rfl, rfl, rfl, gr10.2.2.2.2.1, gr10.2.2.2.2.2.1, gr10.2.2.2.2.2.2.1, gr10.2.2.2.2.2.2.2.1, ha, hbd⟩
            obtain ⟨a6, cap6, w6, hrun, hm6, hgr⟩ := MineS.append m2 (by omega) (by rw [List.length_map, List.length_take]; have := HLN.out; omega) (alloc_new' w2 _) (fun j hj => match j, hj with | 0, _ => rfl | 1, _ => rfl | 2, _ => rfl | 3, _ => rfl | 4, _ => rfl | 5, _ => rfl) hR 27
            have hb6 : Below w5.heap.size w2 w6 := ⟨hgr.os.trans da.os, hgr.tape.trans da.tape, hgr.output.trans da.output, Nat.le_trans da.size hgr.size, fun b hb => (hgr.block b (by omega) (fun e => by have := (HLI.out b e.symm).1; omega)).trans (da.block b (by omega))⟩
            have q6 : BoxPr w6 k7 (.slice d0 q.decls.length d1) (.slice fa0 q.facts.length fa1) (rv) := (hb6.block k7 (by omega)).trans q2
            obtain ⟨o0, o1, o2⟩ := q2.cells
            obtain ⟨l0, l1, l2⟩ := q6.cells
            have z2 := frozen_of_row w6 k7 2 _ _ q6
            obtain ⟨x0, x1, x2, x3, x4, x5⟩ := ZB.out.cells
            have QN : Hid (BoxPr (w6.setCell ⟨k7, 2, none⟩ (.slice a6 (((q.rules.take k).map turnRu).length + 1) cap6)) k7 (.slice d0 q.decls.length d1) (.slice fa0 q.facts.length fa1) (.slice a6 (((q.rules.take k).map turnRu).length + 1) cap6)) := heap_setCell_same _ _ _ _ _ _ q6
            have MN : Hid (MineS kdRu (fun b => b < k8) (w6.setCell ⟨k7, 2, none⟩ (.slice a6 (((q.rules.take k).map turnRu).length + 1) cap6)) w5.heap.size ((q.rules.take k).map turnRu ++ [turnRu r]) (.slice a6 (((q.rules.take k).map turnRu).length + 1) cap6)) := MineS.far (p := ⟨k7, 2, none⟩) hm6 (by simp; omega) (by simp; omega) _
            have HBN : Hid (But k7 w5.heap.size w5 (w6.setCell ⟨k7, 2, none⟩ (.slice a6 (((q.rules.take k).map turnRu).length + 1) cap6))) := ((HB10.out.step (B' := k10) (by omega) HBK.out).step (Nat.le_refl _) hb6).set 2 _
            have HRUN := Lib.hid hrun
            clear hKK hK10 hs2 hXK hb2 q2 da sa m2 ha hbd gr10 hR hrun hm6 hgr hb6 q6 HBB HBK MB ZB
            obtain ⟨nl, hnl⟩ : ∃ nl, ((q.rules.take k).map turnRu).length = nl := ⟨_, rfl⟩
            rw [hnl] at HRUN QN MN HBN
            obtain ⟨bn, hbn⟩ : ∃ bn, (r.body.map turnLi).length = bn := ⟨_, rfl⟩
            rw [hbn] at HRUN x5
            clear hnl hbn
            go_wp2_with (at_builtin; refine wpList_append_by rfl _ _ _ rfl rfl rfl HRUN.out ?_)
            go_roundw
            case rel => exact ⟨k + 1, _, HKL.out, (by have := HKL.out; have := HLN.out; rw [show wrap64 ((k : Int) + 1) = ((k + 1 : Nat) : Int) by unfold wrap64; omega]), QN.out, by rw [HTK.out]; exact MN.out, HBN.out⟩
            case measure => exact measure_up HKL.out (by have := HLN.out; omega)
    · have i1 : decide ((k : Int) < (q.rules.length : Int)) = false := decide_eq_false (by omega)
      have i2 : decide (k < q.rules.length) = false := decide_eq_false hlt
      have hkk : q.rules.take k = q.rules := List.take_of_length_le (by omega)
      rw [hkk] at MQ
      clear hkk hk hlt
      have hKK := KK.out; have hsr := HBU.out.size
      have g6 : RepPr (fun b => b < k8) wr q (.slice d0 q.decls.length d1) (.slice fa0 q.facts.length fa1) (.slice r0 q.rules.length r1) := RepPr.on (fun _ h => h) (fun b (hb : b < k8) => HBK.out.block b hb) G5.out
      have bw6 : Below W.heap.size W wr := Below.trans BW.out (HBU.out.below (by omega) (by omega))
      obtain ⟨ra, rc, hrv⟩ := MQ.out.form
      rw [hrv, List.length_map] at MQ Q6
      have hml : (q.rules.map turnRu).length ≤ 100000 := by rw [List.length_map]; have := HLN.out; omega
      have G6 := Lib.hid g6; have BW6 := Lib.hid bw6; have HML := Lib.hid hml
      have KW : Hid (k8 < wr.heap.size ∧ w5.heap.size ≤ wr.heap.size) := ⟨by omega, hsr⟩
      clear hKK hsr g6 bw6 hml hrv
      go_wp2_with fail
      refine (check_any q (fun b => b < k8) wr _ _ _ (fun b (hb : b < k8) => Nat.lt_trans hb KW.out.1) G6.out).mono ?_
      rintro e w8 ⟨rfl, hb⟩
      have Q8 := Lib.hid (Q6.out.on hb); have M8 := Lib.hid (MQ.out.on hb); have BW8 := Lib.hid (Below.step BW6.out hb)
      have hs8 := hb.size
      have G8 : Hid (RepPr (fun b => b < k8) w8 q (.slice d0 q.decls.length d1) (.slice fa0 q.facts.length fa1) (.slice r0 q.rules.length r1)) := RepPr.on (fun _ h => h) (fun b (hb' : b < k8) => hb.block b (Nat.lt_trans hb' KW.out.1)) G6.out
      have KW8 : Hid (k8 < w8.heap.size) := Nat.lt_of_lt_of_le KW.out.1 hs8
      clear hb hs8 o0 o1 o2
      obtain ⟨o0, o1, o2⟩ := Q8.out.cells
      go_wp2_with fail
      refine (check_any (turnPr q) (fun b => b < w8.heap.size) w8 _ _ _ (fun _ h => h) ⟨RepDes.on (fun b (hb : b < k8) => Nat.lt_trans hb KW8.out) (fun _ _ => rfl) G8.out.1, RepFas.on (fun b (hb : b < k8) => Nat.lt_trans hb KW8.out) (fun _ _ => rfl) G8.out.2.1, RepRus.on (fun b hb => hb.2) (fun _ _ => rfl) (M8.out.slg HML.out)⟩).mono ?_
      rw [HCN.out]
      rintro e w10 ⟨rfl, hb⟩
      have BW10 := Lib.hid (Below.step BW8.out hb)
      clear hb o0 o1 o2
      go_wp2_with fail
      go_ret
      exact ⟨rfl, BW10.out⟩

end Go.Proofs.Ytkaiihoijcpldaa.scopeNames
