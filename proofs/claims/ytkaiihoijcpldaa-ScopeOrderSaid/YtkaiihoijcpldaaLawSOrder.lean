/-
  ScopeOrder, the walk: for any raw rules and facts the law returns true.
-/
import Derived.Test.YtkaiihoijcpldaaW16
import Derived.Test.YtkaiihoijcpldaaSixOrder
import Derived.Test.YtkaiihoijcpldaaW04
import Derived.Test.YtkaiihoijcpldaaRowTwo
namespace Go.Proofs.Ytkaiihoijcpldaa.scopeOrder
open Go.RowKit

theorem leafy_prog (rules : List (List Rw)) (facts : List Rw) : ∀ r ∈ (progZ rules facts).rules, ∀ z ∈ r.body, plainB z = true → Leafy z := by
  intro r hr
  change r ∈ rulesTo rules _ at hr
  rw [rulesTo] at hr
  obtain ⟨i, -, rfl⟩ := List.mem_map.1 hr
  exact leafy_rule _ _
theorem take_filter {p : Li → Bool} {l : List Li} {k : Nat} (h : k < l.length) : (l.take (k + 1)).filter p = (l.take k).filter p ++ (if p l[k] = true then [l[k]] else []) := by
  rw [List.take_succ_eq_append_getElem h, List.filter_append, List.filter_cons]
  split <;> simp
theorem measure_upZ {n k : Nat} (h : k < n) (hn : n ≤ 140737488355328) : n - (intOf (.int .i64 (wrap64 ((k : Int) + 1)))).toNat < n - (intOf (.int .i64 (k : Int))).toNat := by
  rw [show wrap64 ((k : Int) + 1) = ((k + 1 : Nat) : Int) by unfold wrap64; omega]
  simp only [intOf]
  omega
theorem OwnK.slgS {α : Type} {K : Kd α} {S : Nat → Prop} {w : World} {base : Nat} {l : List α} {v : Value} (h : OwnK K S w base l v) (hl : l.length ≤ 100000) : SlG (fun k => base ≤ k ∧ k < w.heap.size) w K.n K.bytes (K.R S w) l v := by
  obtain ⟨xs, ⟨hlen, hown⟩, hr⟩ := h
  have hby : l.length * K.bytes ≤ 140737488355328 := by
    have := Nat.mul_le_mul hl K.few
    omega
  rcases hown with ⟨rfl, hn⟩ | ⟨g, cap, cur, rfl, hbg, hh, hnc, hcm, hcs, htk⟩
  · obtain rfl : l = [] := List.length_eq_zero_iff.1 hn
    exact ⟨none, 0, 0, 0, rfl, Nat.le_refl _, by simp, fun h => by omega, fun h => by simp at h, fun i hi => by simp at hi⟩
  · have hgl := (Array.getElem?_eq_some_iff.1 hh).1
    refine ⟨_, g, 0, cap, rfl, hnc, hby, fun _ => rfl, fun _ => ⟨hbg, hgl⟩, fun i hi => ?_⟩
    obtain ⟨c, hc, hR⟩ := hr i hi
    refine ⟨c, fun j hj => ?_, hR⟩
    have h1 := hc j hj
    rw [← htk, List.getElem?_take] at h1
    have hlt : i * K.n + j < l.length * K.n := by
      have : (i + 1) * K.n ≤ l.length * K.n := Nat.mul_le_mul_right _ hi
      rw [Nat.succ_mul] at this; omega
    rw [if_pos hlt] at h1
    rw [show 0 + i * K.n + j = i * K.n + j by omega]
    exact cell_of_block' hh _ (by rw [← Array.getElem?_toList]; exact h1)
theorem own_new {α : Type} {K : Kd α} {S : Nat → Prop} {w : World} {B : Nat} {y : α} {cs : Array Value} {c : Nat → Value} (hB : B ≤ w.heap.size) (hS : ∀ k, S k → k < w.heap.size) (hsz : cs.size = K.n) (hc : ∀ j, j < K.n → cs[j]? = some (c j)) (hR : K.R S w y c) : OwnK K S (w.alloc (.cells cs K.T)) B [y] (.slice (some ⟨w.heap.size, 0, none⟩) 1 1) := by
  refine ⟨cs.toList, ⟨by simp [hsz], .inr ⟨w.heap.size, 1, cs, rfl, hB, alloc_new' w _, Nat.le_refl _, by decide, by rw [hsz]; simp, ?_⟩⟩, fun i hi => ⟨c, fun j hj => ?_, ?_⟩⟩
  · rw [List.take_of_length_le]; simp [hsz]
  · obtain rfl : i = 0 := by simp at hi; omega
    rw [Nat.zero_mul, Nat.zero_add, Array.getElem?_toList]; exact hc j hj
  · obtain rfl : i = 0 := by simp at hi; omega
    exact K.on (fun _ h => h) (fun k hk => Below.heap_alloc _ _ _ (hS k hk)) hR
def So27 (B kT k8 : Nat) (q : Pr) (r : Ru) (xa : Option Addr) (xc : Nat) (M25 : List Li) (na25 : Option Addr) (nc25 rb ro r1 : Nat) (ph : Bool) (w : World) : Nat → Value → Prop
  | 0, v => v = .agg #[.string r.label, .string r.head, .slice xa r.args.length xc, .string r.agg, .int .i64 r.at', .slice na25 M25.length nc25]
  | 1, v => ph = false → kT < w.heap.size ∧ OwnK kdRu (fun b => b < kT) w B [aheadRu r] v
  | 2, v => v = .pointer (some ⟨k8, 2, none⟩)
  | 3, v => v = .slice (some ⟨rb, ro, none⟩) q.rules.length r1
  | 4, v => v = .slice (if r1 = 1 then some ⟨rb, ro, none⟩ else some ⟨rb, ro + 6, none⟩) (q.rules.length - 1) (r1 - 1)
  | 5, v => ph = true → OwnK kdRu (fun b => b < kT) w B ([aheadRu r] ++ q.rules.drop 1) v
  | 6, v => v = .pointer (some ⟨kT, 2, none⟩)
  | _ + 7, _ => True
theorem So27.stay (B kT k8 : Nat) (q : Pr) (r : Ru) (xa : Option Addr) (xc : Nat) (M25 : List Li) (na25 : Option Addr) (nc25 rb ro r1 : Nat) {w w' : World} (hb : Below w.heap.size w w') : ∀ i v, So27 B kT k8 q r xa xc M25 na25 nc25 rb ro r1 false w i v → So27 B kT k8 q r xa xc M25 na25 nc25 rb ro r1 false w' i v
  | 0, _, h => h
  | 1, _, h => fun e => (fun h => ⟨Nat.lt_of_lt_of_le h.1 hb.size, OwnK.on h.2 (fun _ h => h) (fun j hj => hb.block j (Nat.lt_trans hj h.1)) (fun j _ hj _ => hb.block j hj)⟩) (h e)
  | 2, _, h => h
  | 3, _, h => h
  | 4, _, h => h
  | 5, _, _ => fun e => absurd e (by decide)
  | 6, _, h => h
  | _ + 7, _, _ => trivial
theorem So27.pass (B kT k8 : Nat) (q : Pr) (r : Ru) (xa : Option Addr) (xc : Nat) (M25 : List Li) (na25 : Option Addr) (nc25 rb ro r1 : Nat) {w w' : World} : ∀ i v, i ≠ 5 → So27 B kT k8 q r xa xc M25 na25 nc25 rb ro r1 false w i v → So27 B kT k8 q r xa xc M25 na25 nc25 rb ro r1 true w' i v
  | 0, _, _, h => h
  | 1, _, _, h => fun e => absurd e (by decide)
  | 2, _, _, h => h
  | 3, _, _, h => h
  | 4, _, _, h => h
  | 5, _, hne, _ => absurd rfl hne
  | 6, _, _, h => h
  | _ + 7, _, _, _ => trivial

set_option maxRecDepth 100000 in
set_option maxHeartbeats 16000000 in
theorem walk (rules : List (List Rw)) (facts : List Rw) (W : World) (va vb : Value) (ga : RepRwss (fun k => k < W.heap.size) W rules va) (gb : RepRws (fun k => k < W.heap.size) W facts vb) :
    Calls Try.prog 6 #[va, vb] W fun e W' => e = .returned (.bool true) ∧ Below W.heap.size W W' := by
  have GA := Lib.hid ga; have GB := Lib.hid gb
  clear ga gb
  go_enter Try.func6, Try.ntmps6
  go_wp2_with fail
  refine (awake6_any W).mono ?_
  rintro e w1 ⟨rfl, hb⟩
  have B1 := Lib.hid hb
  clear hb
  go_wp2_with fail
  refine (program_any rules facts (fun k => k < W.heap.size) w1 va vb (fun k hk => Nat.lt_of_lt_of_le hk B1.out.size) (SlG.on (fun _ h => h) (fun k hk => B1.out.block k hk) (fun x _ c h => SlG.on (fun _ h => h) (fun k hk => B1.out.block k hk) (fun _ _ _ h => h) h) GA.out) (SlG.on (fun _ h => h) (fun k hk => B1.out.block k hk) (fun _ _ _ h => h) GB.out)).mono ?_
  rintro e w2 ⟨v0, v1, v2, rfl, hrep, hb⟩
  have HQR := Lib.hid (right_prog rules facts)
  have HLF := Lib.hid (leafy_prog rules facts)
  have HLN : Hid ((progZ rules facts).rules.length ≤ 6) := by show _ ≤ _; show (rulesTo rules _).length ≤ 6; rw [rulesTo_len]; omega
  generalize progZ rules facts = q at *
  obtain ⟨d0, d1, rfl⟩ := SlG.form hrep.1
  obtain ⟨fa0, fa1, rfl⟩ := SlG.form hrep.2.1
  obtain ⟨r0, r1, rfl⟩ := SlG.form hrep.2.2
  have HRP := Lib.hid hrep; have B2 := Lib.hid (Below.step B1.out hb)
  clear hrep hb B1 GA GB
  go_upto_region 3 with fail
  have mk := boxPr_new w2 (.slice d0 q.decls.length d1) (.slice fa0 q.facts.length fa1) (.slice r0 q.rules.length r1)
  have da := below_alloc w2 (.cells #[.slice d0 q.decls.length d1, .slice fa0 q.facts.length fa1, .slice r0 q.rules.length r1] 29)
  have sa := World.size_alloc w2 (.cells #[.slice d0 q.decls.length d1, .slice fa0 q.facts.length fa1, .slice r0 q.rules.length r1] 29)
  generalize w2.alloc (.cells #[.slice d0 q.decls.length d1, .slice fa0 q.facts.length fa1, .slice r0 q.rules.length r1] 29) = w3 at *
  have GQ : Hid (RepPr (fun k => k < w2.heap.size) w3 q (.slice d0 q.decls.length d1) (.slice fa0 q.facts.length fa1) (.slice r0 q.rules.length r1)) := RepPr.on (fun k hk => hk.2) (fun k hk => da.block k hk.2) HRP.out
  have B3 := Lib.hid (Below.step B2.out da)
  obtain ⟨k8, hk8⟩ : ∃ k, w2.heap.size = k := ⟨_, rfl⟩
  have HWK : Hid (W.heap.size ≤ k8) := by show _ ≤ _; rw [← hk8]; exact B2.out.size
  rw [hk8] at mk GQ sa ⊢
  have X3 := Lib.hid mk
  have K3 : Hid (k8 < w3.heap.size) := by show _ < _; omega
  clear mk da sa hk8 HRP B2
  obtain ⟨o0, o1, o2⟩ := X3.out.cells
  go_wp2_with fail
  refine (check_any q (fun k => k < k8) w3 _ _ _ (fun k hk => Nat.lt_trans hk K3.out) GQ.out).mono ?_
  rintro e w4 ⟨rfl, hb⟩
  have X4 := Lib.hid (X3.out.on hb); have B4 := Lib.hid (Below.step B3.out hb)
  have K4 : Hid (k8 < w4.heap.size) := Nat.lt_of_lt_of_le K3.out hb.size
  have G4 : Hid (RepPr (fun k => k < k8) w4 q (.slice d0 q.decls.length d1) (.slice fa0 q.facts.length fa1) (.slice r0 q.rules.length r1)) := RepPr.on (fun _ h => h) (fun k hk => hb.block k (Nat.lt_trans hk K3.out)) GQ.out
  clear hb GQ X3 B3 K3 o0 o1 o2
  obtain ⟨o0, o1, o2⟩ := X4.out.cells
  by_cases he : (checkZ q).1 = 0
  case neg =>
    have he1 : ((checkZ q).1 == 0) = false := by simpa using he
    have he2 : ((checkZ q).1 != 0) = true := by simpa using he
    go_wp2_with fail
    go_ret
    exact ⟨rfl, B4.out⟩
  case pos =>
  have HOK := Lib.hid he
  rw [he]
  clear he
  by_cases hz : q.rules.length = 0
  case pos =>
    have hz1 : ((q.rules.length : Int) == 0) = true := by simp [hz]
    go_wp2_with fail
    go_ret
    exact ⟨rfl, B4.out⟩
  case neg =>
  have hz1 : ((q.rules.length : Int) == 0) = false := by simp; exact fun e => hz (by rw [e]; rfl)
  have hzp : 0 < q.rules.length := by omega
  have HZP := Lib.hid hzp
  obtain ⟨-, -, rb, ro, xa, xc, ya, yc, hra, hrb, g0, g1, g2, g3, g4, g5, gr⟩ := RepRus.at G4.out.2.2 0 hzp
  have HCP : Hid (q.rules.length ≤ r1) := by obtain ⟨_, h, -⟩ := SlG.at G4.out.2.2 0 hzp; exact h
  subst hra
  rw [Nat.zero_mul, Nat.add_zero] at g0 g1 g2 g3 g4 g5
  have HRM : Hid (q.rules[0] ∈ q.rules) := List.getElem_mem _
  have HRC : Hid (q.rules = q.rules[0] :: q.rules.drop 1) := by
    show _ = _
    exact (List.drop_zero).symm.trans (List.drop_eq_getElem_cons hzp)
  have HLI := Lib.hid (HLF.out _ HRM.out)
  have HBL : Hid (q.rules[0].body.length ≤ 8) := by
    show _ ≤ _
    have h := HQR.out
    rw [prB] at h
    simp only [Bool.and_eq_true] at h
    have h2 := (listB_bounds h.2.2).2.2 _ HRM.out
    rw [ruB] at h2
    simp only [Bool.and_eq_true] at h2
    have := (listB_bounds h2.2.2.2).2.1
    omega
  generalize q.rules[0] = r at *
  go_upto_region 7 with fail
  have GR := Lib.hid gr
  clear gr hz hz1 hzp g0 g1 g2 g3 g4 g5 o0 o1 o2 hrb
  have KK : Hid (W.heap.size ≤ k8 ∧ k8 < w4.heap.size) := ⟨HWK.out, K4.out⟩
  have BW := B4
  clear HWK K4 B4
  have mk : BoxRu (w4.alloc (.cells #[.string r.label, .string r.head, .slice xa r.args.length xc, .string r.agg, .int .i64 r.at', .slice ya r.body.length yc] 39)) w4.heap.size (.string r.label) (.string r.head) (.slice xa r.args.length xc) (.string r.agg) (.int .i64 r.at') (.slice ya r.body.length yc) := alloc_new' w4 _
  have da := below_alloc w4 (.cells #[.string r.label, .string r.head, .slice xa r.args.length xc, .string r.agg, .int .i64 r.at', .slice ya r.body.length yc] 39)
  have sa := World.size_alloc w4 (.cells #[.string r.label, .string r.head, .slice xa r.args.length xc, .string r.agg, .int .i64 r.at', .slice ya r.body.length yc] 39)
  generalize w4.alloc (.cells #[.string r.label, .string r.head, .slice xa r.args.length xc, .string r.agg, .int .i64 r.at', .slice ya r.body.length yc] 39) = w5 at *
  obtain ⟨k9, hkN⟩ : ∃ k, w4.heap.size = k := ⟨_, rfl⟩
  have BW2 := Lib.hid (Below.step BW.out da)
  have hKK := KK.out
  rw [hkN] at mk da sa hKK ⊢
  replace X4 : Hid (BoxPr w5 k8 (.slice d0 q.decls.length d1) (.slice fa0 q.facts.length fa1) (.slice (some ⟨rb, ro, none⟩) q.rules.length r1)) := (da.block k8 (by omega)).trans X4.out
  replace G4 : Hid (RepPr (fun b => b < k8) w5 q (.slice d0 q.decls.length d1) (.slice fa0 q.facts.length fa1) (.slice (some ⟨rb, ro, none⟩) q.rules.length r1)) := RepPr.on (fun _ h => h) (fun b hb' => da.block b (by omega)) G4.out
  replace GR : Hid (RepRu (fun b => b < k8) w5 r (.string r.label) (.string r.head) (.slice xa r.args.length xc) (.string r.agg) (.int .i64 r.at') (.slice ya r.body.length yc)) := RepRu.on (fun _ h => h) (fun b hb' => da.block b (by omega)) GR.out
  have KK2 : Hid (W.heap.size ≤ k8 ∧ k8 < k9 ∧ k9 < w5.heap.size) := by refine ⟨?_, ?_, ?_⟩ <;> omega
  replace KK := KK2
  replace BW := BW2
  have Y9 := Lib.hid mk
  clear mk da sa hkN hKK KK2 BW2
  obtain ⟨y0, y1, y2, y3, y4, y5⟩ := Y9.out.cells
  go_wp2_with fail
  clear y0 y1 y2 y3 y4 y5
  go_loopw [10, 11, 12, 13] (fun av bv sv iv wr => ∃ k : Nat, k ≤ r.body.length ∧ iv = .int .i64 (k : Int) ∧ sv = .bool ((r.body.take k).any fun z => z.kind == 4) ∧ TwoK kdLi (fun b => b < k8) wr w5.heap.size ((r.body.take k).filter plainB) av ((r.body.take k).filter fun z => !plainB z) bv ∧ Below w5.heap.size w5 wr) (fun _ _ _ iv _ => r.body.length - (intOf iv).toNat)
  case atStart => exact ⟨0, Nat.zero_le _, rfl, rfl, TwoK.nil _ _ _, Below.refl _ _⟩
  case round =>
    obtain ⟨k, hk, rfl, rfl, htwo, hb⟩ := hrel
    have HBR := Lib.hid hb; have HT := Lib.hid htwo
    have hY : BoxRu wr k9 (.string r.label) (.string r.head) (.slice xa r.args.length xc) (.string r.agg) (.int .i64 r.at') (.slice ya r.body.length yc) := (hb.block k9 (by have := KK.out; omega)).trans Y9.out
    have Y9r := Lib.hid hY
    obtain ⟨y0, y1, y2, y3, y4, y5⟩ := hY.cells
    clear hb htwo hY
    by_cases hlt : k < r.body.length
    · have i1 : decide ((k : Int) < (r.body.length : Int)) = true := decide_eq_true (by omega)
      have hgb := GR.out.2.2.2.2.2.2.2.2.2
      obtain ⟨-, -, lb, lo, za, zc, hya, hlb, g0, g1, g2, gz⟩ := RepLis.at hgb k hlt
      have hlw : lb < w5.heap.size := by have := KK.out; omega
      replace g0 := (HBR.out.cell (p := ⟨lb, lo + k * 3, none⟩) hlw).trans g0
      replace g1 := (HBR.out.cell (p := ⟨lb, lo + k * 3 + 1, none⟩) hlw).trans g1
      replace g2 := (HBR.out.cell (p := ⟨lb, lo + k * 3 + 2, none⟩) hlw).trans g2
      have hk1 : (0 : Int) ≤ (k : Int) := Int.natCast_nonneg k
      have hk2 : (k : Int) < (r.body.length : Int) := by omega
      have HTF1 := Lib.hid (take_filter (p := plainB) hlt); have HTF2 := Lib.hid (take_filter (p := fun z => !plainB z) hlt)
      have HTA : Hid ((r.body.take (k + 1)).any (fun z => z.kind == 4) = ((r.body.take k).any (fun z => z.kind == 4) || r.body[k].kind == 4)) := by show _ = _; rw [List.take_succ_eq_append_getElem hlt, List.any_append]; simp
      have HKL := Lib.hid hlt
      have GZ := Lib.hid gz
      rw [hya] at y5
      clear hya
      generalize r.body[k] = z at *
      clear hk hlt hgb gz hlb hlw
      go_upto_region 14 with fail
      have mk := boxLi_new wr (.int .i64 z.kind) (.string z.name) (.slice za z.args.length zc)
      have da := below_alloc wr (.cells #[.int .i64 z.kind, .string z.name, .slice za z.args.length zc] 42)
      generalize wr.alloc (.cells #[.int .i64 z.kind, .string z.name, .slice za z.args.length zc] 42) = wx at *
      have HBX := Lib.hid (Below.step HBR.out da)
      have HTX := Lib.hid (HT.out.on (fun b (hb : b < k8) => (by have := KK.out; have := HBR.out.size; omega : b < wr.heap.size)) da)
      have YX : Hid (BoxRu wx k9 (.string r.label) (.string r.head) (.slice xa r.args.length xc) (.string r.agg) (.int .i64 r.at') (.slice ya r.body.length yc)) := (da.block k9 (by have := KK.out; have := HBR.out.size; omega)).trans Y9r.out
      obtain ⟨kx, hkx⟩ : ∃ kx, wr.heap.size = kx := ⟨_, rfl⟩
      rw [hkx] at mk da ⊢
      have ZX := Lib.hid mk
      clear mk da hkx HT HBR Y9r g0 g1 g2 hk1 hk2 i1 y0 y1 y2 y3 y4 y5
      obtain ⟨c0, c1, c2⟩ := ZX.out.cells
      have HSV : Hid (∃ sb, ((r.body.take k).any fun z => z.kind == 4) = sb) := ⟨_, rfl⟩
      obtain ⟨sb, hsb⟩ := HSV.out
      rw [hsb]
      have HSB := Lib.hid hsb
      clear hsb HSV
      go_wp2_with fail
      clear c0 c1 c2
      go_loopw [15, 16] (fun pv jv w2 => ∃ j : Nat, j ≤ z.args.length ∧ jv = .int .i64 (j : Int) ∧ pv = .bool (z.kind == 1 && (z.args.take j).all fun t => !(t.kind == 4)) ∧ Below wx.heap.size wx w2) (fun _ jv _ => z.args.length - (intOf jv).toNat)
      case atStart => exact ⟨0, Nat.zero_le _, rfl, by simp, Below.refl _ _⟩
      case round =>
        obtain ⟨j, hj, rfl, rfl, hb⟩ := hrel
        generalize wr = w2 at *
        have HB2 := Lib.hid hb
        obtain ⟨c0, c1, c2⟩ := BoxLi.cells ((hb.block kx ZX.out.lt).trans ZX.out)
        clear hb
        have HLZ : Hid (z.args.length ≤ 140737488355328) := by have := SlG.bytes GZ.out.2.2.2.2; show _ ≤ _; omega
        by_cases hjl : j < z.args.length
        · have i2 : decide ((j : Int) < (z.args.length : Int)) = true := decide_eq_true (by omega)
          have i3 : decide (j < z.args.length) = true := decide_eq_true hjl
          obtain ⟨-, -, ab, ao, fa, fc, ga, gc, hza, hab, m0, -, -, -, -, -, -, -⟩ := RepMs.at GZ.out.2.2.2.2 j hjl
          have hab2 : ab < k8 := hab
          have hab3 : ab < w5.heap.size := by have := KK.out; omega
          have hab4 : ab < wx.heap.size := Nat.lt_of_lt_of_le hab3 HBX.out.size
          replace m0 := (HB2.out.cell (p := ⟨ab, ao + j * 7, none⟩) hab4).trans ((HBX.out.cell (p := ⟨ab, ao + j * 7, none⟩) hab3).trans m0)
          rw [hza] at c2
          clear hza
          have HPA : Hid ((z.args.take (j + 1)).all (fun t => !(t.kind == 4)) = ((z.args.take j).all (fun t => !(t.kind == 4)) && !(z.args[j].kind == 4))) := by show _ = _; rw [List.take_succ_eq_append_getElem hjl, List.all_append]; simp
          have HJL := Lib.hid hjl
          have hk1 : (0 : Int) ≤ (j : Int) := Int.natCast_nonneg j
          have hk2 : (j : Int) < (z.args.length : Int) := by omega
          generalize z.args[j] = t at *
          clear hj hjl hab hab2 hab3 hab4
          cases hp : (z.kind == 1 && (z.args.take j).all fun t => !(t.kind == 4))
          case false =>
            have HP := Lib.hid hp
            clear hp
            go_wp2_with fail
            go_roundw
            case rel => exact ⟨j + 1, HJL.out, (by have := HJL.out; have := HLZ.out; rw [show wrap64 ((j : Int) + 1) = ((j + 1 : Nat) : Int) by unfold wrap64; omega]), by rw [HPA.out, ← Bool.and_assoc, HP.out]; rfl, HB2.out⟩
            case measure => exact measure_upZ HJL.out HLZ.out
          case true =>
            have HP := Lib.hid hp
            clear hp
            cases ht : (t.kind == 4)
            all_goals
              have HTK := Lib.hid ht
              have ht2 : (t.kind != 4) = !(t.kind == 4) := rfl
              rw [ht] at ht2
              clear ht
              go_wp2_with fail
              go_roundw
              case rel => exact ⟨j + 1, HJL.out, (by have := HJL.out; have := HLZ.out; rw [show wrap64 ((j : Int) + 1) = ((j + 1 : Nat) : Int) by unfold wrap64; omega]), by rw [HPA.out, ← Bool.and_assoc, HP.out, HTK.out]; rfl, HB2.out⟩
              case measure => exact measure_upZ HJL.out HLZ.out
        · have i2 : decide ((j : Int) < (z.args.length : Int)) = false := decide_eq_false (by omega)
          have i3 : decide (j < z.args.length) = false := decide_eq_false hjl
          have hPL : (z.kind == 1 && (z.args.take j).all fun t => !(t.kind == 4)) = plainB z := by rw [List.take_of_length_le (by omega)]; rfl
          rw [hPL]
          clear hj hjl hPL
          have HT2 := Lib.hid (HTX.out.on (fun b (hb : b < k8) => (by have := KK.out; have := HBX.out.size; omega : b < wx.heap.size)) HB2.out)
          cases hpl0 : plainB z
          case false =>
            have hpl := Lib.hid hpl0
            clear hpl0
            have b2 := below_alloc w2 (.cells #[.int .i64 z.kind, .string z.name, .slice za z.args.length zc] 42)
            have s2 := World.size_alloc w2 (.cells #[.int .i64 z.kind, .string z.name, .slice za z.args.length zc] 42)
            have ht3 := HT2.out.on (fun b (hb : b < k8) => (by have := KK.out; have := HB2.out.size; have := HBX.out.size; omega : b < w2.heap.size)) b2
            have gz3 : kdLi.R (fun b => b < k8) (w2.alloc (.cells #[.int .i64 z.kind, .string z.name, .slice za z.args.length zc] 42)) z (at3v (.int .i64 z.kind) (.string z.name) (.slice za z.args.length zc)) := RepLi.on (fun _ h => h) (fun b hb => (b2.block b (by have := KK.out; have := HB2.out.size; have := HBX.out.size; omega)).trans ((HB2.out.block b (by have := KK.out; have := HBX.out.size; omega)).trans (HBX.out.block b (by have := KK.out; omega)))) GZ.out
            have hsz2 : w5.heap.size ≤ (w2.alloc (.cells #[.int .i64 z.kind, .string z.name, .slice za z.args.length zc] 42)).heap.size := by have := HB2.out.size; have := HBX.out.size; omega
            have hll : ((r.body.take k).filter fun z => !plainB z).length ≤ 1000 := Nat.le_trans (List.length_filter_le _ _) (by rw [List.length_take]; have := HBL.out; omega)
            obtain ⟨a6, cap6, w6, hrun, h6, hb6⟩ := TwoK.left (c := at3v (.int .i64 z.kind) (.string z.name) (.slice za z.args.length zc)) (ht3.swap) hsz2 (fun b (hb : b < k8) => (by have := KK.out; omega : b < w5.heap.size)) hll (alloc_new' w2 (.cells #[.int .i64 z.kind, .string z.name, .slice za z.args.length zc] 42)) (fun j hj => match j, hj with | 0, _ => rfl | 1, _ => rfl | 2, _ => rfl) gz3 37
            have HRUN := Lib.hid hrun
            have H6 := Lib.hid h6.swap
            have HB6 : Hid (Below w5.heap.size w5 w6) := Below.trans (Below.step (Below.step HBX.out HB2.out) b2) hb6
            clear b2 s2 ht3 gz3 hsz2 hll hrun h6 hb6
            cases sb
            case true =>
              cases h4 : (z.kind == 4)
              all_goals
                have H4 := Lib.hid h4
                go_wp2_with (at_builtin; refine wpList_append_by rfl _ _ _ rfl rfl rfl HRUN.out ?_)
                go_roundw
                case rel =>
                  refine ⟨k + 1, HKL.out, (by have := HKL.out; have := HBL.out; rw [show wrap64 ((k : Int) + 1) = ((k + 1 : Nat) : Int) by unfold wrap64; omega]), ?_, ?_, HB6.out⟩
                  · rw [HTA.out, HSB.out]; rfl
                  · rw [HTF1.out, HTF2.out, hpl.out]; simpa using H6.out
                case measure => exact measure_up HKL.out (by have := HBL.out; omega)
            case false =>
              cases h4 : (z.kind == 4)
              all_goals
                have H4 := Lib.hid h4
                go_wp2_with (at_builtin; refine wpList_append_by rfl _ _ _ rfl rfl rfl HRUN.out ?_)
                go_roundw
                case rel =>
                  refine ⟨k + 1, HKL.out, (by have := HKL.out; have := HBL.out; rw [show wrap64 ((k : Int) + 1) = ((k + 1 : Nat) : Int) by unfold wrap64; omega]), ?_, ?_, HB6.out⟩
                  · rw [HTA.out, HSB.out, H4.out]; rfl
                  · rw [HTF1.out, HTF2.out, hpl.out]; simpa using H6.out
                case measure => exact measure_up HKL.out (by have := HBL.out; omega)
          case true =>
            have hpl := Lib.hid hpl0
            have H4 : Hid ((z.kind == 4) = false) := by have := (plain_kinds hpl0).1; show _ = _; rw [this]; rfl
            have h4 := H4.out
            clear hpl0
            have b2 := below_alloc w2 (.cells #[.int .i64 z.kind, .string z.name, .slice za z.args.length zc] 42)
            have s2 := World.size_alloc w2 (.cells #[.int .i64 z.kind, .string z.name, .slice za z.args.length zc] 42)
            have ht3 := HT2.out.on (fun b (hb : b < k8) => (by have := KK.out; have := HB2.out.size; have := HBX.out.size; omega : b < w2.heap.size)) b2
            have gz3 : kdLi.R (fun b => b < k8) (w2.alloc (.cells #[.int .i64 z.kind, .string z.name, .slice za z.args.length zc] 42)) z (at3v (.int .i64 z.kind) (.string z.name) (.slice za z.args.length zc)) := RepLi.on (fun _ h => h) (fun b hb => (b2.block b (by have := KK.out; have := HB2.out.size; have := HBX.out.size; omega)).trans ((HB2.out.block b (by have := KK.out; have := HBX.out.size; omega)).trans (HBX.out.block b (by have := KK.out; omega)))) GZ.out
            have hsz2 : w5.heap.size ≤ (w2.alloc (.cells #[.int .i64 z.kind, .string z.name, .slice za z.args.length zc] 42)).heap.size := by have := HB2.out.size; have := HBX.out.size; omega
            have hll : ((r.body.take k).filter plainB).length ≤ 1000 := Nat.le_trans (List.length_filter_le _ _) (by rw [List.length_take]; have := HBL.out; omega)
            obtain ⟨a6, cap6, w6, hrun, h6, hb6⟩ := TwoK.left (c := at3v (.int .i64 z.kind) (.string z.name) (.slice za z.args.length zc)) (ht3) hsz2 (fun b (hb : b < k8) => (by have := KK.out; omega : b < w5.heap.size)) hll (alloc_new' w2 (.cells #[.int .i64 z.kind, .string z.name, .slice za z.args.length zc] 42)) (fun j hj => match j, hj with | 0, _ => rfl | 1, _ => rfl | 2, _ => rfl) gz3 37
            have HRUN := Lib.hid hrun
            have H6 := Lib.hid h6
            have HB6 : Hid (Below w5.heap.size w5 w6) := Below.trans (Below.step (Below.step HBX.out HB2.out) b2) hb6
            clear b2 s2 ht3 gz3 hsz2 hll hrun h6 hb6
            cases sb
            case true =>
              go_wp2_with (at_builtin; refine wpList_append_by rfl _ _ _ rfl rfl rfl HRUN.out ?_)
              go_roundw
              case rel =>
                refine ⟨k + 1, HKL.out, (by have := HKL.out; have := HBL.out; rw [show wrap64 ((k : Int) + 1) = ((k + 1 : Nat) : Int) by unfold wrap64; omega]), ?_, ?_, HB6.out⟩
                · rw [HTA.out, HSB.out]; rfl
                · rw [HTF1.out, HTF2.out, hpl.out]; simpa using H6.out
              case measure => exact measure_up HKL.out (by have := HBL.out; omega)
            case false =>
              go_wp2_with (at_builtin; refine wpList_append_by rfl _ _ _ rfl rfl rfl HRUN.out ?_)
              go_roundw
              case rel =>
                refine ⟨k + 1, HKL.out, (by have := HKL.out; have := HBL.out; rw [show wrap64 ((k : Int) + 1) = ((k + 1 : Nat) : Int) by unfold wrap64; omega]), ?_, ?_, HB6.out⟩
                · rw [HTA.out, HSB.out, H4.out]; rfl
                · rw [HTF1.out, HTF2.out, hpl.out]; simpa using H6.out
              case measure => exact measure_up HKL.out (by have := HBL.out; omega)
    · have i1 : decide ((k : Int) < (r.body.length : Int)) = false := decide_eq_false (by omega)
      have i3 : decide (k < r.body.length) = false := decide_eq_false hlt
      have hkk : r.body.take k = r.body := List.take_of_length_le (by omega)
      rw [hkk] at HT ⊢
      clear hkk hk hlt
      cases hs : (r.body.any fun z => z.kind == 4)
      case true =>
        go_wp2_with fail
        go_ret
        exact ⟨rfl, Below.trans BW.out (HBR.out.mono (by have := KK.out; omega))⟩
      case false =>
      have HNS : Hid (∀ z ∈ r.body, z.kind ≠ 4) := fun z hz e => by
        have := List.any_eq_false.1 hs z hz
        simp [e] at this
      clear hs
      have hfl : ∀ p : Li → Bool, (r.body.filter p).length ≤ 8 := fun p => Nat.le_trans (List.length_filter_le _ _) HBL.out
      obtain ⟨v7, w7, hrun, hown, hgr⟩ := own_manyS (K := kdLi) (lv := u10) HT.out.1 (OwnK.slgS HT.out.2.1 (by have := hfl (fun z => !plainB z); omega)) (fun b (hb : b < k8) => ⟨(by have := KK.out; have := HBR.out.size; omega : b < wr.heap.size), fun e => by have := (OwnK.lies HT.out.1 b e).1; have := KK.out; omega⟩) HBR.out.size (by have := hfl plainB; have := hfl (fun z => !plainB z); omega) 37
      have hb7 : Below w5.heap.size w5 w7 := ⟨hgr.os.trans HBR.out.os, hgr.tape.trans HBR.out.tape, hgr.output.trans HBR.out.output, Nat.le_trans HBR.out.size hgr.size, fun b hb => (hgr.block b (Nat.lt_of_lt_of_le hb HBR.out.size) (fun e => by have := (OwnK.lies HT.out.1 b e.symm).1; omega)).trans (HBR.out.block b hb)⟩
      obtain ⟨M25, hM⟩ : ∃ M, r.body.filter plainB ++ r.body.filter (fun z => !plainB z) = M := ⟨_, rfl⟩
      have HM25 : Hid (M25 = ahead r.body) := hM.symm
      have hml : M25.length ≤ 100000 := by rw [HM25.out, ahead_length]; have := HBL.out; omega
      rw [hM] at hown
      obtain ⟨na25, nc25, rfl⟩ := OwnK.form hown
      have HRUN := Lib.hid hrun
      have hY7 : BoxRu w7 k9 (.string r.label) (.string r.head) (.slice xa r.args.length xc) (.string r.agg) (.int .i64 r.at') (.slice ya r.body.length yc) := (hb7.block k9 (by have := KK.out; omega)).trans Y9.out
      go_upto_region 25 with fail
      clear y0 y1 y2 y3 y4 y5
      obtain ⟨y0, y1, y2, y3, y4, y5⟩ := hY7.cells
      have z5 := frozen_of_row w7 k9 5 _ _ hY7
      clear hrun
      go_upto_region 26 with (at_builtin; refine wpList_append_by rfl _ _ _ rfl rfl rfl HRUN.out ?_)
      have mk : BoxRu (w7.setCell ⟨k9, 5, none⟩ (.slice na25 M25.length nc25)) k9 (.string r.label) (.string r.head) (.slice xa r.args.length xc) (.string r.agg) (.int .i64 r.at') (.slice na25 M25.length nc25) := heap_setCell_same _ _ _ _ _ _ hY7
      have hKK := KK.out; have h7 := hb7.size
      have hbl : ∀ b, b < k9 → (w7.setCell ⟨k9, 5, none⟩ (.slice na25 M25.length nc25)).heap[b]? = w5.heap[b]? := fun b hb => (Below.heap_setCell _ _ _ _ (by simp; omega)).trans (hb7.block b (by omega))
      have hsz : (w7.setCell ⟨k9, 5, none⟩ (.slice na25 M25.length nc25)).heap.size = w7.heap.size := by simp [World.setCell]
      have ho : OwnK kdLi (fun b => b < k8) (w7.setCell ⟨k9, 5, none⟩ (.slice na25 M25.length nc25)) w5.heap.size M25 (.slice na25 M25.length nc25) := OwnK.on hown (fun _ h => h) (fun b (hb : b < k8) => Below.heap_setCell _ _ _ _ (by simp; omega)) (fun b h1 _ _ => Below.heap_setCell _ _ _ _ (by simp; omega))
      have R25 : Hid (RepRu (fun b => b < (w7.setCell ⟨k9, 5, none⟩ (.slice na25 M25.length nc25)).heap.size) (w7.setCell ⟨k9, 5, none⟩ (.slice na25 M25.length nc25)) (aheadRu r) (.string r.label) (.string r.head) (.slice xa r.args.length xc) (.string r.agg) (.int .i64 r.at') (.slice na25 M25.length nc25)) := by
        have g := RepRu.on (S' := fun b => b < (w7.setCell ⟨k9, 5, none⟩ (.slice na25 M25.length nc25)).heap.size) (fun b (hb : b < k8) => (by omega : b < (w7.setCell ⟨k9, 5, none⟩ (.slice na25 M25.length nc25)).heap.size)) (fun b (hb : b < k8) => hbl b (by omega)) GR.out
        obtain ⟨e0, e1, e2, e3, e4, e5, e6, e7, e8, e9⟩ := g
        refine ⟨e0, e1, e2, e3, e4, e5, e6, e7, e8, ?_⟩
        have hq := OwnK.slg' ho (fun b (hb : b < k8) => (by omega : b < (w7.setCell ⟨k9, 5, none⟩ (.slice na25 M25.length nc25)).heap.size)) (fun b h1 h2 => h2) hml
        rw [HM25.out] at hq ⊢
        exact hq
      have X48 : Hid (BoxPr (w7.setCell ⟨k9, 5, none⟩ (.slice na25 M25.length nc25)) k8 (.slice d0 q.decls.length d1) (.slice fa0 q.facts.length fa1) (.slice (some ⟨rb, ro, none⟩) q.rules.length r1)) := (hbl k8 (by omega)).trans X4.out
      have G48 : Hid (RepPr (fun b => b < k8) (w7.setCell ⟨k9, 5, none⟩ (.slice na25 M25.length nc25)) q (.slice d0 q.decls.length d1) (.slice fa0 q.facts.length fa1) (.slice (some ⟨rb, ro, none⟩) q.rules.length r1)) := RepPr.on (fun _ h => h) (fun b (hb : b < k8) => hbl b (by omega)) G4.out
      have BW8 : Hid (Below W.heap.size W (w7.setCell ⟨k9, 5, none⟩ (.slice na25 M25.length nc25))) := Below.setCell (p := ⟨k9, 5, none⟩) (Below.trans BW.out (hb7.mono (show W.heap.size ≤ w5.heap.size by omega))) (by simp; omega) _
      have Y98 := Lib.hid mk
      have KK8 : Hid (W.heap.size ≤ k8 ∧ k8 < k9 ∧ k9 < (w7.setCell ⟨k9, 5, none⟩ (.slice na25 M25.length nc25)).heap.size) := by refine ⟨?_, ?_, ?_⟩ <;> omega
      clear mk hKK h7 hbl hsz ho hY7 y0 y1 y2 y3 y4 y5 z5 hb7 hM hml hown hgr hfl HRUN HT HBR Y9r GR X4 G4 BW Y9 KK
      generalize (w7.setCell ⟨k9, 5, none⟩ (.slice na25 M25.length nc25)) = w8 at *
      have X4 := X48; have G4 := G48; have BW := BW8; have Y9 := Y98; have KK := KK8
      clear X48 G48 BW8 Y98 KK8
      obtain ⟨o0, o1, o2⟩ := X4.out.cells
      go_upto_region 27 with fail
      have mk : BoxPr (w8.alloc (.cells #[.slice d0 q.decls.length d1, .slice fa0 q.facts.length fa1, .slice (some ⟨rb, ro, none⟩) q.rules.length r1] 29)) w8.heap.size (.slice d0 q.decls.length d1) (.slice fa0 q.facts.length fa1) (.slice (some ⟨rb, ro, none⟩) q.rules.length r1) := alloc_new' w8 _
      have da := below_alloc w8 (.cells #[.slice d0 q.decls.length d1, .slice fa0 q.facts.length fa1, .slice (some ⟨rb, ro, none⟩) q.rules.length r1] 29)
      have sa := World.size_alloc w8 (.cells #[.slice d0 q.decls.length d1, .slice fa0 q.facts.length fa1, .slice (some ⟨rb, ro, none⟩) q.rules.length r1] 29)
      generalize w8.alloc (.cells #[.slice d0 q.decls.length d1, .slice fa0 q.facts.length fa1, .slice (some ⟨rb, ro, none⟩) q.rules.length r1] 29) = w9 at *
      obtain ⟨k17, hkN⟩ : ∃ k, w8.heap.size = k := ⟨_, rfl⟩
      have BW2 := Lib.hid (Below.step BW.out da)
      have hKK := KK.out
      rw [hkN] at mk da sa hKK ⊢
      replace X4 : Hid (BoxPr w9 k8 (.slice d0 q.decls.length d1) (.slice fa0 q.facts.length fa1) (.slice (some ⟨rb, ro, none⟩) q.rules.length r1)) := (da.block k8 (by omega)).trans X4.out
      replace G4 : Hid (RepPr (fun b => b < k8) w9 q (.slice d0 q.decls.length d1) (.slice fa0 q.facts.length fa1) (.slice (some ⟨rb, ro, none⟩) q.rules.length r1)) := RepPr.on (fun _ h => h) (fun b hb' => da.block b (by omega)) G4.out
      replace Y9 : Hid (BoxRu w9 k9 (.string r.label) (.string r.head) (.slice xa r.args.length xc) (.string r.agg) (.int .i64 r.at') (.slice na25 M25.length nc25)) := (da.block k9 (by omega)).trans Y9.out
      rw [hkN] at R25
      replace R25 : Hid (RepRu (fun b => b < k17) w9 (aheadRu r) (.string r.label) (.string r.head) (.slice xa r.args.length xc) (.string r.agg) (.int .i64 r.at') (.slice na25 M25.length nc25)) := RepRu.on (fun _ h => h) (fun b hb' => da.block b (by omega)) R25.out
      have KK2 : Hid (W.heap.size ≤ k8 ∧ k8 < k9 ∧ k9 < k17 ∧ k17 < w9.heap.size) := by refine ⟨?_, ?_, ?_, ?_⟩ <;> omega
      replace KK := KK2
      replace BW := BW2
      have X17 := Lib.hid mk
      clear mk da sa hkN hKK KK2 BW2
      clear o0 o1 o2
      have KT : Hid (k17 < w9.heap.size) := by have := KK.out; show _ < _; omega
      refine wp_region_factsP (by rfl) 117 (by rfl) (by kernel_rfl) 5 (fun q => q == 0 || q == 1 || q == 2 || q == 3 || q == 4) (by kernel_rfl) (fun ph wz iz vz => So27 w9.heap.size k17 k8 q r xa xc M25 na25 nc25 rb ro r1 ph wz iz vz) (fun ph w' => if ph = true then Below w9.heap.size w9 w' else Below w9.heap.size w9 w') (Below.drew (Below.refl _ _)) ⟨?s0, ?s1, ?s2, ?s3, ?s4, ?s5, ?s6, trivial⟩ (by rfl) ?last
      case s0 =>
        intro a w' hoff hg hdep K hK
        replace hg : Below w9.heap.size w9 w' := hg
        have h9 := off_at hoff 9 (v := .pointer (some ⟨k9, 0, none⟩)) (by kernel_rfl) rfl
        rw [if_pos (by rfl)]
        obtain ⟨y0, y1, y2, y3, y4, y5⟩ := BoxRu.cells ((hg.block k9 (by have := KK.out; omega)).trans Y9.out)
        go_simp
        exact hK.out _ _ hg rfl (fun _ _ h => h)
      case s1 =>
        intro a w' hoff hg hdep K hK
        replace hg : Below w9.heap.size w9 w' := hg
        obtain ⟨v0, e0, f0⟩ := hdep 0 _ 96 (by kernel_rfl) rfl rfl
        obtain rfl : v0 = .agg #[.string r.label, .string r.head, .slice xa r.args.length xc, .string r.agg, .int .i64 r.at', .slice na25 M25.length nc25] := f0
        rw [if_pos (by rfl)]
        go_simp
        have hb := below_alloc w' (.cells #[.string r.label, .string r.head, .slice xa r.args.length xc, .string r.agg, .int .i64 r.at', .slice na25 M25.length nc25] 39)
        have hR : kdRu.R (fun b => b < k17) w' (aheadRu r) (at6v (.string r.label) (.string r.head) (.slice xa r.args.length xc) (.string r.agg) (.int .i64 r.at') (.slice na25 M25.length nc25)) := RepRu.on (fun _ h => h) (fun b hb => hg.block b (by have := KT.out; omega)) R25.out
        have ho := own_new (K := kdRu) (B := w9.heap.size) (cs := #[.string r.label, .string r.head, .slice xa r.args.length xc, .string r.agg, .int .i64 r.at', .slice na25 M25.length nc25]) hg.size (fun b (hb : b < k17) => (by have := KT.out; have := hg.size; omega : b < w'.heap.size)) rfl (fun j hj => match j, hj with | 0, _ => rfl | 1, _ => rfl | 2, _ => rfl | 3, _ => rfl | 4, _ => rfl | 5, _ => rfl) hR
        exact hK.out _ _ (Below.step hg hb) (fun _ => ⟨Nat.lt_of_lt_of_le KT.out (Nat.le_trans hg.size hb.size), ho⟩) (fun j u h => So27.stay _ _ _ _ _ _ _ _ _ _ _ _ _  hb j u h)
      case s2 =>
        intro a w' hoff hg hdep K hK
        replace hg : Below w9.heap.size w9 w' := hg
        have h6 := off_at hoff 6 (v := .pointer (some ⟨k8, 0, none⟩)) (by kernel_rfl) rfl
        rw [if_pos (by rfl)]
        go_simp
        exact hK.out _ _ hg rfl (fun _ _ h => h)
      case s3 =>
        intro a w' hoff hg hdep K hK
        replace hg : Below w9.heap.size w9 w' := hg
        obtain ⟨v2, e2, f2⟩ := hdep 2 _ 98 (by kernel_rfl) rfl rfl
        obtain rfl : v2 = .pointer (some ⟨k8, 2, none⟩) := f2
        rw [if_pos (by rfl)]
        obtain ⟨o0, o1, o2⟩ := BoxPr.cells ((hg.block k8 (by have := KK.out; omega)).trans X4.out)
        go_simp
        exact hK.out _ _ hg rfl (fun _ _ h => h)
      case s4 =>
        intro a w' hoff hg hdep K hK
        replace hg : Below w9.heap.size w9 w' := hg
        obtain ⟨v3, e3, f3⟩ := hdep 3 _ 99 (by kernel_rfl) rfl rfl
        obtain rfl : v3 = .slice (some ⟨rb, ro, none⟩) q.rules.length r1 := f3
        rw [if_pos (by rfl)]
        have hk2 : (1 : Int) ≤ (q.rules.length : Int) := by have := HZP.out; omega
        have hk3 : (q.rules.length : Int) ≤ (r1 : Int) := by have := HCP.out; omega
        go_simp
        exact hK.out _ _ hg rfl (fun _ _ h => h)
      case s5 =>
        intro a w' hoff hg hdep K hK
        replace hg : Below w9.heap.size w9 w' := hg
        obtain ⟨v1, e1, f1⟩ := hdep 1 _ 97 (by kernel_rfl) rfl rfl
        replace f1 : k17 < w'.heap.size ∧ OwnK kdRu (fun b => b < k17) w' w9.heap.size [aheadRu r] v1 := f1 rfl
        obtain ⟨v4, e4, f4⟩ := hdep 4 _ 100 (by kernel_rfl) rfl rfl
        obtain rfl : v4 = .slice (if r1 = 1 then some ⟨rb, ro, none⟩ else some ⟨rb, ro + 6, none⟩) (q.rules.length - 1) (r1 - 1) := f4
        have hrr : RepRus (fun b => b < k17) w' q.rules (.slice (some ⟨rb, ro, none⟩) q.rules.length r1) := RepRus.on (fun b (hb : b < k8) => (by have := KK.out; omega : b < k17)) (fun b (hb : b < k8) => hg.block b (by have := KK.out; omega)) G4.out.2.2
        have hown0 := f1.2
        obtain ⟨v', w6, hrun, hown, hgr⟩ := own_manyS (K := kdRu) (L := [aheadRu r]) (m := q.rules.drop 1) (lv := v1) hown0 (SlG.rest hrr HZP.out HZP.out) (fun b (hb : b < k17) => ⟨(by have := KT.out; have := hg.size; omega : b < w'.heap.size), fun e => by have := (OwnK.lies hown0 b e).1; have := KT.out; omega⟩) hg.size (by have := HLN.out; simp; omega) 27
        refine step_append_by rfl (.tmp 97) (.tmp 100) 27 rfl (by simp [Act.eval, e1]) (by simp [Act.eval, e4]) hrun ?_
        have hG2 : Below w9.heap.size w9 w6 := ⟨hgr.os.trans hg.os, hgr.tape.trans hg.tape, hgr.output.trans hg.output, Nat.le_trans hg.size hgr.size, fun j hj => (hgr.block j (Nat.lt_of_lt_of_le hj hg.size) (fun e => by have := (OwnK.lies hown0 j e.symm).1; omega)).trans (hg.block j hj)⟩
        exact hK.out _ _ hG2 (fun _ => hown) (fun j u hne h => So27.pass _ _ _ _ _ _ _ _ _ _ _ _ _  j u hne h)
      case s6 =>
        intro ph a w' hoff hg hdep K hK
        have h17 := off_at hoff 17 (v := .pointer (some ⟨k17, 0, none⟩)) (by kernel_rfl) rfl
        rw [if_pos (by rfl)]
        go_simp
        exact hK.out _ _ hg rfl (fun _ _ h => h)
      case last =>
        intro a w' hoff hg hf
        replace hg : Below w9.heap.size w9 w' := hg
        obtain ⟨v0, e0, f0⟩ := hf 0 _ 96 (by decide) rfl rfl
        obtain rfl : v0 = .agg #[.string r.label, .string r.head, .slice xa r.args.length xc, .string r.agg, .int .i64 r.at', .slice na25 M25.length nc25] := f0
        obtain ⟨v1, e1, f1⟩ := hf 1 _ 97 (by decide) rfl rfl
        clear f1
        obtain ⟨v2, e2, f2⟩ := hf 2 _ 98 (by decide) rfl rfl
        obtain rfl : v2 = .pointer (some ⟨k8, 2, none⟩) := f2
        obtain ⟨v3, e3, f3⟩ := hf 3 _ 99 (by decide) rfl rfl
        obtain rfl : v3 = .slice (some ⟨rb, ro, none⟩) q.rules.length r1 := f3
        obtain ⟨v4, e4, f4⟩ := hf 4 _ 100 (by decide) rfl rfl
        obtain rfl : v4 = .slice (if r1 = 1 then some ⟨rb, ro, none⟩ else some ⟨rb, ro + 6, none⟩) (q.rules.length - 1) (r1 - 1) := f4
        obtain ⟨v5, e5, f5⟩ := hf 5 _ 101 (by decide) rfl rfl
        replace f5 : OwnK kdRu (fun b => b < k17) w' w9.heap.size ([aheadRu r] ++ q.rules.drop 1) v5 := f5 rfl
        obtain ⟨v6, e6, f6⟩ := hf 6 _ 102 (by decide) rfl rfl
        obtain rfl : v6 = .pointer (some ⟨k17, 2, none⟩) := f6
        obtain ⟨M27, hM⟩ : ∃ M, ([aheadRu r] ++ q.rules.drop 1) = M := ⟨_, rfl⟩
        rw [hM] at f5
        have hml : M27.length ≤ 100000 := by rw [← hM]; have := HLN.out; simp; omega
        obtain ⟨na27, nc27, rfl⟩ := OwnK.form f5
        have hy : BoxPr w' k17 (.slice d0 q.decls.length d1) (.slice fa0 q.facts.length fa1) (.slice (some ⟨rb, ro, none⟩) q.rules.length r1) := (hg.block k17 KT.out).trans X17.out
        obtain ⟨o0, o1, o2⟩ := hy.cells
        have z2 := frozen_of_row w' k17 2 _ _ hy
        rw [if_pos (by rfl)]
        rw [hoff.sets [(96, .agg #[.string r.label, .string r.head, .slice xa r.args.length xc, .string r.agg, .int .i64 r.at', .slice na25 M25.length nc25]), (97, v1), (98, .pointer (some ⟨k8, 2, none⟩)), (99, .slice (some ⟨rb, ro, none⟩) q.rules.length r1), (100, .slice (if r1 = 1 then some ⟨rb, ro, none⟩ else some ⟨rb, ro + 6, none⟩) (q.rules.length - 1) (r1 - 1)), (101, .slice na27 M27.length nc27), (102, .pointer (some ⟨k17, 2, none⟩))] (by kernel_rfl) (by intro p hp; simp only [List.mem_cons, List.not_mem_nil, or_false] at hp; rcases hp with rfl | rfl | rfl | rfl | rfl | rfl | rfl <;> assumption)]
        clear hoff hf e0 e1 e2 e3 e4 e5 e6
        simp only [List.foldl_cons, List.foldl_nil, List.setIfInBounds_toArray, List.set_cons_zero, List.set_cons_succ]
        generalize (if r1 = 1 then (some ⟨rb, ro, none⟩ : Option Addr) else some ⟨rb, ro + 6, none⟩) = adr at *
        go_simp
        have hKK := KK.out
        have hgs := hg.size
        have hbl : ∀ b, b < k17 → (w'.setCell ⟨k17, 2, none⟩ (.slice na27 M27.length nc27)).heap[b]? = w9.heap[b]? := fun b hb => (Below.heap_setCell _ _ _ _ (by simp; omega)).trans (hg.block b (by omega))
        have hsz : (w'.setCell ⟨k17, 2, none⟩ (.slice na27 M27.length nc27)).heap.size = w'.heap.size := by simp [World.setCell]
        have ho : OwnK kdRu (fun b => b < k17) (w'.setCell ⟨k17, 2, none⟩ (.slice na27 M27.length nc27)) w9.heap.size M27 (.slice na27 M27.length nc27) := OwnK.on f5 (fun _ h => h) (fun b (hb : b < k17) => Below.heap_setCell _ _ _ _ (by simp; omega)) (fun b h1 _ _ => Below.heap_setCell _ _ _ _ (by simp; omega))
        have XN : Hid (BoxPr (w'.setCell ⟨k17, 2, none⟩ (.slice na27 M27.length nc27)) k17 (.slice d0 q.decls.length d1) (.slice fa0 q.facts.length fa1) (.slice na27 M27.length nc27)) := heap_setCell_same _ _ _ _ _ _ hy
        have GN : Hid (RepPr (fun b => b < (w'.setCell ⟨k17, 2, none⟩ (.slice na27 M27.length nc27)).heap.size) (w'.setCell ⟨k17, 2, none⟩ (.slice na27 M27.length nc27)) ⟨q.decls, q.facts, M27⟩ (.slice d0 q.decls.length d1) (.slice fa0 q.facts.length fa1) (.slice na27 M27.length nc27)) := ⟨RepDes.on (fun b (hb : b < k8) => (by omega : b < (w'.setCell ⟨k17, 2, none⟩ (.slice na27 M27.length nc27)).heap.size)) (fun b (hb : b < k8) => hbl b (by omega)) G4.out.1, RepFas.on (fun b (hb : b < k8) => (by omega : b < (w'.setCell ⟨k17, 2, none⟩ (.slice na27 M27.length nc27)).heap.size)) (fun b (hb : b < k8) => hbl b (by omega)) G4.out.2.1, OwnK.slg' ho (fun b (hb : b < k17) => (by omega : b < (w'.setCell ⟨k17, 2, none⟩ (.slice na27 M27.length nc27)).heap.size)) (fun b h1 h2 => h2) hml⟩
        have BW10 : Hid (Below W.heap.size W (w'.setCell ⟨k17, 2, none⟩ (.slice na27 M27.length nc27))) := Below.setCell (p := ⟨k17, 2, none⟩) (Below.trans BW.out (hg.mono (show W.heap.size ≤ w9.heap.size by omega))) (by simp; omega) _
        have HM27 : Hid (M27 = aheadRu r :: q.rules.drop 1) := hM.symm
        clear hM hml hy hKK hgs hbl hsz ho o0 o1 o2 z2 hg f5 KT KK X4 X17 G4 R25 Y9 BW
        generalize (w'.setCell ⟨k17, 2, none⟩ (.slice na27 M27.length nc27)) = w10 at *
        obtain ⟨o0, o1, o2⟩ := XN.out.cells
        go_wp2_with fail
        refine (check_any ⟨q.decls, q.facts, M27⟩ (fun b => b < w10.heap.size) w10 _ _ _ (fun _ h => h) GN.out).mono ?_
        rw [show checkZ ⟨q.decls, q.facts, M27⟩ = (0, -1) by rw [HM27.out]; exact check_ahead HQR.out HRC.out HNS.out HLI.out HOK.out]
        rintro e w11 ⟨rfl, hb⟩
        have BW11 := Lib.hid (Below.step BW10.out hb)
        clear hb o0 o1 o2
        go_wp2_with fail
        go_ret
        exact ⟨rfl, BW11.out⟩

end Go.Proofs.Ytkaiihoijcpldaa.scopeOrder
