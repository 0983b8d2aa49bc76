/-
  ScopeFacts, the walk: for any raw rules and facts and any number the law returns true.
-/
import Derived.Test.YtkaiihoijcpldaaW16
import Derived.Test.YtkaiihoijcpldaaSixFacts
import Derived.Test.YtkaiihoijcpldaaW04
import Derived.Test.YtkaiihoijcpldaaRowManyS
namespace Go.Proofs.Ytkaiihoijcpldaa.scopeFacts
open Go.RowKit

def Sf7 (B kT kS : Nat) (y : Fa) (z : V) (xb xo xc : Nat) (za : Option Addr) (zc : Nat) (ph : Bool) (w : World) : Nat → Value → Prop
  | 0, v => v = .pointer (some ⟨kS, 1, none⟩)
  | 1, v => v = .slice (some ⟨xb, xo, none⟩) y.args.length xc
  | 2, v => ph = false → kT < w.heap.size ∧ OwnK kdV (fun b => b < kT) w B y.args v
  | 3, v => v = .pointer (some ⟨kS, 1, none⟩)
  | 4, v => v = .slice (some ⟨xb, xo, none⟩) y.args.length xc
  | 5, v => v = .pointer (some ⟨xb, xo, none⟩)
  | 6, v => v = .agg #[.int .i64 z.kind, .int .i64 z.num, .string z.text, .slice za z.list.length zc]
  | 7, v => ph = false → RowOf 0 (.cells #[.int .i64 z.kind, .int .i64 z.num, .string z.text, .slice za z.list.length zc] 46 (0, 0)) w v
  | 8, v => ph = true → OwnK kdV (fun b => b < kT) w B (y.args ++ [z]) v
  | 9, v => v = .pointer (some ⟨kT, 1, none⟩)
  | _ + 10, _ => True
theorem Sf7.stay (B kT kS : Nat) (y : Fa) (z : V) (xb xo xc : Nat) (za : Option Addr) (zc : Nat) {w w' : World} (hb : Below w.heap.size w w') : ∀ i v, Sf7 B kT kS y z xb xo xc za zc false w i v → Sf7 B kT kS y z xb xo xc za zc false w' i v
  | 0, _, h => h
  | 1, _, h => h
  | 2, _, h => fun e => (fun h => ⟨Nat.lt_of_lt_of_le h.1 hb.size, OwnK.on h.2 (fun _ h => h) (fun j hj => hb.block j (Nat.lt_trans hj h.1)) (fun j _ hj _ => hb.block j hj)⟩) (h e)
  | 3, _, h => h
  | 4, _, h => h
  | 5, _, h => h
  | 6, _, h => h
  | 7, _, h => fun e => (fun h => RowOf.stay hb h) (h e)
  | 8, _, _ => fun e => absurd e (by decide)
  | 9, _, h => h
  | _ + 10, _, _ => trivial
theorem Sf7.pass (B kT kS : Nat) (y : Fa) (z : V) (xb xo xc : Nat) (za : Option Addr) (zc : Nat) {w w' : World} : ∀ i v, i ≠ 8 → Sf7 B kT kS y z xb xo xc za zc false w i v → Sf7 B kT kS y z xb xo xc za zc true w' i v
  | 0, _, _, h => h
  | 1, _, _, h => h
  | 2, _, _, h => fun e => absurd e (by decide)
  | 3, _, _, h => h
  | 4, _, _, h => h
  | 5, _, _, h => h
  | 6, _, _, h => h
  | 7, _, _, h => fun e => absurd e (by decide)
  | 8, _, hne, _ => absurd rfl hne
  | 9, _, _, h => h
  | _ + 10, _, _, _ => trivial
def Sf9 (B kT kS : Nat) (q : Pr) (fa0 : Option Addr) (fa1 : Nat) (y : Fa) (xc : Nat) (xb xo : Nat) (ph : Bool) (w : World) : Nat → Value → Prop
  | 0, v => v = .pointer (some ⟨kS, 1, none⟩)
  | 1, v => v = .slice fa0 q.facts.length fa1
  | 2, v => ph = false → kT < w.heap.size ∧ OwnK kdFa (fun b => b < kT) w B q.facts v
  | 3, v => v = .agg #[.string noneName, .slice (some ⟨xb, xo, none⟩) y.args.length xc]
  | 4, v => ph = false → RowOf 0 (.cells #[.string noneName, .slice (some ⟨xb, xo, none⟩) y.args.length xc] 56 (0, 0)) w v
  | 5, v => ph = true → OwnK kdFa (fun b => b < kT) w B (q.facts ++ [⟨noneName, y.args⟩]) v
  | 6, v => v = .pointer (some ⟨kT, 1, none⟩)
  | _ + 7, _ => True
theorem Sf9.stay (B kT kS : Nat) (q : Pr) (fa0 : Option Addr) (fa1 : Nat) (y : Fa) (xc : Nat) (xb xo : Nat) {w w' : World} (hb : Below w.heap.size w w') : ∀ i v, Sf9 B kT kS q fa0 fa1 y xc xb xo false w i v → Sf9 B kT kS q fa0 fa1 y xc xb xo false w' i v
  | 0, _, h => h
  | 1, _, h => h
  | 2, _, h => fun e => (fun h => ⟨Nat.lt_of_lt_of_le h.1 hb.size, OwnK.on h.2 (fun _ h => h) (fun j hj => hb.block j (Nat.lt_trans hj h.1)) (fun j _ hj _ => hb.block j hj)⟩) (h e)
  | 3, _, h => h
  | 4, _, h => fun e => (fun h => RowOf.stay hb h) (h e)
  | 5, _, _ => fun e => absurd e (by decide)
  | 6, _, h => h
  | _ + 7, _, _ => trivial
theorem Sf9.pass (B kT kS : Nat) (q : Pr) (fa0 : Option Addr) (fa1 : Nat) (y : Fa) (xc : Nat) (xb xo : Nat) {w w' : World} : ∀ i v, i ≠ 5 → Sf9 B kT kS q fa0 fa1 y xc xb xo false w i v → Sf9 B kT kS q fa0 fa1 y xc xb xo true w' i v
  | 0, _, _, h => h
  | 1, _, _, h => h
  | 2, _, _, h => fun e => absurd e (by decide)
  | 3, _, _, h => h
  | 4, _, _, h => fun e => absurd e (by decide)
  | 5, _, hne, _ => absurd rfl hne
  | 6, _, _, h => h
  | _ + 7, _, _, _ => trivial
def Sf11 (B kT kS : Nat) (q : Pr) (fa0 : Option Addr) (fa1 : Nat) (y : Fa) (_xc : Nat) (M7 : List V) (na7 : Option Addr) (nc7 : Nat) (ph : Bool) (w : World) : Nat → Value → Prop
  | 0, v => v = .pointer (some ⟨kS, 1, none⟩)
  | 1, v => v = .slice fa0 q.facts.length fa1
  | 2, v => ph = false → kT < w.heap.size ∧ OwnK kdFa (fun b => b < kT) w B q.facts v
  | 3, v => v = .agg #[.string y.name, .slice na7 M7.length nc7]
  | 4, v => ph = false → RowOf 0 (.cells #[.string y.name, .slice na7 M7.length nc7] 56 (0, 0)) w v
  | 5, v => ph = true → OwnK kdFa (fun b => b < kT) w B (q.facts ++ [⟨y.name, M7⟩]) v
  | 6, v => v = .pointer (some ⟨kT, 1, none⟩)
  | _ + 7, _ => True
theorem Sf11.stay (B kT kS : Nat) (q : Pr) (fa0 : Option Addr) (fa1 : Nat) (y : Fa) (xc : Nat) (M7 : List V) (na7 : Option Addr) (nc7 : Nat) {w w' : World} (hb : Below w.heap.size w w') : ∀ i v, Sf11 B kT kS q fa0 fa1 y xc M7 na7 nc7 false w i v → Sf11 B kT kS q fa0 fa1 y xc M7 na7 nc7 false w' i v
  | 0, _, h => h
  | 1, _, h => h
  | 2, _, h => fun e => (fun h => ⟨Nat.lt_of_lt_of_le h.1 hb.size, OwnK.on h.2 (fun _ h => h) (fun j hj => hb.block j (Nat.lt_trans hj h.1)) (fun j _ hj _ => hb.block j hj)⟩) (h e)
  | 3, _, h => h
  | 4, _, h => fun e => (fun h => RowOf.stay hb h) (h e)
  | 5, _, _ => fun e => absurd e (by decide)
  | 6, _, h => h
  | _ + 7, _, _ => trivial
theorem Sf11.pass (B kT kS : Nat) (q : Pr) (fa0 : Option Addr) (fa1 : Nat) (y : Fa) (xc : Nat) (M7 : List V) (na7 : Option Addr) (nc7 : Nat) {w w' : World} : ∀ i v, i ≠ 5 → Sf11 B kT kS q fa0 fa1 y xc M7 na7 nc7 false w i v → Sf11 B kT kS q fa0 fa1 y xc M7 na7 nc7 true w' i v
  | 0, _, _, h => h
  | 1, _, _, h => h
  | 2, _, _, h => fun e => absurd e (by decide)
  | 3, _, _, h => h
  | 4, _, _, h => fun e => absurd e (by decide)
  | 5, _, hne, _ => absurd rfl hne
  | 6, _, _, h => h
  | _ + 7, _, _, _ => trivial
def Sf13 (B kT kS : Nat) (q : Pr) (dd : De) (db dxo d1 ip : Nat) (which : Int) (ph : Bool) (w : World) : Nat → Value → Prop
  | 0, v => v = .pointer (some ⟨kS, 0, none⟩)
  | 1, v => v = .slice (some ⟨db, dxo, none⟩) q.decls.length d1
  | 2, v => ph = false → kT < w.heap.size ∧ OwnK kdDe (fun b => b < kT) w B q.decls v
  | 3, v => v = .pointer (some ⟨kS, 0, none⟩)
  | 4, v => v = .slice (some ⟨db, dxo, none⟩) q.decls.length d1
  | 5, v => v = .int .i64 which
  | 6, v => v = .int .i64 (ip : Int)
  | 7, v => v = .pointer (some ⟨db, dxo + ip * 2, none⟩)
  | 8, v => v = .agg #[.string dd.name, .int .i64 dd.arity]
  | 9, v => ph = false → RowOf 0 (.cells #[.string dd.name, .int .i64 dd.arity] 62 (0, 0)) w v
  | 10, v => ph = true → OwnK kdDe (fun b => b < kT) w B (q.decls ++ [dd]) v
  | 11, v => v = .pointer (some ⟨kT, 0, none⟩)
  | _ + 12, _ => True
theorem Sf13.stay (B kT kS : Nat) (q : Pr) (dd : De) (db dxo d1 ip : Nat) (which : Int) {w w' : World} (hb : Below w.heap.size w w') : ∀ i v, Sf13 B kT kS q dd db dxo d1 ip which false w i v → Sf13 B kT kS q dd db dxo d1 ip which false w' i v
  | 0, _, h => h
  | 1, _, h => h
  | 2, _, h => fun e => (fun h => ⟨Nat.lt_of_lt_of_le h.1 hb.size, OwnK.on h.2 (fun _ h => h) (fun j hj => hb.block j (Nat.lt_trans hj h.1)) (fun j _ hj _ => hb.block j hj)⟩) (h e)
  | 3, _, h => h
  | 4, _, h => h
  | 5, _, h => h
  | 6, _, h => h
  | 7, _, h => h
  | 8, _, h => h
  | 9, _, h => fun e => (fun h => RowOf.stay hb h) (h e)
  | 10, _, _ => fun e => absurd e (by decide)
  | 11, _, h => h
  | _ + 12, _, _ => trivial
theorem Sf13.pass (B kT kS : Nat) (q : Pr) (dd : De) (db dxo d1 ip : Nat) (which : Int) {w w' : World} : ∀ i v, i ≠ 10 → Sf13 B kT kS q dd db dxo d1 ip which false w i v → Sf13 B kT kS q dd db dxo d1 ip which true w' i v
  | 0, _, _, h => h
  | 1, _, _, h => h
  | 2, _, _, h => fun e => absurd e (by decide)
  | 3, _, _, h => h
  | 4, _, _, h => h
  | 5, _, _, h => h
  | 6, _, _, h => h
  | 7, _, _, h => h
  | 8, _, _, h => h
  | 9, _, _, h => fun e => absurd e (by decide)
  | 10, _, hne, _ => absurd rfl hne
  | 11, _, _, h => h
  | _ + 12, _, _, _ => trivial
def Sf22 (B kT kS : Nat) (q : Pr) (fa0 : Option Addr) (fa1 : Nat) (y : Fa) (xc : Nat) (xb xo : Nat) (ph : Bool) (w : World) : Nat → Value → Prop
  | 0, v => v = .pointer (some ⟨kS, 1, none⟩)
  | 1, v => v = .slice fa0 q.facts.length fa1
  | 2, v => ph = false → kT < w.heap.size ∧ OwnK kdFa (fun b => b < kT) w B q.facts v
  | 3, v => v = .agg #[.string y.name, .slice (some ⟨xb, xo, none⟩) y.args.length xc]
  | 4, v => ph = false → RowOf 0 (.cells #[.string y.name, .slice (some ⟨xb, xo, none⟩) y.args.length xc] 56 (0, 0)) w v
  | 5, v => ph = true → OwnK kdFa (fun b => b < kT) w B (q.facts ++ [y]) v
  | 6, v => v = .pointer (some ⟨kT, 1, none⟩)
  | _ + 7, _ => True
theorem Sf22.stay (B kT kS : Nat) (q : Pr) (fa0 : Option Addr) (fa1 : Nat) (y : Fa) (xc : Nat) (xb xo : Nat) {w w' : World} (hb : Below w.heap.size w w') : ∀ i v, Sf22 B kT kS q fa0 fa1 y xc xb xo false w i v → Sf22 B kT kS q fa0 fa1 y xc xb xo false w' i v
  | 0, _, h => h
  | 1, _, h => h
  | 2, _, h => fun e => (fun h => ⟨Nat.lt_of_lt_of_le h.1 hb.size, OwnK.on h.2 (fun _ h => h) (fun j hj => hb.block j (Nat.lt_trans hj h.1)) (fun j _ hj _ => hb.block j hj)⟩) (h e)
  | 3, _, h => h
  | 4, _, h => fun e => (fun h => RowOf.stay hb h) (h e)
  | 5, _, _ => fun e => absurd e (by decide)
  | 6, _, h => h
  | _ + 7, _, _ => trivial
theorem Sf22.pass (B kT kS : Nat) (q : Pr) (fa0 : Option Addr) (fa1 : Nat) (y : Fa) (xc : Nat) (xb xo : Nat) {w w' : World} : ∀ i v, i ≠ 5 → Sf22 B kT kS q fa0 fa1 y xc xb xo false w i v → Sf22 B kT kS q fa0 fa1 y xc xb xo true w' i v
  | 0, _, _, h => h
  | 1, _, _, h => h
  | 2, _, _, h => fun e => absurd e (by decide)
  | 3, _, _, h => h
  | 4, _, _, h => fun e => absurd e (by decide)
  | 5, _, hne, _ => absurd rfl hne
  | 6, _, _, h => h
  | _ + 7, _, _, _ => trivial

set_option maxRecDepth 100000 in
set_option maxHeartbeats 16000000 in
theorem walk (rules : List (List Rw)) (facts : List Rw) (which : Int) (W : World) (va vb : Value) (ga : RepRwss (fun k => k < W.heap.size) W rules va) (gb : RepRws (fun k => k < W.heap.size) W facts vb) (hw : I64 which) :
    Calls Try.prog 7 #[va, vb, .int .i64 which] W fun e W' => e = .returned (.bool true) ∧ Below W.heap.size W W' := by
  have GA := Lib.hid ga; have GB := Lib.hid gb; have HW := Lib.hid hw
  clear ga gb hw
  go_enter Try.func7, Try.ntmps7
  go_wp2_with fail
  refine (awake6_any W).mono ?_
  rintro e w1 ⟨rfl, hb⟩
  have B1 := Lib.hid hb
  clear hb
  go_wp2_with fail
  refine (program_any rules facts (fun k => k < W.heap.size) w1 va vb (fun k hk => Nat.lt_of_lt_of_le hk B1.out.size) (SlG.on (fun _ h => h) (fun k hk => B1.out.block k hk) (fun x _ c h => SlG.on (fun _ h => h) (fun k hk => B1.out.block k hk) (fun _ _ _ h => h) h) GA.out) (SlG.on (fun _ h => h) (fun k hk => B1.out.block k hk) (fun _ _ _ h => h) GB.out)).mono ?_
  rintro e w2 ⟨v0, v1, v2, rfl, hrep, hb⟩
  have hC1 := check_none rules facts which
  have hC2 := check_long rules facts which
  have hC3 := check_twice rules facts which
  have hC4 := check_same rules facts which
  have hyl : 1 ≤ (fact0 which).args.length ∧ (fact0 which).args.length ≤ 3 := by
    obtain ⟨i, hi, -, -, h2⟩ := fact0_name which
    have := decl6_ok hi
    omega
  unfold noneFa at hC1
  unfold longFa at hC2
  have HDE : Hid ((progZ rules facts).decls = decls6) := rfl
  have HLN : Hid ((progZ rules facts).facts.length ≤ 12) := facts12 rules facts
  generalize progZ rules facts = q at *
  obtain ⟨d0, d1, rfl⟩ := SlG.form hrep.1
  obtain ⟨fa0, fa1, rfl⟩ := SlG.form hrep.2.1
  obtain ⟨r0, r1, rfl⟩ := SlG.form hrep.2.2
  have HRP := Lib.hid hrep; have B2 := Lib.hid (Below.step B1.out hb)
  clear hrep hb B1 GA GB
  go_upto_region 3 with fail
  have mk := boxPr_new w2 (.slice d0 q.decls.length d1) (.slice fa0 q.facts.length fa1) (.slice r0 q.rules.length r1)
  have da := below_alloc w2 (.cells #[.slice d0 q.decls.length d1, .slice fa0 q.facts.length fa1, .slice r0 q.rules.length r1] 29)
  have sa := World.size_alloc w2 (.cells #[.slice d0 q.decls.length d1, .slice fa0 q.facts.length fa1, .slice r0 q.rules.length r1] 29)
  generalize w2.alloc (.cells #[.slice d0 q.decls.length d1, .slice fa0 q.facts.length fa1, .slice r0 q.rules.length r1] 29) = w3 at *
  have GQ : Hid (RepPr (fun k => k < w2.heap.size) w3 q (.slice d0 q.decls.length d1) (.slice fa0 q.facts.length fa1) (.slice r0 q.rules.length r1)) := RepPr.on (fun k hk => hk.2) (fun k hk => da.block k hk.2) HRP.out
  have B3 := Lib.hid (Below.step B2.out da)
  obtain ⟨k8, hk8⟩ : ∃ k, w2.heap.size = k := ⟨_, rfl⟩
  have HWK : Hid (W.heap.size ≤ k8) := by show _ ≤ _; rw [← hk8]; exact B2.out.size
  rw [hk8] at mk GQ sa ⊢
  have X3 := Lib.hid mk
  have K3 : Hid (k8 < w3.heap.size) := by show _ < _; omega
  clear mk da sa hk8 HRP B2
  go_wp2_with fail
  refine (fact_any ⟨0, which, 0, 0, 0, 0⟩ w3 ⟨small64 ⟨Int.le_refl 0, (by omega : (0 : Int) ≤ 100)⟩, HW.out, small64 ⟨Int.le_refl 0, (by omega : (0 : Int) ≤ 100)⟩, small64 ⟨Int.le_refl 0, (by omega : (0 : Int) ≤ 100)⟩, small64 ⟨Int.le_refl 0, (by omega : (0 : Int) ≤ 100)⟩, small64 ⟨Int.le_refl 0, (by omega : (0 : Int) ≤ 100)⟩⟩).mono ?_
  rintro e w4 ⟨sl, rfl, hrep, hb⟩
  change RepFa _ _ (fact0 which) (.string (fact0 which).name) _ at hrep
  rw [show (factZ ⟨0, which, 0, 0, 0, 0⟩).name = (fact0 which).name from rfl]
  generalize fact0 which = y at *
  have HC1 := Lib.hid hC1; have HC2 := Lib.hid hC2; have HC3 := Lib.hid hC3; have HC4 := Lib.hid hC4; have HYL := Lib.hid hyl
  clear hC1 hC2 hC3 hC4 hyl
  have h3 := hb.size
  obtain ⟨xa, _, _, xc, rfl, -⟩ := id hrep.2.2
  have HY := Lib.hid (RepFa.on (S' := fun k => k < w4.heap.size) (fun k hk => hk.2) (fun _ _ => rfl) hrep)
  have X4 := Lib.hid (X3.out.on hb); have B4 := Lib.hid (Below.step B3.out hb)
  have G4 : Hid (RepPr (fun k => k < k8) w4 q (.slice d0 q.decls.length d1) (.slice fa0 q.facts.length fa1) (.slice r0 q.rules.length r1)) := RepPr.on (fun _ h => h) (fun k hk => hb.block k (Nat.lt_trans hk K3.out)) GQ.out
  have K4 : Hid (k8 < w4.heap.size) := Nat.lt_of_lt_of_le K3.out h3
  clear hb hrep h3 GQ X3 B3 K3
  have KK : Hid (W.heap.size ≤ k8 ∧ k8 < w4.heap.size) := ⟨HWK.out, K4.out⟩
  have BW := B4
  clear HWK K4 B4
  go_upto_region 4 with fail
  have mk : BoxFa (w4.alloc (.cells #[.string y.name, .slice xa y.args.length xc] 56)) w4.heap.size (.string y.name) (.slice xa y.args.length xc) := alloc_new' w4 _
  have da := below_alloc w4 (.cells #[.string y.name, .slice xa y.args.length xc] 56)
  have sa := World.size_alloc w4 (.cells #[.string y.name, .slice xa y.args.length xc] 56)
  generalize w4.alloc (.cells #[.string y.name, .slice xa y.args.length xc] 56) = w5 at *
  obtain ⟨k9, hkN⟩ : ∃ k, w4.heap.size = k := ⟨_, rfl⟩
  have BW2 := Lib.hid (Below.step BW.out da)
  have hKK := KK.out
  rw [hkN] at mk da sa hKK ⊢
  replace X4 : Hid (BoxPr w5 k8 (.slice d0 q.decls.length d1) (.slice fa0 q.facts.length fa1) (.slice r0 q.rules.length r1)) := (da.block k8 (by omega)).trans X4.out
  replace G4 : Hid (RepPr (fun b => b < k8) w5 q (.slice d0 q.decls.length d1) (.slice fa0 q.facts.length fa1) (.slice r0 q.rules.length r1)) := RepPr.on (fun _ h => h) (fun b hb' => da.block b (by omega)) G4.out
  rw [hkN] at HY
  replace HY : Hid (RepFa (fun b => b < k9) w5 y (.string y.name) (.slice xa y.args.length xc)) := RepFa.on (fun _ h => h) (fun b hb' => da.block b (by omega)) HY.out
  have KK2 : Hid (W.heap.size ≤ k8 ∧ k8 < k9 ∧ k9 < w5.heap.size) := by refine ⟨?_, ?_, ?_⟩ <;> omega
  replace KK := KK2
  replace BW := BW2
  have Y9 := Lib.hid mk
  clear mk da sa hkN hKK KK2 BW2
  obtain ⟨y0, y1⟩ := Y9.out.cells
  have zt := fun i => frozen_of_row (w5.alloc (.cells #[.string y.name, .slice xa y.args.length xc] 56)) w5.heap.size i _ _ (alloc_new' w5 _)
  have z0 := zt 0
  clear zt
  go_upto_region 6 with fail
  have mk : BoxFa (w5.alloc (.cells #[.string ⟨#[110, 111, 110, 101]⟩, .slice xa y.args.length xc] 56)) w5.heap.size (.string noneName) (.slice xa y.args.length xc) := alloc_new' w5 _
  have da := below_alloc w5 (.cells #[.string ⟨#[110, 111, 110, 101]⟩, .slice xa y.args.length xc] 56)
  have sa := World.size_alloc w5 (.cells #[.string ⟨#[110, 111, 110, 101]⟩, .slice xa y.args.length xc] 56)
  generalize w5.alloc (.cells #[.string ⟨#[110, 111, 110, 101]⟩, .slice xa y.args.length xc] 56) = w6 at *
  obtain ⟨k10, hkN⟩ : ∃ k, w5.heap.size = k := ⟨_, rfl⟩
  have BW2 := Lib.hid (Below.step BW.out da)
  have hKK := KK.out
  rw [hkN] at mk da sa hKK ⊢
  replace X4 : Hid (BoxPr w6 k8 (.slice d0 q.decls.length d1) (.slice fa0 q.facts.length fa1) (.slice r0 q.rules.length r1)) := (da.block k8 (by omega)).trans X4.out
  replace G4 : Hid (RepPr (fun b => b < k8) w6 q (.slice d0 q.decls.length d1) (.slice fa0 q.facts.length fa1) (.slice r0 q.rules.length r1)) := RepPr.on (fun _ h => h) (fun b hb' => da.block b (by omega)) G4.out
  replace HY : Hid (RepFa (fun b => b < k9) w6 y (.string y.name) (.slice xa y.args.length xc)) := RepFa.on (fun _ h => h) (fun b hb' => da.block b (by omega)) HY.out
  replace Y9 : Hid (BoxFa w6 k9 (.string y.name) (.slice xa y.args.length xc)) := (da.block k9 (by omega)).trans Y9.out
  have KK2 : Hid (W.heap.size ≤ k8 ∧ k8 < k9 ∧ k9 < k10 ∧ k10 < w6.heap.size) := by refine ⟨?_, ?_, ?_, ?_⟩ <;> omega
  replace KK := KK2
  replace BW := BW2
  have Y10 := Lib.hid mk
  clear mk da sa hkN hKK KK2 BW2
  clear y0 y1 z0
  obtain ⟨y0, y1⟩ := Y9.out.cells
  go_upto_region 7 with fail
  have mk : BoxFa (w6.alloc (.cells #[.string y.name, .slice xa y.args.length xc] 56)) w6.heap.size (.string y.name) (.slice xa y.args.length xc) := alloc_new' w6 _
  have da := below_alloc w6 (.cells #[.string y.name, .slice xa y.args.length xc] 56)
  have sa := World.size_alloc w6 (.cells #[.string y.name, .slice xa y.args.length xc] 56)
  generalize w6.alloc (.cells #[.string y.name, .slice xa y.args.length xc] 56) = w7 at *
  obtain ⟨k11, hkN⟩ : ∃ k, w6.heap.size = k := ⟨_, rfl⟩
  have BW2 := Lib.hid (Below.step BW.out da)
  have hKK := KK.out
  rw [hkN] at mk da sa hKK ⊢
  replace X4 : Hid (BoxPr w7 k8 (.slice d0 q.decls.length d1) (.slice fa0 q.facts.length fa1) (.slice r0 q.rules.length r1)) := (da.block k8 (by omega)).trans X4.out
  replace G4 : Hid (RepPr (fun b => b < k8) w7 q (.slice d0 q.decls.length d1) (.slice fa0 q.facts.length fa1) (.slice r0 q.rules.length r1)) := RepPr.on (fun _ h => h) (fun b hb' => da.block b (by omega)) G4.out
  replace HY : Hid (RepFa (fun b => b < k9) w7 y (.string y.name) (.slice xa y.args.length xc)) := RepFa.on (fun _ h => h) (fun b hb' => da.block b (by omega)) HY.out
  replace Y9 : Hid (BoxFa w7 k9 (.string y.name) (.slice xa y.args.length xc)) := (da.block k9 (by omega)).trans Y9.out
  replace Y10 : Hid (BoxFa w7 k10 (.string noneName) (.slice xa y.args.length xc)) := (da.block k10 (by omega)).trans Y10.out
  have KK2 : Hid (W.heap.size ≤ k8 ∧ k8 < k9 ∧ k9 < k10 ∧ k10 < k11 ∧ k11 < w7.heap.size) := by refine ⟨?_, ?_, ?_, ?_, ?_⟩ <;> omega
  replace KK := KK2
  replace BW := BW2
  have Y11 := Lib.hid mk
  clear mk da sa hkN hKK KK2 BW2
  clear y0 y1
  obtain ⟨z, hz⟩ : ∃ z, y.args.getD 0 (.mk 0 0 ⟨#[]⟩ []) = z := ⟨_, rfl⟩
  obtain ⟨xb, xo, hxa, hxb, za, zc, zr0, zr1, zr2, zr3, zrep⟩ : ∃ (b o : Nat), xa = some ⟨b, o, none⟩ ∧ b < k9 ∧ ∃ (za : Option Addr) (zc : Nat), w7.cell? ⟨b, o, none⟩ = some (.int .i64 z.kind) ∧ w7.cell? ⟨b, o + 1, none⟩ = some (.int .i64 z.num) ∧ w7.cell? ⟨b, o + 2, none⟩ = some (.string z.text) ∧ w7.cell? ⟨b, o + 3, none⟩ = some (.slice za z.list.length zc) ∧ RepG (fun b => b < k9) w7 z (.int .i64 z.kind) (.int .i64 z.num) (.string z.text) (.slice za z.list.length zc) := by
    obtain ⟨a, b, o, cap, e, h6, h7, h8, h9, h10⟩ := HY.out.2.2
    cases e
    have hl := HYL.out.1
    obtain ⟨x0, x1, x2, x3, g0, g1, g2, g3, g⟩ := h10 0 (by omega)
    have hzz : y.args[0] = z := by rw [← hz, List.getD, List.getElem?_eq_getElem (by omega)]; rfl
    rw [hzz] at g
    obtain ⟨za, zc, rfl, rfl, rfl, rfl⟩ := g.form
    exact ⟨b, o, h8 (by omega), h9 (by omega), za, zc, g0, g1, g2, g3, g⟩
  subst hxa
  have ZR := Lib.hid zrep; have HZ := Lib.hid hz
  have ZC : Hid (xb < w7.heap.size ∧ w7.cell? ⟨xb, xo, none⟩ = some (.int .i64 z.kind) ∧ w7.cell? ⟨xb, xo + 1, none⟩ = some (.int .i64 z.num) ∧ w7.cell? ⟨xb, xo + 2, none⟩ = some (.string z.text) ∧ w7.cell? ⟨xb, xo + 3, none⟩ = some (.slice za z.list.length zc)) := ⟨by have := KK.out; omega, zr0, zr1, zr2, zr3⟩
  clear zr0 zr1 zr2 zr3 zrep hz hxb
  have HLV : Hid (y.args.length ≤ 12) := by have := HYL.out; show _ ≤ _; omega
  have KT : Hid (k11 < w7.heap.size) := by have := KK.out; show _ < _; omega
  refine wp_region_factsP (by rfl) 123 (by rfl) (by kernel_rfl) 8 (fun q => q == 0 || q == 1 || q == 2 || q == 3 || q == 4 || q == 5 || q == 6 || q == 7) (by kernel_rfl) (fun ph wz iz vz => Sf7 w7.heap.size k11 k9 y z xb xo xc za zc ph wz iz vz) (fun ph w' => if ph = true then Below w7.heap.size w7 w' else Below w7.heap.size w7 w') (Below.drew (Below.refl _ _)) ⟨?s0, ?s1, ?s2, ?s3, ?s4, ?s5, ?s6, ?s7, ?s8, ?s9, trivial⟩ (by rfl) ?last
  case s0 =>
    intro a w' hoff hg hdep K hK
    replace hg : Below w7.heap.size w7 w' := hg
    have h9 := off_at hoff 9 (v := .pointer (some ⟨k9, 0, none⟩)) (by kernel_rfl) rfl
    rw [if_pos (by rfl)]
    go_simp
    exact hK.out _ _ hg rfl (fun _ _ h => h)
  case s1 =>
    intro a w' hoff hg hdep K hK
    replace hg : Below w7.heap.size w7 w' := hg
    obtain ⟨v0, e0, f0⟩ := hdep 0 _ 34 (by kernel_rfl) rfl rfl
    obtain rfl : v0 = .pointer (some ⟨k9, 1, none⟩) := f0
    rw [if_pos (by rfl)]
    obtain ⟨o0, o1⟩ := BoxFa.cells ((hg.block k9 (by have := KK.out; omega)).trans Y9.out)
    go_simp
    exact hK.out _ _ hg rfl (fun _ _ h => h)
  case s2 =>
    intro a w' hoff hg hdep K hK
    replace hg : Below w7.heap.size w7 w' := hg
    obtain ⟨v1, e1, f1⟩ := hdep 1 _ 35 (by kernel_rfl) rfl rfl
    obtain rfl : v1 = .slice (some ⟨xb, xo, none⟩) y.args.length xc := f1
    have hrr := slgS_of_lg (RepLG.on (fun b (hb : b < k9) => (by have := KK.out; omega : b < k11)) (fun b hb => hg.block b (by have := KK.out; omega)) HY.out.2.2)
    obtain ⟨v', w6, hrun, hown, hgr⟩ := own_manyS (K := kdV) (S := fun b => b < k11) (L := []) (m := y.args) (lv := .slice none 0 0) (OwnK.nil _ w' w7.heap.size) hrr (fun b hb => ⟨(Nat.lt_of_lt_of_le (Nat.lt_trans hb KT.out) hg.size), by simp [Value.ownBlock]⟩) hg.size (by have := HLV.out; simp; omega) 44
    refine step_append_by rfl (.const (.slice none 0 0)) (.tmp 35) 44 rfl (by simp [Act.eval]) (by simp [Act.eval, e1]) hrun ?_
    have hb : Below w'.heap.size w' w6 := ⟨hgr.os, hgr.tape, hgr.output, hgr.size, fun j hj => hgr.block j hj (by simp [Value.ownBlock])⟩
    exact hK.out _ _ (Below.step hg hb) (fun _ => ⟨Nat.lt_of_lt_of_le KT.out (Nat.le_trans hg.size hb.size), by simpa using hown⟩) (fun j u h => Sf7.stay _ _ _ _ _ _ _ _ _ _  hb j u h)
  case s3 =>
    intro a w' hoff hg hdep K hK
    replace hg : Below w7.heap.size w7 w' := hg
    have h9 := off_at hoff 9 (v := .pointer (some ⟨k9, 0, none⟩)) (by kernel_rfl) rfl
    rw [if_pos (by rfl)]
    go_simp
    exact hK.out _ _ hg rfl (fun _ _ h => h)
  case s4 =>
    intro a w' hoff hg hdep K hK
    replace hg : Below w7.heap.size w7 w' := hg
    obtain ⟨v3, e3, f3⟩ := hdep 3 _ 37 (by kernel_rfl) rfl rfl
    obtain rfl : v3 = .pointer (some ⟨k9, 1, none⟩) := f3
    rw [if_pos (by rfl)]
    obtain ⟨o0, o1⟩ := BoxFa.cells ((hg.block k9 (by have := KK.out; omega)).trans Y9.out)
    go_simp
    exact hK.out _ _ hg rfl (fun _ _ h => h)
  case s5 =>
    intro a w' hoff hg hdep K hK
    replace hg : Below w7.heap.size w7 w' := hg
    obtain ⟨v4, e4, f4⟩ := hdep 4 _ 38 (by kernel_rfl) rfl rfl
    obtain rfl : v4 = .slice (some ⟨xb, xo, none⟩) y.args.length xc := f4
    rw [if_pos (by rfl)]
    have hl := HYL.out
    have hl1 : 0 < y.args.length := by have := HYL.out.1; omega
    go_simp
    exact hK.out _ _ hg rfl (fun _ _ h => h)
  case s6 =>
    intro a w' hoff hg hdep K hK
    replace hg : Below w7.heap.size w7 w' := hg
    obtain ⟨v5, e5, f5⟩ := hdep 5 _ 39 (by kernel_rfl) rfl rfl
    obtain rfl : v5 = .pointer (some ⟨xb, xo, none⟩) := f5
    rw [if_pos (by rfl)]
    obtain ⟨-, g0, g1, g2, g3⟩ := ZC.out
    replace g0 := (hg.cell (p := ⟨xb, xo, none⟩) ZC.out.1).trans g0
    replace g1 := (hg.cell (p := ⟨xb, xo + 1, none⟩) ZC.out.1).trans g1
    replace g2 := (hg.cell (p := ⟨xb, xo + 2, none⟩) ZC.out.1).trans g2
    replace g3 := (hg.cell (p := ⟨xb, xo + 3, none⟩) ZC.out.1).trans g3
    go_simp
    exact hK.out _ _ hg rfl (fun _ _ h => h)
  case s7 =>
    intro a w' hoff hg hdep K hK
    replace hg : Below w7.heap.size w7 w' := hg
    obtain ⟨v6, e6, f6⟩ := hdep 6 _ 40 (by kernel_rfl) rfl rfl
    obtain rfl : v6 = .agg #[.int .i64 z.kind, .int .i64 z.num, .string z.text, .slice za z.list.length zc] := f6
    rw [if_pos (by rfl)]
    go_simp
    have hb := below_alloc w' (.cells #[.int .i64 z.kind, .int .i64 z.num, .string z.text, .slice za z.list.length zc] 46)
    exact hK.out _ _ (Below.step hg hb) (fun _ => RowOf.new (Nat.zero_le _)) (fun j u h => Sf7.stay _ _ _ _ _ _ _ _ _ _  hb j u h)
  case s8 =>
    intro a w' hoff hg hdep K hK
    replace hg : Below w7.heap.size w7 w' := hg
    obtain ⟨v2, e2, f2⟩ := hdep 2 _ 36 (by kernel_rfl) rfl rfl
    replace f2 : k11 < w'.heap.size ∧ OwnK kdV (fun b => b < k11) w' w7.heap.size y.args v2 := f2 rfl
    obtain ⟨v7, e7, f7⟩ := hdep 7 _ 41 (by kernel_rfl) rfl rfl
    replace f7 : RowOf 0 (.cells #[.int .i64 z.kind, .int .i64 z.num, .string z.text, .slice za z.list.length zc] 46 (0, 0)) w' v7 := f7 rfl
    obtain ⟨rb, rfl, hbk, -⟩ := f7
    have hown0 := f2.2
    obtain ⟨v', w6, hrun, hown, hgr⟩ := own_manyS (K := kdV) (S := fun b => b < k11) (S1 := fun _ => True) (L := y.args) (m := [z]) (lv := v2) hown0 (one_row (c := at4v (.int .i64 z.kind) (.int .i64 z.num) (.string z.text) (.slice za z.list.length zc)) hbk trivial (fun j hj => match j, hj with | 0, _ => rfl | 1, _ => rfl | 2, _ => rfl | 3, _ => rfl) (RepG.on (fun b (hb : b < k9) => (by have := KK.out; omega : b < k11)) (fun b hb => hg.block b (by have := KK.out; omega)) z ZR.out)) (fun b hb => ⟨(Nat.lt_of_lt_of_le (Nat.lt_trans hb KT.out) hg.size), fun e => by have := (OwnK.lies hown0 b e).1; have := KT.out; omega⟩) hg.size (by have := HLV.out; simp; omega) 44
    refine step_append_by rfl (.tmp 36) (.tmp 41) 44 rfl (by simp [Act.eval, e2]) (by simp [Act.eval, e7]) hrun ?_
    have hG2 : Below w7.heap.size w7 w6 := ⟨hgr.os.trans hg.os, hgr.tape.trans hg.tape, hgr.output.trans hg.output, Nat.le_trans hg.size hgr.size, fun j hj => (hgr.block j (Nat.lt_of_lt_of_le hj hg.size) (fun e => by have := (OwnK.lies hown0 j e.symm).1; omega)).trans (hg.block j hj)⟩
    exact hK.out _ _ hG2 (fun _ => hown) (fun j u hne h => Sf7.pass _ _ _ _ _ _ _ _ _ _  j u hne h)
  case s9 =>
    intro ph a w' hoff hg hdep K hK
    have h11 := off_at hoff 11 (v := .pointer (some ⟨k11, 0, none⟩)) (by kernel_rfl) rfl
    rw [if_pos (by rfl)]
    go_simp
    exact hK.out _ _ hg rfl (fun _ _ h => h)
  case last =>
    intro a w' hoff hg hf
    replace hg : Below w7.heap.size w7 w' := hg
    obtain ⟨v0, e0, f0⟩ := hf 0 _ 34 (by decide) rfl rfl
    obtain rfl : v0 = .pointer (some ⟨k9, 1, none⟩) := f0
    obtain ⟨v1, e1, f1⟩ := hf 1 _ 35 (by decide) rfl rfl
    obtain rfl : v1 = .slice (some ⟨xb, xo, none⟩) y.args.length xc := f1
    obtain ⟨v2, e2, f2⟩ := hf 2 _ 36 (by decide) rfl rfl
    clear f2
    obtain ⟨v3, e3, f3⟩ := hf 3 _ 37 (by decide) rfl rfl
    obtain rfl : v3 = .pointer (some ⟨k9, 1, none⟩) := f3
    obtain ⟨v4, e4, f4⟩ := hf 4 _ 38 (by decide) rfl rfl
    obtain rfl : v4 = .slice (some ⟨xb, xo, none⟩) y.args.length xc := f4
    obtain ⟨v5, e5, f5⟩ := hf 5 _ 39 (by decide) rfl rfl
    obtain rfl : v5 = .pointer (some ⟨xb, xo, none⟩) := f5
    obtain ⟨v6, e6, f6⟩ := hf 6 _ 40 (by decide) rfl rfl
    obtain rfl : v6 = .agg #[.int .i64 z.kind, .int .i64 z.num, .string z.text, .slice za z.list.length zc] := f6
    obtain ⟨v7, e7, f7⟩ := hf 7 _ 41 (by decide) rfl rfl
    clear f7
    obtain ⟨v8, e8, f8⟩ := hf 8 _ 42 (by decide) rfl rfl
    replace f8 : OwnK kdV (fun b => b < k11) w' w7.heap.size (y.args ++ [z]) v8 := f8 rfl
    obtain ⟨v9, e9, f9⟩ := hf 9 _ 43 (by decide) rfl rfl
    obtain rfl : v9 = .pointer (some ⟨k11, 1, none⟩) := f9
    obtain ⟨M7, hM⟩ : ∃ M, y.args ++ [z] = M := ⟨_, rfl⟩
    rw [hM] at f8
    have hml : M7.length ≤ 100000 := by rw [← hM, List.length_append]; have := HLV.out; simp; omega
    obtain ⟨na7, nc7, rfl⟩ := OwnK.form f8
    have hy : BoxFa w' k11 (.string y.name) (.slice (some ⟨xb, xo, none⟩) y.args.length xc) := (hg.block k11 (by have := KK.out; omega)).trans Y11.out
    obtain ⟨o0, o1⟩ := hy.cells
    have z1 := frozen_of_row w' k11 1 _ _ hy
    rw [if_pos (by rfl)]
    rw [hoff.sets [(34, .pointer (some ⟨k9, 1, none⟩)), (35, .slice (some ⟨xb, xo, none⟩) y.args.length xc), (36, v2), (37, .pointer (some ⟨k9, 1, none⟩)), (38, .slice (some ⟨xb, xo, none⟩) y.args.length xc), (39, .pointer (some ⟨xb, xo, none⟩)), (40, .agg #[.int .i64 z.kind, .int .i64 z.num, .string z.text, .slice za z.list.length zc]), (41, v7), (42, .slice na7 M7.length nc7), (43, .pointer (some ⟨k11, 1, none⟩))] (by kernel_rfl) (by intro p hp; simp only [List.mem_cons, List.not_mem_nil, or_false] at hp; rcases hp with rfl | rfl | rfl | rfl | rfl | rfl | rfl | rfl | rfl | rfl <;> assumption)]
    clear hoff hf e0 e1 e2 e3 e4 e5 e6 e7 e8 e9
    simp only [List.foldl_cons, List.foldl_nil, List.setIfInBounds_toArray, List.set_cons_zero, List.set_cons_succ]
    go_simp
    have hKK := KK.out
    have hbl : ∀ b, b < k11 → (w'.setCell ⟨k11, 1, none⟩ (.slice na7 M7.length nc7)).heap[b]? = w7.heap[b]? := fun b hb => (Below.heap_setCell _ _ _ _ (by simp; omega)).trans (hg.block b (by omega))
    have mk : BoxFa (w'.setCell ⟨k11, 1, none⟩ (.slice na7 M7.length nc7)) k11 (.string y.name) (.slice na7 M7.length nc7) := heap_setCell_same _ _ _ _ _ _ hy
    have ho : OwnK kdV (fun b => b < k11) (w'.setCell ⟨k11, 1, none⟩ (.slice na7 M7.length nc7)) w7.heap.size M7 (.slice na7 M7.length nc7) := OwnK.on f8 (fun _ h => h) (fun b hb => Below.heap_setCell _ _ _ _ (by simp; omega)) (fun b h1 _ _ => Below.heap_setCell _ _ _ _ (by simp; omega))
    have hsz : (w'.setCell ⟨k11, 1, none⟩ (.slice na7 M7.length nc7)).heap.size = w'.heap.size := by simp [World.setCell]
    have hgs := hg.size
    have BW2 : Hid (Below W.heap.size W (w'.setCell ⟨k11, 1, none⟩ (.slice na7 M7.length nc7))) := Below.setCell (p := ⟨k11, 1, none⟩) (Below.trans BW.out (hg.mono (show W.heap.size ≤ w7.heap.size by omega))) (by simp; omega) _
    have RL : Hid (RepLG (fun b => b < (w'.setCell ⟨k11, 1, none⟩ (.slice na7 M7.length nc7)).heap.size) (w'.setCell ⟨k11, 1, none⟩ (.slice na7 M7.length nc7)) M7 (.slice na7 M7.length nc7)) := lgS_of_slg (OwnK.slg' ho (fun b (hb : b < k11) => (by omega : b < (w'.setCell ⟨k11, 1, none⟩ (.slice na7 M7.length nc7)).heap.size)) (fun b h1 h2 => h2) hml)
    have HM_M7 := Lib.hid hM
    replace X4 : Hid (BoxPr (w'.setCell ⟨k11, 1, none⟩ (.slice na7 M7.length nc7)) k8 (.slice d0 q.decls.length d1) (.slice fa0 q.facts.length fa1) (.slice r0 q.rules.length r1)) := (hbl k8 (by omega)).trans X4.out
    replace G4 : Hid (RepPr (fun b => b < k8) (w'.setCell ⟨k11, 1, none⟩ (.slice na7 M7.length nc7)) q (.slice d0 q.decls.length d1) (.slice fa0 q.facts.length fa1) (.slice r0 q.rules.length r1)) := RepPr.on (fun _ h => h) (fun b hb' => hbl b (by omega)) G4.out
    replace HY : Hid (RepFa (fun b => b < k9) (w'.setCell ⟨k11, 1, none⟩ (.slice na7 M7.length nc7)) y (.string y.name) (.slice (some ⟨xb, xo, none⟩) y.args.length xc)) := RepFa.on (fun _ h => h) (fun b hb' => hbl b (by omega)) HY.out
    replace Y9 : Hid (BoxFa (w'.setCell ⟨k11, 1, none⟩ (.slice na7 M7.length nc7)) k9 (.string y.name) (.slice (some ⟨xb, xo, none⟩) y.args.length xc)) := (hbl k9 (by omega)).trans Y9.out
    replace Y10 : Hid (BoxFa (w'.setCell ⟨k11, 1, none⟩ (.slice na7 M7.length nc7)) k10 (.string noneName) (.slice (some ⟨xb, xo, none⟩) y.args.length xc)) := (hbl k10 (by omega)).trans Y10.out
    replace Y11 := Lib.hid mk
    have KK2 : Hid (W.heap.size ≤ k8 ∧ k8 < k9 ∧ k9 < k10 ∧ k10 < k11 ∧ k11 < (w'.setCell ⟨k11, 1, none⟩ (.slice na7 M7.length nc7)).heap.size) := by refine ⟨?_, ?_, ?_, ?_, ?_⟩ <;> omega
    replace KK := KK2
    replace BW := BW2
    clear hM hml hy hKK hbl mk ho hsz hgs hg f8 o0 o1 z1 KT KK2 BW2
    generalize (w'.setCell ⟨k11, 1, none⟩ (.slice na7 M7.length nc7)) = w8 at *
    obtain ⟨o0, o1, o2⟩ := X4.out.cells
    go_upto_region 9 with fail
    have mk : BoxPr (w8.alloc (.cells #[.slice d0 q.decls.length d1, .slice fa0 q.facts.length fa1, .slice r0 q.rules.length r1] 29)) w8.heap.size (.slice d0 q.decls.length d1) (.slice fa0 q.facts.length fa1) (.slice r0 q.rules.length r1) := alloc_new' w8 _
    have da := below_alloc w8 (.cells #[.slice d0 q.decls.length d1, .slice fa0 q.facts.length fa1, .slice r0 q.rules.length r1] 29)
    have sa := World.size_alloc w8 (.cells #[.slice d0 q.decls.length d1, .slice fa0 q.facts.length fa1, .slice r0 q.rules.length r1] 29)
    generalize w8.alloc (.cells #[.slice d0 q.decls.length d1, .slice fa0 q.facts.length fa1, .slice r0 q.rules.length r1] 29) = w9 at *
    obtain ⟨k12, hkN⟩ : ∃ k, w8.heap.size = k := ⟨_, rfl⟩
    have BW2 := Lib.hid (Below.step BW.out da)
    have hKK := KK.out
    rw [hkN] at mk da sa hKK ⊢
    replace X4 : Hid (BoxPr w9 k8 (.slice d0 q.decls.length d1) (.slice fa0 q.facts.length fa1) (.slice r0 q.rules.length r1)) := (da.block k8 (by omega)).trans X4.out
    replace G4 : Hid (RepPr (fun b => b < k8) w9 q (.slice d0 q.decls.length d1) (.slice fa0 q.facts.length fa1) (.slice r0 q.rules.length r1)) := RepPr.on (fun _ h => h) (fun b hb' => da.block b (by omega)) G4.out
    replace HY : Hid (RepFa (fun b => b < k9) w9 y (.string y.name) (.slice (some ⟨xb, xo, none⟩) y.args.length xc)) := RepFa.on (fun _ h => h) (fun b hb' => da.block b (by omega)) HY.out
    replace Y9 : Hid (BoxFa w9 k9 (.string y.name) (.slice (some ⟨xb, xo, none⟩) y.args.length xc)) := (da.block k9 (by omega)).trans Y9.out
    replace Y10 : Hid (BoxFa w9 k10 (.string noneName) (.slice (some ⟨xb, xo, none⟩) y.args.length xc)) := (da.block k10 (by omega)).trans Y10.out
    replace Y11 : Hid (BoxFa w9 k11 (.string y.name) (.slice na7 M7.length nc7)) := (da.block k11 (by omega)).trans Y11.out
    rw [hkN] at RL
    replace RL : Hid (RepLG (fun b => b < k12) w9 M7 (.slice na7 M7.length nc7)) := RepLG.on (fun _ h => h) (fun b hb' => da.block b (by omega)) RL.out
    have KK2 : Hid (W.heap.size ≤ k8 ∧ k8 < k9 ∧ k9 < k10 ∧ k10 < k11 ∧ k11 < k12 ∧ k12 < w9.heap.size) := by refine ⟨?_, ?_, ?_, ?_, ?_, ?_⟩ <;> omega
    replace KK := KK2
    replace BW := BW2
    have X12 := Lib.hid mk
    clear mk da sa hkN hKK KK2 BW2
    clear o0 o1 o2
    have KT : Hid (k12 < w9.heap.size) := by have := KK.out; show _ < _; omega
    refine wp_region_factsP (by rfl) 123 (by rfl) (by kernel_rfl) 5 (fun q => q == 0 || q == 1 || q == 2 || q == 3 || q == 4) (by kernel_rfl) (fun ph wz iz vz => Sf9 w9.heap.size k12 k8 q fa0 fa1 y xc xb xo ph wz iz vz) (fun ph w' => if ph = true then Below w9.heap.size w9 w' else Below w9.heap.size w9 w') (Below.drew (Below.refl _ _)) ⟨?s0, ?s1, ?s2, ?s3, ?s4, ?s5, ?s6, trivial⟩ (by rfl) ?last
    case s0 =>
      intro a w' hoff hg hdep K hK
      replace hg : Below w9.heap.size w9 w' := hg
      have h8 := off_at hoff 8 (v := .pointer (some ⟨k8, 0, none⟩)) (by kernel_rfl) rfl
      rw [if_pos (by rfl)]
      go_simp
      exact hK.out _ _ hg rfl (fun _ _ h => h)
    case s1 =>
      intro a w' hoff hg hdep K hK
      replace hg : Below w9.heap.size w9 w' := hg
      obtain ⟨v0, e0, f0⟩ := hdep 0 _ 45 (by kernel_rfl) rfl rfl
      obtain rfl : v0 = .pointer (some ⟨k8, 1, none⟩) := f0
      rw [if_pos (by rfl)]
      obtain ⟨o0, o1, o2⟩ := BoxPr.cells ((hg.block k8 (by have := KK.out; omega)).trans X4.out)
      go_simp
      exact hK.out _ _ hg rfl (fun _ _ h => h)
    case s2 =>
      intro a w' hoff hg hdep K hK
      replace hg : Below w9.heap.size w9 w' := hg
      obtain ⟨v1, e1, f1⟩ := hdep 1 _ 46 (by kernel_rfl) rfl rfl
      obtain rfl : v1 = .slice fa0 q.facts.length fa1 := f1
      have hrr := SlG.on (fun b (hb : b < k8) => (by have := KK.out; omega : b < k12)) (fun b hb => hg.block b (by have := KK.out; omega)) (fun _ _ _ h => RepFa.on (fun b (hb : b < k8) => (by have := KK.out; omega : b < k12)) (fun b hb => hg.block b (by have := KK.out; omega)) h) G4.out.2.1
      obtain ⟨v', w6, hrun, hown, hgr⟩ := own_manyS (K := kdFa) (S := fun b => b < k12) (L := []) (m := q.facts) (lv := .slice none 0 0) (OwnK.nil _ w' w9.heap.size) hrr (fun b hb => ⟨(Nat.lt_of_lt_of_le (Nat.lt_trans hb KT.out) hg.size), by simp [Value.ownBlock]⟩) hg.size (by have := HLN.out; simp; omega) 26
      refine step_append_by rfl (.const (.slice none 0 0)) (.tmp 46) 26 rfl (by simp [Act.eval]) (by simp [Act.eval, e1]) hrun ?_
      have hb : Below w'.heap.size w' w6 := ⟨hgr.os, hgr.tape, hgr.output, hgr.size, fun j hj => hgr.block j hj (by simp [Value.ownBlock])⟩
      exact hK.out _ _ (Below.step hg hb) (fun _ => ⟨Nat.lt_of_lt_of_le KT.out (Nat.le_trans hg.size hb.size), by simpa using hown⟩) (fun j u h => Sf9.stay _ _ _ _ _ _ _ _ _ _  hb j u h)
    case s3 =>
      intro a w' hoff hg hdep K hK
      replace hg : Below w9.heap.size w9 w' := hg
      have h10 := off_at hoff 10 (v := .pointer (some ⟨k10, 0, none⟩)) (by kernel_rfl) rfl
      rw [if_pos (by rfl)]
      obtain ⟨o0, o1⟩ := BoxFa.cells ((hg.block k10 (by have := KK.out; omega)).trans Y10.out)
      go_simp
      exact hK.out _ _ hg rfl (fun _ _ h => h)
    case s4 =>
      intro a w' hoff hg hdep K hK
      replace hg : Below w9.heap.size w9 w' := hg
      obtain ⟨v3, e3, f3⟩ := hdep 3 _ 48 (by kernel_rfl) rfl rfl
      obtain rfl : v3 = .agg #[.string noneName, .slice (some ⟨xb, xo, none⟩) y.args.length xc] := f3
      rw [if_pos (by rfl)]
      go_simp
      have hb := below_alloc w' (.cells #[.string noneName, .slice (some ⟨xb, xo, none⟩) y.args.length xc] 56)
      exact hK.out _ _ (Below.step hg hb) (fun _ => RowOf.new (Nat.zero_le _)) (fun j u h => Sf9.stay _ _ _ _ _ _ _ _ _ _  hb j u h)
    case s5 =>
      intro a w' hoff hg hdep K hK
      replace hg : Below w9.heap.size w9 w' := hg
      obtain ⟨v2, e2, f2⟩ := hdep 2 _ 47 (by kernel_rfl) rfl rfl
      replace f2 : k12 < w'.heap.size ∧ OwnK kdFa (fun b => b < k12) w' w9.heap.size q.facts v2 := f2 rfl
      obtain ⟨v4, e4, f4⟩ := hdep 4 _ 49 (by kernel_rfl) rfl rfl
      replace f4 : RowOf 0 (.cells #[.string noneName, .slice (some ⟨xb, xo, none⟩) y.args.length xc] 56 (0, 0)) w' v4 := f4 rfl
      obtain ⟨rb, rfl, hbk, -⟩ := f4
      have hown0 := f2.2
      obtain ⟨v', w6, hrun, hown, hgr⟩ := own_manyS (K := kdFa) (S := fun b => b < k12) (S1 := fun _ => True) (L := q.facts) (m := [⟨noneName, y.args⟩]) (lv := v2) hown0 (one_row (c := at2v (.string noneName) (.slice (some ⟨xb, xo, none⟩) y.args.length xc)) hbk trivial (fun j hj => match j, hj with | 0, _ => rfl | 1, _ => rfl) (⟨rfl, (show noneName.size ≤ maxLen by decide), RepLG.on (fun b (hb : b < k9) => (by have := KK.out; omega : b < k12)) (fun b hb => hg.block b (by have := KK.out; omega)) HY.out.2.2⟩)) (fun b hb => ⟨(Nat.lt_of_lt_of_le (Nat.lt_trans hb KT.out) hg.size), fun e => by have := (OwnK.lies hown0 b e).1; have := KT.out; omega⟩) hg.size (by have := HLN.out; simp; omega) 26
      refine step_append_by rfl (.tmp 47) (.tmp 49) 26 rfl (by simp [Act.eval, e2]) (by simp [Act.eval, e4]) hrun ?_
      have hG2 : Below w9.heap.size w9 w6 := ⟨hgr.os.trans hg.os, hgr.tape.trans hg.tape, hgr.output.trans hg.output, Nat.le_trans hg.size hgr.size, fun j hj => (hgr.block j (Nat.lt_of_lt_of_le hj hg.size) (fun e => by have := (OwnK.lies hown0 j e.symm).1; omega)).trans (hg.block j hj)⟩
      exact hK.out _ _ hG2 (fun _ => hown) (fun j u hne h => Sf9.pass _ _ _ _ _ _ _ _ _ _  j u hne h)
    case s6 =>
      intro ph a w' hoff hg hdep K hK
      have h12 := off_at hoff 12 (v := .pointer (some ⟨k12, 0, none⟩)) (by kernel_rfl) rfl
      rw [if_pos (by rfl)]
      go_simp
      exact hK.out _ _ hg rfl (fun _ _ h => h)
    case last =>
      intro a w' hoff hg hf
      replace hg : Below w9.heap.size w9 w' := hg
      obtain ⟨v0, e0, f0⟩ := hf 0 _ 45 (by decide) rfl rfl
      obtain rfl : v0 = .pointer (some ⟨k8, 1, none⟩) := f0
      obtain ⟨v1, e1, f1⟩ := hf 1 _ 46 (by decide) rfl rfl
      obtain rfl : v1 = .slice fa0 q.facts.length fa1 := f1
      obtain ⟨v2, e2, f2⟩ := hf 2 _ 47 (by decide) rfl rfl
      clear f2
      obtain ⟨v3, e3, f3⟩ := hf 3 _ 48 (by decide) rfl rfl
      obtain rfl : v3 = .agg #[.string noneName, .slice (some ⟨xb, xo, none⟩) y.args.length xc] := f3
      obtain ⟨v4, e4, f4⟩ := hf 4 _ 49 (by decide) rfl rfl
      clear f4
      obtain ⟨v5, e5, f5⟩ := hf 5 _ 50 (by decide) rfl rfl
      replace f5 : OwnK kdFa (fun b => b < k12) w' w9.heap.size (q.facts ++ [⟨noneName, y.args⟩]) v5 := f5 rfl
      obtain ⟨v6, e6, f6⟩ := hf 6 _ 51 (by decide) rfl rfl
      obtain rfl : v6 = .pointer (some ⟨k12, 1, none⟩) := f6
      obtain ⟨M9, hM⟩ : ∃ M, q.facts ++ [⟨noneName, y.args⟩] = M := ⟨_, rfl⟩
      rw [hM] at f5
      have hml : M9.length ≤ 100000 := by rw [← hM, List.length_append]; have := HLN.out; simp; omega
      obtain ⟨na9, nc9, rfl⟩ := OwnK.form f5
      have hy : BoxPr w' k12 (.slice d0 q.decls.length d1) (.slice fa0 q.facts.length fa1) (.slice r0 q.rules.length r1) := (hg.block k12 (by have := KK.out; omega)).trans X12.out
      obtain ⟨o0, o1, o2⟩ := hy.cells
      have z1 := frozen_of_row w' k12 1 _ _ hy
      rw [if_pos (by rfl)]
      rw [hoff.sets [(45, .pointer (some ⟨k8, 1, none⟩)), (46, .slice fa0 q.facts.length fa1), (47, v2), (48, .agg #[.string noneName, .slice (some ⟨xb, xo, none⟩) y.args.length xc]), (49, v4), (50, .slice na9 M9.length nc9), (51, .pointer (some ⟨k12, 1, none⟩))] (by kernel_rfl) (by intro p hp; simp only [List.mem_cons, List.not_mem_nil, or_false] at hp; rcases hp with rfl | rfl | rfl | rfl | rfl | rfl | rfl <;> assumption)]
      clear hoff hf e0 e1 e2 e3 e4 e5 e6
      simp only [List.foldl_cons, List.foldl_nil, List.setIfInBounds_toArray, List.set_cons_zero, List.set_cons_succ]
      go_simp
      have hKK := KK.out
      have hbl : ∀ b, b < k12 → (w'.setCell ⟨k12, 1, none⟩ (.slice na9 M9.length nc9)).heap[b]? = w9.heap[b]? := fun b hb => (Below.heap_setCell _ _ _ _ (by simp; omega)).trans (hg.block b (by omega))
      have mk : BoxPr (w'.setCell ⟨k12, 1, none⟩ (.slice na9 M9.length nc9)) k12 (.slice d0 q.decls.length d1) (.slice na9 M9.length nc9) (.slice r0 q.rules.length r1) := heap_setCell_same _ _ _ _ _ _ hy
      have ho : OwnK kdFa (fun b => b < k12) (w'.setCell ⟨k12, 1, none⟩ (.slice na9 M9.length nc9)) w9.heap.size M9 (.slice na9 M9.length nc9) := OwnK.on f5 (fun _ h => h) (fun b hb => Below.heap_setCell _ _ _ _ (by simp; omega)) (fun b h1 _ _ => Below.heap_setCell _ _ _ _ (by simp; omega))
      have hsz : (w'.setCell ⟨k12, 1, none⟩ (.slice na9 M9.length nc9)).heap.size = w'.heap.size := by simp [World.setCell]
      have hgs := hg.size
      have BW2 : Hid (Below W.heap.size W (w'.setCell ⟨k12, 1, none⟩ (.slice na9 M9.length nc9))) := Below.setCell (p := ⟨k12, 1, none⟩) (Below.trans BW.out (hg.mono (show W.heap.size ≤ w9.heap.size by omega))) (by simp; omega) _
      have R9 : Hid (RepFas (fun b => b < (w'.setCell ⟨k12, 1, none⟩ (.slice na9 M9.length nc9)).heap.size) (w'.setCell ⟨k12, 1, none⟩ (.slice na9 M9.length nc9)) M9 (.slice na9 M9.length nc9)) := OwnK.slg' ho (fun b (hb : b < k12) => (by omega : b < (w'.setCell ⟨k12, 1, none⟩ (.slice na9 M9.length nc9)).heap.size)) (fun b h1 h2 => h2) hml
      have HM_M9 := Lib.hid hM
      replace X4 : Hid (BoxPr (w'.setCell ⟨k12, 1, none⟩ (.slice na9 M9.length nc9)) k8 (.slice d0 q.decls.length d1) (.slice fa0 q.facts.length fa1) (.slice r0 q.rules.length r1)) := (hbl k8 (by omega)).trans X4.out
      replace G4 : Hid (RepPr (fun b => b < k8) (w'.setCell ⟨k12, 1, none⟩ (.slice na9 M9.length nc9)) q (.slice d0 q.decls.length d1) (.slice fa0 q.facts.length fa1) (.slice r0 q.rules.length r1)) := RepPr.on (fun _ h => h) (fun b hb' => hbl b (by omega)) G4.out
      replace HY : Hid (RepFa (fun b => b < k9) (w'.setCell ⟨k12, 1, none⟩ (.slice na9 M9.length nc9)) y (.string y.name) (.slice (some ⟨xb, xo, none⟩) y.args.length xc)) := RepFa.on (fun _ h => h) (fun b hb' => hbl b (by omega)) HY.out
      replace Y9 : Hid (BoxFa (w'.setCell ⟨k12, 1, none⟩ (.slice na9 M9.length nc9)) k9 (.string y.name) (.slice (some ⟨xb, xo, none⟩) y.args.length xc)) := (hbl k9 (by omega)).trans Y9.out
      replace Y10 : Hid (BoxFa (w'.setCell ⟨k12, 1, none⟩ (.slice na9 M9.length nc9)) k10 (.string noneName) (.slice (some ⟨xb, xo, none⟩) y.args.length xc)) := (hbl k10 (by omega)).trans Y10.out
      replace Y11 : Hid (BoxFa (w'.setCell ⟨k12, 1, none⟩ (.slice na9 M9.length nc9)) k11 (.string y.name) (.slice na7 M7.length nc7)) := (hbl k11 (by omega)).trans Y11.out
      replace RL : Hid (RepLG (fun b => b < k12) (w'.setCell ⟨k12, 1, none⟩ (.slice na9 M9.length nc9)) M7 (.slice na7 M7.length nc7)) := RepLG.on (fun _ h => h) (fun b hb' => hbl b (by omega)) RL.out
      replace X12 := Lib.hid mk
      have KK2 : Hid (W.heap.size ≤ k8 ∧ k8 < k9 ∧ k9 < k10 ∧ k10 < k11 ∧ k11 < k12 ∧ k12 < (w'.setCell ⟨k12, 1, none⟩ (.slice na9 M9.length nc9)).heap.size) := by refine ⟨?_, ?_, ?_, ?_, ?_, ?_⟩ <;> omega
      replace KK := KK2
      replace BW := BW2
      clear hM hml hy hKK hbl mk ho hsz hgs hg f5 o0 o1 o2 z1 KT KK2 BW2
      generalize (w'.setCell ⟨k12, 1, none⟩ (.slice na9 M9.length nc9)) = w10 at *
      obtain ⟨o0, o1, o2⟩ := X4.out.cells
      go_upto_region 11 with fail
      have mk : BoxPr (w10.alloc (.cells #[.slice d0 q.decls.length d1, .slice fa0 q.facts.length fa1, .slice r0 q.rules.length r1] 29)) w10.heap.size (.slice d0 q.decls.length d1) (.slice fa0 q.facts.length fa1) (.slice r0 q.rules.length r1) := alloc_new' w10 _
      have da := below_alloc w10 (.cells #[.slice d0 q.decls.length d1, .slice fa0 q.facts.length fa1, .slice r0 q.rules.length r1] 29)
      have sa := World.size_alloc w10 (.cells #[.slice d0 q.decls.length d1, .slice fa0 q.facts.length fa1, .slice r0 q.rules.length r1] 29)
      generalize w10.alloc (.cells #[.slice d0 q.decls.length d1, .slice fa0 q.facts.length fa1, .slice r0 q.rules.length r1] 29) = w11 at *
      obtain ⟨k13, hkN⟩ : ∃ k, w10.heap.size = k := ⟨_, rfl⟩
      have BW2 := Lib.hid (Below.step BW.out da)
      have hKK := KK.out
      rw [hkN] at mk da sa hKK ⊢
      replace X4 : Hid (BoxPr w11 k8 (.slice d0 q.decls.length d1) (.slice fa0 q.facts.length fa1) (.slice r0 q.rules.length r1)) := (da.block k8 (by omega)).trans X4.out
      replace G4 : Hid (RepPr (fun b => b < k8) w11 q (.slice d0 q.decls.length d1) (.slice fa0 q.facts.length fa1) (.slice r0 q.rules.length r1)) := RepPr.on (fun _ h => h) (fun b hb' => da.block b (by omega)) G4.out
      replace HY : Hid (RepFa (fun b => b < k9) w11 y (.string y.name) (.slice (some ⟨xb, xo, none⟩) y.args.length xc)) := RepFa.on (fun _ h => h) (fun b hb' => da.block b (by omega)) HY.out
      replace Y9 : Hid (BoxFa w11 k9 (.string y.name) (.slice (some ⟨xb, xo, none⟩) y.args.length xc)) := (da.block k9 (by omega)).trans Y9.out
      replace Y10 : Hid (BoxFa w11 k10 (.string noneName) (.slice (some ⟨xb, xo, none⟩) y.args.length xc)) := (da.block k10 (by omega)).trans Y10.out
      replace Y11 : Hid (BoxFa w11 k11 (.string y.name) (.slice na7 M7.length nc7)) := (da.block k11 (by omega)).trans Y11.out
      replace RL : Hid (RepLG (fun b => b < k12) w11 M7 (.slice na7 M7.length nc7)) := RepLG.on (fun _ h => h) (fun b hb' => da.block b (by omega)) RL.out
      replace X12 : Hid (BoxPr w11 k12 (.slice d0 q.decls.length d1) (.slice na9 M9.length nc9) (.slice r0 q.rules.length r1)) := (da.block k12 (by omega)).trans X12.out
      rw [hkN] at R9
      replace R9 : Hid (RepFas (fun b => b < k13) w11 M9 (.slice na9 M9.length nc9)) := RepFas.on (fun _ h => h) (fun b hb' => da.block b (by omega)) R9.out
      have KK2 : Hid (W.heap.size ≤ k8 ∧ k8 < k9 ∧ k9 < k10 ∧ k10 < k11 ∧ k11 < k12 ∧ k12 < k13 ∧ k13 < w11.heap.size) := by refine ⟨?_, ?_, ?_, ?_, ?_, ?_, ?_⟩ <;> omega
      replace KK := KK2
      replace BW := BW2
      have X13 := Lib.hid mk
      clear mk da sa hkN hKK KK2 BW2
      clear o0 o1 o2
      have KT : Hid (k13 < w11.heap.size) := by have := KK.out; show _ < _; omega
      refine wp_region_factsP (by rfl) 123 (by rfl) (by kernel_rfl) 5 (fun q => q == 0 || q == 1 || q == 2 || q == 3 || q == 4) (by kernel_rfl) (fun ph wz iz vz => Sf11 w11.heap.size k13 k8 q fa0 fa1 y xc M7 na7 nc7 ph wz iz vz) (fun ph w' => if ph = true then Below w11.heap.size w11 w' else Below w11.heap.size w11 w') (Below.drew (Below.refl _ _)) ⟨?s0, ?s1, ?s2, ?s3, ?s4, ?s5, ?s6, trivial⟩ (by rfl) ?last
      case s0 =>
        intro a w' hoff hg hdep K hK
        replace hg : Below w11.heap.size w11 w' := hg
        have h8 := off_at hoff 8 (v := .pointer (some ⟨k8, 0, none⟩)) (by kernel_rfl) rfl
        rw [if_pos (by rfl)]
        go_simp
        exact hK.out _ _ hg rfl (fun _ _ h => h)
      case s1 =>
        intro a w' hoff hg hdep K hK
        replace hg : Below w11.heap.size w11 w' := hg
        obtain ⟨v0, e0, f0⟩ := hdep 0 _ 53 (by kernel_rfl) rfl rfl
        obtain rfl : v0 = .pointer (some ⟨k8, 1, none⟩) := f0
        rw [if_pos (by rfl)]
        obtain ⟨o0, o1, o2⟩ := BoxPr.cells ((hg.block k8 (by have := KK.out; omega)).trans X4.out)
        go_simp
        exact hK.out _ _ hg rfl (fun _ _ h => h)
      case s2 =>
        intro a w' hoff hg hdep K hK
        replace hg : Below w11.heap.size w11 w' := hg
        obtain ⟨v1, e1, f1⟩ := hdep 1 _ 54 (by kernel_rfl) rfl rfl
        obtain rfl : v1 = .slice fa0 q.facts.length fa1 := f1
        have hrr := SlG.on (fun b (hb : b < k8) => (by have := KK.out; omega : b < k13)) (fun b hb => hg.block b (by have := KK.out; omega)) (fun _ _ _ h => RepFa.on (fun b (hb : b < k8) => (by have := KK.out; omega : b < k13)) (fun b hb => hg.block b (by have := KK.out; omega)) h) G4.out.2.1
        obtain ⟨v', w6, hrun, hown, hgr⟩ := own_manyS (K := kdFa) (S := fun b => b < k13) (L := []) (m := q.facts) (lv := .slice none 0 0) (OwnK.nil _ w' w11.heap.size) hrr (fun b hb => ⟨(Nat.lt_of_lt_of_le (Nat.lt_trans hb KT.out) hg.size), by simp [Value.ownBlock]⟩) hg.size (by have := HLN.out; simp; omega) 26
        refine step_append_by rfl (.const (.slice none 0 0)) (.tmp 54) 26 rfl (by simp [Act.eval]) (by simp [Act.eval, e1]) hrun ?_
        have hb : Below w'.heap.size w' w6 := ⟨hgr.os, hgr.tape, hgr.output, hgr.size, fun j hj => hgr.block j hj (by simp [Value.ownBlock])⟩
        exact hK.out _ _ (Below.step hg hb) (fun _ => ⟨Nat.lt_of_lt_of_le KT.out (Nat.le_trans hg.size hb.size), by simpa using hown⟩) (fun j u h => Sf11.stay _ _ _ _ _ _ _ _ _ _ _  hb j u h)
      case s3 =>
        intro a w' hoff hg hdep K hK
        replace hg : Below w11.heap.size w11 w' := hg
        have h11 := off_at hoff 11 (v := .pointer (some ⟨k11, 0, none⟩)) (by kernel_rfl) rfl
        rw [if_pos (by rfl)]
        obtain ⟨o0, o1⟩ := BoxFa.cells ((hg.block k11 (by have := KK.out; omega)).trans Y11.out)
        go_simp
        exact hK.out _ _ hg rfl (fun _ _ h => h)
      case s4 =>
        intro a w' hoff hg hdep K hK
        replace hg : Below w11.heap.size w11 w' := hg
        obtain ⟨v3, e3, f3⟩ := hdep 3 _ 56 (by kernel_rfl) rfl rfl
        obtain rfl : v3 = .agg #[.string y.name, .slice na7 M7.length nc7] := f3
        rw [if_pos (by rfl)]
        go_simp
        have hb := below_alloc w' (.cells #[.string y.name, .slice na7 M7.length nc7] 56)
        exact hK.out _ _ (Below.step hg hb) (fun _ => RowOf.new (Nat.zero_le _)) (fun j u h => Sf11.stay _ _ _ _ _ _ _ _ _ _ _  hb j u h)
      case s5 =>
        intro a w' hoff hg hdep K hK
        replace hg : Below w11.heap.size w11 w' := hg
        obtain ⟨v2, e2, f2⟩ := hdep 2 _ 55 (by kernel_rfl) rfl rfl
        replace f2 : k13 < w'.heap.size ∧ OwnK kdFa (fun b => b < k13) w' w11.heap.size q.facts v2 := f2 rfl
        obtain ⟨v4, e4, f4⟩ := hdep 4 _ 57 (by kernel_rfl) rfl rfl
        replace f4 : RowOf 0 (.cells #[.string y.name, .slice na7 M7.length nc7] 56 (0, 0)) w' v4 := f4 rfl
        obtain ⟨rb, rfl, hbk, -⟩ := f4
        have hown0 := f2.2
        obtain ⟨v', w6, hrun, hown, hgr⟩ := own_manyS (K := kdFa) (S := fun b => b < k13) (S1 := fun _ => True) (L := q.facts) (m := [⟨y.name, M7⟩]) (lv := v2) hown0 (one_row (c := at2v (.string y.name) (.slice na7 M7.length nc7)) hbk trivial (fun j hj => match j, hj with | 0, _ => rfl | 1, _ => rfl) (⟨rfl, HY.out.2.1, RepLG.on (fun b (hb : b < k12) => (by have := KK.out; omega : b < k13)) (fun b hb => hg.block b (by have := KK.out; omega)) RL.out⟩)) (fun b hb => ⟨(Nat.lt_of_lt_of_le (Nat.lt_trans hb KT.out) hg.size), fun e => by have := (OwnK.lies hown0 b e).1; have := KT.out; omega⟩) hg.size (by have := HLN.out; simp; omega) 26
        refine step_append_by rfl (.tmp 55) (.tmp 57) 26 rfl (by simp [Act.eval, e2]) (by simp [Act.eval, e4]) hrun ?_
        have hG2 : Below w11.heap.size w11 w6 := ⟨hgr.os.trans hg.os, hgr.tape.trans hg.tape, hgr.output.trans hg.output, Nat.le_trans hg.size hgr.size, fun j hj => (hgr.block j (Nat.lt_of_lt_of_le hj hg.size) (fun e => by have := (OwnK.lies hown0 j e.symm).1; omega)).trans (hg.block j hj)⟩
        exact hK.out _ _ hG2 (fun _ => hown) (fun j u hne h => Sf11.pass _ _ _ _ _ _ _ _ _ _ _  j u hne h)
      case s6 =>
        intro ph a w' hoff hg hdep K hK
        have h13 := off_at hoff 13 (v := .pointer (some ⟨k13, 0, none⟩)) (by kernel_rfl) rfl
        rw [if_pos (by rfl)]
        go_simp
        exact hK.out _ _ hg rfl (fun _ _ h => h)
      case last =>
        intro a w' hoff hg hf
        replace hg : Below w11.heap.size w11 w' := hg
        obtain ⟨v0, e0, f0⟩ := hf 0 _ 53 (by decide) rfl rfl
        obtain rfl : v0 = .pointer (some ⟨k8, 1, none⟩) := f0
        obtain ⟨v1, e1, f1⟩ := hf 1 _ 54 (by decide) rfl rfl
        obtain rfl : v1 = .slice fa0 q.facts.length fa1 := f1
        obtain ⟨v2, e2, f2⟩ := hf 2 _ 55 (by decide) rfl rfl
        clear f2
        obtain ⟨v3, e3, f3⟩ := hf 3 _ 56 (by decide) rfl rfl
        obtain rfl : v3 = .agg #[.string y.name, .slice na7 M7.length nc7] := f3
        obtain ⟨v4, e4, f4⟩ := hf 4 _ 57 (by decide) rfl rfl
        clear f4
        obtain ⟨v5, e5, f5⟩ := hf 5 _ 58 (by decide) rfl rfl
        replace f5 : OwnK kdFa (fun b => b < k13) w' w11.heap.size (q.facts ++ [⟨y.name, M7⟩]) v5 := f5 rfl
        obtain ⟨v6, e6, f6⟩ := hf 6 _ 59 (by decide) rfl rfl
        obtain rfl : v6 = .pointer (some ⟨k13, 1, none⟩) := f6
        obtain ⟨M11, hM⟩ : ∃ M, q.facts ++ [⟨y.name, M7⟩] = M := ⟨_, rfl⟩
        rw [hM] at f5
        have hml : M11.length ≤ 100000 := by rw [← hM, List.length_append]; have := HLN.out; simp; omega
        obtain ⟨na11, nc11, rfl⟩ := OwnK.form f5
        have hy : BoxPr w' k13 (.slice d0 q.decls.length d1) (.slice fa0 q.facts.length fa1) (.slice r0 q.rules.length r1) := (hg.block k13 (by have := KK.out; omega)).trans X13.out
        obtain ⟨o0, o1, o2⟩ := hy.cells
        have z1 := frozen_of_row w' k13 1 _ _ hy
        rw [if_pos (by rfl)]
        rw [hoff.sets [(53, .pointer (some ⟨k8, 1, none⟩)), (54, .slice fa0 q.facts.length fa1), (55, v2), (56, .agg #[.string y.name, .slice na7 M7.length nc7]), (57, v4), (58, .slice na11 M11.length nc11), (59, .pointer (some ⟨k13, 1, none⟩))] (by kernel_rfl) (by intro p hp; simp only [List.mem_cons, List.not_mem_nil, or_false] at hp; rcases hp with rfl | rfl | rfl | rfl | rfl | rfl | rfl <;> assumption)]
        clear hoff hf e0 e1 e2 e3 e4 e5 e6
        simp only [List.foldl_cons, List.foldl_nil, List.setIfInBounds_toArray, List.set_cons_zero, List.set_cons_succ]
        go_simp
        have hKK := KK.out
        have hbl : ∀ b, b < k13 → (w'.setCell ⟨k13, 1, none⟩ (.slice na11 M11.length nc11)).heap[b]? = w11.heap[b]? := fun b hb => (Below.heap_setCell _ _ _ _ (by simp; omega)).trans (hg.block b (by omega))
        have mk : BoxPr (w'.setCell ⟨k13, 1, none⟩ (.slice na11 M11.length nc11)) k13 (.slice d0 q.decls.length d1) (.slice na11 M11.length nc11) (.slice r0 q.rules.length r1) := heap_setCell_same _ _ _ _ _ _ hy
        have ho : OwnK kdFa (fun b => b < k13) (w'.setCell ⟨k13, 1, none⟩ (.slice na11 M11.length nc11)) w11.heap.size M11 (.slice na11 M11.length nc11) := OwnK.on f5 (fun _ h => h) (fun b hb => Below.heap_setCell _ _ _ _ (by simp; omega)) (fun b h1 _ _ => Below.heap_setCell _ _ _ _ (by simp; omega))
        have hsz : (w'.setCell ⟨k13, 1, none⟩ (.slice na11 M11.length nc11)).heap.size = w'.heap.size := by simp [World.setCell]
        have hgs := hg.size
        have BW2 : Hid (Below W.heap.size W (w'.setCell ⟨k13, 1, none⟩ (.slice na11 M11.length nc11))) := Below.setCell (p := ⟨k13, 1, none⟩) (Below.trans BW.out (hg.mono (show W.heap.size ≤ w11.heap.size by omega))) (by simp; omega) _
        have R11 : Hid (RepFas (fun b => b < (w'.setCell ⟨k13, 1, none⟩ (.slice na11 M11.length nc11)).heap.size) (w'.setCell ⟨k13, 1, none⟩ (.slice na11 M11.length nc11)) M11 (.slice na11 M11.length nc11)) := OwnK.slg' ho (fun b (hb : b < k13) => (by omega : b < (w'.setCell ⟨k13, 1, none⟩ (.slice na11 M11.length nc11)).heap.size)) (fun b h1 h2 => h2) hml
        have HM_M11 := Lib.hid hM
        replace X4 : Hid (BoxPr (w'.setCell ⟨k13, 1, none⟩ (.slice na11 M11.length nc11)) k8 (.slice d0 q.decls.length d1) (.slice fa0 q.facts.length fa1) (.slice r0 q.rules.length r1)) := (hbl k8 (by omega)).trans X4.out
        replace G4 : Hid (RepPr (fun b => b < k8) (w'.setCell ⟨k13, 1, none⟩ (.slice na11 M11.length nc11)) q (.slice d0 q.decls.length d1) (.slice fa0 q.facts.length fa1) (.slice r0 q.rules.length r1)) := RepPr.on (fun _ h => h) (fun b hb' => hbl b (by omega)) G4.out
        replace HY : Hid (RepFa (fun b => b < k9) (w'.setCell ⟨k13, 1, none⟩ (.slice na11 M11.length nc11)) y (.string y.name) (.slice (some ⟨xb, xo, none⟩) y.args.length xc)) := RepFa.on (fun _ h => h) (fun b hb' => hbl b (by omega)) HY.out
        replace Y9 : Hid (BoxFa (w'.setCell ⟨k13, 1, none⟩ (.slice na11 M11.length nc11)) k9 (.string y.name) (.slice (some ⟨xb, xo, none⟩) y.args.length xc)) := (hbl k9 (by omega)).trans Y9.out
        replace Y10 : Hid (BoxFa (w'.setCell ⟨k13, 1, none⟩ (.slice na11 M11.length nc11)) k10 (.string noneName) (.slice (some ⟨xb, xo, none⟩) y.args.length xc)) := (hbl k10 (by omega)).trans Y10.out
        replace Y11 : Hid (BoxFa (w'.setCell ⟨k13, 1, none⟩ (.slice na11 M11.length nc11)) k11 (.string y.name) (.slice na7 M7.length nc7)) := (hbl k11 (by omega)).trans Y11.out
        replace RL : Hid (RepLG (fun b => b < k12) (w'.setCell ⟨k13, 1, none⟩ (.slice na11 M11.length nc11)) M7 (.slice na7 M7.length nc7)) := RepLG.on (fun _ h => h) (fun b hb' => hbl b (by omega)) RL.out
        replace X12 : Hid (BoxPr (w'.setCell ⟨k13, 1, none⟩ (.slice na11 M11.length nc11)) k12 (.slice d0 q.decls.length d1) (.slice na9 M9.length nc9) (.slice r0 q.rules.length r1)) := (hbl k12 (by omega)).trans X12.out
        replace R9 : Hid (RepFas (fun b => b < k13) (w'.setCell ⟨k13, 1, none⟩ (.slice na11 M11.length nc11)) M9 (.slice na9 M9.length nc9)) := RepFas.on (fun _ h => h) (fun b hb' => hbl b (by omega)) R9.out
        replace X13 := Lib.hid mk
        have KK2 : Hid (W.heap.size ≤ k8 ∧ k8 < k9 ∧ k9 < k10 ∧ k10 < k11 ∧ k11 < k12 ∧ k12 < k13 ∧ k13 < (w'.setCell ⟨k13, 1, none⟩ (.slice na11 M11.length nc11)).heap.size) := by refine ⟨?_, ?_, ?_, ?_, ?_, ?_, ?_⟩ <;> omega
        replace KK := KK2
        replace BW := BW2
        clear hM hml hy hKK hbl mk ho hsz hgs hg f5 o0 o1 o2 z1 KT KK2 BW2
        generalize (w'.setCell ⟨k13, 1, none⟩ (.slice na11 M11.length nc11)) = w12 at *
        obtain ⟨o0, o1, o2⟩ := X4.out.cells
        go_upto_region 13 with fail
        have mk : BoxPr (w12.alloc (.cells #[.slice d0 q.decls.length d1, .slice fa0 q.facts.length fa1, .slice r0 q.rules.length r1] 29)) w12.heap.size (.slice d0 q.decls.length d1) (.slice fa0 q.facts.length fa1) (.slice r0 q.rules.length r1) := alloc_new' w12 _
        have da := below_alloc w12 (.cells #[.slice d0 q.decls.length d1, .slice fa0 q.facts.length fa1, .slice r0 q.rules.length r1] 29)
        have sa := World.size_alloc w12 (.cells #[.slice d0 q.decls.length d1, .slice fa0 q.facts.length fa1, .slice r0 q.rules.length r1] 29)
        generalize w12.alloc (.cells #[.slice d0 q.decls.length d1, .slice fa0 q.facts.length fa1, .slice r0 q.rules.length r1] 29) = w13 at *
        obtain ⟨k14, hkN⟩ : ∃ k, w12.heap.size = k := ⟨_, rfl⟩
        have BW2 := Lib.hid (Below.step BW.out da)
        have hKK := KK.out
        rw [hkN] at mk da sa hKK ⊢
        replace X4 : Hid (BoxPr w13 k8 (.slice d0 q.decls.length d1) (.slice fa0 q.facts.length fa1) (.slice r0 q.rules.length r1)) := (da.block k8 (by omega)).trans X4.out
        replace G4 : Hid (RepPr (fun b => b < k8) w13 q (.slice d0 q.decls.length d1) (.slice fa0 q.facts.length fa1) (.slice r0 q.rules.length r1)) := RepPr.on (fun _ h => h) (fun b hb' => da.block b (by omega)) G4.out
        replace HY : Hid (RepFa (fun b => b < k9) w13 y (.string y.name) (.slice (some ⟨xb, xo, none⟩) y.args.length xc)) := RepFa.on (fun _ h => h) (fun b hb' => da.block b (by omega)) HY.out
        replace Y9 : Hid (BoxFa w13 k9 (.string y.name) (.slice (some ⟨xb, xo, none⟩) y.args.length xc)) := (da.block k9 (by omega)).trans Y9.out
        replace Y10 : Hid (BoxFa w13 k10 (.string noneName) (.slice (some ⟨xb, xo, none⟩) y.args.length xc)) := (da.block k10 (by omega)).trans Y10.out
        replace Y11 : Hid (BoxFa w13 k11 (.string y.name) (.slice na7 M7.length nc7)) := (da.block k11 (by omega)).trans Y11.out
        replace RL : Hid (RepLG (fun b => b < k12) w13 M7 (.slice na7 M7.length nc7)) := RepLG.on (fun _ h => h) (fun b hb' => da.block b (by omega)) RL.out
        replace X12 : Hid (BoxPr w13 k12 (.slice d0 q.decls.length d1) (.slice na9 M9.length nc9) (.slice r0 q.rules.length r1)) := (da.block k12 (by omega)).trans X12.out
        replace R9 : Hid (RepFas (fun b => b < k13) w13 M9 (.slice na9 M9.length nc9)) := RepFas.on (fun _ h => h) (fun b hb' => da.block b (by omega)) R9.out
        replace X13 : Hid (BoxPr w13 k13 (.slice d0 q.decls.length d1) (.slice na11 M11.length nc11) (.slice r0 q.rules.length r1)) := (da.block k13 (by omega)).trans X13.out
        rw [hkN] at R11
        replace R11 : Hid (RepFas (fun b => b < k14) w13 M11 (.slice na11 M11.length nc11)) := RepFas.on (fun _ h => h) (fun b hb' => da.block b (by omega)) R11.out
        have KK2 : Hid (W.heap.size ≤ k8 ∧ k8 < k9 ∧ k9 < k10 ∧ k10 < k11 ∧ k11 < k12 ∧ k12 < k13 ∧ k13 < k14 ∧ k14 < w13.heap.size) := by refine ⟨?_, ?_, ?_, ?_, ?_, ?_, ?_, ?_⟩ <;> omega
        replace KK := KK2
        replace BW := BW2
        have X14 := Lib.hid mk
        clear mk da sa hkN hKK KK2 BW2
        clear o0 o1 o2
        obtain ⟨ip, hip, hipn, hipb⟩ := pick_nat which (n := 6) (by omega)
        have hd6 : ip < 6 := by omega
        have HPI : Hid (pickZ which 6 = (ip : Int) ∧ (pickZ which 6).toNat = ip ∧ ip < 6) := ⟨hip, hipn, hd6⟩
        obtain ⟨db, dxo, hda, hdb, dd, hdc0, hdc1, hdd, hdr⟩ : ∃ (b o : Nat), d0 = some ⟨b, o, none⟩ ∧ b < k8 ∧ ∃ d : De, w13.cell? ⟨b, o + ip * 2, none⟩ = some (.string d.name) ∧ w13.cell? ⟨b, o + ip * 2 + 1, none⟩ = some (.int .i64 d.arity) ∧ d = decl6 ip ∧ RepDe (fun b => b < k8) w13 d (.string d.name) (.int .i64 d.arity) := by
          have hl : q.decls.length = 6 := by rw [HDE.out]; rfl
          obtain ⟨-, -, b, o, ha, hs, c, hc, hr⟩ := SlG.at G4.out.1 ip (by omega)
          obtain ⟨e0, e1⟩ := hr.form
          have hdq : q.decls[ip] = decl6 ip := by rw [decl6_get hd6]; simp only [HDE.out]; rfl
          exact ⟨b, o, ha, hs, q.decls[ip], (by rw [← e0]; exact hc 0 (by omega)), (by rw [← e1]; exact hc 1 (by omega)), hdq, by rw [← e0, ← e1]; exact hr⟩
        subst hda
        have DC : Hid (db < w13.heap.size ∧ w13.cell? ⟨db, dxo + ip * 2, none⟩ = some (.string dd.name) ∧ w13.cell? ⟨db, dxo + ip * 2 + 1, none⟩ = some (.int .i64 dd.arity)) := ⟨by have := KK.out; omega, hdc0, hdc1⟩
        have DR := Lib.hid hdr; have HDD := Lib.hid hdd
        have HLD : Hid (q.decls.length ≤ 12 ∧ q.decls.length = 6) := by show _ ∧ _; rw [HDE.out]; decide
        clear hip hipn hipb hd6 hdb hdc0 hdc1 hdd hdr
        have HLE : Hid (q.decls.length ≤ 12) := HLD.out.1
        have KT : Hid (k14 < w13.heap.size) := by have := KK.out; show _ < _; omega
        refine wp_region_factsP (by rfl) 123 (by rfl) (by kernel_rfl) 10 (fun q => q == 0 || q == 1 || q == 2 || q == 3 || q == 4 || q == 5 || q == 6 || q == 7 || q == 8 || q == 9) (by kernel_rfl) (fun ph wz iz vz => Sf13 w13.heap.size k14 k8 q dd db dxo d1 ip which ph wz iz vz) (fun ph w' => if ph = true then Below w13.heap.size w13 w' else Below w13.heap.size w13 w') (Below.drew (Below.refl _ _)) ⟨?s0, ?s1, ?s2, ?s3, ?s4, ?s5, ?s6, ?s7, ?s8, ?s9, ?s10, ?s11, trivial⟩ (by rfl) ?last
        case s0 =>
          intro a w' hoff hg hdep K hK
          replace hg : Below w13.heap.size w13 w' := hg
          have h8 := off_at hoff 8 (v := .pointer (some ⟨k8, 0, none⟩)) (by kernel_rfl) rfl
          rw [if_pos (by rfl)]
          go_simp
          exact hK.out _ _ hg rfl (fun _ _ h => h)
        case s1 =>
          intro a w' hoff hg hdep K hK
          replace hg : Below w13.heap.size w13 w' := hg
          obtain ⟨v0, e0, f0⟩ := hdep 0 _ 61 (by kernel_rfl) rfl rfl
          obtain rfl : v0 = .pointer (some ⟨k8, 0, none⟩) := f0
          rw [if_pos (by rfl)]
          obtain ⟨o0, o1, o2⟩ := BoxPr.cells ((hg.block k8 (by have := KK.out; omega)).trans X4.out)
          go_simp
          exact hK.out _ _ hg rfl (fun _ _ h => h)
        case s2 =>
          intro a w' hoff hg hdep K hK
          replace hg : Below w13.heap.size w13 w' := hg
          obtain ⟨v1, e1, f1⟩ := hdep 1 _ 62 (by kernel_rfl) rfl rfl
          obtain rfl : v1 = .slice (some ⟨db, dxo, none⟩) q.decls.length d1 := f1
          have hrr := SlG.on (fun b (hb : b < k8) => (by have := KK.out; omega : b < k14)) (fun b hb => hg.block b (by have := KK.out; omega)) (fun _ _ _ h => h) G4.out.1
          obtain ⟨v', w6, hrun, hown, hgr⟩ := own_manyS (K := kdDe) (S := fun b => b < k14) (L := []) (m := q.decls) (lv := .slice none 0 0) (OwnK.nil _ w' w13.heap.size) hrr (fun b hb => ⟨(Nat.lt_of_lt_of_le (Nat.lt_trans hb KT.out) hg.size), by simp [Value.ownBlock]⟩) hg.size (by have := HLE.out; simp; omega) 25
          refine step_append_by rfl (.const (.slice none 0 0)) (.tmp 62) 25 rfl (by simp [Act.eval]) (by simp [Act.eval, e1]) hrun ?_
          have hb : Below w'.heap.size w' w6 := ⟨hgr.os, hgr.tape, hgr.output, hgr.size, fun j hj => hgr.block j hj (by simp [Value.ownBlock])⟩
          exact hK.out _ _ (Below.step hg hb) (fun _ => ⟨Nat.lt_of_lt_of_le KT.out (Nat.le_trans hg.size hb.size), by simpa using hown⟩) (fun j u h => Sf13.stay _ _ _ _ _ _ _ _ _ _  hb j u h)
        case s3 =>
          intro a w' hoff hg hdep K hK
          replace hg : Below w13.heap.size w13 w' := hg
          have h8 := off_at hoff 8 (v := .pointer (some ⟨k8, 0, none⟩)) (by kernel_rfl) rfl
          rw [if_pos (by rfl)]
          go_simp
          exact hK.out _ _ hg rfl (fun _ _ h => h)
        case s4 =>
          intro a w' hoff hg hdep K hK
          replace hg : Below w13.heap.size w13 w' := hg
          obtain ⟨v3, e3, f3⟩ := hdep 3 _ 64 (by kernel_rfl) rfl rfl
          obtain rfl : v3 = .pointer (some ⟨k8, 0, none⟩) := f3
          rw [if_pos (by rfl)]
          obtain ⟨o0, o1, o2⟩ := BoxPr.cells ((hg.block k8 (by have := KK.out; omega)).trans X4.out)
          go_simp
          exact hK.out _ _ hg rfl (fun _ _ h => h)
        case s5 =>
          intro a w' hoff hg hdep K hK
          replace hg : Below w13.heap.size w13 w' := hg
          have h2 := off_at hoff 2 (v := .int .i64 which) (by kernel_rfl) rfl
          rw [if_pos (by rfl)]
          go_simp
          exact hK.out _ _ hg rfl (fun _ _ h => h)
        case s6 =>
          intro a w' hoff hg hdep K hK
          replace hg : Below w13.heap.size w13 w' := hg
          obtain ⟨v5, e5, f5⟩ := hdep 5 _ 66 (by kernel_rfl) rfl rfl
          obtain rfl : v5 = .int .i64 which := f5
          rw [if_pos (by rfl)]
          go_simp
          refine (pick6_any which 6 w' HW.out (by omega) (by omega)).mono ?_
          rintro e w2' ⟨rfl, rfl⟩
          rw [HPI.out.1]
          exact hK.out _ _ hg rfl (fun _ _ h => h)
        case s7 =>
          intro a w' hoff hg hdep K hK
          replace hg : Below w13.heap.size w13 w' := hg
          obtain ⟨v4, e4, f4⟩ := hdep 4 _ 65 (by kernel_rfl) rfl rfl
          obtain rfl : v4 = .slice (some ⟨db, dxo, none⟩) q.decls.length d1 := f4
          obtain ⟨v6, e6, f6⟩ := hdep 6 _ 67 (by kernel_rfl) rfl rfl
          obtain rfl : v6 = .int .i64 (ip : Int) := f6
          rw [if_pos (by rfl)]
          have hl := HLD.out.2; have hp := HPI.out.2.2
          have hl1 : (0 : Int) ≤ (ip : Int) := Int.natCast_nonneg ip
          have hl2 : (ip : Int) < (q.decls.length : Int) := by omega
          clear hl hp
          go_simp
          exact hK.out _ _ hg rfl (fun _ _ h => h)
        case s8 =>
          intro a w' hoff hg hdep K hK
          replace hg : Below w13.heap.size w13 w' := hg
          obtain ⟨v7, e7, f7⟩ := hdep 7 _ 68 (by kernel_rfl) rfl rfl
          obtain rfl : v7 = .pointer (some ⟨db, dxo + ip * 2, none⟩) := f7
          rw [if_pos (by rfl)]
          obtain ⟨-, g0, g1⟩ := DC.out
          replace g0 := (hg.cell (p := ⟨db, dxo + ip * 2, none⟩) DC.out.1).trans g0
          replace g1 := (hg.cell (p := ⟨db, dxo + ip * 2 + 1, none⟩) DC.out.1).trans g1
          go_simp
          exact hK.out _ _ hg rfl (fun _ _ h => h)
        case s9 =>
          intro a w' hoff hg hdep K hK
          replace hg : Below w13.heap.size w13 w' := hg
          obtain ⟨v8, e8, f8⟩ := hdep 8 _ 69 (by kernel_rfl) rfl rfl
          obtain rfl : v8 = .agg #[.string dd.name, .int .i64 dd.arity] := f8
          rw [if_pos (by rfl)]
          go_simp
          have hb := below_alloc w' (.cells #[.string dd.name, .int .i64 dd.arity] 62)
          exact hK.out _ _ (Below.step hg hb) (fun _ => RowOf.new (Nat.zero_le _)) (fun j u h => Sf13.stay _ _ _ _ _ _ _ _ _ _  hb j u h)
        case s10 =>
          intro a w' hoff hg hdep K hK
          replace hg : Below w13.heap.size w13 w' := hg
          obtain ⟨v2, e2, f2⟩ := hdep 2 _ 63 (by kernel_rfl) rfl rfl
          replace f2 : k14 < w'.heap.size ∧ OwnK kdDe (fun b => b < k14) w' w13.heap.size q.decls v2 := f2 rfl
          obtain ⟨v9, e9, f9⟩ := hdep 9 _ 70 (by kernel_rfl) rfl rfl
          replace f9 : RowOf 0 (.cells #[.string dd.name, .int .i64 dd.arity] 62 (0, 0)) w' v9 := f9 rfl
          obtain ⟨rb, rfl, hbk, -⟩ := f9
          have hown0 := f2.2
          obtain ⟨v', w6, hrun, hown, hgr⟩ := own_manyS (K := kdDe) (S := fun b => b < k14) (S1 := fun _ => True) (L := q.decls) (m := [dd]) (lv := v2) hown0 (one_row (c := at2v (.string dd.name) (.int .i64 dd.arity)) hbk trivial (fun j hj => match j, hj with | 0, _ => rfl | 1, _ => rfl) (DR.out)) (fun b hb => ⟨(Nat.lt_of_lt_of_le (Nat.lt_trans hb KT.out) hg.size), fun e => by have := (OwnK.lies hown0 b e).1; have := KT.out; omega⟩) hg.size (by have := HLE.out; simp; omega) 25
          refine step_append_by rfl (.tmp 63) (.tmp 70) 25 rfl (by simp [Act.eval, e2]) (by simp [Act.eval, e9]) hrun ?_
          have hG2 : Below w13.heap.size w13 w6 := ⟨hgr.os.trans hg.os, hgr.tape.trans hg.tape, hgr.output.trans hg.output, Nat.le_trans hg.size hgr.size, fun j hj => (hgr.block j (Nat.lt_of_lt_of_le hj hg.size) (fun e => by have := (OwnK.lies hown0 j e.symm).1; omega)).trans (hg.block j hj)⟩
          exact hK.out _ _ hG2 (fun _ => hown) (fun j u hne h => Sf13.pass _ _ _ _ _ _ _ _ _ _  j u hne h)
        case s11 =>
          intro ph a w' hoff hg hdep K hK
          have h14 := off_at hoff 14 (v := .pointer (some ⟨k14, 0, none⟩)) (by kernel_rfl) rfl
          rw [if_pos (by rfl)]
          go_simp
          exact hK.out _ _ hg rfl (fun _ _ h => h)
        case last =>
          intro a w' hoff hg hf
          replace hg : Below w13.heap.size w13 w' := hg
          obtain ⟨v0, e0, f0⟩ := hf 0 _ 61 (by decide) rfl rfl
          obtain rfl : v0 = .pointer (some ⟨k8, 0, none⟩) := f0
          obtain ⟨v1, e1, f1⟩ := hf 1 _ 62 (by decide) rfl rfl
          obtain rfl : v1 = .slice (some ⟨db, dxo, none⟩) q.decls.length d1 := f1
          obtain ⟨v2, e2, f2⟩ := hf 2 _ 63 (by decide) rfl rfl
          clear f2
          obtain ⟨v3, e3, f3⟩ := hf 3 _ 64 (by decide) rfl rfl
          obtain rfl : v3 = .pointer (some ⟨k8, 0, none⟩) := f3
          obtain ⟨v4, e4, f4⟩ := hf 4 _ 65 (by decide) rfl rfl
          obtain rfl : v4 = .slice (some ⟨db, dxo, none⟩) q.decls.length d1 := f4
          obtain ⟨v5, e5, f5⟩ := hf 5 _ 66 (by decide) rfl rfl
          obtain rfl : v5 = .int .i64 which := f5
          obtain ⟨v6, e6, f6⟩ := hf 6 _ 67 (by decide) rfl rfl
          obtain rfl : v6 = .int .i64 (ip : Int) := f6
          obtain ⟨v7, e7, f7⟩ := hf 7 _ 68 (by decide) rfl rfl
          obtain rfl : v7 = .pointer (some ⟨db, dxo + ip * 2, none⟩) := f7
          obtain ⟨v8, e8, f8⟩ := hf 8 _ 69 (by decide) rfl rfl
          obtain rfl : v8 = .agg #[.string dd.name, .int .i64 dd.arity] := f8
          obtain ⟨v9, e9, f9⟩ := hf 9 _ 70 (by decide) rfl rfl
          clear f9
          obtain ⟨v10, e10, f10⟩ := hf 10 _ 71 (by decide) rfl rfl
          replace f10 : OwnK kdDe (fun b => b < k14) w' w13.heap.size (q.decls ++ [dd]) v10 := f10 rfl
          obtain ⟨v11, e11, f11⟩ := hf 11 _ 72 (by decide) rfl rfl
          obtain rfl : v11 = .pointer (some ⟨k14, 0, none⟩) := f11
          obtain ⟨M13, hM⟩ : ∃ M, q.decls ++ [dd] = M := ⟨_, rfl⟩
          rw [hM] at f10
          have hml : M13.length ≤ 100000 := by rw [← hM, List.length_append]; have := HLE.out; simp; omega
          obtain ⟨na13, nc13, rfl⟩ := OwnK.form f10
          have hy : BoxPr w' k14 (.slice (some ⟨db, dxo, none⟩) q.decls.length d1) (.slice fa0 q.facts.length fa1) (.slice r0 q.rules.length r1) := (hg.block k14 (by have := KK.out; omega)).trans X14.out
          obtain ⟨o0, o1, o2⟩ := hy.cells
          have z0 := frozen_of_row w' k14 0 _ _ hy
          rw [if_pos (by rfl)]
          rw [hoff.sets [(61, .pointer (some ⟨k8, 0, none⟩)), (62, .slice (some ⟨db, dxo, none⟩) q.decls.length d1), (63, v2), (64, .pointer (some ⟨k8, 0, none⟩)), (65, .slice (some ⟨db, dxo, none⟩) q.decls.length d1), (66, .int .i64 which), (67, .int .i64 (ip : Int)), (68, .pointer (some ⟨db, dxo + ip * 2, none⟩)), (69, .agg #[.string dd.name, .int .i64 dd.arity]), (70, v9), (71, .slice na13 M13.length nc13), (72, .pointer (some ⟨k14, 0, none⟩))] (by kernel_rfl) (by intro p hp; simp only [List.mem_cons, List.not_mem_nil, or_false] at hp; rcases hp with rfl | rfl | rfl | rfl | rfl | rfl | rfl | rfl | rfl | rfl | rfl | rfl <;> assumption)]
          clear hoff hf e0 e1 e2 e3 e4 e5 e6 e7 e8 e9 e10 e11
          simp only [List.foldl_cons, List.foldl_nil, List.setIfInBounds_toArray, List.set_cons_zero, List.set_cons_succ]
          go_simp
          have hKK := KK.out
          have hbl : ∀ b, b < k14 → (w'.setCell ⟨k14, 0, none⟩ (.slice na13 M13.length nc13)).heap[b]? = w13.heap[b]? := fun b hb => (Below.heap_setCell _ _ _ _ (by simp; omega)).trans (hg.block b (by omega))
          have mk : BoxPr (w'.setCell ⟨k14, 0, none⟩ (.slice na13 M13.length nc13)) k14 (.slice na13 M13.length nc13) (.slice fa0 q.facts.length fa1) (.slice r0 q.rules.length r1) := heap_setCell_same _ _ _ _ _ _ hy
          have ho : OwnK kdDe (fun b => b < k14) (w'.setCell ⟨k14, 0, none⟩ (.slice na13 M13.length nc13)) w13.heap.size M13 (.slice na13 M13.length nc13) := OwnK.on f10 (fun _ h => h) (fun b hb => Below.heap_setCell _ _ _ _ (by simp; omega)) (fun b h1 _ _ => Below.heap_setCell _ _ _ _ (by simp; omega))
          have hsz : (w'.setCell ⟨k14, 0, none⟩ (.slice na13 M13.length nc13)).heap.size = w'.heap.size := by simp [World.setCell]
          have hgs := hg.size
          have BW2 : Hid (Below W.heap.size W (w'.setCell ⟨k14, 0, none⟩ (.slice na13 M13.length nc13))) := Below.setCell (p := ⟨k14, 0, none⟩) (Below.trans BW.out (hg.mono (show W.heap.size ≤ w13.heap.size by omega))) (by simp; omega) _
          have R13 : Hid (RepDes (fun b => b < (w'.setCell ⟨k14, 0, none⟩ (.slice na13 M13.length nc13)).heap.size) (w'.setCell ⟨k14, 0, none⟩ (.slice na13 M13.length nc13)) M13 (.slice na13 M13.length nc13)) := OwnK.slg' ho (fun b (hb : b < k14) => (by omega : b < (w'.setCell ⟨k14, 0, none⟩ (.slice na13 M13.length nc13)).heap.size)) (fun b h1 h2 => h2) hml
          have HM_M13 := Lib.hid hM
          replace X4 : Hid (BoxPr (w'.setCell ⟨k14, 0, none⟩ (.slice na13 M13.length nc13)) k8 (.slice (some ⟨db, dxo, none⟩) q.decls.length d1) (.slice fa0 q.facts.length fa1) (.slice r0 q.rules.length r1)) := (hbl k8 (by omega)).trans X4.out
          replace G4 : Hid (RepPr (fun b => b < k8) (w'.setCell ⟨k14, 0, none⟩ (.slice na13 M13.length nc13)) q (.slice (some ⟨db, dxo, none⟩) q.decls.length d1) (.slice fa0 q.facts.length fa1) (.slice r0 q.rules.length r1)) := RepPr.on (fun _ h => h) (fun b hb' => hbl b (by omega)) G4.out
          replace HY : Hid (RepFa (fun b => b < k9) (w'.setCell ⟨k14, 0, none⟩ (.slice na13 M13.length nc13)) y (.string y.name) (.slice (some ⟨xb, xo, none⟩) y.args.length xc)) := RepFa.on (fun _ h => h) (fun b hb' => hbl b (by omega)) HY.out
          replace Y9 : Hid (BoxFa (w'.setCell ⟨k14, 0, none⟩ (.slice na13 M13.length nc13)) k9 (.string y.name) (.slice (some ⟨xb, xo, none⟩) y.args.length xc)) := (hbl k9 (by omega)).trans Y9.out
          replace Y10 : Hid (BoxFa (w'.setCell ⟨k14, 0, none⟩ (.slice na13 M13.length nc13)) k10 (.string noneName) (.slice (some ⟨xb, xo, none⟩) y.args.length xc)) := (hbl k10 (by omega)).trans Y10.out
          replace Y11 : Hid (BoxFa (w'.setCell ⟨k14, 0, none⟩ (.slice na13 M13.length nc13)) k11 (.string y.name) (.slice na7 M7.length nc7)) := (hbl k11 (by omega)).trans Y11.out
          replace RL : Hid (RepLG (fun b => b < k12) (w'.setCell ⟨k14, 0, none⟩ (.slice na13 M13.length nc13)) M7 (.slice na7 M7.length nc7)) := RepLG.on (fun _ h => h) (fun b hb' => hbl b (by omega)) RL.out
          replace X12 : Hid (BoxPr (w'.setCell ⟨k14, 0, none⟩ (.slice na13 M13.length nc13)) k12 (.slice (some ⟨db, dxo, none⟩) q.decls.length d1) (.slice na9 M9.length nc9) (.slice r0 q.rules.length r1)) := (hbl k12 (by omega)).trans X12.out
          replace R9 : Hid (RepFas (fun b => b < k13) (w'.setCell ⟨k14, 0, none⟩ (.slice na13 M13.length nc13)) M9 (.slice na9 M9.length nc9)) := RepFas.on (fun _ h => h) (fun b hb' => hbl b (by omega)) R9.out
          replace X13 : Hid (BoxPr (w'.setCell ⟨k14, 0, none⟩ (.slice na13 M13.length nc13)) k13 (.slice (some ⟨db, dxo, none⟩) q.decls.length d1) (.slice na11 M11.length nc11) (.slice r0 q.rules.length r1)) := (hbl k13 (by omega)).trans X13.out
          replace R11 : Hid (RepFas (fun b => b < k14) (w'.setCell ⟨k14, 0, none⟩ (.slice na13 M13.length nc13)) M11 (.slice na11 M11.length nc11)) := RepFas.on (fun _ h => h) (fun b hb' => hbl b (by omega)) R11.out
          replace X14 := Lib.hid mk
          have KK2 : Hid (W.heap.size ≤ k8 ∧ k8 < k9 ∧ k9 < k10 ∧ k10 < k11 ∧ k11 < k12 ∧ k12 < k13 ∧ k13 < k14 ∧ k14 < (w'.setCell ⟨k14, 0, none⟩ (.slice na13 M13.length nc13)).heap.size) := by refine ⟨?_, ?_, ?_, ?_, ?_, ?_, ?_, ?_⟩ <;> omega
          replace KK := KK2
          replace BW := BW2
          clear hM hml hy hKK hbl mk ho hsz hgs hg f10 o0 o1 o2 z0 KT KK2 BW2
          generalize (w'.setCell ⟨k14, 0, none⟩ (.slice na13 M13.length nc13)) = w14 at *
          obtain ⟨a0, a1, a2⟩ := X12.out.cells
          obtain ⟨b0, b1, b2⟩ := X13.out.cells
          obtain ⟨c0, c1, c2⟩ := X14.out.cells
          go_wp2_with fail
          clear a0 a1 a2 b0 b1 b2 c0 c1 c2
          have mk := alloc_new' w14 (.cells #[.slice (some ⟨db, dxo, none⟩) q.decls.length d1, .slice na9 M9.length nc9, .slice r0 q.rules.length r1, .slice (some ⟨db, dxo, none⟩) q.decls.length d1, .slice na11 M11.length nc11, .slice r0 q.rules.length r1, .slice na13 M13.length nc13, .slice fa0 q.facts.length fa1, .slice r0 q.rules.length r1] 29)
          have da := below_alloc w14 (.cells #[.slice (some ⟨db, dxo, none⟩) q.decls.length d1, .slice na9 M9.length nc9, .slice r0 q.rules.length r1, .slice (some ⟨db, dxo, none⟩) q.decls.length d1, .slice na11 M11.length nc11, .slice r0 q.rules.length r1, .slice na13 M13.length nc13, .slice fa0 q.facts.length fa1, .slice r0 q.rules.length r1] 29)
          have sa := World.size_alloc w14 (.cells #[.slice (some ⟨db, dxo, none⟩) q.decls.length d1, .slice na9 M9.length nc9, .slice r0 q.rules.length r1, .slice (some ⟨db, dxo, none⟩) q.decls.length d1, .slice na11 M11.length nc11, .slice r0 q.rules.length r1, .slice na13 M13.length nc13, .slice fa0 q.facts.length fa1, .slice r0 q.rules.length r1] 29)
          generalize w14.alloc (.cells #[.slice (some ⟨db, dxo, none⟩) q.decls.length d1, .slice na9 M9.length nc9, .slice r0 q.rules.length r1, .slice (some ⟨db, dxo, none⟩) q.decls.length d1, .slice na11 M11.length nc11, .slice r0 q.rules.length r1, .slice na13 M13.length nc13, .slice fa0 q.facts.length fa1, .slice r0 q.rules.length r1] 29) = w15 at *
          have hKK := KK.out
          have HP : Hid (∀ k, k < 3 → ∃ (p : Pr) (a0 a1 a2 : Option Addr) (m0 m1 m2 : Nat), w15.cell? ⟨w14.heap.size, k * 3, none⟩ = some (.slice a0 p.decls.length m0) ∧ w15.cell? ⟨w14.heap.size, k * 3 + 1, none⟩ = some (.slice a1 p.facts.length m1) ∧ w15.cell? ⟨w14.heap.size, k * 3 + 2, none⟩ = some (.slice a2 p.rules.length m2) ∧ RepPr (fun b => b < w15.heap.size) w15 p (.slice a0 p.decls.length m0) (.slice a1 p.facts.length m1) (.slice a2 p.rules.length m2) ∧ checkZ p = (60, -1)) := by
            intro k hk
            have cl := fun i v (h : (#[.slice (some ⟨db, dxo, none⟩) q.decls.length d1, .slice na9 M9.length nc9, .slice r0 q.rules.length r1, .slice (some ⟨db, dxo, none⟩) q.decls.length d1, .slice na11 M11.length nc11, .slice r0 q.rules.length r1, .slice na13 M13.length nc13, .slice fa0 q.facts.length fa1, .slice r0 q.rules.length r1] : Array Value)[i]? = some v) => cell_of_block' mk v h
            have g0 := RepDes.on (S' := fun b => b < w15.heap.size) (fun b (hb : b < k8) => (by omega : b < w15.heap.size)) (fun b hb => da.block b (by omega)) G4.out.1
            have g1 := RepFas.on (S' := fun b => b < w15.heap.size) (fun b (hb : b < k8) => (by omega : b < w15.heap.size)) (fun b hb => da.block b (by omega)) G4.out.2.1
            have g2 := RepRus.on (S' := fun b => b < w15.heap.size) (fun b (hb : b < k8) => (by omega : b < w15.heap.size)) (fun b hb => da.block b (by omega)) G4.out.2.2
            match k, hk with
            | 0, _ => exact ⟨⟨q.decls, M9, q.rules⟩, _, _, _, _, _, _, cl 0 _ rfl, cl 1 _ rfl, cl 2 _ rfl, ⟨g0, RepFas.on (fun b (hb : b < k13) => (by omega : b < w15.heap.size)) (fun b hb => da.block b (by omega)) R9.out, g2⟩, by rw [HDE.out, ← HM_M9.out]; exact HC1.out⟩
            | 1, _ => exact ⟨⟨q.decls, M11, q.rules⟩, _, _, _, _, _, _, cl 3 _ rfl, cl 4 _ rfl, cl 5 _ rfl, ⟨g0, RepFas.on (fun b (hb : b < k14) => (by omega : b < w15.heap.size)) (fun b hb => da.block b (by omega)) R11.out, g2⟩, by rw [HDE.out, ← HM_M11.out, ← HM_M7.out, ← HZ.out]; exact HC2.out⟩
            | 2, _ => exact ⟨⟨M13, q.facts, q.rules⟩, _, _, _, _, _, _, cl 6 _ rfl, cl 7 _ rfl, cl 8 _ rfl, ⟨RepDes.on (fun b (hb : b < w14.heap.size) => (by omega : b < w15.heap.size)) (fun b hb => da.block b hb) R13.out, g1, g2⟩, by rw [← HM_M13.out, HDE.out, HDD.out, ← HPI.out.2.1]; exact HC3.out⟩
          have HKR : Hid (w14.heap.size < w15.heap.size) := by show _ < _; omega
          have BW15 := Lib.hid (Below.step BW.out da)
          replace X4 := Lib.hid (X4.out.on da)
          replace Y9 : Hid (BoxFa w15 k9 (.string y.name) (.slice (some ⟨xb, xo, none⟩) y.args.length xc)) := (da.block k9 (by omega)).trans Y9.out
          replace G4 : Hid (RepPr (fun b => b < k8) w15 q (.slice (some ⟨db, dxo, none⟩) q.decls.length d1) (.slice fa0 q.facts.length fa1) (.slice r0 q.rules.length r1)) := RepPr.on (fun _ h => h) (fun b hb => da.block b (by omega)) G4.out
          replace HY : Hid (RepFa (fun b => b < k9) w15 y (.string y.name) (.slice (some ⟨xb, xo, none⟩) y.args.length xc)) := RepFa.on (fun _ h => h) (fun b hb => da.block b (by omega)) HY.out
          have KK15 : Hid (W.heap.size ≤ k8 ∧ k8 < k9 ∧ k9 < w15.heap.size) := by show _ ∧ _ ∧ _; omega
          obtain ⟨kr, hkr⟩ : ∃ k, w14.heap.size = k := ⟨_, rfl⟩
          rw [hkr] at HP HKR ⊢
          clear mk da sa hkr hKK KK BW R9 R11 R13 RL Y10 Y11 X12 X13 X14 ZR HZ ZC DC DR HDD HPI HM_M7 HM_M9 HM_M11 HM_M13 HLD HLE HLV HYL HC1 HC2 HC3
          go_loopw [78] (fun iv wr => ∃ k : Nat, k ≤ 3 ∧ iv = .int .i64 (k : Int) ∧ Below w15.heap.size w15 wr) (fun iv _ => 3 - (intOf iv).toNat)
          case atStart => exact ⟨0, by omega, rfl, Below.refl _ _⟩
          case round =>
            obtain ⟨k, hk, rfl, hb⟩ := hrel
            have HBR := Lib.hid hb
            clear hb
            by_cases hlt : k < 3
            · have i1 : decide ((k : Int) < 3) = true := decide_eq_true (by omega)
              have HKL := Lib.hid hlt
              obtain ⟨p, pa0, pa1, pa2, pm0, pm1, pm2, g0, g1, g2, grep, gchk⟩ := HP.out k hlt
              replace g0 := (HBR.out.cell (p := ⟨kr, k * 3, none⟩) HKR.out).trans g0
              replace g1 := (HBR.out.cell (p := ⟨kr, k * 3 + 1, none⟩) HKR.out).trans g1
              replace g2 := (HBR.out.cell (p := ⟨kr, k * 3 + 2, none⟩) HKR.out).trans g2
              have hk1 : (0 : Int) ≤ (k : Int) := Int.natCast_nonneg k
              have hk2 : (k : Int) < 3 := by omega
              have GP := Lib.hid grep; have GC := Lib.hid gchk
              clear grep gchk hk hlt
              go_upto_region 17 with fail
              have mk := boxPr_new wr (.slice pa0 p.decls.length pm0) (.slice pa1 p.facts.length pm1) (.slice pa2 p.rules.length pm2)
              have da := below_alloc wr (.cells #[.slice pa0 p.decls.length pm0, .slice pa1 p.facts.length pm1, .slice pa2 p.rules.length pm2] 29)
              generalize wr.alloc (.cells #[.slice pa0 p.decls.length pm0, .slice pa1 p.facts.length pm1, .slice pa2 p.rules.length pm2] 29) = wx at *
              have HBX := Lib.hid (Below.step HBR.out da)
              obtain ⟨o0, o1, o2⟩ := mk.cells
              clear da g0 g1 g2 hk1 hk2
              go_wp2_with fail
              refine (check_any p (fun b => b < w15.heap.size) wx _ _ _ (fun b hb => Nat.lt_of_lt_of_le hb HBX.out.size) (RepPr.on (fun _ h => h) (fun b hb => HBX.out.block b hb) GP.out)).mono ?_
              rw [GC.out]
              rintro e wy ⟨rfl, hb⟩
              have HBY := Lib.hid (Below.step HBX.out hb)
              clear hb o0 o1 o2 mk
              go_wp2_with fail
              go_roundw
              case rel => exact ⟨k + 1, HKL.out, (by have := HKL.out; rw [show wrap64 ((k : Int) + 1) = ((k + 1 : Nat) : Int) by unfold wrap64; omega]), HBY.out⟩
              case measure => exact measure_up HKL.out (by decide)
            · have i1 : decide ((k : Int) < 3) = false := decide_eq_false (by omega)
              clear hk hlt HP HKR
              have BW : Hid (Below W.heap.size W wr) := Below.step BW15.out HBR.out
              have hKK := KK15.out; have hbr := HBR.out
              have hsz := hbr.size
              have KK : Hid (W.heap.size ≤ k8 ∧ k8 < k9 ∧ k9 < wr.heap.size) := by refine ⟨?_, ?_, ?_⟩ <;> omega
              replace X4 : Hid (BoxPr wr k8 (.slice (some ⟨db, dxo, none⟩) q.decls.length d1) (.slice fa0 q.facts.length fa1) (.slice r0 q.rules.length r1)) := (hbr.block k8 (by omega)).trans X4.out
              replace Y9 : Hid (BoxFa wr k9 (.string y.name) (.slice (some ⟨xb, xo, none⟩) y.args.length xc)) := (hbr.block k9 (by omega)).trans Y9.out
              replace G4 : Hid (RepPr (fun b => b < k8) wr q (.slice (some ⟨db, dxo, none⟩) q.decls.length d1) (.slice fa0 q.facts.length fa1) (.slice r0 q.rules.length r1)) := RepPr.on (fun _ h => h) (fun b hb => hbr.block b (by omega)) G4.out
              replace HY : Hid (RepFa (fun b => b < k9) wr y (.string y.name) (.slice (some ⟨xb, xo, none⟩) y.args.length xc)) := RepFa.on (fun _ h => h) (fun b hb => hbr.block b (by omega)) HY.out
              clear hKK hbr hsz HBR KK15 BW15
              obtain ⟨o0, o1, o2⟩ := X4.out.cells
              go_upto_region 22 with fail
              have mk : BoxPr (wr.alloc (.cells #[.slice (some ⟨db, dxo, none⟩) q.decls.length d1, .slice fa0 q.facts.length fa1, .slice r0 q.rules.length r1] 29)) wr.heap.size (.slice (some ⟨db, dxo, none⟩) q.decls.length d1) (.slice fa0 q.facts.length fa1) (.slice r0 q.rules.length r1) := alloc_new' wr _
              have da := below_alloc wr (.cells #[.slice (some ⟨db, dxo, none⟩) q.decls.length d1, .slice fa0 q.facts.length fa1, .slice r0 q.rules.length r1] 29)
              have sa := World.size_alloc wr (.cells #[.slice (some ⟨db, dxo, none⟩) q.decls.length d1, .slice fa0 q.facts.length fa1, .slice r0 q.rules.length r1] 29)
              generalize wr.alloc (.cells #[.slice (some ⟨db, dxo, none⟩) q.decls.length d1, .slice fa0 q.facts.length fa1, .slice r0 q.rules.length r1] 29) = w21 at *
              obtain ⟨k19, hkN⟩ : ∃ k, wr.heap.size = k := ⟨_, rfl⟩
              have BW2 := Lib.hid (Below.step BW.out da)
              have hKK := KK.out
              rw [hkN] at mk da sa hKK ⊢
              replace X4 : Hid (BoxPr w21 k8 (.slice (some ⟨db, dxo, none⟩) q.decls.length d1) (.slice fa0 q.facts.length fa1) (.slice r0 q.rules.length r1)) := (da.block k8 (by omega)).trans X4.out
              replace G4 : Hid (RepPr (fun b => b < k8) w21 q (.slice (some ⟨db, dxo, none⟩) q.decls.length d1) (.slice fa0 q.facts.length fa1) (.slice r0 q.rules.length r1)) := RepPr.on (fun _ h => h) (fun b hb' => da.block b (by omega)) G4.out
              replace HY : Hid (RepFa (fun b => b < k9) w21 y (.string y.name) (.slice (some ⟨xb, xo, none⟩) y.args.length xc)) := RepFa.on (fun _ h => h) (fun b hb' => da.block b (by omega)) HY.out
              replace Y9 : Hid (BoxFa w21 k9 (.string y.name) (.slice (some ⟨xb, xo, none⟩) y.args.length xc)) := (da.block k9 (by omega)).trans Y9.out
              have KK2 : Hid (W.heap.size ≤ k8 ∧ k8 < k9 ∧ k9 < k19 ∧ k19 < w21.heap.size) := by refine ⟨?_, ?_, ?_, ?_⟩ <;> omega
              replace KK := KK2
              replace BW := BW2
              have X19 := Lib.hid mk
              clear mk da sa hkN hKK KK2 BW2
              clear o0 o1 o2
              have KT : Hid (k19 < w21.heap.size) := by have := KK.out; show _ < _; omega
              refine wp_region_factsP (by rfl) 123 (by rfl) (by kernel_rfl) 5 (fun q => q == 0 || q == 1 || q == 2 || q == 3 || q == 4) (by kernel_rfl) (fun ph wz iz vz => Sf22 w21.heap.size k19 k8 q fa0 fa1 y xc xb xo ph wz iz vz) (fun ph w' => if ph = true then Below w21.heap.size w21 w' else Below w21.heap.size w21 w') (Below.drew (Below.refl _ _)) ⟨?s0, ?s1, ?s2, ?s3, ?s4, ?s5, ?s6, trivial⟩ (by rfl) ?last
              case s0 =>
                intro a w' hoff hg hdep K hK
                replace hg : Below w21.heap.size w21 w' := hg
                have h8 := off_at hoff 8 (v := .pointer (some ⟨k8, 0, none⟩)) (by kernel_rfl) rfl
                rw [if_pos (by rfl)]
                go_simp
                exact hK.out _ _ hg rfl (fun _ _ h => h)
              case s1 =>
                intro a w' hoff hg hdep K hK
                replace hg : Below w21.heap.size w21 w' := hg
                obtain ⟨v0, e0, f0⟩ := hdep 0 _ 95 (by kernel_rfl) rfl rfl
                obtain rfl : v0 = .pointer (some ⟨k8, 1, none⟩) := f0
                rw [if_pos (by rfl)]
                obtain ⟨o0, o1, o2⟩ := BoxPr.cells ((hg.block k8 (by have := KK.out; omega)).trans X4.out)
                go_simp
                exact hK.out _ _ hg rfl (fun _ _ h => h)
              case s2 =>
                intro a w' hoff hg hdep K hK
                replace hg : Below w21.heap.size w21 w' := hg
                obtain ⟨v1, e1, f1⟩ := hdep 1 _ 96 (by kernel_rfl) rfl rfl
                obtain rfl : v1 = .slice fa0 q.facts.length fa1 := f1
                have hrr := SlG.on (fun b (hb : b < k8) => (by have := KK.out; omega : b < k19)) (fun b hb => hg.block b (by have := KK.out; omega)) (fun _ _ _ h => RepFa.on (fun b (hb : b < k8) => (by have := KK.out; omega : b < k19)) (fun b hb => hg.block b (by have := KK.out; omega)) h) G4.out.2.1
                obtain ⟨v', w6, hrun, hown, hgr⟩ := own_manyS (K := kdFa) (S := fun b => b < k19) (L := []) (m := q.facts) (lv := .slice none 0 0) (OwnK.nil _ w' w21.heap.size) hrr (fun b hb => ⟨(Nat.lt_of_lt_of_le (Nat.lt_trans hb KT.out) hg.size), by simp [Value.ownBlock]⟩) hg.size (by have := HLN.out; simp; omega) 26
                refine step_append_by rfl (.const (.slice none 0 0)) (.tmp 96) 26 rfl (by simp [Act.eval]) (by simp [Act.eval, e1]) hrun ?_
                have hb : Below w'.heap.size w' w6 := ⟨hgr.os, hgr.tape, hgr.output, hgr.size, fun j hj => hgr.block j hj (by simp [Value.ownBlock])⟩
                exact hK.out _ _ (Below.step hg hb) (fun _ => ⟨Nat.lt_of_lt_of_le KT.out (Nat.le_trans hg.size hb.size), by simpa using hown⟩) (fun j u h => Sf22.stay _ _ _ _ _ _ _ _ _ _  hb j u h)
              case s3 =>
                intro a w' hoff hg hdep K hK
                replace hg : Below w21.heap.size w21 w' := hg
                have h9 := off_at hoff 9 (v := .pointer (some ⟨k9, 0, none⟩)) (by kernel_rfl) rfl
                rw [if_pos (by rfl)]
                obtain ⟨o0, o1⟩ := BoxFa.cells ((hg.block k9 (by have := KK.out; omega)).trans Y9.out)
                go_simp
                exact hK.out _ _ hg rfl (fun _ _ h => h)
              case s4 =>
                intro a w' hoff hg hdep K hK
                replace hg : Below w21.heap.size w21 w' := hg
                obtain ⟨v3, e3, f3⟩ := hdep 3 _ 98 (by kernel_rfl) rfl rfl
                obtain rfl : v3 = .agg #[.string y.name, .slice (some ⟨xb, xo, none⟩) y.args.length xc] := f3
                rw [if_pos (by rfl)]
                go_simp
                have hb := below_alloc w' (.cells #[.string y.name, .slice (some ⟨xb, xo, none⟩) y.args.length xc] 56)
                exact hK.out _ _ (Below.step hg hb) (fun _ => RowOf.new (Nat.zero_le _)) (fun j u h => Sf22.stay _ _ _ _ _ _ _ _ _ _  hb j u h)
              case s5 =>
                intro a w' hoff hg hdep K hK
                replace hg : Below w21.heap.size w21 w' := hg
                obtain ⟨v2, e2, f2⟩ := hdep 2 _ 97 (by kernel_rfl) rfl rfl
                replace f2 : k19 < w'.heap.size ∧ OwnK kdFa (fun b => b < k19) w' w21.heap.size q.facts v2 := f2 rfl
                obtain ⟨v4, e4, f4⟩ := hdep 4 _ 99 (by kernel_rfl) rfl rfl
                replace f4 : RowOf 0 (.cells #[.string y.name, .slice (some ⟨xb, xo, none⟩) y.args.length xc] 56 (0, 0)) w' v4 := f4 rfl
                obtain ⟨rb, rfl, hbk, -⟩ := f4
                have hown0 := f2.2
                obtain ⟨v', w6, hrun, hown, hgr⟩ := own_manyS (K := kdFa) (S := fun b => b < k19) (S1 := fun _ => True) (L := q.facts) (m := [y]) (lv := v2) hown0 (one_row (c := at2v (.string y.name) (.slice (some ⟨xb, xo, none⟩) y.args.length xc)) hbk trivial (fun j hj => match j, hj with | 0, _ => rfl | 1, _ => rfl) (⟨rfl, HY.out.2.1, RepLG.on (fun b (hb : b < k9) => (by have := KK.out; omega : b < k19)) (fun b hb => hg.block b (by have := KK.out; omega)) HY.out.2.2⟩)) (fun b hb => ⟨(Nat.lt_of_lt_of_le (Nat.lt_trans hb KT.out) hg.size), fun e => by have := (OwnK.lies hown0 b e).1; have := KT.out; omega⟩) hg.size (by have := HLN.out; simp; omega) 26
                refine step_append_by rfl (.tmp 97) (.tmp 99) 26 rfl (by simp [Act.eval, e2]) (by simp [Act.eval, e4]) hrun ?_
                have hG2 : Below w21.heap.size w21 w6 := ⟨hgr.os.trans hg.os, hgr.tape.trans hg.tape, hgr.output.trans hg.output, Nat.le_trans hg.size hgr.size, fun j hj => (hgr.block j (Nat.lt_of_lt_of_le hj hg.size) (fun e => by have := (OwnK.lies hown0 j e.symm).1; omega)).trans (hg.block j hj)⟩
                exact hK.out _ _ hG2 (fun _ => hown) (fun j u hne h => Sf22.pass _ _ _ _ _ _ _ _ _ _  j u hne h)
              case s6 =>
                intro ph a w' hoff hg hdep K hK
                have h19 := off_at hoff 19 (v := .pointer (some ⟨k19, 0, none⟩)) (by kernel_rfl) rfl
                rw [if_pos (by rfl)]
                go_simp
                exact hK.out _ _ hg rfl (fun _ _ h => h)
              case last =>
                intro a w' hoff hg hf
                replace hg : Below w21.heap.size w21 w' := hg
                obtain ⟨v0, e0, f0⟩ := hf 0 _ 95 (by decide) rfl rfl
                obtain rfl : v0 = .pointer (some ⟨k8, 1, none⟩) := f0
                obtain ⟨v1, e1, f1⟩ := hf 1 _ 96 (by decide) rfl rfl
                obtain rfl : v1 = .slice fa0 q.facts.length fa1 := f1
                obtain ⟨v2, e2, f2⟩ := hf 2 _ 97 (by decide) rfl rfl
                clear f2
                obtain ⟨v3, e3, f3⟩ := hf 3 _ 98 (by decide) rfl rfl
                obtain rfl : v3 = .agg #[.string y.name, .slice (some ⟨xb, xo, none⟩) y.args.length xc] := f3
                obtain ⟨v4, e4, f4⟩ := hf 4 _ 99 (by decide) rfl rfl
                clear f4
                obtain ⟨v5, e5, f5⟩ := hf 5 _ 100 (by decide) rfl rfl
                replace f5 : OwnK kdFa (fun b => b < k19) w' w21.heap.size (q.facts ++ [y]) v5 := f5 rfl
                obtain ⟨v6, e6, f6⟩ := hf 6 _ 101 (by decide) rfl rfl
                obtain rfl : v6 = .pointer (some ⟨k19, 1, none⟩) := f6
                obtain ⟨M22, hM⟩ : ∃ M, q.facts ++ [y] = M := ⟨_, rfl⟩
                rw [hM] at f5
                have hml : M22.length ≤ 100000 := by rw [← hM, List.length_append]; have := HLN.out; simp; omega
                obtain ⟨na22, nc22, rfl⟩ := OwnK.form f5
                have hy : BoxPr w' k19 (.slice (some ⟨db, dxo, none⟩) q.decls.length d1) (.slice fa0 q.facts.length fa1) (.slice r0 q.rules.length r1) := (hg.block k19 (by have := KK.out; omega)).trans X19.out
                obtain ⟨o0, o1, o2⟩ := hy.cells
                have z1 := frozen_of_row w' k19 1 _ _ hy
                rw [if_pos (by rfl)]
                rw [hoff.sets [(95, .pointer (some ⟨k8, 1, none⟩)), (96, .slice fa0 q.facts.length fa1), (97, v2), (98, .agg #[.string y.name, .slice (some ⟨xb, xo, none⟩) y.args.length xc]), (99, v4), (100, .slice na22 M22.length nc22), (101, .pointer (some ⟨k19, 1, none⟩))] (by kernel_rfl) (by intro p hp; simp only [List.mem_cons, List.not_mem_nil, or_false] at hp; rcases hp with rfl | rfl | rfl | rfl | rfl | rfl | rfl <;> assumption)]
                clear hoff hf e0 e1 e2 e3 e4 e5 e6
                simp only [List.foldl_cons, List.foldl_nil, List.setIfInBounds_toArray, List.set_cons_zero, List.set_cons_succ]
                go_simp
                have hKK := KK.out
                have hbl : ∀ b, b < k19 → (w'.setCell ⟨k19, 1, none⟩ (.slice na22 M22.length nc22)).heap[b]? = w21.heap[b]? := fun b hb => (Below.heap_setCell _ _ _ _ (by simp; omega)).trans (hg.block b (by omega))
                have mk : BoxPr (w'.setCell ⟨k19, 1, none⟩ (.slice na22 M22.length nc22)) k19 (.slice (some ⟨db, dxo, none⟩) q.decls.length d1) (.slice na22 M22.length nc22) (.slice r0 q.rules.length r1) := heap_setCell_same _ _ _ _ _ _ hy
                have ho : OwnK kdFa (fun b => b < k19) (w'.setCell ⟨k19, 1, none⟩ (.slice na22 M22.length nc22)) w21.heap.size M22 (.slice na22 M22.length nc22) := OwnK.on f5 (fun _ h => h) (fun b hb => Below.heap_setCell _ _ _ _ (by simp; omega)) (fun b h1 _ _ => Below.heap_setCell _ _ _ _ (by simp; omega))
                have hsz : (w'.setCell ⟨k19, 1, none⟩ (.slice na22 M22.length nc22)).heap.size = w'.heap.size := by simp [World.setCell]
                have hgs := hg.size
                have BW2 : Hid (Below W.heap.size W (w'.setCell ⟨k19, 1, none⟩ (.slice na22 M22.length nc22))) := Below.setCell (p := ⟨k19, 1, none⟩) (Below.trans BW.out (hg.mono (show W.heap.size ≤ w21.heap.size by omega))) (by simp; omega) _
                have R22 : Hid (RepFas (fun b => b < (w'.setCell ⟨k19, 1, none⟩ (.slice na22 M22.length nc22)).heap.size) (w'.setCell ⟨k19, 1, none⟩ (.slice na22 M22.length nc22)) M22 (.slice na22 M22.length nc22)) := OwnK.slg' ho (fun b (hb : b < k19) => (by omega : b < (w'.setCell ⟨k19, 1, none⟩ (.slice na22 M22.length nc22)).heap.size)) (fun b h1 h2 => h2) hml
                have HM_M22 := Lib.hid hM
                replace X4 : Hid (BoxPr (w'.setCell ⟨k19, 1, none⟩ (.slice na22 M22.length nc22)) k8 (.slice (some ⟨db, dxo, none⟩) q.decls.length d1) (.slice fa0 q.facts.length fa1) (.slice r0 q.rules.length r1)) := (hbl k8 (by omega)).trans X4.out
                replace G4 : Hid (RepPr (fun b => b < k8) (w'.setCell ⟨k19, 1, none⟩ (.slice na22 M22.length nc22)) q (.slice (some ⟨db, dxo, none⟩) q.decls.length d1) (.slice fa0 q.facts.length fa1) (.slice r0 q.rules.length r1)) := RepPr.on (fun _ h => h) (fun b hb' => hbl b (by omega)) G4.out
                replace HY : Hid (RepFa (fun b => b < k9) (w'.setCell ⟨k19, 1, none⟩ (.slice na22 M22.length nc22)) y (.string y.name) (.slice (some ⟨xb, xo, none⟩) y.args.length xc)) := RepFa.on (fun _ h => h) (fun b hb' => hbl b (by omega)) HY.out
                replace Y9 : Hid (BoxFa (w'.setCell ⟨k19, 1, none⟩ (.slice na22 M22.length nc22)) k9 (.string y.name) (.slice (some ⟨xb, xo, none⟩) y.args.length xc)) := (hbl k9 (by omega)).trans Y9.out
                replace X19 := Lib.hid mk
                have KK2 : Hid (W.heap.size ≤ k8 ∧ k8 < k9 ∧ k9 < k19 ∧ k19 < (w'.setCell ⟨k19, 1, none⟩ (.slice na22 M22.length nc22)).heap.size) := by refine ⟨?_, ?_, ?_, ?_⟩ <;> omega
                replace KK := KK2
                replace BW := BW2
                clear hM hml hy hKK hbl mk ho hsz hgs hg f5 o0 o1 o2 z1 KT KK2 BW2
                generalize (w'.setCell ⟨k19, 1, none⟩ (.slice na22 M22.length nc22)) = w22 at *
                obtain ⟨o0, o1, o2⟩ := X4.out.cells
                go_wp2_with fail
                refine (check_any q (fun b => b < k8) w22 _ _ _ (fun b (hb : b < k8) => (by have := KK.out; omega : b < w22.heap.size)) G4.out).mono ?_
                rintro e w23 ⟨rfl, hb⟩
                clear o0 o1 o2
                have hKK := KK.out; have hsz := hb.size
                have KK2 : Hid (W.heap.size ≤ k8 ∧ k8 < k9 ∧ k9 < k19 ∧ k19 < w23.heap.size) := by refine ⟨?_, ?_, ?_, ?_⟩ <;> omega
                replace X4 : Hid (BoxPr w23 k8 (.slice (some ⟨db, dxo, none⟩) q.decls.length d1) (.slice fa0 q.facts.length fa1) (.slice r0 q.rules.length r1)) := (hb.block k8 (by omega)).trans X4.out
                replace G4 : Hid (RepPr (fun b => b < k8) w23 q (.slice (some ⟨db, dxo, none⟩) q.decls.length d1) (.slice fa0 q.facts.length fa1) (.slice r0 q.rules.length r1)) := RepPr.on (fun _ h => h) (fun b hb' => hb.block b (by omega)) G4.out
                replace HY : Hid (RepFa (fun b => b < k9) w23 y (.string y.name) (.slice (some ⟨xb, xo, none⟩) y.args.length xc)) := RepFa.on (fun _ h => h) (fun b hb' => hb.block b (by omega)) HY.out
                replace Y9 : Hid (BoxFa w23 k9 (.string y.name) (.slice (some ⟨xb, xo, none⟩) y.args.length xc)) := (hb.block k9 (by omega)).trans Y9.out
                replace X19 : Hid (BoxPr w23 k19 (.slice (some ⟨db, dxo, none⟩) q.decls.length d1) (.slice na22 M22.length nc22) (.slice r0 q.rules.length r1)) := (hb.block k19 (by omega)).trans X19.out
                replace R22 : Hid (RepFas (fun b => b < w23.heap.size) w23 M22 (.slice na22 M22.length nc22)) := RepFas.on (fun b h => Nat.lt_of_lt_of_le h hsz) (fun b hb' => hb.block b hb') R22.out
                replace BW : Hid (Below W.heap.size W w23) := Below.step BW.out hb
                replace KK := KK2
                clear KK2 hKK hsz hb
                obtain ⟨o0, o1, o2⟩ := X19.out.cells
                go_wp2_with fail
                have hKK := KK.out
                refine (check_any ⟨q.decls, M22, q.rules⟩ (fun b => b < w23.heap.size) w23 _ _ _ (fun b hb => hb) ⟨RepDes.on (fun b (hb : b < k8) => (by omega : b < w23.heap.size)) (fun _ _ => rfl) G4.out.1, R22.out, RepRus.on (fun b (hb : b < k8) => (by omega : b < w23.heap.size)) (fun _ _ => rfl) G4.out.2.2⟩).mono ?_
                rw [show checkZ ⟨q.decls, M22, q.rules⟩ = checkZ q by rw [HDE.out, ← HM_M22.out]; exact HC4.out]
                rintro e w24 ⟨rfl, hb⟩
                have BW24 := Lib.hid (Below.step BW.out hb)
                clear hb o0 o1 o2 hKK
                go_wp2_with fail
                go_ret
                exact ⟨rfl, BW24.out⟩

end Go.Proofs.Ytkaiihoijcpldaa.scopeFacts
