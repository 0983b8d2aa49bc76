/-
  RoMergeds, RoMergeAny, GrIndex, GrDelete
-/
import Derived.Test.YtpnaegohjbaggaaKD07
import Derived.Test.YtpnaegohjbaggaaKD09
namespace Go.Proofs.Ytpnaegohjbaggaa
open Go.RowKit
structure MergeIs (l R : List Ro) : Prop where
 rise : R.Pairwise (fun a b => cmpRo a b < 0)
 there : ∀ r ∈ R, r ∈ l
 best : ∀ x ∈ l, ∃ r ∈ R, cmpRo r x = 0 ∧ x.stamp ≤ r.stamp
theorem cmpRo_self (a : Ro) : cmpRo a a = 0 := by have := (ord_cmpRo a a a).sym; omega
theorem le_stamp {a b : Ro} (h : Lib.compareInt a.stamp b.stamp ≤ 0) : a.stamp ≤ b.stamp := by
 unfold Lib.compareInt at h
 (repeat' split at h) <;> omega
theorem comp_facts : ∀ (l : List Cel) (p : Cel), (p :: l).Pairwise (fun a b => ¬ cmpMe b.1 a.1 < 0) →
  ((compB p l).Pairwise (fun a b => cmpRo a.1 b.1 < 0) ∧ ∀ r ∈ compB p l, cmpRo p.1 r.1 < 0) ∧ (∀ r ∈ compB p l, r ∈ l) ∧ ∀ x ∈ l, ∃ r ∈ p :: compB p l, cmpRo r.1 x.1 = 0 ∧ x.1.stamp ≤ r.1.stamp
 | [], p, _ => ⟨⟨by rw [compB]; exact List.Pairwise.nil, fun r hr => by simp [compB] at hr⟩, fun r hr => by simp [compB] at hr, fun x hx => by simp at hx⟩
 | x :: l, p, h => by
  obtain ⟨h1, h2⟩ := List.pairwise_cons.1 h;have hx := h1 x (by simp);have hle : cmpMe p.1 x.1 ≤ 0 := by have := (ord_cmpMe x.1 p.1 p.1).sym; omega
  obtain ⟨⟨i1, i2⟩, i3, i4⟩ := comp_facts l x h2;have hs := (ord_cmpRo x.1 p.1 p.1).sym;rw [compB]
  by_cases ha : alikeC x p = true
  ·rw [if_pos ha]
   have hz : cmpRo x.1 p.1 = 0 := by unfold alikeC at ha; exact beq_iff_eq.1 ha
   have hz' : cmpRo p.1 x.1 = 0 := by omega
   have hst : x.1.stamp ≤ p.1.stamp := by
    unfold cmpMe at hle;rw [if_neg (by omega)] at hle;exact le_stamp hle
   refine ⟨⟨i1, fun r hr => ?_⟩, fun r hr => List.mem_cons_of_mem _ (i3 r hr), fun y hy => ?_⟩
   ·have := (ord_cmpRo p.1 x.1 r.1).eqv hz'; have := i2 r hr; omega
   ·rcases List.mem_cons.1 hy with rfl | hy
    ·exact ⟨p, by simp, hz', hst⟩
    ·obtain ⟨r, hr, e1, e2⟩ := i4 y hy
     rcases List.mem_cons.1 hr with rfl | hr
     ·exact ⟨p, by simp, by have := (ord_cmpRo p.1 r.1 y.1).eqv hz'; omega, by omega⟩
     ·exact ⟨r, List.mem_cons_of_mem _ hr, e1, e2⟩
  ·rw [if_neg ha]
   have hz : cmpRo x.1 p.1 ≠ 0 := fun e => ha (by unfold alikeC; exact beq_iff_eq.2 e)
   have hlt : cmpRo p.1 x.1 < 0 := by
    unfold cmpMe at hle;rw [if_pos (by omega)] at hle;omega
   refine ⟨⟨List.pairwise_cons.2 ⟨i2, i1⟩, fun r hr => ?_⟩, fun r hr => ?_, fun y hy => ?_⟩
   ·rcases List.mem_cons.1 hr with rfl | hr
    ·exact hlt
    ·exact (ord_cmpRo p.1 x.1 r.1).lt hlt (Int.le_of_lt (i2 r hr))
   ·rcases List.mem_cons.1 hr with rfl | hr
    ·simp
    ·exact List.mem_cons_of_mem _ (i3 r hr)
   ·rcases List.mem_cons.1 hy with rfl | hy
    ·exact ⟨y, by simp, cmpRo_self _, Int.le_refl _⟩
    ·obtain ⟨r, hr, e⟩ := i4 y hy
     exact ⟨r, List.mem_cons_of_mem _ hr, e⟩
theorem comp_is {l : List Ro} {L M : List Cel} (hl : L.map (·.1) = l) (hp : M.Perm L) (hs : M.Pairwise (fun a b => ¬ cmpMe b.1 a.1 < 0)) : MergeIs l ((compC M).map (·.1)) ∧ ∀ r ∈ compC M, r ∈ L := by
 have hm : ∀ x, x ∈ l ↔ ∃ c ∈ M, c.1 = x := fun x => by
  rw [← hl, List.mem_map];exact ⟨fun ⟨c, h, e⟩ => ⟨c, hp.mem_iff.2 h, e⟩, fun ⟨c, h, e⟩ => ⟨c, hp.mem_iff.1 h, e⟩⟩
 match M, hs, hp, hm with
 | [], _, hp, hm =>
  refine ⟨⟨by simp [compC], fun r hr => by simp [compC] at hr, fun x hx => ?_⟩, fun r hr => by simp [compC] at hr⟩;obtain ⟨c, h, -⟩ := (hm x).1 hx;simp at h
 | p :: M, hs, hp, hm =>
  obtain ⟨⟨i1, i2⟩, i3, i4⟩ := comp_facts M p hs;rw [compC]
  have hin : ∀ r ∈ p :: compB p M, r ∈ p :: M := fun r hr => by
   rcases List.mem_cons.1 hr with rfl | hr
   ·simp
   ·exact List.mem_cons_of_mem _ (i3 r hr)
  refine ⟨⟨?_, fun r hr => ?_, fun x hx => ?_⟩, fun r hr => hp.mem_iff.1 (hin r hr)⟩
  ·rw [List.pairwise_map]
   exact List.pairwise_cons.2 ⟨i2, i1⟩
  ·obtain ⟨c, hc, rfl⟩ := List.mem_map.1 hr
   exact (hm _).2 ⟨c, hin c hc, rfl⟩
  ·obtain ⟨c, hc, rfl⟩ := (hm x).1 hx
   rcases List.mem_cons.1 hc with rfl | hc
   ·exact ⟨c.1, List.mem_map.2 ⟨c, by simp, rfl⟩, cmpRo_self _, Int.le_refl _⟩
   ·obtain ⟨r, hr, e⟩ := i4 c hc
    exact ⟨r.1, List.mem_map.2 ⟨r, hr, rfl⟩, e⟩
theorem cels_of {S : Nat → Prop} {B g : Nat} {l : List Ro} {w : World} (h : EachAt kdRo S B g l 0 w) : ∃ (L : List Cel) (cur : Array Value), L.map (·.1) = l ∧ w.heap[g]? = some (.cells cur 47 (0, 0)) ∧ CelAt cur L ∧ ∀ x ∈ L, RepRo S w x.1 (.string x.1.name) x.2 (.int .i64 x.1.stamp) := by
 obtain ⟨cs, h1, h2, h3⟩ := h
 have h4 : ∀ j : Fin l.length, ∃ v, cs[j.val * 3]? = some (.string l[j].name) ∧ cs[j.val * 3 + 1]? = some v ∧ cs[j.val * 3 + 2]? = some (.int .i64 l[j].stamp) ∧ RepRo S w l[j] (.string l[j].name) v (.int .i64 l[j].stamp) := fun j => by
  obtain ⟨c, e1, e2⟩ := h3 j.val j.isLt;have e3 : RepRo (fun b => if j.val < 0 then B ≤ b ∧ b < w.heap.size ∧ b ≠ g else S b) w l[j] (c 0) (c 1) (c 2) := e2;obtain ⟨xa, xc, c0, c1, c2⟩ := e3.form;have f0 := e1 0 (by decide); have f1 := e1 1 (by decide); have f2 := e1 2 (by decide)
  rw [c0] at f0; rw [c2] at f2
  rw [c0, c2] at e3;exact ⟨c 1, f0, f1, f2, RepRo.on (fun b hb => by rw [if_neg (by omega)] at hb; exact hb) (fun _ _ => rfl) e3⟩
 obtain ⟨f, hf⟩ := Classical.axiomOfChoice h4;have hlen : (List.ofFn fun j : Fin l.length => (l[j], f j)).length = l.length := List.length_ofFn;refine ⟨List.ofFn fun j : Fin l.length => (l[j], f j), cs, ?_, h1, ⟨by rw [hlen]; exact h2, fun j hj t ht => ?_⟩, fun x hx => ?_⟩
 ·apply List.ext_getElem
  ·simp
  ·intro i h1 h2; simp
 ·rw [hlen] at hj
  obtain ⟨e0, e1, e2, -⟩ := hf ⟨j, hj⟩;rw [List.getElem_ofFn]
  match t, ht with
  | 0, _ => exact e0
  | 1, _ => exact e1
  | 2, _ => exact e2
 ·obtain ⟨j, rfl⟩ := (List.mem_ofFn).1 hx
  exact (hf j).2.2.2
set_option maxRecDepth 100000 in
set_option maxHeartbeats 1000000 in
theorem compact_short (p : Option Addr) (n cap : Nat) (fv : Value) (w : World) (hn : n < 2) :
  Calls Try.prog 76 #[.slice p n cap, fv] w fun e w' => e = .returned (.slice p n cap) ∧ w' = w := by
 have k0 : decide ((n : Int) < 2) = true := decide_eq_true (by omega);go_enter Try.func76, Try.ntmps76
 go_wp2_with fail
 go_ret
 exact ⟨rfl, rfl⟩
def MergedPost (S : Nat → Prop) (l : List Ro) (w : World) (e : Ending) (w' : World) : Prop :=
 Below w.heap.size w w' ∧ ∃ R : List Cel, MergeIs l (R.map (·.1)) ∧ (∀ x ∈ R, RepRo S w' x.1 (.string x.1.name) x.2 (.int .i64 x.1.stamp)) ∧
  ((R = [] ∧ ∃ a c, e = .returned (.slice a 0 c) ∧ (0 < c → ∃ g, a = some ⟨g, 0, none⟩)) ∨ ∃ g c n, e = .returned (.slice (some ⟨g, 0, none⟩) R.length c) ∧ R.length ≤ c ∧ w.heap.size ≤ g ∧ R.length * 48 ≤ 140737488355328 ∧ RowsAt w' g n R)
theorem MergedPost.slg {S : Nat → Prop} {l : List Ro} {w w' : World} {e : Ending} (hS : ∀ k, S k → k < w.heap.size) (h : MergedPost S l w e w') :
  Below w.heap.size w w' ∧ ∃ R v, MergeIs l R ∧ e = .returned v ∧ SlG (fun b => b < w'.heap.size) w' kdRo.n kdRo.bytes (kdRo.R (fun b => b < w'.heap.size) w') R v := by
 obtain ⟨hb, R, hm, hr, ⟨rfl, a, c, rfl, hac⟩ | ⟨g, c, n, rfl, hc, hg, hby, hrow⟩⟩ := h
 ·refine ⟨hb, _, _, hm, rfl, a, (match a with | some p => p.block | none => 0), 0, c, rfl, Nat.zero_le _, by simp, fun h => ?_, fun h => by simp at h, fun i hi => by simp at hi⟩
  obtain ⟨g, rfl⟩ := hac h;rfl
 ·refine ⟨hb, _, _, hm, rfl, some ⟨g, 0, none⟩, g, 0, c, by rw [List.length_map], by rw [List.length_map]; exact hc, by rw [List.length_map]; exact hby, fun _ => rfl, fun _ => hrow.1.lt, fun i hi => ?_⟩
  rw [List.length_map] at hi;obtain ⟨e0, e1, e2⟩ := hrow.2.2 i hi;rw [List.getElem_map];refine ⟨fun t => ([.string R[i].1.name, R[i].2, .int .i64 R[i].1.stamp] : List Value).getD t undef, fun t ht => ?_, RepRo.on (fun k hk => Nat.lt_of_lt_of_le (hS k hk) hb.size) (fun _ _ => rfl) (hr _ (List.getElem_mem hi))⟩;rw [Nat.zero_add]
  match t, ht with
  | 0, _ => exact e0
  | 1, _ => exact e1
  | 2, _ => exact e2
set_option maxRecDepth 100000 in
set_option maxHeartbeats 2000000 in
theorem merged_any (l : List Ro) (S : Nat → Prop) (w : World) (a : Value) (hS : ∀ k, S k → k < w.heap.size) (ha : SlG S w kdRo.n kdRo.bytes (kdRo.R S w) l a) :
  Calls Try.prog 45 #[a] w (MergedPost S l w) := by
 have hby : l.length * 48 ≤ 140737488355328 := SlG.bytes ha;have eg : ∀ args w, (callFunc 74 args).run Try.prog w = .ok (.enter 74 args) w := fun args w => by kernel_rfl
 have HBY := Lib.hid hby;have HA := Lib.hid ha; have HS := Lib.hid hS; have HEG := Lib.hid eg
 obtain ⟨aa, ac, rfl⟩ := SlG.form ha;clear ha hS hby eg;go_enter Try.func45, Try.ntmps45
 go_wp2_with fail
 refine (cloneRo_any l S w _ HS.out HA.out).mono ?_;rintro e w1 ⟨hb1, ⟨hnil, a, c, rfl, hac⟩ | ⟨g, cap, rfl, hcap, hg, hat⟩⟩
 ·have HB1 := Lib.hid hb1; have HNL := Lib.hid hnil; have HAC := Lib.hid hac
  clear hb1 hac hnil;go_wp2_with fail
  refine (AnyF.slices_SortFunc_none Try.sortRow a c (.func (.func 74) #[] #[]) w1).mono ?_;rintro e w2 ⟨rfl, rfl⟩;go_wp2_with fail
  refine (compact_short a 0 c _ _ (by omega)).mono ?_;rintro e w3 ⟨rfl, rfl⟩;go_wp2_with fail
  go_ret
  exact ⟨HB1.out, [], by rw [HNL.out]; exact ⟨List.Pairwise.nil, fun r h => by simp at h, fun x h => by simp at h⟩, fun x h => by simp at h, .inl ⟨rfl, a, c, rfl, HAC.out⟩⟩
 ·obtain ⟨L, cur, hl, hcur, hce, hrep⟩ := cels_of hat
  have hlen : l.length = L.length := by rw [← hl, List.length_map]
  have hb2 : ∀ k, S k → k < w1.heap.size ∧ k ≠ g := fun k hk => ⟨Nat.lt_of_lt_of_le (HS.out k hk) hb1.size, by have := HS.out k hk; omega⟩
  by_cases hne : L = []
  ·have h0 : l.length = 0 := by rw [hlen, hne]; rfl
   have hnil : l = [] := List.length_eq_zero_iff.1 h0;have HB1 := Lib.hid hb1; have HNL := Lib.hid hnil
   rw [h0];clear hat hcur hce hrep hl hlen hb2 hne hcap hg hb1 h0 hnil;go_wp2_with fail
   refine (AnyF.slices_SortFunc_none Try.sortRow _ cap (.func (.func 74) #[] #[]) w1).mono ?_;rintro e w2 ⟨rfl, rfl⟩;go_wp2_with fail
   refine (compact_short _ 0 cap _ _ (by omega)).mono ?_;rintro e w3 ⟨rfl, rfl⟩;go_wp2_with fail
   go_ret
   exact ⟨HB1.out, [], by rw [HNL.out]; exact ⟨List.Pairwise.nil, fun r h => by simp at h, fun x h => by simp at h⟩, fun x h => by simp at h, .inl ⟨rfl, _, _, rfl, fun _ => ⟨g, rfl⟩⟩⟩
  ·have hcl : ∀ (x y : Cel) (W : World), Beside g w1 W → RepRo S W x.1 (.string x.1.name) x.2 (.int .i64 x.1.stamp) → RepRo S W y.1 (.string y.1.name) y.2 (.int .i64 y.1.stamp) →
     Calls Try.prog 74 (#[.agg #[.string x.1.name, x.2, .int .i64 x.1.stamp], .agg #[.string y.1.name, y.2, .int .i64 y.1.stamp]] ++ #[]) W fun e W' => e = .returned (.int .i64 (cmpMe x.1 y.1)) ∧ Onto W W' :=
    fun x y W hW hx hy => cmpMe_any x.1 y.1 S W x.2 y.2 (fun k hk => Nat.lt_of_lt_of_le (hb2 k hk).1 hW.size) hx hy
   have hsort := sortRow_any L hne cmpMe ord_cmpMe 74 #[] g cap cur w1 S HEG.out hcur hce (by have := HBY.out; omega) hb2 hrep hcl;have HSO := Lib.hid hsort; have HB1 := Lib.hid hb1; have HL := Lib.hid hl; have HB2 := Lib.hid hb2; have HG := Lib.hid hg; have HCP := Lib.hid hcap; have HRP := Lib.hid hrep
   have HBL : Hid (L.length * 48 ≤ 140737488355328) := by have := HBY.out; show _ ≤ _; omega
   have HLN := Lib.hid hlen;rw [hlen];clear hat hcur hce hrep hl hlen hb2 hne hcap hg hb1 hcl hsort;go_wp2_with fail
   refine HSO.out.mono ?_;clear HSO;rintro e w2 ⟨rfl, M, cur', hp, hs, hc2, hcs, hce2, hbes⟩;have hlm : M.length = L.length := hp.length_eq;have hrow : RowsAt w2 g cur'.size M := RowsAt.of hc2 hce2;have hrepM : ∀ x ∈ M, RepRo S w2 x.1 (.string x.1.name) x.2 (.int .i64 x.1.stamp) := fun x hx => RepRo.on (fun _ h => h) (fun k hk => hbes.block k (HB2.out k hk).1 (HB2.out k hk).2) (HRP.out x (hp.mem_iff.1 hx))
   have HIS := Lib.hid (comp_is HL.out hp (hs.imp fun h => by omega));have HRM := Lib.hid hrepM;have HROW := Lib.hid hrow; have HBES := Lib.hid hbes; have HLM := Lib.hid hlm
   have hb2' : ∀ k, S k → k < w2.heap.size ∧ k ≠ g := fun k hk => ⟨Nat.lt_of_lt_of_le (HB2.out k hk).1 hbes.size, (HB2.out k hk).2⟩
   have HB2' := Lib.hid hb2'
   have HFIN : Hid (∀ (w3 : World) (e : Ending) (n : Nat), Beside g w2 w3 → RowsAt w3 g n (compC M) → e = .returned (.slice (some ⟨g, 0, none⟩) (compC M).length cap) → MergedPost S l w e w3) := by
    rintro w3 e n hb3 hr3 rfl;have hcl := compC_len M;refine ⟨HB1.out.trans ((HBES.out.trans hb3).below HG.out HB1.out.size), compC M, HIS.out.1, fun x hx => ?_, .inr ⟨g, cap, n, rfl, ?_, HG.out, ?_, hr3⟩⟩
    ·exact RepRo.on (fun _ h => h) (fun k hk => hb3.block k (HB2'.out k hk).1 (HB2'.out k hk).2) (HRM.out x (hp.mem_iff.2 (HIS.out.2 x hx)))
    ·have := HCP.out; have := HLN.out; have := HLM.out; omega
    ·have := HBL.out; have := HLM.out; omega
   by_cases h2 : 2 ≤ M.length
   ·have h2' := Lib.hid h2
    rw [← hlm];clear hp hs hc2 hcs hce2 hbes hlm hrow hrepM hb2' h2;go_wp2_with fail
    refine (compact_any M h2'.out g cap _ w2 S (by have := HCP.out; have := HLN.out; have := HLM.out; omega) (by have := HBL.out; have := HLM.out; omega) HROW.out HB2'.out HRM.out).mono ?_;rintro e w3 ⟨rfl, hr3, hb3⟩;have HP := Lib.hid (HFIN.out w3 _ _ hb3 hr3 rfl);clear hr3 hb3;go_wp2_with fail
    go_ret
    exact HP.out
   ·have hcm : compC M = M := compC_whole M (fun k hk => by omega)
    have HCM := Lib.hid hcm;have h2' := Lib.hid h2;rw [← hlm];clear hp hs hc2 hcs hce2 hbes hlm hrow hrepM hb2' h2 hcm;go_wp2_with fail
    refine (compact_short _ M.length cap _ _ (by have := h2'.out; omega)).mono ?_;rintro e w3 ⟨rfl, rfl⟩;have HP := Lib.hid (HFIN.out _ (.returned (.slice (some ⟨g, 0, none⟩) M.length cap)) _ (Beside.of_below (Below.refl _ _)) (by rw [HCM.out]; exact HROW.out) (by rw [HCM.out]));go_wp2_with fail
    go_ret
    exact HP.out
end Go.Proofs.Ytpnaegohjbaggaa
namespace Go.Proofs.Ytpnaegohjbaggaa
open Go.RowKit
theorem RowsTo.down {S : Nat → Prop} {B B' g : Nat} {l : List Ro} {i : Nat} {w : World} (h : RowsTo S B g l i w) (hB : B' ≤ B) : RowsTo S B' g l i w := by
 obtain ⟨cs, N, h1, h2, h3, h⟩ := h;exact ⟨cs, N, h1, h2, Nat.le_trans hB h3, h⟩
def MergePost (l : List Ro) (w : World) (e : Ending) (w' : World) : Prop :=
 Below w.heap.size w w' ∧ ∃ R : List Ro, MergeIs l R ∧ ((R = [] ∧ ∃ a c, e = .returned (.slice a 0 c) ∧ (0 < c → ∃ g, a = some ⟨g, 0, none⟩)) ∨ ∃ g c, e = .returned (.slice (some ⟨g, 0, none⟩) R.length c) ∧ R.length ≤ c ∧ R.length * 48 ≤ 140737488355328 ∧ RowsTo (fun _ => False) w.heap.size g R R.length w')
theorem MergePost.slg {l : List Ro} {w w' : World} {e : Ending} (h : MergePost l w e w') :
  Below w.heap.size w w' ∧ ∃ R v, MergeIs l R ∧ e = .returned v ∧ SlG (fun b => w.heap.size ≤ b ∧ b < w'.heap.size) w' kdRo.n kdRo.bytes (kdRo.R (fun b => w.heap.size ≤ b ∧ b < w'.heap.size) w') R v := by
 obtain ⟨hb, R, hm, ⟨rfl, a, c, rfl, hac⟩ | ⟨g, c, rfl, hc, hby, hrow⟩⟩ := h
 ·refine ⟨hb, _, _, hm, rfl, a, (match a with | some p => p.block | none => 0), 0, c, rfl, Nat.zero_le _, by simp, fun h => ?_, fun h => by simp at h, fun i hi => by simp at hi⟩
  obtain ⟨g, rfl⟩ := hac h;rfl
 ·have hl := hrow.lt
  obtain ⟨cs, N, h1, h2, h3, h4, h5, h6, h7⟩ := hrow;refine ⟨hb, _, _, hm, rfl, some ⟨g, 0, none⟩, g, 0, c, rfl, hc, hby, fun _ => rfl, fun _ => ⟨h3, hl⟩, fun i hi => ?_⟩;obtain ⟨xa, xc, e0, e1, e2, e3, e4, e5, -⟩ := h7 i hi;have m0 := mono_le h5 0 i (Nat.zero_le _) (by omega);have m1 := mono_le h5 (i + 1) R.length (by omega) (Nat.le_refl _);refine ⟨fun t => ([.string R[i].name, .slice xa R[i].args.length xc, .int .i64 R[i].stamp] : List Value).getD t undef, fun t ht => ?_, ⟨rfl, e3, RepLG.on (fun b hb => ⟨by omega, by omega⟩) (fun _ _ => rfl) (e5 hi).rep, rfl, e4⟩⟩;rw [Nat.zero_add]
  match t, ht with
  | 0, _ => exact cell_of_block' h1 _ e0
  | 1, _ => exact cell_of_block' h1 _ e1
  | 2, _ => exact cell_of_block' h1 _ e2
set_option maxRecDepth 100000 in
set_option maxHeartbeats 1000000 in
theorem Merge_any (l : List Ro) (S : Nat → Prop) (w : World) (a : Value) (hS : ∀ k, S k → k < w.heap.size) (ha : SlG S w kdRo.n kdRo.bytes (kdRo.R S w) l a) :
  Calls Try.prog 21 #[a] w (MergePost l w) := by
 have HA := Lib.hid ha; have HS := Lib.hid hS
 obtain ⟨aa, ac, rfl⟩ := SlG.form ha;clear ha hS;go_enter Try.func21, Try.ntmps21
 go_wp2_with fail
 refine (merged_any l S w _ HS.out HA.out).mono ?_;intro e w1 hpost;obtain ⟨hb1, R, v, hm, rfl, hv⟩ := MergedPost.slg HS.out hpost;clear hpost;have HV := Lib.hid hv; have HM := Lib.hid hm; have HB1 := Lib.hid hb1
 obtain ⟨ra, rc, rfl⟩ := SlG.form hv;clear hv hm hb1;go_wp2_with fail
 refine (copyRos_any R (fun b => b < w1.heap.size) w1 _ (fun _ h => h) HV.out).mono ?_;rintro e w2 ⟨hb, ⟨hnil, a, c, rfl, hac⟩ | ⟨g, cap, rfl, hcap, hat⟩⟩
 ·have H : Hid (MergePost l w (.returned (.slice a 0 c)) w2) := ⟨Below.step HB1.out hb, R, HM.out, .inl ⟨hnil, a, c, rfl, hac⟩⟩
  clear hb hnil hac;go_wp2_with fail
  go_ret
  exact H.out
 ·have H : Hid (MergePost l w (.returned (.slice (some ⟨g, 0, none⟩) R.length cap)) w2) := ⟨Below.step HB1.out hb, R, HM.out, .inr ⟨g, cap, rfl, hcap, SlG.bytes HV.out, hat.down HB1.out.size⟩⟩
  clear hb hcap hat;go_wp2_with fail
  go_ret
  exact H.out
end Go.Proofs.Ytpnaegohjbaggaa
namespace Go.Proofs.Ytpnaegohjbaggaa
open Go.RowKit
def rowArg (x : Cel) : Value := .agg #[.string x.1.name, x.2, .int .i64 x.1.stamp]
def idxZ (p : Cel → Bool) : List Cel → Nat → Int
 | [], _ => -1
 | x :: l, k => if p x then (k : Int) else idxZ p l (k + 1)
theorem idxZ_at {p : Cel → Bool} {L : List Cel} {k : Nat} (h : k < L.length) : idxZ p (L.drop k) k = if p L[k] then (k : Int) else idxZ p (L.drop (k + 1)) (k + 1) := by
 rw [List.drop_eq_getElem_cons h, idxZ]
theorem idxZ_end {p : Cel → Bool} {L : List Cel} {k : Nat} (h : k = L.length) : idxZ p (L.drop k) k = -1 := by rw [List.drop_of_length_le (by omega), idxZ]
theorem idxZ_spec (p : Cel → Bool) : ∀ (L : List Cel) (k : Nat), (idxZ p L k = -1 ∧ ∀ x ∈ L, p x = false) ∨ ∃ j, ∃ h : j < L.length, idxZ p L k = ((k + j : Nat) : Int) ∧ p L[j] = true ∧ ∀ i (hi : i < j), p (L[i]'(by omega)) = false
 | [], k => .inl ⟨rfl, fun x h => by simp at h⟩
 | x :: l, k => by
  rw [idxZ]
  cases hx : p x with
  | true => exact .inr ⟨0, by simp, by simp, hx, fun i hi => by omega⟩
  | false =>
   rcases idxZ_spec p l (k + 1) with ⟨h1, h2⟩ | ⟨j, hj, h1, h2, h3⟩
   ·refine .inl ⟨by simpa using h1, fun y hy => ?_⟩
    rcases List.mem_cons.1 hy with rfl | hy
    ·exact hx
    ·exact h2 y hy
   ·refine .inr ⟨j + 1, by simpa using hj, by simp; rw [h1]; omega, by simpa using h2, fun i hi => ?_⟩
    match i with
    | 0 => exact hx
    | i + 1 => simpa using h3 i (by omega)
set_option maxRecDepth 100000 in
set_option maxHeartbeats 2000000 in
theorem index_any (L : List Cel) (p : Cel → Bool) (blk o cap : Nat) (g : Nat) (cb : Array Value) (w : World) (h63 : L.length ≤ 140737488355328) (hen : ∀ args w, Sem.run Try.prog (callFunc g args) w = .ok (.enter g args) w)
  (hrow : ∀ j (h : j < L.length), HasRow w blk (o + j) L[j]) (hblk : blk < w.heap.size)
  (hclo : ∀ x ∈ L, ∀ (W : World), Below w.heap.size w W → Calls Try.prog g (#[rowArg x] ++ cb) W fun e W' => e = .returned (.bool (p x)) ∧ Below W.heap.size W W') :
  Calls Try.prog 62 #[.slice (some ⟨blk, o * 3, none⟩) L.length cap, .func (.func g) #[] cb] w fun e w' => e = .returned (.int .i64 (idxZ p L 0)) ∧ Below w.heap.size w w' := by
 have HR := Lib.hid hrow; have HB := Lib.hid hblk; have HC := Lib.hid hclo
 clear hrow hblk hclo;go_enter Try.func62, Try.ntmps62
 go_wp2_with fail
 go_loopw [8] (fun iv wr => ∃ k : Nat, k ≤ L.length ∧ iv = .int .i64 (k : Int) ∧ Hid (idxZ p L 0 = idxZ p (L.drop k) k) ∧ Hid (Below w.heap.size w wr)) (fun iv _ => L.length - (intOf iv).toNat)
 case atStart => exact ⟨0, Nat.zero_le _, rfl, rfl, Below.refl _ _⟩
 case round =>
  obtain ⟨k, hk, rfl, hrec, hb⟩ := hrel
  by_cases hlt : k < L.length
  ·have hx := (HR.out k hlt).on HB.out hb.out
   unfold HasRow at hx;rw [show (o + k) * 3 = o * 3 + k * 3 by omega] at hx;obtain ⟨p0, p1, p2⟩ := hx;have hk1 : (0 : Int) ≤ (k : Int) := Int.natCast_nonneg k;have hk2 : (k : Int) < (L.length : Int) := by omega
   have k1 : decide ((k : Int) < (L.length : Int)) = true := decide_eq_true hk2;have HREC := Lib.hid (hrec.out.trans (idxZ_at hlt));have hcl := HC.out L[k] (List.getElem_mem hlt) wr hb.out;unfold rowArg at hcl;have HCL := Lib.hid hcl;have HLT := Lib.hid hlt;clear hrec hcl hk;generalize L[k] = x at *;clear hlt;obtain ⟨c, hc⟩ : ∃ c, p x = c := ⟨_, rfl⟩;rw [hc] at HCL HREC;clear hc;go_wp2_with fail
   refine HCL.out.mono ?_;rintro e w2 ⟨rfl, hb2⟩;have HB2 : Hid (Below w.heap.size w w2) := Below.step hb.out hb2;clear hb2 hb p0 p1 p2 HCL
   cases c
   ·go_wp2_with fail
    go_roundw
    case rel => exact ⟨k + 1, HLT.out, by go_num, by show _ = _; rw [HREC.out, if_neg (by simp)], HB2⟩
    case measure => have := HLT.out; simp [intOf]; omega
   ·go_wp2_with fail
    go_ret
    exact ⟨ret_int (by rw [HREC.out, if_pos (by trivial)]), HB2.out⟩
  ·have hke : k = L.length := by omega
   have HE := Lib.hid (hrec.out.trans (idxZ_end hke));clear hrec hk;subst hke;go_wp2_with fail
   go_ret
   exact ⟨ret_int HE.out.symm, hb.out⟩
set_option maxRecDepth 100000 in
set_option maxHeartbeats 1000000 in
theorem short_any (x : Cel) (ab : Nat) (n : Nat) (S : Nat → Prop) (w : World) (hx : RepRo S w x.1 (.string x.1.name) x.2 (.int .i64 x.1.stamp)) (ha : w.cell? ⟨ab, 0, none⟩ = some (.int .i64 (n : Int))) :
  Calls Try.prog 36 (#[rowArg x] ++ #[.pointer (some ⟨ab, 0, none⟩)]) w fun e w' => e = .returned (.bool (decide (x.1.args.length ≤ n))) ∧ Below w.heap.size w w' := by
 obtain ⟨xa, xc, -, e1, -⟩ := hx.form;unfold rowArg;rw [e1]
 have hab : ab < w.heap.size := by
  rcases Nat.lt_or_ge ab w.heap.size with h' | h'
  ·exact h'
  ·simp [World.cell?, Array.getElem?_eq_none h'] at ha
 have hb := below_alloc w (.cells #[.string x.1.name, .slice xa x.1.args.length xc, .int .i64 x.1.stamp] 47);have q0 := (hb.cell (p := ⟨ab, 0, none⟩) hab).trans ha;have HB := Lib.hid hb;clear hb hx e1 hab;go_enter Try.func36, Try.ntmps36
 go_wp2_with fail
 go_ret
 exact ⟨by simp, HB.out⟩
end Go.Proofs.Ytpnaegohjbaggaa
namespace Go.Proofs.Ytpnaegohjbaggaa
open Go.RowKit
def keepC (p : Cel → Bool) (L : List Cel) : List Cel := L.filter fun x => !p x
theorem keepC_snoc (p : Cel → Bool) (L : List Cel) (k : Nat) (h : k < L.length) : keepC p (L.take (k + 1)) = if p L[k] then keepC p (L.take k) else keepC p (L.take k) ++ [L[k]] := by
 unfold keepC;rw [List.take_succ_eq_append_getElem h, List.filter_append]
 cases hp : p L[k] <;> simp [hp]
theorem keepC_all {p : Cel → Bool} {L : List Cel} (h : ∀ x ∈ L, p x = false) : keepC p L = L := by
 unfold keepC;rw [List.filter_eq_self];intro x hx;simp [h x hx]
set_option maxRecDepth 100000 in
set_option maxHeartbeats 4000000 in
theorem delete_any (L : List Cel) (p : Cel → Bool) (blk cap n : Nat) (g : Nat) (cb : Array Value) (w : World) (h63 : L.length ≤ 140737488355328) (hcap : L.length ≤ cap) (hen : ∀ args w, Sem.run Try.prog (callFunc g args) w = .ok (.enter g args) w)
  (hrow : RowsAt w blk n L) (hform : ∀ x ∈ L, ∃ a m c, x.2 = .slice a m c)
  (hclo : ∀ x ∈ L, ∀ (W : World), Beside blk w W → Calls Try.prog g (#[rowArg x] ++ cb) W fun e W' => e = .returned (.bool (p x)) ∧ Below W.heap.size W W') :
  Calls Try.prog 35 #[.slice (some ⟨blk, 0, none⟩) L.length cap, .func (.func g) #[] cb] w fun e w' =>
   e = .returned (.slice (some ⟨blk, 0, none⟩) (keepC p L).length cap) ∧ RowsAt w' blk n (keepC p L) ∧ Beside blk w w' := by
 have HR := Lib.hid hrow; have HC := Lib.hid hclo; have HF := Lib.hid hform; have HCP := Lib.hid hcap
 have hix := index_any L p blk 0 cap g cb w h63 hen (fun j h => by rw [Nat.zero_add]; exact hrow.2.2 j h) hrow.1.lt (fun x hx W hW => hclo x hx W (Beside.of_below hW));simp only [Nat.zero_mul] at hix
 have HIX := Lib.hid hix;clear hrow hclo hform hcap hix;go_enter Try.func35, Try.ntmps35
 go_wp2_with fail
 refine HIX.out.mono ?_;clear HIX;rintro e w1 ⟨rfl, hb1⟩;rcases idxZ_spec p L 0 with ⟨h1, h2⟩ | ⟨j, hj, h1, h2, h3⟩
 ·have hk := keepC_all h2
  have H : Hid ((Ending.returned (.slice (some ⟨blk, 0, none⟩) L.length cap) = .returned (.slice (some ⟨blk, 0, none⟩) (keepC p L).length cap)) ∧ RowsAt w1 blk n (keepC p L) ∧ Beside blk w w1) := by
   show _ ∧ _
   rw [hk];exact ⟨rfl, HR.out.on hb1, Beside.of_below hb1⟩
  rw [h1];clear h1 h2 hk hb1;go_wp2_with fail
  go_ret
  exact H.out
 ·rw [h1, Nat.zero_add]
  have hk0 : keepC p (L.take (j + 1)) = L.take j := by
   rw [keepC_snoc p L j hj, if_pos h2];refine keepC_all fun x hx => ?_
   obtain ⟨i, hi, rfl⟩ := List.getElem_of_mem hx;rw [List.length_take] at hi;rw [List.getElem_take];exact h3 i (by omega)
  have hl0 : (keepC p (L.take (j + 1))).length = j := by rw [hk0, List.length_take]; omega
  have RW : RowsAt w1 blk n L := HR.out.on hb1
  have HD : Hid (∀ i (hi : i < (keepC p (L.take (j + 1))).length), HasRow w1 blk i (keepC p (L.take (j + 1)))[i]) := by
   show ∀ i (hi : i < (keepC p (L.take (j + 1))).length), HasRow w1 blk i (keepC p (L.take (j + 1)))[i]
   rw [hk0];intro i hi;rw [List.length_take] at hi;rw [List.getElem_take];exact RW.2.2 i (by omega)
  have HRW := Lib.hid RW; have HL0 := Lib.hid hl0; have HJ := Lib.hid hj
  have HB1 : Hid (Beside blk w w1) := Beside.of_below hb1;have hne : ((j : Int) == -1) = false := by simp
  clear h1 h2 h3 hk0 hl0 RW hb1;go_wp2_with fail
  clear hne hj
  go_loopw [5, 6] (fun kv mv wr => ∃ k m : Nat, m ≤ L.length ∧ k < m ∧ kv = .int .i64 (k : Int) ∧ mv = .int .i64 (m : Int) ∧ Hid ((keepC p (L.take m)).length = k) ∧ Hid (Blk wr blk n) ∧
   Hid (∀ i (hi : i < (keepC p (L.take m)).length), HasRow wr blk i (keepC p (L.take m))[i]) ∧ Hid (∀ i (hi : i < L.length), m ≤ i → HasRow wr blk i L[i]) ∧ Hid (Beside blk w wr)) (fun _ mv _ => L.length - (intOf mv).toNat)
  case atStart => exact ⟨j, j + 1, HJ.out, Nat.lt_succ_self _, rfl, by have := HJ.out; go_num, HL0, HRW.out.1, HD, fun i hi _ => HRW.out.2.2 i hi, HB1⟩
  case round =>
   clear HRW HL0 HD HB1;obtain ⟨k, m, hm, hkm, rfl, rfl, hlen, hblk, hdone, hrest, hbes⟩ := hrel
   by_cases hlt : m < L.length
   ·have hm1 : (0 : Int) ≤ (m : Int) := Int.natCast_nonneg m
    have hm2 : (m : Int) < (L.length : Int) := by omega
    have k1 : decide ((m : Int) < (L.length : Int)) = true := decide_eq_true hm2;have hx := hrest.out m hlt (Nat.le_refl _);obtain ⟨xa, xm, xc, hx2⟩ := HF.out L[m] (List.getElem_mem hlt);have hsn := keepC_snoc p L m hlt;have hcl := HC.out L[m] (List.getElem_mem hlt) (wr.alloc (.cells #[.string L[m].1.name, .slice xa xm xc, .int .i64 L[m].1.stamp] 47)) (hbes.out.trans (Beside.of_below (below_alloc wr _)));unfold rowArg at hcl;obtain ⟨p0, p1, p2⟩ := hx;rw [hx2] at p1 hcl;have HX2 := Lib.hid hx2;have HLT := Lib.hid hlt; have HKM := Lib.hid hkm
    have HSN := Lib.hid hsn;have HCL := Lib.hid hcl;have hm5 := alloc_new' wr (.cells #[.string L[m].1.name, .slice xa xm xc, .int .i64 L[m].1.stamp] 47);have hb5 := below_alloc wr (.cells #[.string L[m].1.name, .slice xa xm xc, .int .i64 L[m].1.stamp] 47);clear hsn hcl hx2 hkm hm;generalize L[m] = x at *;clear hlt;go_upto_region 8 with fail
    clear p0 p1 p2;obtain ⟨bx, hbx⟩ : ∃ bx, wr.heap.size = bx := ⟨_, rfl⟩;have HBX : Hid (blk < bx) := by show _ < _; rw [← hbx]; exact hblk.out.lt
    have HB5 : Hid (Below wr.heap.size wr (wr.alloc (.cells #[.string x.1.name, .slice xa xm xc, .int .i64 x.1.stamp] 47))) := hb5;rw [hbx] at hm5 ⊢;clear hbx hb5;generalize wr.alloc (.cells #[.string x.1.name, .slice xa xm xc, .int .i64 x.1.stamp] 47) = w5 at *;have M5 := Lib.hid hm5;have q0 := cell_of_block' (i := 0) M5.out _ rfl;have q1 := cell_of_block' (i := 1) M5.out _ rfl;have q2 := cell_of_block' (i := 2) M5.out _ rfl;have hbx5 : bx < w5.heap.size := (Array.getElem?_eq_some_iff.1 hm5).1;clear hm5;obtain ⟨c, hc⟩ : ∃ c, p x = c := ⟨_, rfl⟩;rw [hc] at HCL HSN;clear hc;go_wp2_with fail
    refine HCL.out.mono ?_;rintro e w6 ⟨rfl, hb6⟩;have HB6 : Hid (Below wr.heap.size wr w6) := Below.step HB5.out hb6;have M6 : Hid (w6.heap[bx]? = some (.cells #[.string x.1.name, .slice xa xm xc, .int .i64 x.1.stamp] 47 (0, 0))) := (hb6.block bx hbx5).trans M5.out;clear hb6 q0 q1 q2 HCL HB5 M5 hbx5
    cases c
    ·have HB3 : Hid (Blk w6 blk n) := hblk.out.on HB6.out
     have hk1' : (0 : Int) ≤ (k : Int) := Int.natCast_nonneg k;have hk2' : (k : Int) < (L.length : Int) := by have := HKM.out; have := HLT.out; omega
     have hk3' : k < L.length := by omega
     have hkn : k * 3 + 3 ≤ n := by have := HR.out.2.1; omega
     obtain ⟨v0, y0⟩ : ∃ v, w6.cell? ⟨blk, k * 3, none⟩ = some v := by
      obtain ⟨cur, hc, hs⟩ := HB3.out;exact ⟨cur[k * 3]'(by omega), cell_of_block' hc _ (Array.getElem?_eq_getElem (by omega))⟩
     obtain ⟨v1, y1⟩ : ∃ v, w6.cell? ⟨blk, k * 3 + 1, none⟩ = some v := by
      obtain ⟨cur, hc, hs⟩ := HB3.out;exact ⟨cur[k * 3 + 1]'(by omega), cell_of_block' hc _ (Array.getElem?_eq_getElem (by omega))⟩
     obtain ⟨v2, y2⟩ : ∃ v, w6.cell? ⟨blk, k * 3 + 2, none⟩ = some v := by
      obtain ⟨cur, hc, hs⟩ := HB3.out;exact ⟨cur[k * 3 + 2]'(by omega), cell_of_block' hc _ (Array.getElem?_eq_getElem (by omega))⟩
     have z0 := HB3.out.frozen (k * 3);have z1 := HB3.out.frozen (k * 3 + 1);have z2 := HB3.out.frozen (k * 3 + 2);have q0 := cell_of_block' (i := 0) M6.out _ rfl;have q1 := cell_of_block' (i := 1) M6.out _ rfl;have q2 := cell_of_block' (i := 2) M6.out _ rfl;have HKN := Lib.hid hkn;clear hkn;go_wp2_with fail
     obtain ⟨wz, hwz⟩ : ∃ z, ((w6.setCell ⟨blk, k * 3, none⟩ (.string x.1.name)).setCell ⟨blk, k * 3 + 1, none⟩ (.slice xa xm xc)).setCell ⟨blk, k * 3 + 2, none⟩ (.int .i64 x.1.stamp) = z := ⟨_, rfl⟩;have hpz : wz = putCells w6 blk (k * 3) (celOf x) := by unfold celOf; rw [HX2.out, ← hwz]; rfl
     obtain ⟨g1, g2, g3, g4⟩ := HasRow.put (x := x) HB3.out HKN.out;rw [← hpz] at g1 g2 g3 g4;rw [hwz];clear hwz hpz q0 q1 q2 y0 y1 y2 z0 z1 z2;have hbn : Beside blk wr w6 := Beside.of_below HB6.out;go_roundw
     case rel => exact ⟨k + 1, m + 1, HLT.out, by have := HKM.out; omega, by go_num, by go_num, by show _ = _; rw [HSN.out, if_neg (by simp), List.length_append, hlen.out]; rfl, g1,
      (by
       rw [HSN.out, if_neg (by simp)];intro i hi
       by_cases e : i < (keepC p (L.take m)).length
       ·rw [List.getElem_append_left e]
        exact g4 i _ (by rw [hlen.out] at e; omega) ((hdone.out i e).on hblk.out.lt HB6.out)
       ·rw [List.length_append, List.length_singleton] at hi
        have e2 : i = (keepC p (L.take m)).length := by omega
        subst e2;rw [List.getElem_append_right (Nat.le_refl _)];simp only [Nat.sub_self, List.getElem_cons_zero]
        rw [hlen.out]
        exact g3 : ∀ i (hi : i < (keepC p (L.take (m + 1))).length), HasRow wz blk i (keepC p (L.take (m + 1)))[i]),
      fun i hi h => g4 i _ (by have := HKM.out; omega) ((hrest.out i hi (by omega)).on hblk.out.lt HB6.out), (hbes.out.trans hbn).trans g2⟩
     case measure => have := HLT.out; simp [intOf]; omega
    ·go_wp2_with fail
     go_roundw
     case rel => exact ⟨k, m + 1, HLT.out, by have := HKM.out; omega, rfl, by go_num, by show _ = _; rw [HSN.out, if_pos (by trivial)]; exact hlen.out, hblk.out.on HB6.out,
      (by rw [HSN.out, if_pos (by trivial)]; exact fun i hi => (hdone.out i hi).on hblk.out.lt HB6.out : ∀ i (hi : i < (keepC p (L.take (m + 1))).length), HasRow w6 blk i (keepC p (L.take (m + 1)))[i]), fun i hi h => (hrest.out i hi (by omega)).on hblk.out.lt HB6.out, hbes.out.trans (Beside.of_below HB6.out)⟩
     case measure => have := HLT.out; simp [intOf]; omega
   ·have hke : m = L.length := by omega
    have hcm : keepC p (L.take m) = keepC p L := by rw [hke, List.take_length]
    have k1 : decide ((m : Int) < (L.length : Int)) = false := decide_eq_false (by omega);have hm1 : (0 : Int) ≤ (m : Int) := Int.natCast_nonneg m;have hk1' : (0 : Int) ≤ (k : Int) := Int.natCast_nonneg k;have hk2' : (k : Int) ≤ (L.length : Int) := by omega
    have hk3' : k ≤ L.length := by omega
    have hk4' : (k : Int) ≤ (cap : Int) := by have := HCP.out; omega
    have hk5' : k ≤ cap := by omega
    have hk6' : ¬ cap = k := by have := HCP.out; omega
    have hlc : (L.length : Int) ≤ (cap : Int) := by have := HCP.out; omega
    obtain ⟨wc, hrun, g1, g2, g3⟩ := clear_rows hblk.out k (L.length - k) (cap - k) (by omega) (by have := HR.out.2.1; omega);have hd := hdone.out;rw [hcm] at hd;have hkl : (keepC p L).length = k := by rw [← hcm]; exact hlen.out
    have HKL := Lib.hid hkl; have HDN := Lib.hid hd
    have HG : Hid (RowsAt wc blk n (keepC p L) ∧ Beside blk w wc) := ⟨⟨g1, by have := HR.out.2.1; omega, fun i hi => g3 i _ (by omega) (HDN.out i hi)⟩, hbes.out.trans g2⟩;clear hd hkl hcm hke hlen hdone hrest hbes hblk g1 g2 g3 hm hkm;go_wp2_with fail
    go_ret
    exact ⟨by rw [HKL.out] <;> rfl, HG.out.1, HG.out.2⟩
end Go.Proofs.Ytpnaegohjbaggaa
