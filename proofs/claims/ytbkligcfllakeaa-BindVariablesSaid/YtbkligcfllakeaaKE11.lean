/-
  CopyB
-/
import Derived.Test.YtbkligcfllakeaaKE10
import Derived.Test.YtbkligcfllakeaaKE08
namespace Go.Proofs.Ytbkligcfllakeaa
open Go.RowKit
set_option maxRecDepth 100000 in
set_option maxHeartbeats 1000000 in
theorem cloneB_any (l : List Bd) (S : Nat → Prop) (w : World) (a : Value) (hS : ∀ k, S k → k < w.heap.size) (ha : SlG S w kdB.n kdB.bytes (kdB.R S w) l a) :
  Calls Try.prog 80 #[a] w (CloneR kdB S l w) := by
 have hby := SlG.bytes ha
 have h63 : l.length ≤ 140737488355328 := by
  have : l.length * 1 ≤ l.length * kdB.bytes := Nat.mul_le_mul_left _ (by decide);omega
 obtain ⟨aa, ab, ao, ac, rfl, h6, h7, h8, h9, h10⟩ := id ha;have q22 : ∀ (w : World) (a : Option Addr) (n c n' c' : Nat), (binOp .eql 31 (.slice a n c) (.slice none n' c')).run Try.prog w = .ok (.bool a.isNone) w := fun w a n c n' c' => Lib.run_eql_slice_nil w _ _ a n c n' c' Try.underlying31
 rcases aa with _ | ad
 ·have hc : ac = 0 := by
   by_cases hc : 0 < ac
   ·have := h8 hc; cases this
   ·omega
  subst hc;obtain rfl : l = [] := List.length_eq_zero_iff.1 (by omega);clear ha h6 h7 h8 h9 h10 hby h63;simp only [List.length_nil]
  go_enter Try.func80, Try.ntmps80
  go_wp2_with fail
  go_ret
  exact ⟨Below.refl _ _, .inl ⟨rfl, none, 0, rfl, fun h => by omega⟩⟩
 ·have hb1 : Below w.heap.size w (w.alloc (.cells #[] 35)) := (Below.refl _ w).alloc (Nat.le_refl _) _
  have hown0 : OwnK kdB S (w.alloc (.cells #[] 35)) w.heap.size [] (.slice (some ⟨w.heap.size, 0, none⟩) 0 0) :=
   ⟨[], ⟨rfl, .inr ⟨w.heap.size, 0, #[], rfl, Nat.le_refl _, alloc_new' _ _, Nat.le_refl _, Nat.zero_le _, rfl, rfl⟩⟩, fun i hi => by simp at hi⟩
  obtain ⟨v', w2, hrun, hown, hgr⟩ := own_manyB (K := kdB) (L := []) (m := l) hown0 (SlG.on (fun _ h => h) (fun k hk => hb1.block k (hS k hk)) (fun _ _ _ h => kdB.on (fun _ h => h) (fun k hk => hb1.block k (hS k hk)) h) ha) (fun k hk => ⟨by have := hS k hk; simp; omega, by have := hS k hk; simp [Value.ownBlock]; omega⟩) (by simp) (by simpa using hby) (by simpa using h63) 31;rw [List.nil_append] at hown;have HR : Hid ((Builtin.append_ #[31, 31] 31 #[.slice (some ⟨w.heap.size, 0, none⟩) 0 0, .slice (some ad) l.length ac]).run Try.prog (w.alloc (.cells #[] 35)) = .ok v' w2) := hrun;have HB : Below w.heap.size w w2 := ⟨hgr.os.trans hb1.os, hgr.tape.trans hb1.tape, hgr.output.trans hb1.output, Nat.le_trans hb1.size hgr.size, fun k hk => (hgr.block k (by simp; omega) (by simp [Value.ownBlock]; omega)).trans (hb1.block k hk)⟩;have HC := Lib.hid (clone_each hown HB);clear ha h6 h7 h8 h9 h10 hrun hown hgr hb1 hown0 HB hby h63;generalize l.length = len at *;go_enter Try.func80, Try.ntmps80
  go_wp2_with (at_builtin; refine Lib.wpList_append_run _ rfl _ _ _ _ rfl _ _ rfl rfl _ _ HR.out ?_)
  go_ret
  exact HC.out
set_option maxRecDepth 100000 in
set_option maxHeartbeats 2000000 in
theorem eachB_any (l : List Bd) (S : Nat → Prop) (w : World) (v : Value) (hS : ∀ k, S k → k < w.heap.size) (hl : SlG S w kdB.n kdB.bytes (kdB.R S w) l v)
  (hcopy : ∀ x ∈ l, ∀ (S : Nat → Prop) (w' : World) (c : Nat → Value), (∀ k, S k → k < w'.heap.size) → kdB.R S w' x c → Calls Try.prog 53 #[.agg #[c 0, c 1, c 2, c 3, c 4]] w' (CopyE kdB x w')) :
  Calls Try.prog 52 #[v, .func (.func 53) #[] #[]] w (CopyL kdB l w) := by
 have HL := Lib.hid hl; have HS := Lib.hid hS; have HC := Lib.hid hcopy
 have HBY := Lib.hid (SlG.bytes hl)
 have H63 : Hid (l.length ≤ 140737488355328) := by
  have : l.length * 1 ≤ l.length * kdB.bytes := Nat.mul_le_mul_left _ (by decide);have := HBY.out
  show _ ≤ _; omega
 have hen : ∀ args w, Sem.run Try.prog (callFunc 53 args) w = .ok (.enter 53 args) w := fun args w => by kernel_rfl
 clear hl hS hcopy;go_enter Try.func52, Try.ntmps52
 go_wp2_with fail
 refine (cloneB_any l S w v HS.out HL.out).mono ?_;rintro e w1 ⟨hb1, ⟨hnil, a, c, rfl, hac⟩ | ⟨g, cap, rfl, hcap, hg, hat⟩⟩
 ·have HB1 := Lib.hid hb1; have HNL := Lib.hid hnil; have HAC := Lib.hid hac
  clear hb1 hac hnil;go_wp2_with fail
  go_loopw [12] (fun iv wr => iv = .int .i64 0 ∧ wr = w1) (fun _ _ => 0)
  case atStart => exact ⟨rfl, rfl⟩
  case round =>
   obtain ⟨rfl, rfl⟩ := hrel;go_wp2_with fail
   go_ret
   refine ⟨_, rfl, ?_, HB1.out⟩;rw [HNL.out];refine ⟨a, (match a with | some p => p.block | none => 0), 0, c, rfl, Nat.zero_le _, by simp, fun h => ?_, fun h => by simp at h, fun i hi => by simp at hi⟩;obtain ⟨g, rfl⟩ := HAC.out h;rfl
 ·have HB1 := Lib.hid hb1; have HAT := Lib.hid hat; have HG := Lib.hid hg; have HCP := Lib.hid hcap
  clear hb1 hcap hg hat;go_wp2_with fail
  go_loopw [12] (fun iv wr => ∃ i : Nat, i ≤ l.length ∧ iv = .int .i64 (i : Int) ∧ Hid (EachAt kdB S w.heap.size g l i wr) ∧ Hid (Below w.heap.size w wr)) (fun iv _ => l.length - (intOf iv).toNat)
  case atStart => exact ⟨0, Nat.zero_le _, rfl, HAT, HB1⟩
  case round =>
   obtain ⟨i, hi, rfl, hat, hbel⟩ := hrel
   by_cases hil : i < l.length
   ·obtain ⟨c, hc, hR⟩ := hat.out.load hil
    obtain ⟨xa, xc, e0, e1, e2, e3, e4⟩ := hR.form;have g0 : wr.cell? ⟨g, i * 5, none⟩ = some (.string l[i].1) := by have h := hc 0 (by decide); rw [e0] at h; exact h
    have g1 : wr.cell? ⟨g, i * 5 + 1, none⟩ = some (.int .i64 l[i].2.kind) := by have h := hc 1 (by decide); rw [e1] at h; exact h
    have g2 : wr.cell? ⟨g, i * 5 + 2, none⟩ = some (.int .i64 l[i].2.num) := by have h := hc 2 (by decide); rw [e2] at h; exact h
    have g3 : wr.cell? ⟨g, i * 5 + 3, none⟩ = some (.string l[i].2.text) := by have h := hc 3 (by decide); rw [e3] at h; exact h
    have g4 : wr.cell? ⟨g, i * 5 + 4, none⟩ = some (.slice xa l[i].2.list.length xc) := by have h := hc 4 (by decide); rw [e4] at h; exact h
    have HR : Hid (kdB.R S wr l[i] c) := hR;have HCO := Lib.hid (HC.out l[i] (List.getElem_mem hil));have HGL := Lib.hid hat.out.lt;have hb5 := below_alloc wr (.cells #[.string l[i].1, .int .i64 l[i].2.kind, .int .i64 l[i].2.num, .string l[i].2.text, .slice xa l[i].2.list.length xc] 35);have m5 := alloc_new' wr (.cells #[.string l[i].1, .int .i64 l[i].2.kind, .int .i64 l[i].2.num, .string l[i].2.text, .slice xa l[i].2.list.length xc] 35);have HSW : Hid (∀ b, S b → b < wr.heap.size) := fun b hb => Nat.lt_of_lt_of_le (HS.out b hb) hbel.out.size
    have HAT5 := Lib.hid (hat.out.on HSW.out hb5);have HR5 : Hid (kdB.R S (wr.alloc (.cells #[.string l[i].1, .int .i64 l[i].2.kind, .int .i64 l[i].2.num, .string l[i].2.text, .slice xa l[i].2.list.length xc] 35)) l[i] c) := kdB.on (fun _ h => h) (fun b hb => hb5.block b (HSW.out b hb)) hR;have HB5 := Lib.hid (Below.step hbel.out hb5);have HIL := Lib.hid hil;have HEQ : Hid (c 0 = .string l[i].1 ∧ c 1 = .int .i64 l[i].2.kind ∧ c 2 = .int .i64 l[i].2.num ∧ c 3 = .string l[i].2.text ∧ c 4 = .slice xa l[i].2.list.length xc) := ⟨e0, e1, e2, e3, e4⟩;clear hc hat hbel hb5 hR;generalize hx : l[i] = x at *;have HX := Lib.hid hx;clear hx;go_upto_region 5 with fail
    clear g0 g1 g2 g3 g4;obtain ⟨bx, hbx⟩ : ∃ bx, wr.heap.size = bx := ⟨_, rfl⟩;rw [hbx] at m5 ⊢;have HGX : Hid (g < bx) := by show _ < _; rw [← hbx]; exact HGL.out
    clear hbx;generalize wr.alloc (.cells #[.string x.1, .int .i64 x.2.kind, .int .i64 x.2.num, .string x.2.text, .slice xa x.2.list.length xc] 35) = w5 at *;have M5 := Lib.hid m5;clear m5;have q0 := cell_of_block' (i := 0) M5.out _ rfl;have q1 := cell_of_block' (i := 1) M5.out _ rfl;have q2 := cell_of_block' (i := 2) M5.out _ rfl;have q3 := cell_of_block' (i := 3) M5.out _ rfl;have q4 := cell_of_block' (i := 4) M5.out _ rfl;go_wp2_with fail
    have hcc := HCO.out S w5 c (fun b hb => Nat.lt_of_lt_of_le (HS.out b hb) HB5.out.size) HR5.out;obtain ⟨e0, e1, e2, e3, e4⟩ := HEQ.out;rw [e0, e1, e2, e3, e4] at hcc;clear e0 e1 e2 e3 e4;refine hcc.mono ?_;clear hcc;rintro e w6 ⟨vs, rfl, hn, hR6, hb6⟩
    obtain ⟨v0, v1, v2, v3, v4, rfl⟩ : ∃ v0 v1 v2 v3 v4, vs = [v0, v1, v2, v3, v4] := by
     match vs, (show vs.length = 5 from hn) with
     | [v0, v1, v2, v3, v4], _ => exact ⟨v0, v1, v2, v3, v4, rfl⟩
    have HAT6 := Lib.hid (HAT5.out.on (fun b hb => Nat.lt_of_lt_of_le (HS.out b hb) HB5.out.size) hb6);have HB6 := Lib.hid (Below.step HB5.out hb6);have HG5 : Hid (g < w5.heap.size) := HAT5.out.lt;have HR6 := Lib.hid hR6;have HB56 := Lib.hid hb6;clear hb6 hR6 hn q0 q1 q2 q3 q4;obtain ⟨za, zc, rfl, rfl, rfl, rfl, rfl⟩ := (show RepB _ _ _ v0 v1 v2 v3 v4 from HR6.out).form;obtain ⟨c6, hc6, -⟩ := HAT6.out.load HIL.out;have p0 : w6.cell? ⟨g, i * 5, none⟩ = some (c6 0) := hc6 0 (by decide);have p1 : w6.cell? ⟨g, i * 5 + 1, none⟩ = some (c6 1) := hc6 1 (by decide);have p2 : w6.cell? ⟨g, i * 5 + 2, none⟩ = some (c6 2) := hc6 2 (by decide);have p3 : w6.cell? ⟨g, i * 5 + 3, none⟩ = some (c6 3) := hc6 3 (by decide);have p4 : w6.cell? ⟨g, i * 5 + 4, none⟩ = some (c6 4) := hc6 4 (by decide);have z0 := HAT6.out.frozen (i * 5);have z1 := HAT6.out.frozen (i * 5 + 1);have z2 := HAT6.out.frozen (i * 5 + 2);have z3 := HAT6.out.frozen (i * 5 + 3);have z4 := HAT6.out.frozen (i * 5 + 4);clear hc6;have h63 := H63.out;have hil := HIL.out;go_wp2_with fail
    have HN : Hid (EachAt kdB S w.heap.size g l (i + 1) (putCells w6 g (i * 5) [.string x.1, .int .i64 x.2.kind, .int .i64 x.2.num, .string x.2.text, .slice za x.2.list.length zc])) :=
     HAT6.out.put HIL.out (fun b hb e => by have := HS.out b hb; have := HG.out; omega) (c' := fun t => ([.string x.1, .int .i64 x.2.kind, .int .i64 x.2.num, .string x.2.text, .slice za x.2.list.length zc] : List Value).getD t undef) (by have hxx : l[i]'HIL.out = x := HX.out; rw [hxx]; exact kdB.on (fun b hb => ⟨by have := HB5.out.size; omega, hb.2, by have := HG5.out; omega⟩) (fun _ _ => rfl) HR6.out) rfl (fun t ht => by
      match t, ht with
      | 0, _ => rfl
      | 1, _ => rfl
      | 2, _ => rfl
      | 3, _ => rfl
      | 4, _ => rfl)
    have HBN : Hid (Below w.heap.size w (putCells w6 g (i * 5) [.string x.1, .int .i64 x.2.kind, .int .i64 x.2.num, .string x.2.text, .slice za x.2.list.length zc])) := putCells_below _ g HG.out _ _ _ HB6.out;go_roundw
    case rel => exact ⟨i + 1, HIL.out, by go_num, HN, HBN⟩
    case measure => simp [intOf]; omega
   ·have hil2 : i = l.length := by omega
    subst hil2;go_wp2_with fail
    go_ret
    exact ⟨_, rfl, hat.out.done HG.out HCP.out HBY.out, hbel.out⟩
set_option maxRecDepth 100000 in
set_option maxHeartbeats 2000000 in
theorem copyB_any (x : Bd) (S : Nat → Prop) (w : World) (c : Nat → Value) (hS : ∀ k, S k → k < w.heap.size) (h : kdB.R S w x c) :
  Calls Try.prog 53 #[.agg #[c 0, c 1, c 2, c 3, c 4]] w (CopyE kdB x w) := by
 have HR : Hid (RepB S w x (c 0) (c 1) (c 2) (c 3) (c 4)) := h;have HS := Lib.hid hS;obtain ⟨xa, xc, e0, e1, e2, e3, e4⟩ := (show RepB S w x (c 0) (c 1) (c 2) (c 3) (c 4) from h).form;rw [e0, e1, e2, e3, e4] at HR ⊢;clear h hS e0 e1 e2 e3 e4;go_enter Try.func53, Try.ntmps53
 go_upto_region 1 with fail
 have m0 := alloc_new' w (.cells #[.string x.1, .int .i64 x.2.kind, .int .i64 x.2.num, .string x.2.text, .slice xa x.2.list.length xc] 35);have d0 := below_alloc w (.cells #[.string x.1, .int .i64 x.2.kind, .int .i64 x.2.num, .string x.2.text, .slice xa x.2.list.length xc] 35);have s0 := World.size_alloc w (.cells #[.string x.1, .int .i64 x.2.kind, .int .i64 x.2.num, .string x.2.text, .slice xa x.2.list.length xc] 35);generalize w.alloc (.cells #[.string x.1, .int .i64 x.2.kind, .int .i64 x.2.num, .string x.2.text, .slice xa x.2.list.length xc] 35) = w1 at *;have m1 := alloc_new' w1 (.cells #[.string ⟨#[]⟩, .int .i64 0, .int .i64 0, .string ⟨#[]⟩, .slice none 0 0] 35);have d1 := below_alloc w1 (.cells #[.string ⟨#[]⟩, .int .i64 0, .int .i64 0, .string ⟨#[]⟩, .slice none 0 0] 35);have s1 := World.size_alloc w1 (.cells #[.string ⟨#[]⟩, .int .i64 0, .int .i64 0, .string ⟨#[]⟩, .slice none 0 0] 35);generalize w1.alloc (.cells #[.string ⟨#[]⟩, .int .i64 0, .int .i64 0, .string ⟨#[]⟩, .slice none 0 0] 35) = w2 at *;rw [s0] at m1 s1;obtain ⟨b1, hb1⟩ : ∃ b1, w.heap.size + 1 = b1 := ⟨_, rfl⟩;have M0 : Hid (w2.heap[w.heap.size]? = some (.cells #[.string x.1, .int .i64 x.2.kind, .int .i64 x.2.num, .string x.2.text, .slice xa x.2.list.length xc] 35 (0, 0))) := (d1.block _ (by omega)).trans m0;have M1 : Hid (w2.heap[w.heap.size + 1]? = some (.cells #[.string ⟨#[]⟩, .int .i64 0, .int .i64 0, .string ⟨#[]⟩, .slice none 0 0] 35 (0, 0))) := m1;rw [hb1] at M1 ⊢;have B : Hid (Below w.heap.size w w2) := Below.step d0 d1;have HB1 : Hid (w.heap.size + 1 = b1) := hb1;have HK : Hid (w.heap.size + 2 ≤ w2.heap.size) := by show _ ≤ _; omega
 clear m0 m1 d0 d1 s0 s1 hb1;have p0 := cell_of_block' (i := 0) M0.out _ rfl;have p1 := cell_of_block' (i := 1) M0.out _ rfl;have p2 := cell_of_block' (i := 2) M0.out _ rfl;have p3 := cell_of_block' (i := 3) M0.out _ rfl;have p4 := cell_of_block' (i := 4) M0.out _ rfl;go_wp2_with fail
 have hcv : Calls Try.prog 47 #[.agg #[.int .i64 x.2.kind, .int .i64 x.2.num, .string x.2.text, .slice xa x.2.list.length xc]] w2 (CopyE kdV x.2 w2) := copyV_any x.2 S w2 (at4v (.int .i64 x.2.kind) (.int .i64 x.2.num) (.string x.2.text) (.slice xa x.2.list.length xc)) (fun k hk => Nat.lt_of_lt_of_le (HS.out k hk) B.out.size) (show kdV.R S w2 x.2 (at4v (.int .i64 x.2.kind) (.int .i64 x.2.num) (.string x.2.text) (.slice xa x.2.list.length xc)) from (RepG.on (fun _ h => h) (fun k hk => B.out.block k (HS.out k hk)) _ HR.out.2.2 : RepG S w2 x.2 (.int .i64 x.2.kind) (.int .i64 x.2.num) (.string x.2.text) (.slice xa x.2.list.length xc)));refine hcv.mono ?_;clear hcv;rintro e w3 ⟨vs, rfl, hn, hv, hbx⟩
 obtain ⟨v0, v1, v2, v3, rfl⟩ : ∃ v0 v1 v2 v3, vs = [v0, v1, v2, v3] := by
  match vs, (show vs.length = 4 from hn) with
  | [v0, v1, v2, v3], _ => exact ⟨v0, v1, v2, v3, rfl⟩
 have hv' : RepG _ _ x.2 v0 v1 v2 v3 := hv;obtain ⟨n0a, n0c, rfl, rfl, rfl, rfl⟩ := hv'.form;have N0 : Hid (RepG (fun b => w.heap.size + 2 ≤ b ∧ b < w3.heap.size) w3 x.2 (.int .i64 x.2.kind) (.int .i64 x.2.num) (.string x.2.text) (.slice n0a x.2.list.length n0c)) := RepG.on (fun b hb => ⟨Nat.le_trans HK.out hb.1, hb.2⟩) (fun _ _ => rfl) _ hv';clear hn hv';replace M0 := Lib.hid ((hbx.block _ (Array.getElem?_eq_some_iff.1 M0.out).1).trans M0.out); replace M1 := Lib.hid ((hbx.block _ (Array.getElem?_eq_some_iff.1 M1.out).1).trans M1.out)
 replace B := Lib.hid (Below.step B.out hbx); replace HK := Lib.hid (Nat.le_trans HK.out hbx.size)
 clear hv hbx p0 p1 p2 p3 p4;have p0 := cell_of_block' (i := 0) M0.out _ rfl;have p1 := cell_of_block' (i := 1) M0.out _ rfl;have p2 := cell_of_block' (i := 2) M0.out _ rfl;have p3 := cell_of_block' (i := 3) M0.out _ rfl;have p4 := cell_of_block' (i := 4) M0.out _ rfl;have z1 := frozen_of_row w3 w.heap.size 1 _ _ M0.out;have z2 := frozen_of_row w3 w.heap.size 2 _ _ M0.out;have z3 := frozen_of_row w3 w.heap.size 3 _ _ M0.out;have z4 := frozen_of_row w3 w.heap.size 4 _ _ M0.out;go_upto_region 2 with fail
 have hsz := (show ((((w3.setCell ⟨w.heap.size, 1, none⟩ (.int .i64 x.2.kind)).setCell ⟨w.heap.size, 2, none⟩ (.int .i64 x.2.num)).setCell ⟨w.heap.size, 3, none⟩ (.string x.2.text)).setCell ⟨w.heap.size, 4, none⟩ (.slice n0a x.2.list.length n0c)).heap.size = w3.heap.size by simp [World.setCell]);replace M0 : Hid (((((w3.setCell ⟨w.heap.size, 1, none⟩ (.int .i64 x.2.kind)).setCell ⟨w.heap.size, 2, none⟩ (.int .i64 x.2.num)).setCell ⟨w.heap.size, 3, none⟩ (.string x.2.text)).setCell ⟨w.heap.size, 4, none⟩ (.slice n0a x.2.list.length n0c)).heap[w.heap.size]? = some (.cells #[.string x.1, .int .i64 x.2.kind, .int .i64 x.2.num, .string x.2.text, .slice n0a x.2.list.length n0c] 35 (0, 0))) := (heap_setCell_same _ _ _ _ _ _ (heap_setCell_same _ _ _ _ _ _ (heap_setCell_same _ _ _ _ _ _ (heap_setCell_same _ _ _ _ _ _ M0.out))));replace M1 : Hid (((((w3.setCell ⟨w.heap.size, 1, none⟩ (.int .i64 x.2.kind)).setCell ⟨w.heap.size, 2, none⟩ (.int .i64 x.2.num)).setCell ⟨w.heap.size, 3, none⟩ (.string x.2.text)).setCell ⟨w.heap.size, 4, none⟩ (.slice n0a x.2.list.length n0c)).heap[b1]? = some (.cells #[.string ⟨#[]⟩, .int .i64 0, .int .i64 0, .string ⟨#[]⟩, .slice none 0 0] 35 (0, 0))) := ((Below.heap_setCell _ _ _ _ (by have := HB1.out; simp; omega)).trans ((Below.heap_setCell _ _ _ _ (by have := HB1.out; simp; omega)).trans ((Below.heap_setCell _ _ _ _ (by have := HB1.out; simp; omega)).trans (Below.heap_setCell _ _ _ _ (by have := HB1.out; simp; omega))))).trans M1.out;replace B : Hid (Below w.heap.size w ((((w3.setCell ⟨w.heap.size, 1, none⟩ (.int .i64 x.2.kind)).setCell ⟨w.heap.size, 2, none⟩ (.int .i64 x.2.num)).setCell ⟨w.heap.size, 3, none⟩ (.string x.2.text)).setCell ⟨w.heap.size, 4, none⟩ (.slice n0a x.2.list.length n0c))) := (Below.setCell (p := ⟨w.heap.size, 4, none⟩) (Below.setCell (p := ⟨w.heap.size, 3, none⟩) (Below.setCell (p := ⟨w.heap.size, 2, none⟩) (Below.setCell (p := ⟨w.heap.size, 1, none⟩) B.out (Nat.le_refl _) (.int .i64 x.2.kind)) (Nat.le_refl _) (.int .i64 x.2.num)) (Nat.le_refl _) (.string x.2.text)) (Nat.le_refl _) (.slice n0a x.2.list.length n0c));replace HK : Hid (w.heap.size + 2 ≤ ((((w3.setCell ⟨w.heap.size, 1, none⟩ (.int .i64 x.2.kind)).setCell ⟨w.heap.size, 2, none⟩ (.int .i64 x.2.num)).setCell ⟨w.heap.size, 3, none⟩ (.string x.2.text)).setCell ⟨w.heap.size, 4, none⟩ (.slice n0a x.2.list.length n0c)).heap.size) := by show _ ≤ _; rw [hsz]; exact HK.out
 replace N0 : Hid (RepG (fun b => w.heap.size + 2 ≤ b ∧ b < ((((w3.setCell ⟨w.heap.size, 1, none⟩ (.int .i64 x.2.kind)).setCell ⟨w.heap.size, 2, none⟩ (.int .i64 x.2.num)).setCell ⟨w.heap.size, 3, none⟩ (.string x.2.text)).setCell ⟨w.heap.size, 4, none⟩ (.slice n0a x.2.list.length n0c)).heap.size) ((((w3.setCell ⟨w.heap.size, 1, none⟩ (.int .i64 x.2.kind)).setCell ⟨w.heap.size, 2, none⟩ (.int .i64 x.2.num)).setCell ⟨w.heap.size, 3, none⟩ (.string x.2.text)).setCell ⟨w.heap.size, 4, none⟩ (.slice n0a x.2.list.length n0c)) x.2 (.int .i64 x.2.kind) (.int .i64 x.2.num) (.string x.2.text) (.slice n0a x.2.list.length n0c)) := RepG.on (fun b hb => ⟨hb.1, by rw [hsz]; exact hb.2⟩) (fun b hb => (Below.heap_setCell _ _ _ _ (by have := hb.1; simp; omega)).trans ((Below.heap_setCell _ _ _ _ (by have := hb.1; simp; omega)).trans ((Below.heap_setCell _ _ _ _ (by have := hb.1; simp; omega)).trans (Below.heap_setCell _ _ _ _ (by have := hb.1; simp; omega))))) _ N0.out;clear hsz p0 p1 p2 p3 p4 z1 z2 z3 z4;generalize ((((w3.setCell ⟨w.heap.size, 1, none⟩ (.int .i64 x.2.kind)).setCell ⟨w.heap.size, 2, none⟩ (.int .i64 x.2.num)).setCell ⟨w.heap.size, 3, none⟩ (.string x.2.text)).setCell ⟨w.heap.size, 4, none⟩ (.slice n0a x.2.list.length n0c)) = w4 at *;have p0 := cell_of_block' (i := 0) M0.out _ rfl;have p1 := cell_of_block' (i := 1) M0.out _ rfl;have p2 := cell_of_block' (i := 2) M0.out _ rfl;have p3 := cell_of_block' (i := 3) M0.out _ rfl;have p4 := cell_of_block' (i := 4) M0.out _ rfl;have q0 := cell_of_block' (i := 0) M1.out _ rfl;have z0 := frozen_of_row w4 b1 0 _ _ M1.out;have q1 := cell_of_block' (i := 1) M1.out _ rfl;have z1 := frozen_of_row w4 b1 1 _ _ M1.out;have q2 := cell_of_block' (i := 2) M1.out _ rfl;have z2 := frozen_of_row w4 b1 2 _ _ M1.out;have q3 := cell_of_block' (i := 3) M1.out _ rfl;have z3 := frozen_of_row w4 b1 3 _ _ M1.out;have q4 := cell_of_block' (i := 4) M1.out _ rfl;have z4 := frozen_of_row w4 b1 4 _ _ M1.out;go_wp2_with fail
 generalize hwz : (((((w4.setCell ⟨b1, 0, none⟩ (.string x.1)).setCell ⟨b1, 1, none⟩ (.int .i64 x.2.kind)).setCell ⟨b1, 2, none⟩ (.int .i64 x.2.num)).setCell ⟨b1, 3, none⟩ (.string x.2.text)).setCell ⟨b1, 4, none⟩ (.slice n0a x.2.list.length n0c)) = wz;have hpz : wz = putCells w4 b1 0 [.string x.1, .int .i64 x.2.kind, .int .i64 x.2.num, .string x.2.text, .slice n0a x.2.list.length n0c] := hwz.symm.trans rfl;clear hwz q0 z0 q1 z1 q2 z2 q3 z3 q4 z4 p0 p1 p2 p3 p4;have Y : wz.heap[b1]? = some (.cells #[.string x.1, .int .i64 x.2.kind, .int .i64 x.2.num, .string x.2.text, .slice n0a x.2.list.length n0c] 35 (0, 0)) := by rw [hpz]; exact putCells_all M1.out rfl
 have y0 := cell_of_block' (i := 0) Y _ rfl;have y1 := cell_of_block' (i := 1) Y _ rfl;have y2 := cell_of_block' (i := 2) Y _ rfl;have y3 := cell_of_block' (i := 3) Y _ rfl;have y4 := cell_of_block' (i := 4) Y _ rfl;have BB : Below w.heap.size w wz := by rw [hpz]; exact putCells_below _ _ (by have := HB1.out; omega) _ _ _ B.out
 have hsz : wz.heap.size = w4.heap.size := by rw [hpz]; exact putCells_size _ _ _ _
 have hoth : ∀ b, b ≠ b1 → wz.heap[b]? = w4.heap[b]? := fun b hb => by rw [hpz]; exact putCells_other _ _ hb _ _ _
 clear hpz;have FIN : RepB (fun b => w.heap.size ≤ b ∧ b < wz.heap.size) wz x (.string x.1) (.int .i64 x.2.kind) (.int .i64 x.2.num) (.string x.2.text) (.slice n0a x.2.list.length n0c) := ⟨rfl, HR.out.2.1, RepG.on (fun b hb => ⟨by have := hb.1; omega, by rw [hsz]; exact hb.2⟩) (fun b hb => hoth b (by have := hb.1; have := HB1.out; omega)) _ N0.out⟩;refine bodyPost_ret (v := .agg #[.string x.1, .int .i64 x.2.kind, .int .i64 x.2.num, .string x.2.text, .slice n0a x.2.list.length n0c]) (by simp [results, Try.results53, go_sem, y0, y1, y2, y3, y4]) rfl ⟨[.string x.1, .int .i64 x.2.kind, .int .i64 x.2.num, .string x.2.text, .slice n0a x.2.list.length n0c], rfl, rfl, FIN, BB⟩
set_option maxRecDepth 100000 in
set_option maxHeartbeats 1000000 in
theorem copyBs_any (l : List Bd) (S : Nat → Prop) (w : World) (v : Value) (hS : ∀ k, S k → k < w.heap.size) (hl : SlG S w kdB.n kdB.bytes (kdB.R S w) l v) :
  Calls Try.prog 29 #[v] w (CopyL kdB l w) := by
 have HL := Lib.hid hl; have HS := Lib.hid hS
 obtain ⟨fa, fc, rfl⟩ := SlG.form hl;clear hl hS;go_enter Try.func29, Try.ntmps29
 go_wp2_with fail
 refine (eachB_any l S w _ HS.out HL.out (fun y _ => copyB_any y)).mono ?_;rintro e w1 ⟨u, rfl, hu, hb⟩;obtain ⟨na, nc, rfl⟩ := SlG.form hu;have HU := Lib.hid hu; have HB := Lib.hid hb
 clear hu hb;go_wp2_with fail
 go_ret
 exact ⟨_, rfl, HU.out, HB.out⟩
end Go.Proofs.Ytbkligcfllakeaa
