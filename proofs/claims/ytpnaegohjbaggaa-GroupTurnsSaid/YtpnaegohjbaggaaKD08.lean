/-
  CopyVO, RowManyS, RowTwo, RowMine, List, Concat, Makers, Do, DoTwo, DoThree, Member, Reverse, Turned, Find, Name, Right, Takes, BaseCases, Call, Ops, Op, BindData
-/
import Derived.Test.YtpnaegohjbaggaaKD04
import Derived.Test.YtpnaegohjbaggaaKD02
import Derived.Test.YtpnaegohjbaggaaKD03
import Derived.Test.YtpnaegohjbaggaaKD01
import Derived.Test.YtpnaegohjbaggaaKD05
import Derived.WalkSpells
import Derived.WalkLawsBesides
import Derived.Lib.AppendZeros
import Derived.LoopN
import Derived.StillTailTactics
import Derived.Deep.RegionLaw
import Derived.BigQuiet
import Derived.Lib.SliceRun
import Derived.Laws.EntriesVeiled
namespace Go.Proofs.Ytpnaegohjbaggaa
open Go.RowKit
def CopyO {α : Type} (K : Kd α) (S : Nat → Prop) (l : List α) (w : World) (e : Ending) (w' : World) : Prop :=
 Below w.heap.size w w' ∧ ((l = [] ∧ ∃ a c, e = .returned (.slice a 0 c) ∧ (0 < c → ∃ g, a = some ⟨g, 0, none⟩)) ∨ ∃ g c, e = .returned (.slice (some ⟨g, 0, none⟩) l.length c) ∧ l.length ≤ c ∧ w.heap.size ≤ g ∧ EachAt K S w.heap.size g l l.length w')
def OwnArgs (S : Nat → Prop) (w : World) (l : List V) (v : Value) : Prop :=
 l.length * 56 ≤ 140737488355328 ∧ ((l = [] ∧ ∃ a c, v = .slice a 0 c ∧ (0 < c → ∃ g, a = some ⟨g, 0, none⟩)) ∨ ∃ ga c cs, v = .slice (some ⟨ga, 0, none⟩) l.length c ∧ l.length ≤ c ∧ S ga ∧ w.heap[ga]? = some (.cells cs 27 (0, 0)) ∧ l.length * 4 ≤ cs.size ∧
  ∀ i (h : i < l.length), ∃ c : Nat → Value, (∀ t, t < 4 → cs[i * 4 + t]? = some (c t)) ∧ RepG (fun b => S b ∧ b ≠ ga) w l[i] (c 0) (c 1) (c 2) (c 3))
theorem OwnArgs.on {S S' : Nat → Prop} {w w' : World} {l : List V} {v : Value} (hS : ∀ k, S k → S' k) (hw : ∀ k, S k → w'.heap[k]? = w.heap[k]?) (h : OwnArgs S w l v) : OwnArgs S' w' l v := by
 refine ⟨h.1, h.2.imp_right ?_⟩;rintro ⟨ga, c, cs, e, hc, hg, hh, hn, hr⟩
 exact ⟨ga, c, cs, e, hc, hS ga hg, (hw ga hg).trans hh, hn, fun i hi => by
  obtain ⟨c, h1, h2⟩ := hr i hi
  exact ⟨c, h1, RepG.on (fun k hk => ⟨hS k hk.1, hk.2⟩) (fun k hk => hw k hk.1) _ h2⟩⟩
theorem OwnArgs.slg {S : Nat → Prop} {w : World} {l : List V} {v : Value} (h : OwnArgs S w l v) : SlG S w 4 56 (fun x c => RepG S w x (c 0) (c 1) (c 2) (c 3)) l v := by
 obtain ⟨hby, ⟨rfl, a, c, rfl, hac⟩ | ⟨ga, c, cs, rfl, hc, hg, hh, hn, hr⟩⟩ := h
 ·refine ⟨a, (match a with | some p => p.block | none => 0), 0, c, rfl, Nat.zero_le _, by simp, fun h => ?_, fun h => by simp at h, fun i hi => by simp at hi⟩
  obtain ⟨g, rfl⟩ := hac h;rfl
 ·refine ⟨_, ga, 0, c, rfl, hc, hby, fun _ => rfl, fun _ => hg, fun i hi => ?_⟩
  obtain ⟨c, h1, h2⟩ := hr i hi;exact ⟨c, fun t ht => by rw [Nat.zero_add]; exact cell_of_block' hh _ (h1 t ht), RepG.on (fun k hk => hk.1) (fun _ _ => rfl) _ h2⟩
theorem OwnArgs.rep {S : Nat → Prop} {w : World} {l : List V} {v : Value} (h : OwnArgs S w l v) : RepLG S w l v := lg_of_slg h.slg
theorem OwnArgs.form {S : Nat → Prop} {w : World} {l : List V} {v : Value} (h : OwnArgs S w l v) : ∃ a c, v = .slice a l.length c := SlG.form h.slg
theorem CopyO.args {S : Nat → Prop} {l : List V} {w w' : World} {e : Ending} (hby : l.length * 56 ≤ 140737488355328) (h : CopyO kdV S l w e w') : Below w.heap.size w w' ∧ ∃ v, e = .returned v ∧ OwnArgs (fun b => w.heap.size ≤ b ∧ b < w'.heap.size) w' l v := by
 obtain ⟨hb, ⟨rfl, a, c, rfl, hac⟩ | ⟨g, c, rfl, hc, hg, hat⟩⟩ := h
 ·exact ⟨hb, _, rfl, hby, .inl ⟨rfl, a, c, rfl, hac⟩⟩
 ·refine ⟨hb, _, rfl, hby, .inr ⟨g, c, ?_⟩⟩
  have hl := hat.lt;obtain ⟨cs, hh, hn, hr⟩ := hat;refine ⟨cs, rfl, hc, ⟨hg, hl⟩, hh, hn, fun i hi => ?_⟩;obtain ⟨c, h1, h2⟩ := hr i hi;exact ⟨c, h1, RepG.on (fun k hk => by rw [if_pos hi] at hk; exact ⟨⟨hk.1, hk.2.1⟩, hk.2.2⟩) (fun _ _ => rfl) _ h2⟩
set_option maxRecDepth 100000 in
set_option maxHeartbeats 2000000 in
theorem eachVO_any (l : List V) (S : Nat → Prop) (w : World) (v : Value) (hS : ∀ k, S k → k < w.heap.size) (hl : SlG S w kdV.n kdV.bytes (kdV.R S w) l v)
  (hcopy : ∀ x ∈ l, ∀ (S : Nat → Prop) (w' : World) (c : Nat → Value), (∀ k, S k → k < w'.heap.size) → kdV.R S w' x c → Calls Try.prog 47 #[.agg #[c 0, c 1, c 2, c 3]] w' (CopyE kdV x w')) :
  Calls Try.prog 78 #[v, .func (.func 47) #[] #[]] w (CopyO kdV S l w) := by
 have HL := Lib.hid hl; have HS := Lib.hid hS; have HC := Lib.hid hcopy
 have HBY := Lib.hid (SlG.bytes hl)
 have H63 : Hid (l.length ≤ 140737488355328) := by
  have : l.length * 1 ≤ l.length * kdV.bytes := Nat.mul_le_mul_left _ (by decide);have := HBY.out
  show _ ≤ _; omega
 have hen : ∀ args w, Sem.run Try.prog (callFunc 47 args) w = .ok (.enter 47 args) w := fun args w => by kernel_rfl
 clear hl hS hcopy;go_enter Try.func78, Try.ntmps78
 go_wp2_with fail
 refine (cloneV_any l S w v HS.out HL.out).mono ?_;rintro e w1 ⟨hb1, ⟨hnil, a, c, rfl, hac⟩ | ⟨g, cap, rfl, hcap, hg, hat⟩⟩
 ·have HB1 := Lib.hid hb1; have HNL := Lib.hid hnil; have HAC := Lib.hid hac
  clear hb1 hac hnil;go_wp2_with fail
  go_loopw [12] (fun iv wr => iv = .int .i64 0 ∧ wr = w1) (fun _ _ => 0)
  case atStart => exact ⟨rfl, rfl⟩
  case round =>
   obtain ⟨rfl, rfl⟩ := hrel;go_wp2_with fail
   go_ret
   exact ⟨HB1.out, .inl ⟨HNL.out, a, c, rfl, HAC.out⟩⟩
 ·have HB1 := Lib.hid hb1; have HAT := Lib.hid hat; have HG := Lib.hid hg; have HCP := Lib.hid hcap
  clear hb1 hcap hg hat;go_wp2_with fail
  go_loopw [12] (fun iv wr => ∃ i : Nat, i ≤ l.length ∧ iv = .int .i64 (i : Int) ∧ Hid (EachAt kdV S w.heap.size g l i wr) ∧ Hid (Below w.heap.size w wr)) (fun iv _ => l.length - (intOf iv).toNat)
  case atStart => exact ⟨0, Nat.zero_le _, rfl, HAT, HB1⟩
  case round =>
   obtain ⟨i, hi, rfl, hat, hbel⟩ := hrel
   by_cases hil : i < l.length
   ·obtain ⟨c, hc, hR⟩ := hat.out.load hil
    obtain ⟨xa, xc, e0, e1, e2, e3⟩ := hR.form;have g0 : wr.cell? ⟨g, i * 4, none⟩ = some (.int .i64 l[i].kind) := by have h := hc 0 (by decide); rw [e0] at h; exact h
    have g1 : wr.cell? ⟨g, i * 4 + 1, none⟩ = some (.int .i64 l[i].num) := by have h := hc 1 (by decide); rw [e1] at h; exact h
    have g2 : wr.cell? ⟨g, i * 4 + 2, none⟩ = some (.string l[i].text) := by have h := hc 2 (by decide); rw [e2] at h; exact h
    have g3 : wr.cell? ⟨g, i * 4 + 3, none⟩ = some (.slice xa l[i].list.length xc) := by have h := hc 3 (by decide); rw [e3] at h; exact h
    have HR : Hid (kdV.R S wr l[i] c) := hR;have HCO := Lib.hid (HC.out l[i] (List.getElem_mem hil));have HGL := Lib.hid hat.out.lt;have hb5 := below_alloc wr (.cells #[.int .i64 l[i].kind, .int .i64 l[i].num, .string l[i].text, .slice xa l[i].list.length xc] 27);have m5 := alloc_new' wr (.cells #[.int .i64 l[i].kind, .int .i64 l[i].num, .string l[i].text, .slice xa l[i].list.length xc] 27);have HSW : Hid (∀ b, S b → b < wr.heap.size) := fun b hb => Nat.lt_of_lt_of_le (HS.out b hb) hbel.out.size
    have HAT5 := Lib.hid (hat.out.on HSW.out hb5);have HR5 : Hid (kdV.R S (wr.alloc (.cells #[.int .i64 l[i].kind, .int .i64 l[i].num, .string l[i].text, .slice xa l[i].list.length xc] 27)) l[i] c) := kdV.on (fun _ h => h) (fun b hb => hb5.block b (HSW.out b hb)) hR;have HB5 := Lib.hid (Below.step hbel.out hb5);have HIL := Lib.hid hil;have HEQ : Hid (c 0 = .int .i64 l[i].kind ∧ c 1 = .int .i64 l[i].num ∧ c 2 = .string l[i].text ∧ c 3 = .slice xa l[i].list.length xc) := ⟨e0, e1, e2, e3⟩;clear hc hat hbel hb5 hR;generalize hx : l[i] = x at *;have HX := Lib.hid hx;clear hx;go_upto_region 5 with fail
    clear g0 g1 g2 g3;obtain ⟨bx, hbx⟩ : ∃ bx, wr.heap.size = bx := ⟨_, rfl⟩;rw [hbx] at m5 ⊢;have HGX : Hid (g < bx) := by show _ < _; rw [← hbx]; exact HGL.out
    clear hbx;generalize wr.alloc (.cells #[.int .i64 x.kind, .int .i64 x.num, .string x.text, .slice xa x.list.length xc] 27) = w5 at *;have M5 := Lib.hid m5;clear m5;have q0 := cell_of_block' (i := 0) M5.out _ rfl;have q1 := cell_of_block' (i := 1) M5.out _ rfl;have q2 := cell_of_block' (i := 2) M5.out _ rfl;have q3 := cell_of_block' (i := 3) M5.out _ rfl;go_wp2_with fail
    have hcc := HCO.out S w5 c (fun b hb => Nat.lt_of_lt_of_le (HS.out b hb) HB5.out.size) HR5.out;obtain ⟨e0, e1, e2, e3⟩ := HEQ.out;rw [e0, e1, e2, e3] at hcc;clear e0 e1 e2 e3;refine hcc.mono ?_;clear hcc;rintro e w6 ⟨vs, rfl, hn, hR6, hb6⟩
    obtain ⟨v0, v1, v2, v3, rfl⟩ : ∃ v0 v1 v2 v3, vs = [v0, v1, v2, v3] := by
     match vs, (show vs.length = 4 from hn) with
     | [v0, v1, v2, v3], _ => exact ⟨v0, v1, v2, v3, rfl⟩
    have HAT6 := Lib.hid (HAT5.out.on (fun b hb => Nat.lt_of_lt_of_le (HS.out b hb) HB5.out.size) hb6);have HB6 := Lib.hid (Below.step HB5.out hb6);have HG5 : Hid (g < w5.heap.size) := HAT5.out.lt;have HR6 := Lib.hid hR6;have HB56 := Lib.hid hb6;clear hb6 hR6 hn q0 q1 q2 q3;obtain ⟨za, zc, rfl, rfl, rfl, rfl⟩ := (show RepG _ _ _ v0 v1 v2 v3 from HR6.out).form;obtain ⟨c6, hc6, -⟩ := HAT6.out.load HIL.out;have p0 : w6.cell? ⟨g, i * 4, none⟩ = some (c6 0) := hc6 0 (by decide);have p1 : w6.cell? ⟨g, i * 4 + 1, none⟩ = some (c6 1) := hc6 1 (by decide);have p2 : w6.cell? ⟨g, i * 4 + 2, none⟩ = some (c6 2) := hc6 2 (by decide);have p3 : w6.cell? ⟨g, i * 4 + 3, none⟩ = some (c6 3) := hc6 3 (by decide);have z0 := HAT6.out.frozen (i * 4);have z1 := HAT6.out.frozen (i * 4 + 1);have z2 := HAT6.out.frozen (i * 4 + 2);have z3 := HAT6.out.frozen (i * 4 + 3);clear hc6;have h63 := H63.out;have hil := HIL.out;go_wp2_with fail
    have HN : Hid (EachAt kdV S w.heap.size g l (i + 1) (putCells w6 g (i * 4) [.int .i64 x.kind, .int .i64 x.num, .string x.text, .slice za x.list.length zc])) :=
     HAT6.out.put HIL.out (fun b hb e => by have := HS.out b hb; have := HG.out; omega) (c' := fun t => ([.int .i64 x.kind, .int .i64 x.num, .string x.text, .slice za x.list.length zc] : List Value).getD t undef) (by have hxx : l[i]'HIL.out = x := HX.out; rw [hxx]; exact kdV.on (fun b hb => ⟨by have := HB5.out.size; omega, hb.2, by have := HG5.out; omega⟩) (fun _ _ => rfl) HR6.out) rfl (fun t ht => by
      match t, ht with
      | 0, _ => rfl
      | 1, _ => rfl
      | 2, _ => rfl
      | 3, _ => rfl)
    have HBN : Hid (Below w.heap.size w (putCells w6 g (i * 4) [.int .i64 x.kind, .int .i64 x.num, .string x.text, .slice za x.list.length zc])) := putCells_below _ g HG.out _ _ _ HB6.out;go_roundw
    case rel => exact ⟨i + 1, HIL.out, by go_num, HN, HBN⟩
    case measure => simp [intOf]; omega
   ·have hil2 : i = l.length := by omega
    subst hil2;go_wp2_with fail
    go_ret
    exact ⟨hbel.out, .inr ⟨g, cap, rfl, HCP.out, HG.out, hat.out⟩⟩
end Go.Proofs.Ytpnaegohjbaggaa
namespace Go.Proofs.Ytpnaegohjbaggaa
open Go.RowKit
theorem one_row {α : Type} {K : Kd α} {S S1 : Nat → Prop} {w : World} {y : α} {b : Nat} {cs : Array Value} {t : TypeId} {fz : Nat × Nat} {c : Nat → Value} (hb : w.heap[b]? = some (.cells cs t fz)) (hS : S1 b) (hc : ∀ j, j < K.n → cs[j]? = some (c j)) (hR : K.R S w y c) :
  SlG S1 w K.n K.bytes (K.R S w) [y] (.slice (some ⟨b, 0, none⟩) 1 1) := by
 refine ⟨_, b, 0, 1, rfl, Nat.le_refl _, ?_, fun _ => rfl, fun _ => hS, fun i hi => ?_⟩
 ·have := K.few; simp; omega
 ·obtain rfl : i = 0 := by simp at hi; omega
  refine ⟨c, fun j hj => ?_, hR⟩;rw [show 0 + 0 * K.n + j = j by omega];exact cell_of_block' hb _ (hc j hj)
end Go.Proofs.Ytpnaegohjbaggaa
namespace Go.Proofs.Ytpnaegohjbaggaa
open Go.RowKit
theorem own_manyH {α : Type} {K : Kd α} {S S1 : Nat → Prop} {w : World} {base : Nat} {L m : List α} {lv x : Value} (hown : OwnK K S w base L lv) (hm : SlG S1 w K.n K.bytes (K.R S w) m x) (hS : ∀ k, S k → k < w.heap.size ∧ lv.ownBlock ≠ some k)
  (hbase : base ≤ w.heap.size) (hlen : L.length + m.length ≤ 100000) (ty : TypeId) :
  ∃ (v' : Value) (w6 : World), (Builtin.append_ #[K.ST, K.ST] ty #[lv, x]).run Try.prog w = .ok v' w6 ∧ OwnK K S w6 base (L ++ m) v' ∧ w.grownBy w6 lv.ownBlock ∧ (v'.ownBlock = lv.ownBlock ∨ v'.ownBlock = some w.heap.size) := by
 obtain ⟨i0, z, hi, hz0, hz1, hz2, hz3⟩ := K.info;obtain ⟨xs, hrow, hr⟩ := hown
 have hby : (L.length + m.length) * K.bytes ≤ 140737488355328 := by
  have := Nat.mul_le_mul hlen K.few;omega
 have keep : ∀ w6 : World, w.grownBy w6 lv.ownBlock → ∀ k, S k → w6.heap[k]? = w.heap[k]? := fun w6 hg k hk => hg.block k (hS k hk).1 (fun e => (hS k hk).2 e.symm)
 obtain ⟨a, cap, rfl⟩ := SlG.form hm;rcases a with _ | ⟨b, o, sp⟩
 ·obtain ⟨a', b', o', cap', e, h6, h7, h8, h9, h10⟩ := id hm
  cases e
  have hc0 : cap = 0 := by
   by_cases hc : 0 < cap
   ·have := h8 hc; cases this
   ·omega
  subst hc0;obtain rfl : m = [] := List.length_eq_zero_iff.1 (by omega);have hrun := run_append_owned_none (P := Try.prog) (w := w) base K.ST ty K.T i0 K.n K.und hi lv L.length xs hrow
  exact ⟨lv, w, hrun, ⟨xs, by simpa using hrow, fun i hi' => by
   have hi2 : i < L.length := by simpa using hi'
   obtain ⟨c, hc, hR⟩ := hr i hi2
   exact ⟨c, hc, by simpa using hR⟩⟩, World.grownBy.refl w _, .inl rfl⟩
 ·have hsp : sp = none ∨ m = [] ∧ cap = 0 := by
   obtain ⟨a', b', o', cap', e, h6, h7, h8, h9, h10⟩ := id hm
   cases e
   by_cases hc : 0 < cap
   ·have := h8 hc
    injection this with e; injection e with e1 e2 e3
    exact .inl e3
   ·exact .inr ⟨List.length_eq_zero_iff.1 (by omega), by omega⟩
  have main : ∀ (ys : List Value), ys.length = m.length * K.n → (∀ j u, ys[j]? = some u → w.cell? ((⟨b, o, sp⟩ : Addr).add j) = some u) → (∀ i (h : i < m.length), ∃ f : Nat → Value, (∀ j, j < K.n → ys[i * K.n + j]? = some (f j)) ∧ K.R S w m[i] f) → (∀ u ∈ ys, u.oneCell' = true) → m.length ≤ cap →
    ∃ (v' : Value) (w6 : World), (Builtin.append_ #[K.ST, K.ST] ty #[lv, .slice (some ⟨b, o, sp⟩) m.length cap]).run Try.prog w = .ok v' w6 ∧ OwnK K S w6 base (L ++ m) v' ∧ w.grownBy w6 lv.ownBlock ∧ (v'.ownBlock = lv.ownBlock ∨ v'.ownBlock = some w.heap.size) := by
   intro ys hy1 hy2 hy3 hy4 hcap;obtain ⟨v', w6, hrun, h1, h2, _, h5⟩ := run_append_own_at (P := Try.prog) w base K.ST ty K.T i0 z K.n K.bytes K.und hi hz0 hz1 hz2 hz3 K.pos lv L.length xs hrow ⟨b, o, sp⟩ m.length cap ys hy1 hy2 hy4 (by unfold maxLen; omega) hby hbase;refine ⟨v', w6, hrun, ⟨xs ++ ys, by rw [List.length_append]; exact h1, fun i hi' => ?_⟩, h2, h5⟩
   by_cases hlt : i < L.length
   ·obtain ⟨c', hc', hR⟩ := hr i hlt
    refine ⟨c', fun j hj => ?_, by rw [List.getElem_append_left hlt]; exact K.on (fun _ h => h) (keep w6 h2) hR⟩
    have hil : i * K.n + j < xs.length := by
     rw [hrow.1];have : (i + 1) * K.n ≤ L.length * K.n := Nat.mul_le_mul_right _ hlt;rw [Nat.succ_mul] at this; omega
    rw [List.getElem?_append_left hil]; exact hc' j hj
   ·have hi2 : i - L.length < m.length := by rw [List.length_append] at hi'; omega
    obtain ⟨c, hc, hR⟩ := hy3 (i - L.length) hi2;refine ⟨c, fun j hj => ?_, by rw [List.getElem_append_right (by omega)]; exact K.on (fun _ h => h) (keep w6 h2) hR⟩;have hge : L.length * K.n ≤ i * K.n := Nat.mul_le_mul_right _ (by omega);rw [List.getElem?_append_right (by rw [hrow.1]; omega), hrow.1, show i * K.n + j - L.length * K.n = (i - L.length) * K.n + j by rw [Nat.sub_mul]; omega];exact hc j hj
  rcases hsp with rfl | ⟨rfl, rfl⟩
  ·obtain ⟨-, f2, ys, f3, f4, f5, f6⟩ := SlG.flat K.pos hm
   exact main ys f3 (fun j u hu => by rw [add_lit']; exact f4 j u hu) f5 (fun u hu => by
    obtain ⟨i, hi', f, j, hj, rfl, hR⟩ := f6 u hu
    exact K.one hR j hj) f2
  ·exact main [] (by simp) (fun j u hu => by simp at hu) (fun i h => by simp at h) (fun u hu => by cases hu) (Nat.le_refl _)
end Go.Proofs.Ytpnaegohjbaggaa
namespace Go.Proofs.Ytpnaegohjbaggaa
open Go.RowKit
def MineS {α : Type} (K : Kd α) (S : Nat → Prop) (w : World) (B : Nat) (l : List α) (v : Value) : Prop := OwnK K (fun b => (S b ∨ B ≤ b) ∧ b < w.heap.size ∧ v.ownBlock ≠ some b) w B l v
section
variable {α : Type} {K : Kd α} {S : Nat → Prop}
theorem MineS.nil (w : World) (B : Nat) : MineS K S w B [] (.slice none 0 0) := OwnK.nil _ _ _
theorem MineS.on {w w' : World} {B : Nat} {l : List α} {v : Value} (h : MineS K S w B l v) (hb : Below w.heap.size w w') : MineS K S w' B l v :=
 OwnK.on h (fun _k hk => ⟨hk.1, Nat.lt_of_lt_of_le hk.2.1 hb.size, hk.2.2⟩) (fun k hk => hb.block k hk.2.1) (fun k _ hk _ => hb.block k hk)
theorem MineS.lies {w : World} {B : Nat} {l : List α} {v : Value} (h : MineS K S w B l v) (k : Nat) (hk : v.ownBlock = some k) : B ≤ k ∧ k < w.heap.size := OwnK.lies h k hk
theorem MineS.form {w : World} {B : Nat} {l : List α} {v : Value} (h : MineS K S w B l v) : ∃ a cap, v = .slice a l.length cap := OwnK.form h
theorem MineS.append {w : World} {B : Nat} {L : List α} {lv : Value} {y : α} {b : Nat} {cs : Array Value} {t : TypeId} {fz : Nat × Nat} {c : Nat → Value} (h : MineS K S w B L lv) (hB : B ≤ w.heap.size) (hlen : L.length ≤ 1000)
  (hb : w.heap[b]? = some (.cells cs t fz)) (hc : ∀ j, j < K.n → cs[j]? = some (c j)) (hR : K.R (fun b => (S b ∨ B ≤ b) ∧ b < w.heap.size ∧ lv.ownBlock ≠ some b) w y c) (ty : TypeId) :
  ∃ (a : Option Addr) (cap : Nat) (w6 : World), (Builtin.append_ #[K.ST, K.ST] ty #[lv, .slice (some ⟨b, 0, none⟩) 1 1]).run Try.prog w = .ok (.slice a (L.length + 1) cap) w6 ∧ MineS K S w6 B (L ++ [y]) (.slice a (L.length + 1) cap) ∧ w.grownBy w6 lv.ownBlock := by
 obtain ⟨v', w6, hrun, ho, hg, h5⟩ := own_manyH (S1 := fun _ => True) (m := [y]) h (one_row (c := c) hb trivial hc hR) (fun k hk => ⟨hk.2.1, hk.2.2⟩) hB (by simp; omega) ty
 have hm : MineS K S w6 B (L ++ [y]) v' := OwnK.on ho (fun k hk => ⟨hk.1, Nat.lt_of_lt_of_le hk.2.1 hg.size, fun e => by
  rcases h5 with h5 | h5
  ·exact hk.2.2 (h5.symm.trans e)
  ·rw [h5] at e; have := Option.some.inj e; omega⟩) (fun _ _ => rfl) (fun _ _ _ _ => rfl)
 obtain ⟨a, cap, rfl⟩ := OwnK.form hm;rw [List.length_append, List.length_singleton] at hrun hm;exact ⟨a, cap, w6, hrun, hm, hg⟩
theorem MineS.slg {w : World} {B : Nat} {l : List α} {v : Value} (h : MineS K S w B l v) (hl : l.length ≤ 100000) : SlG (fun b => (S b ∨ B ≤ b) ∧ b < w.heap.size) w K.n K.bytes (K.R (fun b => (S b ∨ B ≤ b) ∧ b < w.heap.size) w) l v :=
 OwnK.slg' h (fun _b hb => ⟨hb.1, hb.2.1⟩) (fun _b h1 h2 => ⟨.inr h1, h2⟩) hl
end
end Go.Proofs.Ytpnaegohjbaggaa
namespace Go.Proofs.Ytpnaegohjbaggaa
open Go.RowKit
end Go.Proofs.Ytpnaegohjbaggaa
namespace Go.Proofs.Ytpnaegohjbaggaa
open Go.RowKit
end Go.Proofs.Ytpnaegohjbaggaa
namespace Go.Proofs.Ytpnaegohjbaggaa
open Go.RowKit
theorem number_any (n : Int) (w : World) : Calls Try.prog 23 #[.int .i64 n] w fun e w' => e = .returned (.agg #[.int .i64 1, .int .i64 n, .string ⟨#[]⟩, .slice none 0 0]) ∧ Below w.heap.size w w' := by
 go_enter Try.func23, Try.ntmps23
 go_wp2
 exact bodyPost_ret (v := .agg #[.int .i64 1, .int .i64 n, .string ⟨#[]⟩, .slice none 0 0]) (by simp [results, Try.results23, go_sem]) rfl ⟨rfl, (Below.refl _ _).alloc (Nat.le_refl _) _⟩
end Go.Proofs.Ytpnaegohjbaggaa
namespace Go.Proofs.Ytpnaegohjbaggaa
open Go.RowKit
end Go.Proofs.Ytpnaegohjbaggaa
namespace Go.Proofs.Ytpnaegohjbaggaa
open Go.RowKit
end Go.Proofs.Ytpnaegohjbaggaa
namespace Go.Proofs.Ytpnaegohjbaggaa
open Go.RowKit
end Go.Proofs.Ytpnaegohjbaggaa
namespace Go.Proofs.Ytpnaegohjbaggaa
open Go.RowKit
end Go.Proofs.Ytpnaegohjbaggaa
namespace Go.Proofs.Ytpnaegohjbaggaa
open Go.RowKit
end Go.Proofs.Ytpnaegohjbaggaa
namespace Go.Proofs.Ytpnaegohjbaggaa
open Go.RowKit
end Go.Proofs.Ytpnaegohjbaggaa
namespace Go.Proofs.Ytpnaegohjbaggaa
open Go.RowKit
end Go.Proofs.Ytpnaegohjbaggaa
namespace Go.Proofs.Ytpnaegohjbaggaa
open Go.RowKit
def smallB (r : Int) : Bool := decide (97 ≤ r ∧ r ≤ 122)
def digitB (r : Int) : Bool := decide (48 ≤ r ∧ r ≤ 57)
def okAt (i : Nat) (r : Int) : Bool := smallB r || (!(decide (i = 0)) && (digitB r || (r == 95)))
def nameB (s : ByteArray) : Bool := decide (1 ≤ s.size ∧ s.size ≤ 16 ∧ ∀ i (h : i < s.size), okAt i (s[i].toNat : Int) = true)
def okText (r : Int) : Bool := decide (32 ≤ r ∧ r ≤ 126 ∧ r ≠ 34 ∧ r ≠ 92)
def textB (s : ByteArray) : Bool := decide (s.size ≤ 32 ∧ ∀ i (h : i < s.size), okText (s[i].toNat : Int) = true)
end Go.Proofs.Ytpnaegohjbaggaa
namespace Go.Proofs.Ytpnaegohjbaggaa
open Go.RowKit
def baseB (k n : Int) (s : ByteArray) (l : List V) (b : Bool) : Bool :=
 if k = 1 then s.toList.isEmpty && l.isEmpty && decide (-2147483647 ≤ n) && decide (n ≤ 2147483647)
 else if k = 2 then (n == 0) && l.isEmpty && textB s
 else if k = 3 then (n == 0) && l.isEmpty && nameB s
 else if k = 4 then (n == 0) && s.toList.isEmpty && b
 else false
def rightV : Nat → V → Bool
 | 0, .mk k n s l => baseB k n s l false
 | d + 1, .mk k n s l => baseB k n s l (decide (l.length ≤ 16) && l.all (rightV d))
def rightL : Nat → List V → Bool
 | 0, _ => false
 | d + 1, l => decide (l.length ≤ 16) && l.all (rightV d)
theorem rightV_mk (d : Nat) (k n : Int) (s : ByteArray) (l : List V) : rightV d (.mk k n s l) = baseB k n s l (rightL d l) := by
 cases d <;> simp [rightV, rightL]
end Go.Proofs.Ytpnaegohjbaggaa
namespace Go.Proofs.Ytpnaegohjbaggaa
open Go.RowKit
end Go.Proofs.Ytpnaegohjbaggaa
namespace Go.Proofs.Ytpnaegohjbaggaa
open Go.RowKit
theorem baseB_cases {k n : Int} {s : ByteArray} {l : List V} {b : Bool} (h : baseB k n s l b = true) :
  (k = 1 ∧ s.toList.isEmpty = true ∧ l = [] ∧ -2147483647 ≤ n ∧ n ≤ 2147483647) ∨ (k = 2 ∧ n = 0 ∧ l = [] ∧ textB s = true) ∨ (k = 3 ∧ n = 0 ∧ l = [] ∧ nameB s = true) ∨ (k = 4 ∧ n = 0 ∧ s.toList.isEmpty = true ∧ b = true) := by
 unfold baseB at h
 split at h
 ·simp at h; simp_all
 ·split at h
  ·simp at h; simp_all
  ·split at h
   ·simp at h; simp_all
   ·split at h
    ·simp at h; simp_all
    ·cases h
end Go.Proofs.Ytpnaegohjbaggaa
namespace Go.Proofs.Ytpnaegohjbaggaa
open Go.RowKit
end Go.Proofs.Ytpnaegohjbaggaa
namespace Go.Proofs.Ytpnaegohjbaggaa
open Go.RowKit
end Go.Proofs.Ytpnaegohjbaggaa
namespace Go.Proofs.Ytpnaegohjbaggaa
open Go.RowKit
end Go.Proofs.Ytpnaegohjbaggaa
namespace Go.Proofs.Ytpnaegohjbaggaa
open Go.RowKit
theorem MineS.appendB {α : Type} {K : Kd α} {S : Nat → Prop} {w : World} {B : Nat} {L : List α} {lv : Value} {y : α} {b : Nat} {cs : Array Value} {t : TypeId} {fz : Nat × Nat} {c : Nat → Value} (h : MineS K S w B L lv) (hB : B ≤ w.heap.size)
  (hby : (L.length + 1) * K.bytes ≤ 140737488355328) (h63 : L.length + 1 ≤ 140737488355328)
  (hb : w.heap[b]? = some (.cells cs t fz)) (hc : ∀ j, j < K.n → cs[j]? = some (c j)) (hR : K.R (fun b => (S b ∨ B ≤ b) ∧ b < w.heap.size ∧ lv.ownBlock ≠ some b) w y c) (ty : TypeId) :
  ∃ (a : Option Addr) (cap : Nat) (w6 : World), (Builtin.append_ #[K.ST, K.ST] ty #[lv, .slice (some ⟨b, 0, none⟩) 1 1]).run Try.prog w = .ok (.slice a (L.length + 1) cap) w6 ∧ MineS K S w6 B (L ++ [y]) (.slice a (L.length + 1) cap) ∧ w.grownBy w6 lv.ownBlock := by
 obtain ⟨i0, z, hi, hz0, hz1, hz2, hz3⟩ := K.info;obtain ⟨xs, hrow, hr⟩ := h;have keep : ∀ w6 : World, w.grownBy w6 lv.ownBlock → ∀ k, ((S k ∨ B ≤ k) ∧ k < w.heap.size ∧ lv.ownBlock ≠ some k) → w6.heap[k]? = w.heap[k]? := fun w6 hg k hk => hg.block k hk.2.1 (fun e => hk.2.2 e.symm)
 have hn : K.n ≤ cs.size := by
  rcases Nat.lt_or_ge cs.size K.n with hlt | hge
  ·have := hc cs.size hlt; rw [Array.getElem?_eq_none (Nat.le_refl _)] at this; cases this
  ·exact hge
 have hys : ∀ j u, (cs.toList.take K.n)[j]? = some u → j < K.n ∧ cs[j]? = some u := fun j u hj => by
  rw [List.getElem?_take] at hj
  split at hj
  ·rename_i hlt; exact ⟨hlt, by rw [← Array.getElem?_toList]; exact hj⟩
  ·cases hj
 have hyl : (cs.toList.take K.n).length = 1 * K.n := by rw [List.length_take, Array.length_toList]; omega
 obtain ⟨v', w6, hrun, h1, h2, _, h5⟩ := run_append_own_at (P := Try.prog) w B K.ST ty K.T i0 z K.n K.bytes K.und hi hz0 hz1 hz2 hz3 K.pos lv L.length xs hrow ⟨b, 0, none⟩ 1 1 (cs.toList.take K.n) hyl
  (fun j u hj => by
   have e : ((⟨b, 0, none⟩ : Addr).add j) = ⟨b, 0 + j, none⟩ := add_lit' _ _ _;rw [e, Nat.zero_add]
   exact cell_of_block' hb u (hys j u hj).2)
  (fun u hu => by
   obtain ⟨j, hj, rfl⟩ := List.getElem_of_mem hu;obtain ⟨hj1, hj2⟩ := hys j _ (List.getElem?_eq_getElem hj);rw [Option.some.inj (hj2.symm.trans (hc j hj1))]
   exact K.one hR j hj1) (by unfold maxLen; omega) hby hB
 have hsub : ∀ k, ((S k ∨ B ≤ k) ∧ k < w.heap.size ∧ lv.ownBlock ≠ some k) → ((S k ∨ B ≤ k) ∧ k < w6.heap.size ∧ v'.ownBlock ≠ some k) := fun k hk => ⟨hk.1, Nat.lt_of_lt_of_le hk.2.1 h2.size, fun e => by
  rcases h5 with h5 | h5
  ·exact hk.2.2 (h5.symm.trans e)
  ·rw [h5] at e; have := Option.some.inj e; omega⟩
 have hm : MineS K S w6 B (L ++ [y]) v' := by
  refine ⟨xs ++ cs.toList.take K.n, by rw [List.length_append]; exact h1, fun i hi' => ?_⟩
  by_cases hlt : i < L.length
  ·obtain ⟨c', hc', hR'⟩ := hr i hlt
   refine ⟨c', fun j hj => ?_, by rw [List.getElem_append_left hlt]; exact K.on hsub (keep w6 h2) hR'⟩
   have hil : i * K.n + j < xs.length := by
    rw [hrow.1];have : (i + 1) * K.n ≤ L.length * K.n := Nat.mul_le_mul_right _ hlt;rw [Nat.succ_mul] at this; omega
   rw [List.getElem?_append_left hil]; exact hc' j hj
  ·obtain rfl : i = L.length := by simp at hi'; omega
   refine ⟨c, fun j hj => ?_, by rw [List.getElem_append_right (Nat.le_refl _)]; simpa using K.on hsub (keep w6 h2) hR⟩;rw [List.getElem?_append_right (by rw [hrow.1]; omega), hrow.1, show L.length * K.n + j - L.length * K.n = j by omega, List.getElem?_take, if_pos hj, Array.getElem?_toList];exact hc j hj
 obtain ⟨a, cap, rfl⟩ := OwnK.form hm;rw [List.length_append, List.length_singleton] at hrun hm;exact ⟨a, cap, w6, hrun, hm, h2⟩
end Go.Proofs.Ytpnaegohjbaggaa
