/-
  CopyKit, LgSlg, CopyV
-/
import Derived.Test.YtpnaegohjbaggaaKD02
import Derived.Test.YtpnaegohjbaggaaKD03
import Derived.Test.YtpnaegohjbaggaaKD01
import Derived.Lib.SliceRun
import Derived.Deep.CutRange
import Derived.Deep.Cut
import Derived.Lib.AppendZeros
namespace Go.Proofs.Ytpnaegohjbaggaa
open Go.RowKit
def putCells (w : World) (g : Nat) : Nat → List Value → World
 | _, [] => w
 | o, v :: l => putCells (w.setCell ⟨g, o, none⟩ v) g (o + 1) l
theorem putCells_other (g : Nat) (b : Nat) (h : b ≠ g) : ∀ (l : List Value) (w : World) (o : Nat), (putCells w g o l).heap[b]? = w.heap[b]?
 | [], _, _ => rfl
 | v :: l, w, o => by rw [putCells, putCells_other g b h l]; exact Below.heap_setCell _ _ _ _ (by simpa using h)
theorem putCells_size (g : Nat) : ∀ (l : List Value) (w : World) (o : Nat), (putCells w g o l).heap.size = w.heap.size
 | [], _, _ => rfl
 | v :: l, w, o => by rw [putCells, putCells_size g l]; simp [World.setCell]
theorem putCells_below (B g : Nat) (hB : B ≤ g) {w0 : World} : ∀ (l : List Value) (w : World) (o : Nat), Below B w0 w → Below B w0 (putCells w g o l)
 | [], _, _, h => h
 | v :: l, _w, o, h => putCells_below B g hB l _ _ (Below.setCell (p := ⟨g, o, none⟩) h hB v)
theorem putCells_same (g : Nat) (t : TypeId) : ∀ (l : List Value) (w : World) (o : Nat) (cs : Array Value), w.heap[g]? = some (.cells cs t (0, 0)) → o + l.length ≤ cs.size →
  ∃ cs' : Array Value, (putCells w g o l).heap[g]? = some (.cells cs' t (0, 0)) ∧ cs'.size = cs.size ∧ (∀ j, j < l.length → cs'[o + j]? = l[j]?) ∧ ∀ j, (j < o ∨ o + l.length ≤ j) → cs'[j]? = cs[j]?
 | [], w, o, cs, h, _ => ⟨cs, h, rfl, fun j hj => by simp at hj, fun _ _ => rfl⟩
 | v :: l, w, o, cs, h, hl => by
  simp only [List.length_cons] at hl
  obtain ⟨cs', h1, h2, h3, h4⟩ := putCells_same g t l (w.setCell ⟨g, o, none⟩ v) (o + 1) (cs.setIfInBounds o v) (heap_setCell_same _ _ _ _ _ _ h) (by rw [Array.size_setIfInBounds]; omega);refine ⟨cs', h1, by rw [h2, Array.size_setIfInBounds], fun j hj => ?_, fun j hj => ?_⟩
  ·cases j with
   | zero => rw [Nat.add_zero, h4 o (.inl (by omega)), Array.getElem?_setIfInBounds, if_pos rfl, if_pos (by omega)]; rfl
   | succ j =>
    simp only [List.length_cons] at hj
    rw [show o + (j + 1) = o + 1 + j by omega, h3 j (by omega)]; rfl
  ·simp only [List.length_cons] at hj
   rw [h4 j (by omega), Array.getElem?_setIfInBounds, if_neg (by omega)]
theorem putCells_all {w : World} {g : Nat} {cs : Array Value} {t : TypeId} {vs : List Value} (h : w.heap[g]? = some (.cells cs t (0, 0))) (hn : cs.size = vs.length) : (putCells w g 0 vs).heap[g]? = some (.cells vs.toArray t (0, 0)) := by
 obtain ⟨cs', e1, e2, e3, -⟩ := putCells_same g t vs w 0 cs h (by omega);rw [e1]
 have : cs' = vs.toArray := by
  apply Array.ext_getElem?
  intro i
  by_cases hi : i < vs.length
  ·have := e3 i hi
   rw [Nat.zero_add] at this;rw [this]; simp
  ·rw [Array.getElem?_eq_none (by omega)]; simp; omega
 rw [this]
section
variable {α : Type} {K : Kd α}
def EachAt (K : Kd α) (S : Nat → Prop) (B g : Nat) (l : List α) (i : Nat) (w : World) : Prop :=
 ∃ cs : Array Value, w.heap[g]? = some (.cells cs K.T (0, 0)) ∧ l.length * K.n ≤ cs.size ∧
  ∀ j (h : j < l.length), ∃ c : Nat → Value, (∀ t, t < K.n → cs[j * K.n + t]? = some (c t)) ∧ K.R (fun b => if j < i then B ≤ b ∧ b < w.heap.size ∧ b ≠ g else S b) w l[j] c
theorem EachAt.lt {S : Nat → Prop} {B g : Nat} {l : List α} {i : Nat} {w : World} (h : EachAt K S B g l i w) : g < w.heap.size := by
 obtain ⟨cs, h, -⟩ := h;exact (Array.getElem?_eq_some_iff.1 h).1
theorem EachAt.on {S : Nat → Prop} {B g : Nat} {l : List α} {i : Nat} {w w' : World} (h : EachAt K S B g l i w) (hS : ∀ b, S b → b < w.heap.size) (hb : Below w.heap.size w w') : EachAt K S B g l i w' := by
 have hl := h.lt;obtain ⟨cs, h1, h2, h3⟩ := h;refine ⟨cs, (hb.block g hl).trans h1, h2, fun j hj => ?_⟩;obtain ⟨c, h4, h5⟩ := h3 j hj;refine ⟨c, h4, K.on (fun b hb' => ?_) (fun b hb' => hb.block b ?_) h5⟩
 ·split at hb'
  ·next hji => rw [if_pos hji]; exact ⟨hb'.1, Nat.lt_of_lt_of_le hb'.2.1 hb.size, hb'.2.2⟩
  ·next hji => rw [if_neg hji]; exact hb'
 ·split at hb'
  ·exact hb'.2.1
  ·exact hS b hb'
theorem EachAt.load {S : Nat → Prop} {B g : Nat} {l : List α} {i : Nat} {w : World} (h : EachAt K S B g l i w) (hi : i < l.length) :
  ∃ c : Nat → Value, (∀ t, t < K.n → w.cell? ⟨g, i * K.n + t, none⟩ = some (c t)) ∧ K.R S w l[i] c := by
 obtain ⟨cs, h1, h2, h3⟩ := h;obtain ⟨c, h4, h5⟩ := h3 i hi;exact ⟨c, fun t ht => cell_of_block' h1 _ (h4 t ht), K.on (fun b hb => by rw [if_neg (Nat.lt_irrefl _)] at hb; exact hb) (fun _ _ => rfl) h5⟩
theorem EachAt.frozen {S : Nat → Prop} {B g : Nat} {l : List α} {i : Nat} {w : World} (h : EachAt K S B g l i w) (k : Nat) : w.frozen? ⟨g, k, none⟩ = false := by
 obtain ⟨cs, h1, -⟩ := h;exact frozen_of_row w g k _ _ h1
theorem EachAt.put {S : Nat → Prop} {B g : Nat} {l : List α} {i : Nat} {w : World} (h : EachAt K S B g l i w) (hi : i < l.length) (hS : ∀ b, S b → b ≠ g) {c' : Nat → Value} (hR : K.R (fun b => B ≤ b ∧ b < w.heap.size ∧ b ≠ g) w l[i] c') {vs : List Value} (hn : vs.length = K.n) (hv : ∀ t, t < K.n → vs[t]? = some (c' t)) :
  EachAt K S B g l (i + 1) (putCells w g (i * K.n) vs) := by
 obtain ⟨cs, h1, h2, h3⟩ := h;have hm : (i + 1) * K.n ≤ l.length * K.n := Nat.mul_le_mul_right _ hi;rw [Nat.succ_mul] at hm;obtain ⟨cs', e1, e2, e3, e4⟩ := putCells_same g K.T vs w (i * K.n) cs h1 (by omega);have hsz := putCells_size g vs w (i * K.n);refine ⟨cs', e1, by omega, fun j hj => ?_⟩
 by_cases he : j = i
 ·subst he
  refine ⟨c', fun t ht => by rw [e3 t (by omega)]; exact hv t ht, K.on (fun b hb => ?_) (fun b hb => putCells_other g b hb.2.2 _ _ _) hR⟩;rw [if_pos (by omega), hsz]; exact hb
 ·obtain ⟨c, h4, h5⟩ := h3 j hj
  refine ⟨c, fun t ht => ?_, K.on (fun b hb => ?_) (fun b hb => putCells_other g b ?_ _ _ _) h5⟩
  ·rw [e4 (j * K.n + t) ?_]
   ·exact h4 t ht
   ·rcases Nat.lt_or_gt_of_ne he with hlt | hgt
    ·have : (j + 1) * K.n ≤ i * K.n := Nat.mul_le_mul_right _ hlt
     rw [Nat.succ_mul] at this; omega
    ·have : (i + 1) * K.n ≤ j * K.n := Nat.mul_le_mul_right _ hgt
     rw [Nat.succ_mul] at this; omega
  ·by_cases hji : j < i
   ·rw [if_pos (by omega), hsz]; rw [if_pos hji] at hb; exact hb
   ·rw [if_neg (by omega)]; rw [if_neg hji] at hb; exact hb
  ·split at hb
   ·exact hb.2.2
   ·exact hS b hb
theorem EachAt.done {S : Nat → Prop} {B g cap : Nat} {l : List α} {w : World} (h : EachAt K S B g l l.length w) (hB : B ≤ g) (hcap : l.length ≤ cap) (hby : l.length * K.bytes ≤ 140737488355328) : SlG (fun b => B ≤ b ∧ b < w.heap.size) w K.n K.bytes (K.R (fun b => B ≤ b ∧ b < w.heap.size) w) l (.slice (some ⟨g, 0, none⟩) l.length cap) := by
 have hl := h.lt;obtain ⟨cs, h1, h2, h3⟩ := h;refine ⟨_, g, 0, cap, rfl, hcap, hby, fun _ => rfl, fun _ => ⟨hB, hl⟩, fun i hi => ?_⟩;obtain ⟨c, h4, h5⟩ := h3 i hi;exact ⟨c, fun t ht => by rw [Nat.zero_add]; exact cell_of_block' h1 _ (h4 t ht), K.on (fun b hb => by rw [if_pos hi] at hb; exact ⟨hb.1, hb.2.1⟩) (fun _ _ => rfl) h5⟩
def CloneR (K : Kd α) (S : Nat → Prop) (l : List α) (w : World) (e : Ending) (w' : World) : Prop :=
 Below w.heap.size w w' ∧ ((l = [] ∧ ∃ a c, e = .returned (.slice a 0 c) ∧ (0 < c → ∃ g, a = some ⟨g, 0, none⟩)) ∨ ∃ g c, e = .returned (.slice (some ⟨g, 0, none⟩) l.length c) ∧ l.length ≤ c ∧ w.heap.size ≤ g ∧ EachAt K S w.heap.size g l 0 w')
theorem clone_each {S : Nat → Prop} {l : List α} {w w' : World} {v : Value} (h : OwnK K S w' w.heap.size l v) (hb : Below w.heap.size w w') : CloneR K S l w (.returned v) w' := by
 obtain ⟨xs, ⟨hlen, hown⟩, hr⟩ := h;refine ⟨hb, ?_⟩;rcases hown with ⟨rfl, hn⟩ | ⟨g, cap, cur, rfl, hbg, hh, hnc, hcm, hcs, htk⟩
 ·exact .inl ⟨List.length_eq_zero_iff.1 hn, none, 0, rfl, fun h => by omega⟩
 ·refine .inr ⟨g, cap, rfl, hnc, hbg, cur, hh, ?_, fun j hj => ?_⟩
  ·rw [hcs]; exact Nat.mul_le_mul_right _ hnc
  ·obtain ⟨c, hc, hR⟩ := hr j hj
   refine ⟨c, fun t ht => ?_, K.on (fun b hb => by rw [if_neg (Nat.not_lt_zero _)]; exact hb) (fun _ _ => rfl) hR⟩;have h1 := hc t ht;rw [← htk, List.getElem?_take] at h1
   have hlt : j * K.n + t < l.length * K.n := by
    have : (j + 1) * K.n ≤ l.length * K.n := Nat.mul_le_mul_right _ hj;rw [Nat.succ_mul] at this; omega
   rw [if_pos hlt] at h1;rw [← Array.getElem?_toList]; exact h1
def CopyL (K : Kd α) (l : List α) (w : World) (e : Ending) (w' : World) : Prop :=
 ∃ v, e = .returned v ∧ SlG (fun b => w.heap.size ≤ b ∧ b < w'.heap.size) w' K.n K.bytes (K.R (fun b => w.heap.size ≤ b ∧ b < w'.heap.size) w') l v ∧ Below w.heap.size w w'
def CopyE (K : Kd α) (x : α) (w : World) (e : Ending) (w' : World) : Prop :=
 ∃ vs : List Value, e = .returned (.agg vs.toArray) ∧ vs.length = K.n ∧ K.R (fun b => w.heap.size ≤ b ∧ b < w'.heap.size) w' x (fun t => vs.getD t undef) ∧ Below w.heap.size w w'
end
end Go.Proofs.Ytpnaegohjbaggaa
namespace Go.Proofs.Ytpnaegohjbaggaa
open Go.RowKit
theorem lg_of_slg {S : Nat → Prop} {w : World} {l : List V} {v : Value} (h : SlG S w 4 56 (fun x c => RepG S w x (c 0) (c 1) (c 2) (c 3)) l v) : RepLG S w l v := by
 obtain ⟨a, b, o, cap, e, h1, h2, h3, h4, h5⟩ := h
 exact ⟨a, b, o, cap, e, h1, h2, h3, h4, fun i hi => by
  obtain ⟨c, hc, hr⟩ := h5 i hi
  exact ⟨c 0, c 1, c 2, c 3, hc 0 (by omega), hc 1 (by omega), hc 2 (by omega), hc 3 (by omega), hr⟩⟩
end Go.Proofs.Ytpnaegohjbaggaa
namespace Go.Proofs.Ytpnaegohjbaggaa
open Go.RowKit
theorem slg_of_lg {S : Nat → Prop} {w : World} {l : List V} {v : Value} (h : RepLG S w l v) : SlG S w 4 56 (fun x c => RepG S w x (c 0) (c 1) (c 2) (c 3)) l v := by
 obtain ⟨a, b, o, cap, h0, h1, h2, h3, h4, h5⟩ := h;refine ⟨a, b, o, cap, h0, h1, h2, h3, h4, fun i hi => ?_⟩;obtain ⟨x0, x1, x2, x3, g0, g1, g2, g3, g⟩ := h5 i hi;exact ⟨at4v x0 x1 x2 x3, fun j hj => match j, hj with | 0, _ => g0 | 1, _ => g1 | 2, _ => g2 | 3, _ => g3, g⟩
set_option maxRecDepth 100000 in
set_option maxHeartbeats 1000000 in
theorem cloneV_any (l : List V) (S : Nat → Prop) (w : World) (a : Value) (hS : ∀ k, S k → k < w.heap.size) (ha : SlG S w kdV.n kdV.bytes (kdV.R S w) l a) :
  Calls Try.prog 91 #[a] w (CloneR kdV S l w) := by
 have hby := SlG.bytes ha
 have h63 : l.length ≤ 140737488355328 := by
  have : l.length * 1 ≤ l.length * kdV.bytes := Nat.mul_le_mul_left _ (by decide);omega
 obtain ⟨aa, ab, ao, ac, rfl, h6, h7, h8, h9, h10⟩ := id ha;have q22 : ∀ (w : World) (a : Option Addr) (n c n' c' : Nat), (binOp .eql 22 (.slice a n c) (.slice none n' c')).run Try.prog w = .ok (.bool a.isNone) w := fun w a n c n' c' => Lib.run_eql_slice_nil w _ _ a n c n' c' Try.underlying22
 rcases aa with _ | ad
 ·have hc : ac = 0 := by
   by_cases hc : 0 < ac
   ·have := h8 hc; cases this
   ·omega
  subst hc;obtain rfl : l = [] := List.length_eq_zero_iff.1 (by omega);clear ha h6 h7 h8 h9 h10 hby h63;simp only [List.length_nil]
  go_enter Try.func91, Try.ntmps91
  go_wp2_with fail
  go_ret
  exact ⟨Below.refl _ _, .inl ⟨rfl, none, 0, rfl, fun h => by omega⟩⟩
 ·have hb1 : Below w.heap.size w (w.alloc (.cells #[] 27)) := (Below.refl _ w).alloc (Nat.le_refl _) _
  have hown0 : OwnK kdV S (w.alloc (.cells #[] 27)) w.heap.size [] (.slice (some ⟨w.heap.size, 0, none⟩) 0 0) :=
   ⟨[], ⟨rfl, .inr ⟨w.heap.size, 0, #[], rfl, Nat.le_refl _, alloc_new' _ _, Nat.le_refl _, Nat.zero_le _, rfl, rfl⟩⟩, fun i hi => by simp at hi⟩
  obtain ⟨v', w2, hrun, hown, hgr⟩ := own_manyB (K := kdV) (L := []) (m := l) hown0 (SlG.on (fun _ h => h) (fun k hk => hb1.block k (hS k hk)) (fun _ _ _ h => kdV.on (fun _ h => h) (fun k hk => hb1.block k (hS k hk)) h) ha) (fun k hk => ⟨by have := hS k hk; simp; omega, by have := hS k hk; simp [Value.ownBlock]; omega⟩) (by simp) (by simpa using hby) (by simpa using h63) 22;rw [List.nil_append] at hown;have HR : Hid ((Builtin.append_ #[22, 22] 22 #[.slice (some ⟨w.heap.size, 0, none⟩) 0 0, .slice (some ad) l.length ac]).run Try.prog (w.alloc (.cells #[] 27)) = .ok v' w2) := hrun;have HB : Below w.heap.size w w2 := ⟨hgr.os.trans hb1.os, hgr.tape.trans hb1.tape, hgr.output.trans hb1.output, Nat.le_trans hb1.size hgr.size, fun k hk => (hgr.block k (by simp; omega) (by simp [Value.ownBlock]; omega)).trans (hb1.block k hk)⟩;have HC := Lib.hid (clone_each hown HB);clear ha h6 h7 h8 h9 h10 hrun hown hgr hb1 hown0 HB hby h63;generalize l.length = len at *;go_enter Try.func91, Try.ntmps91
  go_wp2_with (at_builtin; refine Lib.wpList_append_run _ rfl _ _ _ _ rfl _ _ rfl rfl _ _ HR.out ?_)
  go_ret
  exact HC.out
set_option maxRecDepth 100000 in
set_option maxHeartbeats 2000000 in
theorem eachV_any (l : List V) (S : Nat → Prop) (w : World) (v : Value) (hS : ∀ k, S k → k < w.heap.size) (hl : SlG S w kdV.n kdV.bytes (kdV.R S w) l v)
  (hcopy : ∀ x ∈ l, ∀ (S : Nat → Prop) (w' : World) (c : Nat → Value), (∀ k, S k → k < w'.heap.size) → kdV.R S w' x c → Calls Try.prog 47 #[.agg #[c 0, c 1, c 2, c 3]] w' (CopyE kdV x w')) :
  Calls Try.prog 78 #[v, .func (.func 47) #[] #[]] w (CopyL kdV l w) := by
 have HL := Lib.hid hl; have HS := Lib.hid hS; have HC := Lib.hid hcopy
 have HBY := Lib.hid (SlG.bytes hl)
 have H63 : Hid (l.length ≤ 140737488355328) := by
  have : l.length * 1 ≤ l.length * kdV.bytes := Nat.mul_le_mul_left _ (by decide);have := HBY.out
  show _ ≤ _; omega
 have hen : ∀ args w, Sem.run Try.prog (callFunc 47 args) w = .ok (.enter 47 args) w := fun args w => by kernel_rfl
 clear hl hS hcopy;go_enter Try.func78, Try.ntmps78
 go_wp2_with fail
 refine (cloneV_any l S w v HS.out HL.out).mono ?_;rintro e w1 ⟨hb1, ⟨hnil, a, c, rfl, hac⟩ | ⟨g, cap, rfl, hcap, hg, hat⟩⟩
 ·have HB1 := Lib.hid hb1; have HNL := Lib.hid hnil; have HAC := Lib.hid hac
  clear hb1 hac hnil;go_wp2_with fail
  go_loopw [12] (fun iv wr => iv = .int .i64 0 ∧ wr = w1) (fun _ _ => 0)
  case atStart => exact ⟨rfl, rfl⟩
  case round =>
   obtain ⟨rfl, rfl⟩ := hrel;go_wp2_with fail
   go_ret
   refine ⟨_, rfl, ?_, HB1.out⟩;rw [HNL.out];refine ⟨a, (match a with | some p => p.block | none => 0), 0, c, rfl, Nat.zero_le _, by simp, fun h => ?_, fun h => by simp at h, fun i hi => by simp at hi⟩;obtain ⟨g, rfl⟩ := HAC.out h;rfl
 ·have HB1 := Lib.hid hb1; have HAT := Lib.hid hat; have HG := Lib.hid hg; have HCP := Lib.hid hcap
  clear hb1 hcap hg hat;go_wp2_with fail
  go_loopw [12] (fun iv wr => ∃ i : Nat, i ≤ l.length ∧ iv = .int .i64 (i : Int) ∧ Hid (EachAt kdV S w.heap.size g l i wr) ∧ Hid (Below w.heap.size w wr)) (fun iv _ => l.length - (intOf iv).toNat)
  case atStart => exact ⟨0, Nat.zero_le _, rfl, HAT, HB1⟩
  case round =>
   obtain ⟨i, hi, rfl, hat, hbel⟩ := hrel
   by_cases hil : i < l.length
   ·obtain ⟨c, hc, hR⟩ := hat.out.load hil
    obtain ⟨xa, xc, e0, e1, e2, e3⟩ := hR.form;have g0 : wr.cell? ⟨g, i * 4, none⟩ = some (.int .i64 l[i].kind) := by have h := hc 0 (by decide); rw [e0] at h; exact h
    have g1 : wr.cell? ⟨g, i * 4 + 1, none⟩ = some (.int .i64 l[i].num) := by have h := hc 1 (by decide); rw [e1] at h; exact h
    have g2 : wr.cell? ⟨g, i * 4 + 2, none⟩ = some (.string l[i].text) := by have h := hc 2 (by decide); rw [e2] at h; exact h
    have g3 : wr.cell? ⟨g, i * 4 + 3, none⟩ = some (.slice xa l[i].list.length xc) := by have h := hc 3 (by decide); rw [e3] at h; exact h
    have HR : Hid (kdV.R S wr l[i] c) := hR;have HCO := Lib.hid (HC.out l[i] (List.getElem_mem hil));have HGL := Lib.hid hat.out.lt;have hb5 := below_alloc wr (.cells #[.int .i64 l[i].kind, .int .i64 l[i].num, .string l[i].text, .slice xa l[i].list.length xc] 27);have m5 := alloc_new' wr (.cells #[.int .i64 l[i].kind, .int .i64 l[i].num, .string l[i].text, .slice xa l[i].list.length xc] 27);have HSW : Hid (∀ b, S b → b < wr.heap.size) := fun b hb => Nat.lt_of_lt_of_le (HS.out b hb) hbel.out.size
    have HAT5 := Lib.hid (hat.out.on HSW.out hb5);have HR5 : Hid (kdV.R S (wr.alloc (.cells #[.int .i64 l[i].kind, .int .i64 l[i].num, .string l[i].text, .slice xa l[i].list.length xc] 27)) l[i] c) := kdV.on (fun _ h => h) (fun b hb => hb5.block b (HSW.out b hb)) hR;have HB5 := Lib.hid (Below.step hbel.out hb5);have HIL := Lib.hid hil;have HEQ : Hid (c 0 = .int .i64 l[i].kind ∧ c 1 = .int .i64 l[i].num ∧ c 2 = .string l[i].text ∧ c 3 = .slice xa l[i].list.length xc) := ⟨e0, e1, e2, e3⟩;clear hc hat hbel hb5 hR;generalize hx : l[i] = x at *;have HX := Lib.hid hx;clear hx;go_upto_region 5 with fail
    clear g0 g1 g2 g3;obtain ⟨bx, hbx⟩ : ∃ bx, wr.heap.size = bx := ⟨_, rfl⟩;rw [hbx] at m5 ⊢;have HGX : Hid (g < bx) := by show _ < _; rw [← hbx]; exact HGL.out
    clear hbx;generalize wr.alloc (.cells #[.int .i64 x.kind, .int .i64 x.num, .string x.text, .slice xa x.list.length xc] 27) = w5 at *;have M5 := Lib.hid m5;clear m5;have q0 := cell_of_block' (i := 0) M5.out _ rfl;have q1 := cell_of_block' (i := 1) M5.out _ rfl;have q2 := cell_of_block' (i := 2) M5.out _ rfl;have q3 := cell_of_block' (i := 3) M5.out _ rfl;go_wp2_with fail
    have hcc := HCO.out S w5 c (fun b hb => Nat.lt_of_lt_of_le (HS.out b hb) HB5.out.size) HR5.out;obtain ⟨e0, e1, e2, e3⟩ := HEQ.out;rw [e0, e1, e2, e3] at hcc;clear e0 e1 e2 e3;refine hcc.mono ?_;clear hcc;rintro e w6 ⟨vs, rfl, hn, hR6, hb6⟩
    obtain ⟨v0, v1, v2, v3, rfl⟩ : ∃ v0 v1 v2 v3, vs = [v0, v1, v2, v3] := by
     match vs, (show vs.length = 4 from hn) with
     | [v0, v1, v2, v3], _ => exact ⟨v0, v1, v2, v3, rfl⟩
    have HAT6 := Lib.hid (HAT5.out.on (fun b hb => Nat.lt_of_lt_of_le (HS.out b hb) HB5.out.size) hb6);have HB6 := Lib.hid (Below.step HB5.out hb6);have HG5 : Hid (g < w5.heap.size) := HAT5.out.lt;have HR6 := Lib.hid hR6;have HB56 := Lib.hid hb6;clear hb6 hR6 hn q0 q1 q2 q3;obtain ⟨za, zc, rfl, rfl, rfl, rfl⟩ := (show RepG _ _ _ v0 v1 v2 v3 from HR6.out).form;obtain ⟨c6, hc6, -⟩ := HAT6.out.load HIL.out;have p0 : w6.cell? ⟨g, i * 4, none⟩ = some (c6 0) := hc6 0 (by decide);have p1 : w6.cell? ⟨g, i * 4 + 1, none⟩ = some (c6 1) := hc6 1 (by decide);have p2 : w6.cell? ⟨g, i * 4 + 2, none⟩ = some (c6 2) := hc6 2 (by decide);have p3 : w6.cell? ⟨g, i * 4 + 3, none⟩ = some (c6 3) := hc6 3 (by decide);have z0 := HAT6.out.frozen (i * 4);have z1 := HAT6.out.frozen (i * 4 + 1);have z2 := HAT6.out.frozen (i * 4 + 2);have z3 := HAT6.out.frozen (i * 4 + 3);clear hc6;have h63 := H63.out;have hil := HIL.out;go_wp2_with fail
    have HN : Hid (EachAt kdV S w.heap.size g l (i + 1) (putCells w6 g (i * 4) [.int .i64 x.kind, .int .i64 x.num, .string x.text, .slice za x.list.length zc])) :=
     HAT6.out.put HIL.out (fun b hb e => by have := HS.out b hb; have := HG.out; omega) (c' := fun t => ([.int .i64 x.kind, .int .i64 x.num, .string x.text, .slice za x.list.length zc] : List Value).getD t undef) (by have hxx : l[i]'HIL.out = x := HX.out; rw [hxx]; exact kdV.on (fun b hb => ⟨by have := HB5.out.size; omega, hb.2, by have := HG5.out; omega⟩) (fun _ _ => rfl) HR6.out) rfl (fun t ht => by
      match t, ht with
      | 0, _ => rfl
      | 1, _ => rfl
      | 2, _ => rfl
      | 3, _ => rfl)
    have HBN : Hid (Below w.heap.size w (putCells w6 g (i * 4) [.int .i64 x.kind, .int .i64 x.num, .string x.text, .slice za x.list.length zc])) := putCells_below _ g HG.out _ _ _ HB6.out;go_roundw
    case rel => exact ⟨i + 1, HIL.out, by go_num, HN, HBN⟩
    case measure => simp [intOf]; omega
   ·have hil2 : i = l.length := by omega
    subst hil2;go_wp2_with fail
    go_ret
    exact ⟨_, rfl, hat.out.done HG.out HCP.out HBY.out, hbel.out⟩
set_option maxRecDepth 100000 in
set_option maxHeartbeats 2000000 in
theorem copyV_of (x : V) (ih : ∀ y ∈ x.list, ∀ (S : Nat → Prop) (w' : World) (c : Nat → Value), (∀ k, S k → k < w'.heap.size) → kdV.R S w' y c → Calls Try.prog 47 #[.agg #[c 0, c 1, c 2, c 3]] w' (CopyE kdV y w')) (S : Nat → Prop) (w : World) (c : Nat → Value) (hS : ∀ k, S k → k < w.heap.size) (h : kdV.R S w x c) :
  Calls Try.prog 47 #[.agg #[c 0, c 1, c 2, c 3]] w (CopyE kdV x w) := by
 have HR : Hid (RepG S w x (c 0) (c 1) (c 2) (c 3)) := h;have HS := Lib.hid hS;obtain ⟨xa, xc, e0, e1, e2, e3⟩ := (show RepG S w x (c 0) (c 1) (c 2) (c 3) from h).form;rw [e0, e1, e2, e3] at HR ⊢;clear h hS e0 e1 e2 e3;go_enter Try.func47, Try.ntmps47
 go_upto_region 1 with fail
 have m0 := alloc_new' w (.cells #[.int .i64 x.kind, .int .i64 x.num, .string x.text, .slice xa x.list.length xc] 27);have d0 := below_alloc w (.cells #[.int .i64 x.kind, .int .i64 x.num, .string x.text, .slice xa x.list.length xc] 27);have s0 := World.size_alloc w (.cells #[.int .i64 x.kind, .int .i64 x.num, .string x.text, .slice xa x.list.length xc] 27);generalize w.alloc (.cells #[.int .i64 x.kind, .int .i64 x.num, .string x.text, .slice xa x.list.length xc] 27) = w1 at *;have m1 := alloc_new' w1 (.cells #[.int .i64 0, .int .i64 0, .string ⟨#[]⟩, .slice none 0 0] 27);have d1 := below_alloc w1 (.cells #[.int .i64 0, .int .i64 0, .string ⟨#[]⟩, .slice none 0 0] 27);have s1 := World.size_alloc w1 (.cells #[.int .i64 0, .int .i64 0, .string ⟨#[]⟩, .slice none 0 0] 27);generalize w1.alloc (.cells #[.int .i64 0, .int .i64 0, .string ⟨#[]⟩, .slice none 0 0] 27) = w2 at *;rw [s0] at m1 s1;obtain ⟨b1, hb1⟩ : ∃ b1, w.heap.size + 1 = b1 := ⟨_, rfl⟩;have M0 : Hid (w2.heap[w.heap.size]? = some (.cells #[.int .i64 x.kind, .int .i64 x.num, .string x.text, .slice xa x.list.length xc] 27 (0, 0))) := (d1.block _ (by omega)).trans m0;have M1 : Hid (w2.heap[w.heap.size + 1]? = some (.cells #[.int .i64 0, .int .i64 0, .string ⟨#[]⟩, .slice none 0 0] 27 (0, 0))) := m1;rw [hb1] at M1 ⊢;have B : Hid (Below w.heap.size w w2) := Below.step d0 d1;have HB1 : Hid (w.heap.size + 1 = b1) := hb1;have HK : Hid (w.heap.size + 2 ≤ w2.heap.size) := by show _ ≤ _; omega
 clear m0 m1 d0 d1 s0 s1 hb1;have p0 := cell_of_block' (i := 0) M0.out _ rfl;have p1 := cell_of_block' (i := 1) M0.out _ rfl;have p2 := cell_of_block' (i := 2) M0.out _ rfl;have p3 := cell_of_block' (i := 3) M0.out _ rfl;go_wp2_with fail
 refine (eachV_any x.list S w2 _ (fun k hk => Nat.lt_of_lt_of_le (HS.out k hk) B.out.size) (SlG.on (fun _ h => h) (fun k hk => B.out.block k (HS.out k hk)) (fun _ _ _ h => kdV.on (fun _ h => h) (fun k hk => B.out.block k (HS.out k hk)) h) (slg_of_lg HR.out.lst)) ih).mono ?_;rintro e w3 ⟨v, rfl, hv, hbx⟩;obtain ⟨n0a, n0c, rfl⟩ := SlG.form hv;have N0 : Hid (SlG (fun b => w.heap.size + 2 ≤ b ∧ b < w3.heap.size) w3 kdV.n kdV.bytes (kdV.R (fun b => w.heap.size + 2 ≤ b ∧ b < w3.heap.size) w3) x.list (.slice n0a x.list.length n0c)) := SlG.on (fun b hb => ⟨Nat.le_trans HK.out hb.1, hb.2⟩) (fun _ _ => rfl) (fun _ _ _ h => kdV.on (fun b hb => ⟨Nat.le_trans HK.out hb.1, hb.2⟩) (fun _ _ => rfl) h) hv;replace M0 := Lib.hid ((hbx.block _ (Array.getElem?_eq_some_iff.1 M0.out).1).trans M0.out); replace M1 := Lib.hid ((hbx.block _ (Array.getElem?_eq_some_iff.1 M1.out).1).trans M1.out)
 replace B := Lib.hid (Below.step B.out hbx); replace HK := Lib.hid (Nat.le_trans HK.out hbx.size)
 clear hv hbx p0 p1 p2 p3;have p0 := cell_of_block' (i := 0) M0.out _ rfl;have p1 := cell_of_block' (i := 1) M0.out _ rfl;have p2 := cell_of_block' (i := 2) M0.out _ rfl;have p3 := cell_of_block' (i := 3) M0.out _ rfl;have z3 := frozen_of_row w3 w.heap.size 3 _ _ M0.out;go_upto_region 2 with fail
 have hsz := (show (w3.setCell ⟨w.heap.size, 3, none⟩ (.slice n0a x.list.length n0c)).heap.size = w3.heap.size by simp [World.setCell]);replace M0 : Hid ((w3.setCell ⟨w.heap.size, 3, none⟩ (.slice n0a x.list.length n0c)).heap[w.heap.size]? = some (.cells #[.int .i64 x.kind, .int .i64 x.num, .string x.text, .slice n0a x.list.length n0c] 27 (0, 0))) := (heap_setCell_same _ _ _ _ _ _ M0.out);replace M1 : Hid ((w3.setCell ⟨w.heap.size, 3, none⟩ (.slice n0a x.list.length n0c)).heap[b1]? = some (.cells #[.int .i64 0, .int .i64 0, .string ⟨#[]⟩, .slice none 0 0] 27 (0, 0))) := (Below.heap_setCell _ _ _ _ (by have := HB1.out; simp; omega)).trans M1.out;replace B : Hid (Below w.heap.size w (w3.setCell ⟨w.heap.size, 3, none⟩ (.slice n0a x.list.length n0c))) := (Below.setCell (p := ⟨w.heap.size, 3, none⟩) B.out (Nat.le_refl _) (.slice n0a x.list.length n0c));replace HK : Hid (w.heap.size + 2 ≤ (w3.setCell ⟨w.heap.size, 3, none⟩ (.slice n0a x.list.length n0c)).heap.size) := by show _ ≤ _; rw [hsz]; exact HK.out
 replace N0 : Hid (SlG (fun b => w.heap.size + 2 ≤ b ∧ b < (w3.setCell ⟨w.heap.size, 3, none⟩ (.slice n0a x.list.length n0c)).heap.size) (w3.setCell ⟨w.heap.size, 3, none⟩ (.slice n0a x.list.length n0c)) kdV.n kdV.bytes (kdV.R (fun b => w.heap.size + 2 ≤ b ∧ b < (w3.setCell ⟨w.heap.size, 3, none⟩ (.slice n0a x.list.length n0c)).heap.size) (w3.setCell ⟨w.heap.size, 3, none⟩ (.slice n0a x.list.length n0c))) x.list (.slice n0a x.list.length n0c)) := SlG.on (fun b hb => ⟨hb.1, by rw [hsz]; exact hb.2⟩) (fun b hb => Below.heap_setCell _ _ _ _ (by have := hb.1; simp; omega)) (fun _ _ _ h => kdV.on (fun b hb => ⟨hb.1, by rw [hsz]; exact hb.2⟩) (fun b hb => Below.heap_setCell _ _ _ _ (by have := hb.1; simp; omega)) h) N0.out;clear hsz p0 p1 p2 p3 z3;generalize (w3.setCell ⟨w.heap.size, 3, none⟩ (.slice n0a x.list.length n0c)) = w4 at *;have p0 := cell_of_block' (i := 0) M0.out _ rfl;have p1 := cell_of_block' (i := 1) M0.out _ rfl;have p2 := cell_of_block' (i := 2) M0.out _ rfl;have p3 := cell_of_block' (i := 3) M0.out _ rfl;have q0 := cell_of_block' (i := 0) M1.out _ rfl;have z0 := frozen_of_row w4 b1 0 _ _ M1.out;have q1 := cell_of_block' (i := 1) M1.out _ rfl;have z1 := frozen_of_row w4 b1 1 _ _ M1.out;have q2 := cell_of_block' (i := 2) M1.out _ rfl;have z2 := frozen_of_row w4 b1 2 _ _ M1.out;have q3 := cell_of_block' (i := 3) M1.out _ rfl;have z3 := frozen_of_row w4 b1 3 _ _ M1.out;go_wp2_with fail
 generalize hwz : ((((w4.setCell ⟨b1, 0, none⟩ (.int .i64 x.kind)).setCell ⟨b1, 1, none⟩ (.int .i64 x.num)).setCell ⟨b1, 2, none⟩ (.string x.text)).setCell ⟨b1, 3, none⟩ (.slice n0a x.list.length n0c)) = wz;have hpz : wz = putCells w4 b1 0 [.int .i64 x.kind, .int .i64 x.num, .string x.text, .slice n0a x.list.length n0c] := hwz.symm.trans rfl;clear hwz q0 z0 q1 z1 q2 z2 q3 z3 p0 p1 p2 p3;have Y : wz.heap[b1]? = some (.cells #[.int .i64 x.kind, .int .i64 x.num, .string x.text, .slice n0a x.list.length n0c] 27 (0, 0)) := by rw [hpz]; exact putCells_all M1.out rfl
 have y0 := cell_of_block' (i := 0) Y _ rfl;have y1 := cell_of_block' (i := 1) Y _ rfl;have y2 := cell_of_block' (i := 2) Y _ rfl;have y3 := cell_of_block' (i := 3) Y _ rfl;have BB : Below w.heap.size w wz := by rw [hpz]; exact putCells_below _ _ (by have := HB1.out; omega) _ _ _ B.out
 have hsz : wz.heap.size = w4.heap.size := by rw [hpz]; exact putCells_size _ _ _ _
 have hoth : ∀ b, b ≠ b1 → wz.heap[b]? = w4.heap[b]? := fun b hb => by rw [hpz]; exact putCells_other _ _ hb _ _ _
 clear hpz
 have FIN : RepG (fun b => w.heap.size ≤ b ∧ b < wz.heap.size) wz x (.int .i64 x.kind) (.int .i64 x.num) (.string x.text) (.slice n0a x.list.length n0c) := by
  have h1 : RepLG (fun b => w.heap.size ≤ b ∧ b < wz.heap.size) wz x.list (.slice n0a x.list.length n0c) := lg_of_slg (SlG.on (fun b hb => ⟨by have := hb.1; omega, by rw [hsz]; exact hb.2⟩) (fun b hb => hoth b (by have := hb.1; have := HB1.out; omega)) (fun _ _ _ h => kdV.on (fun b hb => ⟨by have := hb.1; omega, by rw [hsz]; exact hb.2⟩) (fun b hb => hoth b (by have := hb.1; have := HB1.out; omega)) h) N0.out);have h2 := HR.out
  cases x with
  | mk kk nn ss ll => exact repG_mk.2 ⟨rfl, rfl, rfl, (repG_mk.1 h2).2.2.2.1, (repG_mk.1 h2).2.2.2.2.1, (repG_mk.1 h2).2.2.2.2.2.1, h1⟩
 refine bodyPost_ret (v := .agg #[.int .i64 x.kind, .int .i64 x.num, .string x.text, .slice n0a x.list.length n0c]) (by simp [results, Try.results47, go_sem, y0, y1, y2, y3]) rfl ⟨[.int .i64 x.kind, .int .i64 x.num, .string x.text, .slice n0a x.list.length n0c], rfl, rfl, FIN, BB⟩
theorem copyV_any (x : V) (S : Nat → Prop) (w : World) (c : Nat → Value) (hS : ∀ k, S k → k < w.heap.size) (h : kdV.R S w x c) : Calls Try.prog 47 #[.agg #[c 0, c 1, c 2, c 3]] w (CopyE kdV x w) :=
 copyV_of x (fun y _hy => copyV_any y) S w c hS h
 termination_by SizeOf.sizeOf x
 decreasing_by
  cases x with
  | mk k n s l =>
   have := List.sizeOf_lt_of_mem _hy;simp only [V.list] at this
   simp only [V.mk.sizeOf_spec]
   omega
end Go.Proofs.Ytpnaegohjbaggaa
