/-
  SixGrow, FlatKit, RowKit, PickZ, RawSix, PickSix, OwnK, SixLeaf, SixKit
-/
import Derived.Test.YtjmnnjikmmglpaaGreatKF04
import Derived.Test.YtjmnnjikmmglpaaGreatKF05
import Derived.Test.YtjmnnjikmmglpaaGreatKF01
import Derived.Test.YtjmnnjikmmglpaaGreatKF03
import Derived.WalkSpells
import Derived.WalkLawsBesides
import Derived.Deep.Cut
namespace Go.Proofs.YtjmnnjikmmglpaaGreat
open Go.RowKit
structure Aft (w : World) (B : Nat) (lv : Value) (w' : World) : Prop where
 below : Below B w w'
 block : ∀ k, k < w.heap.size → lv.ownBlock ≠ some k → w'.heap[k]? = w.heap[k]?
 size : w.heap.size ≤ w'.heap.size
theorem Aft.of {α : Type} {K : Kd α} {S : Nat → Prop} {w w1 w' : World} {B : Nat} {L : List α} {lv : Value} (ho : OwnK K S w B L lv) (hB : B ≤ w.heap.size) (hg : Below w.heap.size w w1) (h : w1.grownBy w' lv.ownBlock) : Aft w B lv w' := by
 have h1 := hg.size;have h2 := h.size;refine ⟨⟨h.os.trans hg.os, h.tape.trans hg.tape, h.output.trans hg.output, by omega, fun k hk => ?_⟩, fun k hk hne => ?_, by omega⟩
 ·exact (h.block k (by omega) (fun e => by have := (OwnK.lies ho k e.symm).1; omega)).trans (hg.block k (by omega))
 ·exact (h.block k (by omega) (fun e => hne e.symm)).trans (hg.block k hk)
structure But (bo B : Nat) (w w' : World) : Prop where
 os : w'.os = w.os
 tape : w'.tape = w.tape
 output : w'.output = w.output
 size : w.heap.size ≤ w'.heap.size
 block : ∀ k, k < B → k ≠ bo → w'.heap[k]? = w.heap[k]?
theorem But.refl (bo B : Nat) (w : World) : But bo B w w := ⟨rfl, rfl, rfl, Nat.le_refl _, fun _ _ _ => rfl⟩
theorem But.step {bo B B' : Nat} {w w1 w' : World} (h : But bo B w w1) (hB : B ≤ B') (hb : Below B' w1 w') : But bo B w w' :=
 ⟨hb.os.trans h.os, hb.tape.trans h.tape, hb.output.trans h.output, Nat.le_trans h.size hb.size, fun k hk hne => (hb.block k (by omega)).trans (h.block k hk hne)⟩
theorem But.set {bo B : Nat} {w w1 : World} (h : But bo B w w1) (i : Nat) (v : Value) : But bo B w (w1.setCell ⟨bo, i, none⟩ v) := by
 have hb : Below bo w1 (w1.setCell ⟨bo, i, none⟩ v) := (Below.refl bo w1).setCell (p := ⟨bo, i, none⟩) (Nat.le_refl _) v;exact ⟨hb.os.trans h.os, hb.tape.trans h.tape, hb.output.trans h.output, Nat.le_trans h.size hb.size, fun k hk hne => (Below.heap_setCell _ _ _ _ hne).trans (h.block k hk hne)⟩
theorem But.below {bo B B0 : Nat} {w w' : World} (h : But bo B w w') (h1 : B0 ≤ B) (h2 : B0 ≤ bo) : Below B0 w w' :=
 ⟨h.os, h.tape, h.output, h.size, fun k hk => h.block k (by omega) (by omega)⟩
theorem MineK.but {α : Type} {K : Kd α} {w w' : World} {bo base : Nat} {l : List α} {v : Value} (h : MineK K w base l v) (hb : But bo w.heap.size w w') (hne : bo < base) : MineK K w' base l v :=
 h.kept hb.size (fun k h1 h2 => hb.block k h2 (by omega))
def RowOf (B : Nat) (o : Obj) (w : World) (v : Value) : Prop := ∃ b, v = .slice (some ⟨b, 0, none⟩) 1 1 ∧ w.heap[b]? = some o ∧ B ≤ b
theorem RowOf.stay {B : Nat} {o : Obj} {w w' : World} {v : Value} (hb : Below w.heap.size w w') (h : RowOf B o w v) : RowOf B o w' v := by
 obtain ⟨b, e, h1, h2⟩ := h;exact ⟨b, e, (hb.block b (Array.getElem?_eq_some_iff.1 h1).1).trans h1, h2⟩
theorem RowOf.new {B : Nat} {w : World} {cs : Array Value} {t : TypeId} (hB : B ≤ w.heap.size) : RowOf B (.cells cs t (0, 0)) (w.alloc (.cells cs t)) (.slice (some ⟨w.heap.size, 0, none⟩) 1 1) :=
 ⟨_, rfl, alloc_new' w _, hB⟩
def at2v (c0 c1 : Value) : Nat → Value
 | 0 => c0 | _ => c1
def at3v (c0 c1 c2 : Value) : Nat → Value
 | 0 => c0 | 1 => c1 | _ => c2
def at4v (c0 c1 c2 c3 : Value) : Nat → Value
 | 0 => c0 | 1 => c1 | 2 => c2 | _ => c3
def at6v (c0 c1 c2 c3 c4 c5 : Value) : Nat → Value
 | 0 => c0 | 1 => c1 | 2 => c2 | 3 => c3 | 4 => c4 | _ => c5
theorem step_append_by {P : Program} {ops : Array Oper} {o : Oper} {a : Act} {w w' : World} {K : Act → World → Prop} {Q : Exit → Act → World → Prop} {E : Prop} (hgd : o.guard = none) (s x : Operand) (t : TypeId)
  (ho : o.op = .call { callee := .builtin .append, args := #[s, x], argTypes := #[t, t] }) {v xv v' : Value} (hs : a.eval s = v) (hx : a.eval x = xv) (hrun : (Builtin.append_ #[t, t] o.type #[v, xv]).run P w = .ok v' w')
  (h : K (a.put o.dst v') w') : if Region.wanted o (yielded ops a.tmps) = true then Oper.wp P o a w K Q else E := by
 have hw : Region.wanted o (yielded ops a.tmps) = true := by simp [Region.wanted, hgd]
 rw [if_pos hw];unfold Oper.wp execOp;simp only [ho, resolve, invoke, builtin, Sem.run_bind, Sem.run_pure, Result.andThen_ok, List.map_toArray, List.map_cons, List.map_nil, hs, hx, hrun]
 exact h
theorem measure_up {n k : Nat} (h : k < n) (hn : n ≤ 1000) : n - (intOf (.int .i64 (wrap64 ((k : Int) + 1)))).toNat < n - (intOf (.int .i64 (k : Int))).toNat := by
 have h2 : wrap64 ((k : Int) + 1) = (k : Int) + 1 := by unfold wrap64; omega
 rw [h2];simp only [intOf]
 omega
end Go.Proofs.YtjmnnjikmmglpaaGreat
namespace Go.Proofs.YtjmnnjikmmglpaaGreat
open Go.RowKit
theorem flat_rep (S : Nat → Prop) (w : World) (k n : Int) (s : ByteArray) (hk : I64 k) (hn : I64 n) (hs : s.size ≤ maxLen) : RepG S w (.mk k n s []) (.int .i64 k) (.int .i64 n) (.string s) (.slice none 0 0) :=
 repG_mk.2 ⟨rfl, rfl, rfl, hk, hn, hs, none, 0, 0, 0, rfl, Nat.le_refl _, by simp, fun h => by omega, fun h => by simp at h, fun i hi => by simp at hi⟩
end Go.Proofs.YtjmnnjikmmglpaaGreat
namespace Go.Proofs.YtjmnnjikmmglpaaGreat
open Go.RowKit
theorem slg_row {α : Type} {S : Nat → Prop} {w : World} {n bytes : Nat} {R : α → (Nat → Value) → Prop} {l : List α} {b : Nat} {cs : Array Value} {t : TypeId} {fz : Nat × Nat} (hb : w.heap[b]? = some (.cells cs t fz)) (hS : S b) (hsz : cs.size = l.length * n) (hby : l.length * bytes ≤ 140737488355328)
  (hR : ∀ i (h : i < l.length), R l[i] (fun j => cs.getD (i * n + j) undef)) : SlG S w n bytes R l (.slice (some ⟨b, 0, none⟩) l.length l.length) := by
 refine ⟨_, b, 0, l.length, rfl, Nat.le_refl _, hby, fun _ => rfl, fun _ => hS, fun i hi => ⟨_, fun j hj => ?_, hR i hi⟩⟩
 have hlt : i * n + j < cs.size := by
  have : (i + 1) * n ≤ l.length * n := Nat.mul_le_mul_right n hi;rw [Nat.succ_mul] at this; omega
 rw [show 0 + i * n + j = i * n + j by omega];exact cell_of_block' hb _ (by simp [Array.getD, hlt])
theorem slg_nil {α : Type} {S : Nat → Prop} {w : World} {n bytes : Nat} {R : α → (Nat → Value) → Prop} : SlG S w n bytes R [] (.slice none 0 0) :=
 ⟨none, 0, 0, 0, rfl, Nat.le_refl _, by simp, fun h => by omega, fun h => by simp at h, fun i hi => by simp at hi⟩
def zV : V := .mk 0 0 ⟨#[]⟩ []
theorem small64 {n : Int} (h : 0 ≤ n ∧ n ≤ 100) : I64 n := ⟨by omega, by omega⟩
theorem zV_rep (S : Nat → Prop) (w : World) : RepG S w zV (.int .i64 0) (.int .i64 0) (.string ⟨#[]⟩) (.slice none 0 0) := flat_rep S w 0 0 ⟨#[]⟩ (small64 (by omega)) (small64 (by omega)) (by decide)
end Go.Proofs.YtjmnnjikmmglpaaGreat
namespace Go.Proofs.YtjmnnjikmmglpaaGreat
open Go.RowKit
def pickZ (c n : Int) : Int := (if c < 0 then -(c + 1) else c) % n
theorem pickZ_bd (c n : Int) (h : 0 < n) : 0 ≤ pickZ c n ∧ pickZ c n < n := ⟨Int.emod_nonneg _ (by omega), Int.emod_lt_of_pos _ h⟩
theorem ret_int' {k : IntKind} {a b : Int} (h : a = b) : Ending.returned (.int k a) = .returned (.int k b) := by rw [h]
end Go.Proofs.YtjmnnjikmmglpaaGreat
namespace Go.Proofs.YtjmnnjikmmglpaaGreat
open Go.RowKit
structure Rw where
 kind : Int
 name : Int
 n0 : Int
 n1 : Int
 n2 : Int
 n3 : Int
def RwOk (x : Rw) : Prop := I64 x.kind ∧ I64 x.name ∧ I64 x.n0 ∧ I64 x.n1 ∧ I64 x.n2 ∧ I64 x.n3
def RepRw (_S : Nat → Prop) (_w : World) (x : Rw) (c : Nat → Value) : Prop :=
 c 0 = .int .i64 x.kind ∧ c 1 = .int .i64 x.name ∧ c 2 = .int .i64 x.n0 ∧ c 3 = .int .i64 x.n1 ∧ c 4 = .int .i64 x.n2 ∧ c 5 = .int .i64 x.n3 ∧ RwOk x
def rwV (x : Rw) : Value := .agg #[.int .i64 x.kind, .int .i64 x.name, .int .i64 x.n0, .int .i64 x.n1, .int .i64 x.n2, .int .i64 x.n3]
def RepRws (S : Nat → Prop) (w : World) (l : List Rw) (v : Value) : Prop := SlG S w 6 48 (RepRw S w) l v
def RepRwss (S : Nat → Prop) (w : World) (l : List (List Rw)) (v : Value) : Prop := SlG S w 1 24 (fun x c => RepRws S w x (c 0)) l v
def decls6 : List De := [⟨⟨#[108, 105, 110, 107]⟩, 3⟩, ⟨⟨#[112]⟩, 2⟩, ⟨⟨#[113]⟩, 2⟩, ⟨⟨#[114]⟩, 1⟩, ⟨⟨#[115]⟩, 3⟩, ⟨⟨#[116]⟩, 2⟩]
def decl6 (i : Nat) : De := decls6.getD i ⟨⟨#[108, 105, 110, 107]⟩, 3⟩
def vName (i : Nat) : ByteArray := ⟨#[[83, 68, 88, 89, 90, 67].getD i 83]⟩
def vTm (i : Nat) : Tm := .mk 1 (vName i) zV []
def vZ (c : Int) : Tm := vTm (pickZ c 6).toNat
def numZ (n : Int) : Tm := .mk 2 ⟨#[]⟩ (.mk 1 n ⟨#[]⟩ []) []
def adrName (i : Nat) : ByteArray := ⟨#[[97, 98, 99, 100].getD i 97]⟩
def adrZ (i : Nat) : Tm := .mk 2 ⟨#[]⟩ (.mk 3 0 (adrName i) []) []
def sumZ (a b : Tm) (s : ByteArray) : Tm := .mk 4 s zV [a, b]
def argZ (k : Int) : Tm :=
 if pickZ k 12 = 9 then numZ (pickZ (k.tdiv 12) 4)
 else if pickZ k 12 = 10 then adrZ (pickZ (k.tdiv 12) 3).toNat
 else if pickZ k 12 = 11 then sumZ (vZ (k.tdiv 12)) (numZ 1) ⟨#[43]⟩
 else vZ k
def declOf (x : Rw) : De := decl6 (pickZ x.name 6).toNat
def numOf (x : Rw) (i : Nat) : Int := [x.n0, x.n1, x.n2, x.n3].getD i 0
def atomTo (x : Rw) (k : Nat) : List Tm := vZ x.n0 :: (List.range (k - 1)).map fun i => argZ (numOf x (i + 1))
def atomZ (x : Rw) : List Tm := atomTo x (declOf x).arity.toNat
def cmp6 (i : Nat) : ByteArray := ⟨([[61, 61], [33, 61], [60], [60, 61], [62], [62, 61]].getD i []).toArray⟩
def litZ (x : Rw) : Li :=
 if pickZ x.kind 8 ≤ 3 then ⟨1, (declOf x).name, atomZ x⟩
 else if pickZ x.kind 8 = 4 then ⟨2, (declOf x).name, atomZ x⟩
 else if pickZ x.kind 8 ≤ 6 then ⟨3, cmp6 (pickZ x.name 6).toNat, [vZ x.n0, if pickZ x.n3 2 = 0 then numZ (pickZ x.n2 4) else vZ x.n1]⟩
 else ⟨4, vName (pickZ x.n0 6).toNat, [sumZ (vZ x.n1) (if pickZ (x.n3.tdiv 2) 2 = 0 then numZ 1 else vZ x.n2) (if pickZ x.n3 2 = 0 then ⟨#[43]⟩ else ⟨#[45]⟩)]⟩
def zRw : Rw := ⟨0, 0, 0, 0, 0, 0⟩
def headRw (l : List Rw) : Rw := match l with
 | [] => zRw
 | x :: _ => x
def bodyZ (l : List Rw) : List Li := if ((l.take 5).drop 1) = [] then [litZ zRw] else ((l.take 5).drop 1).map litZ
def labelZ (n : Int) : ByteArray := ⟨#[114, UInt8.ofNat (97 + (pickZ n 26).toNat)]⟩
def agg6 (i : Nat) : ByteArray := ⟨([[109, 105, 110], [109, 97, 120], [99, 111, 117, 110, 116]].getD i []).toArray⟩
def aggOn (l : List Rw) : Bool := pickZ (headRw l).kind 5 == 4 && (decide (1 < (atomZ (headRw l)).length) && ((atomZ (headRw l)).getD 1 (numZ 0)).kind == 1)
def ruleZ (l : List Rw) (n : Int) : Ru :=
 if aggOn l = true then ⟨labelZ n, (declOf (headRw l)).name, atomZ (headRw l), agg6 (pickZ ((headRw l).kind.tdiv 5) 3).toNat, 1, bodyZ l⟩
 else ⟨labelZ n, (declOf (headRw l)).name, atomZ (headRw l), ⟨#[]⟩, 0, bodyZ l⟩
def factArg (x : Rw) (i : Nat) : V :=
 if i = 0 ∨ (i = 1 ∧ ((declOf x).name = ⟨#[108, 105, 110, 107]⟩ ∨ pickZ (numOf x i) 2 = 0)) then .mk 3 0 (adrName (pickZ ((numOf x i).tdiv 2) 4).toNat) []
 else .mk 1 (pickZ ((numOf x i).tdiv 2) 5) ⟨#[]⟩ []
def factZ (x : Rw) : Fa := ⟨(declOf x).name, (List.range (declOf x).arity.toNat).map (factArg x)⟩
def rulesTo (l : List (List Rw)) (k : Nat) : List Ru := (List.range k).map fun i => ruleZ (l.getD i []) i
def progZ (rules : List (List Rw)) (facts : List Rw) : Pr := ⟨decls6, (facts.take 12).map factZ, rulesTo rules (min rules.length 6)⟩
end Go.Proofs.YtjmnnjikmmglpaaGreat
namespace Go.Proofs.YtjmnnjikmmglpaaGreat
open Go.RowKit
theorem pick6_any (c n : Int) (w : World) (hc : I64 c) (hn : 1 ≤ n) (hn2 : n ≤ 9223372036854775807) :
  Calls Tryz.prog 41 #[.int .i64 c, .int .i64 n] w fun e w' => e = .returned (.int .i64 (pickZ c n)) ∧ w = w' := by
 obtain ⟨h1, h2⟩ := hc
 by_cases h : c < 0
 ·have HF : Hid (pickZ c n = (-(c + 1)) % n) := by show _ = _; rw [pickZ, if_pos h]
  have h3 : 0 ≤ -(c + 1) := by omega
  have hne : (n == 0) = false := beq_eq_false_iff_ne.2 (by omega);go_enter Tryz.func41, Tryz.ntmps41
  go_wp2_with fail
  go_ret
  refine ⟨?_, rfl⟩;rw [HF.out];refine ret_int' ?_;rw [← Int.neg_tmod, Int.tmod_eq_emod_of_nonneg h3]
 ·have HF : Hid (pickZ c n = c % n) := by show _ = _; rw [pickZ, if_neg h]
  have h3 : 0 ≤ c := by omega
  have hne : (n == 0) = false := beq_eq_false_iff_ne.2 (by omega);go_enter Tryz.func41, Tryz.ntmps41
  go_wp2_with fail
  go_ret
  refine ⟨?_, rfl⟩;rw [HF.out];rfl
end Go.Proofs.YtjmnnjikmmglpaaGreat
namespace Go.Proofs.YtjmnnjikmmglpaaGreat
open Go.RowKit
def kdLi : Kd Li where
 T := 60
 ST := 45
 n := 3
 bytes := 48
 R := fun S w x c => RepLi S w x (c 0) (c 1) (c 2)
 pos := by omega
 few := by omega
 on := fun hS hw h => RepLi.on hS hw h
 one := fun h j hj => by
  obtain ⟨ga, gc, e0, e1, e2⟩ := h.form
  match j, hj with
  | 0, _ => rw [e0]; rfl
  | 1, _ => rw [e1]; rfl
  | 2, _ => rw [e2]; rfl
 und := Tryz.underlying45
 info := info_of (by kernel_rfl)
def kdRu : Kd Ru where
 T := 47
 ST := 26
 n := 6
 bytes := 104
 R := fun S w x c => RepRu S w x (c 0) (c 1) (c 2) (c 3) (c 4) (c 5)
 pos := by omega
 few := by omega
 on := fun hS hw h => RepRu.on hS hw h
 one := fun h j hj => by
  obtain ⟨fa, fc, ga, gc, e0, e1, e2, e3, e4, e5⟩ := h.form
  match j, hj with
  | 0, _ => rw [e0]; rfl
  | 1, _ => rw [e1]; rfl
  | 2, _ => rw [e2]; rfl
  | 3, _ => rw [e3]; rfl
  | 4, _ => rw [e4]; rfl
  | 5, _ => rw [e5]; rfl
 und := Tryz.underlying26
 info := info_of (by kernel_rfl)
def kdFa : Kd Fa where
 T := 73
 ST := 25
 n := 2
 bytes := 40
 R := fun S w x c => RepFa S w x (c 0) (c 1)
 pos := by omega
 few := by omega
 on := fun hS hw h => RepFa.on hS hw h
 one := fun h j hj => by
  obtain ⟨ga, gc, e0, e1⟩ := h.form
  match j, hj with
  | 0, _ => rw [e0]; rfl
  | 1, _ => rw [e1]; rfl
 und := Tryz.underlying25
 info := info_of (by kernel_rfl)
end Go.Proofs.YtjmnnjikmmglpaaGreat
namespace Go.Proofs.YtjmnnjikmmglpaaGreat
open Go.RowKit
def vVal (i : Nat) : Value := .agg #[.int .i64 1, .string (vName i), .int .i64 0, .int .i64 0, .string ⟨#[]⟩, .slice none 0 0, .slice none 0 0]
def numVal (n : Int) : Value := .agg #[.int .i64 2, .string ⟨#[]⟩, .int .i64 1, .int .i64 n, .string ⟨#[]⟩, .slice none 0 0, .slice none 0 0]
theorem decls6_ok : ∀ d ∈ decls6, d.name.size ≤ maxLen ∧ (0 ≤ d.arity ∧ d.arity ≤ 100) := by
 intro d hd;simp only [decls6, List.mem_cons, List.not_mem_nil, or_false] at hd
 rcases hd with rfl | rfl | rfl | rfl | rfl | rfl <;> exact ⟨by decide, by decide⟩
set_option maxRecDepth 100000 in
set_option maxHeartbeats 1000000 in
theorem num_any (n : Int) (w : World) : Calls Tryz.prog 72 #[.int .i64 n] w fun e w' => e = .returned (numVal n) ∧ Below w.heap.size w w' := by
 go_enter Tryz.func72, Tryz.ntmps72
 go_wp2_with fail
 exact bodyPost_ret (v := numVal n) (by simp [results, Tryz.results72, go_sem, numVal]) rfl ⟨rfl, below_alloc _ _⟩
set_option maxRecDepth 100000 in
set_option maxHeartbeats 1000000 in
theorem v_any (c : Int) (w : World) (hc : I64 c) : Calls Tryz.prog 71 #[.int .i64 c] w fun e w' => e = .returned (vVal (pickZ c 6).toNat) ∧ Below w.heap.size w w' := by
 go_enter Tryz.func71, Tryz.ntmps71
 go_wp2_with fail
 refine (pick6_any c 6 _ hc (by omega) (by omega)).mono ?_;rintro e w' ⟨rfl, rfl⟩;have hbd := pickZ_bd c 6 (by omega);obtain ⟨i, hi⟩ := Int.eq_ofNat_of_zero_le hbd.1;rw [hi] at hbd ⊢;have hj : i = 0 ∨ i = 1 ∨ i = 2 ∨ i = 3 ∨ i = 4 ∨ i = 5 := by omega
 have HZ : Hid ((pickZ c 6).toNat = i) := by show _ = _; rw [hi]; simp
 clear hbd hi;rcases hj with rfl | rfl | rfl | rfl | rfl | rfl
 all_goals
  go_wp2_with fail
  refine bodyPost_ret (v := vVal (pickZ c 6).toNat) ?_ rfl ⟨rfl, ((Below.refl _ w).alloc (Nat.le_refl _) _).alloc (by simp) _⟩;rw [HZ.out];simp [results, Tryz.results71, go_sem, vVal, vName]
set_option maxRecDepth 100000 in
set_option maxHeartbeats 1000000 in
theorem relations_any (w : World) : Calls Tryz.prog 27 #[] w fun e w' => e = .returned (.slice (some ⟨w.heap.size, 0, none⟩) 6 6) ∧ RepDes (fun k => w.heap.size ≤ k ∧ k < w'.heap.size) w' decls6 (.slice (some ⟨w.heap.size, 0, none⟩) 6 6) ∧ Below w.heap.size w w' := by
 go_enter Tryz.func27, Tryz.ntmps27
 go_wp2_with fail
 go_ret
 refine ⟨rfl, slg_row (n := 2) (bytes := 24) (l := decls6) (alloc_new' w _) ⟨Nat.le_refl _, by simp⟩ rfl (by decide) (fun i h => ?_), below_alloc _ _⟩
 match i, h with
 | 0, h => exact ⟨rfl, rfl, (decls6_ok _ (List.getElem_mem h)).1, small64 (decls6_ok _ (List.getElem_mem h)).2⟩
 | 1, h => exact ⟨rfl, rfl, (decls6_ok _ (List.getElem_mem h)).1, small64 (decls6_ok _ (List.getElem_mem h)).2⟩
 | 2, h => exact ⟨rfl, rfl, (decls6_ok _ (List.getElem_mem h)).1, small64 (decls6_ok _ (List.getElem_mem h)).2⟩
 | 3, h => exact ⟨rfl, rfl, (decls6_ok _ (List.getElem_mem h)).1, small64 (decls6_ok _ (List.getElem_mem h)).2⟩
 | 4, h => exact ⟨rfl, rfl, (decls6_ok _ (List.getElem_mem h)).1, small64 (decls6_ok _ (List.getElem_mem h)).2⟩
 | 5, h => exact ⟨rfl, rfl, (decls6_ok _ (List.getElem_mem h)).1, small64 (decls6_ok _ (List.getElem_mem h)).2⟩
end Go.Proofs.YtjmnnjikmmglpaaGreat
namespace Go.Proofs.YtjmnnjikmmglpaaGreat
open Go.RowKit
theorem decl6_get {i : Nat} (h : i < 6) : decl6 i = decls6[i]'h := by
 match i, h with
 | 0, _ => rfl
 | 1, _ => rfl
 | 2, _ => rfl
 | 3, _ => rfl
 | 4, _ => rfl
 | 5, _ => rfl
theorem decl6_ok {i : Nat} (h : i < 6) : (decl6 i).name.size ≤ maxLen ∧ 1 ≤ (decl6 i).arity ∧ (decl6 i).arity ≤ 3 := by
 match i, h with
 | 0, _ => decide
 | 1, _ => decide
 | 2, _ => decide
 | 3, _ => decide
 | 4, _ => decide
 | 5, _ => decide
def RelAt (B : Nat) (w : World) (v : Value) : Prop := ∃ b, v = .slice (some ⟨b, 0, none⟩) 6 6 ∧ B ≤ b ∧ RepDes (fun k => B ≤ k ∧ k < w.heap.size) w decls6 v
theorem RelAt.stay {B : Nat} {w w' : World} {v : Value} (hb : Below w.heap.size w w') (h : RelAt B w v) : RelAt B w' v := by
 obtain ⟨b, e, hB, h⟩ := h;exact ⟨b, e, hB, RepDes.on (fun k hk => ⟨hk.1, Nat.lt_of_lt_of_le hk.2 hb.size⟩) (fun k hk => hb.block k hk.2) h⟩
def DeclPtr (i : Nat) (w : World) (v : Value) : Prop := ∃ b, v = .pointer (some ⟨b, i * 2, none⟩) ∧ b < w.heap.size ∧ w.cell? ⟨b, i * 2, none⟩ = some (.string (decl6 i).name) ∧ w.cell? ⟨b, i * 2 + 1, none⟩ = some (.int .i64 (decl6 i).arity)
theorem DeclPtr.stay {i : Nat} {w w' : World} {v : Value} (hb : Below w.heap.size w w') (h : DeclPtr i w v) : DeclPtr i w' v := by
 obtain ⟨b, e, hB, h1, h2⟩ := h;exact ⟨b, e, Nat.lt_of_lt_of_le hB hb.size, (hb.cell (p := ⟨b, i * 2, none⟩) hB).trans h1, (hb.cell (p := ⟨b, i * 2 + 1, none⟩) hB).trans h2⟩
theorem RelAt.ptr {B i : Nat} {w : World} {b : Nat} (hi : i < 6) (h : RepDes (fun k => B ≤ k ∧ k < w.heap.size) w decls6 (.slice (some ⟨b, 0, none⟩) 6 6)) : DeclPtr i w (.pointer (some ⟨b, i * 2, none⟩)) := by
 obtain ⟨-, -, b', o, e, hS, c0, c1, -⟩ := RepDes.at h i hi
 cases e
 rw [← decl6_get hi, Nat.zero_add] at c0 c1;exact ⟨b, rfl, hS.2, c0, c1⟩
def ZeroDe (B : Nat) (w : World) (v : Value) : Prop := ∃ b, v = .pointer (some ⟨b, 0, none⟩) ∧ B ≤ b ∧ BoxDe w b (.string ⟨#[]⟩) (.int .i64 0)
theorem ZeroDe.stay {B : Nat} {w w' : World} {v : Value} (hb : Below w.heap.size w w') (h : ZeroDe B w v) : ZeroDe B w' v := by
 obtain ⟨b, e, hB, h1⟩ := h;exact ⟨b, e, hB, h1.on hb⟩
theorem boxDe_set {w : World} {k : Nat} {c0 c1 : Value} (h : BoxDe w k c0 c1) (d0 d1 : Value) : BoxDe ((w.setCell ⟨k, 0, none⟩ d0).setCell ⟨k, 1, none⟩ d1) k d0 d1 :=
 heap_setCell_same _ _ _ _ _ _ (heap_setCell_same _ _ _ _ _ _ h)
def at7 (c0 c1 c2 c3 c4 c5 c6 : Value) : Nat → Value
 | 0 => c0 | 1 => c1 | 2 => c2 | 3 => c3 | 4 => c4 | 5 => c5 | _ => c6
theorem mineOne {w : World} {base b : Nat} {S : Nat → Prop} {y : Tm} {c0 c1 c2 c3 c4 c5 c6 : Value} (hb : w.heap[b]? = some (.cells #[c0, c1, c2, c3, c4, c5, c6] 68 (0, 0))) (hB : base ≤ b) (hS : ∀ k, S k → base ≤ k ∧ k < w.heap.size ∧ k ≠ b) (h : RepM S w y c0 c1 c2 c3 c4 c5 c6) :
  MineK kdTm w base [y] (.slice (some ⟨b, 0, none⟩) 1 1) := by
 refine ⟨[c0, c1, c2, c3, c4, c5, c6], ⟨rfl, .inr ⟨b, 1, _, rfl, hB, hb, Nat.le_refl _, by decide, rfl, rfl⟩⟩, fun i hi => ?_⟩;obtain rfl : i = 0 := by simpa using hi
 exact ⟨at7 c0 c1 c2 c3 c4 c5 c6, fun j hj => match j, hj with | 0, _ => rfl | 1, _ => rfl | 2, _ => rfl | 3, _ => rfl | 4, _ => rfl | 5, _ => rfl | 6, _ => rfl,
  RepM.on (fun k hk => ⟨(hS k hk).1, (hS k hk).2.1, fun e => (hS k hk).2.2 (Option.some.inj e).symm⟩) (fun _ _ => rfl) y h⟩
theorem vName_size (i : Nat) : (vName i).size ≤ maxLen := by
 show 1 ≤ maxLen
 decide
theorem adrName_size (i : Nat) : (adrName i).size ≤ maxLen := by
 show 1 ≤ maxLen
 decide
theorem vTm_rep (S : Nat → Prop) (w : World) (i : Nat) : RepM S w (vTm i) (.int .i64 1) (.string (vName i)) (.int .i64 0) (.int .i64 0) (.string ⟨#[]⟩) (.slice none 0 0) (.slice none 0 0) :=
 repM_mk.2 ⟨rfl, rfl, small64 (by omega), vName_size i, zV_rep S w, slg_nil⟩
theorem numZ_rep (S : Nat → Prop) (w : World) {n : Int} (hn : I64 n) : RepM S w (numZ n) (.int .i64 2) (.string ⟨#[]⟩) (.int .i64 1) (.int .i64 n) (.string ⟨#[]⟩) (.slice none 0 0) (.slice none 0 0) :=
 repM_mk.2 ⟨rfl, rfl, small64 (by omega), by decide, flat_rep S w 1 n ⟨#[]⟩ (small64 (by omega)) hn (by decide), slg_nil⟩
theorem adrZ_rep (S : Nat → Prop) (w : World) (i : Nat) : RepM S w (adrZ i) (.int .i64 2) (.string ⟨#[]⟩) (.int .i64 3) (.int .i64 0) (.string (adrName i)) (.slice none 0 0) (.slice none 0 0) :=
 repM_mk.2 ⟨rfl, rfl, small64 (by omega), by decide, flat_rep S w 3 0 (adrName i) (small64 (by omega)) (small64 (by omega)) (adrName_size i), slg_nil⟩
theorem sumZ_rep {S : Nat → Prop} {w : World} {y z : Tm} {s : ByteArray} {b : Nat} {c0 c1 c2 c3 c4 c5 c6 d0 d1 d2 d3 d4 d5 d6 : Value} (hs : s.size ≤ maxLen) (hb : w.heap[b]? = some (.cells #[c0, c1, c2, c3, c4, c5, c6, d0, d1, d2, d3, d4, d5, d6] 68 (0, 0))) (hS : S b)
  (h1 : RepM S w y c0 c1 c2 c3 c4 c5 c6) (h2 : RepM S w z d0 d1 d2 d3 d4 d5 d6) :
  RepM S w (sumZ y z s) (.int .i64 4) (.string s) (.int .i64 0) (.int .i64 0) (.string ⟨#[]⟩) (.slice none 0 0) (.slice (some ⟨b, 0, none⟩) 2 2) :=
 repM_mk.2 ⟨rfl, rfl, small64 (by omega), hs, zV_rep S w, slg_row hb hS rfl (by simp) (fun i h => match i, h with
  | 0, _ => h1
  | 1, _ => h2)⟩
theorem atomTo_succ (x : Rw) (k : Nat) (hk : 1 ≤ k) : atomTo x (k + 1) = atomTo x k ++ [argZ (numOf x k)] := by
 obtain ⟨m, rfl⟩ : ∃ m, k = m + 1 := ⟨k - 1, by omega⟩;rw [atomTo, atomTo, Nat.add_sub_cancel, Nat.add_sub_cancel, List.range_succ, List.map_append];rfl
theorem numOf_i64 {x : Rw} (h : RwOk x) (k : Nat) : I64 (numOf x k) := by
 obtain ⟨-, -, h0, h1, h2, h3⟩ := h
 match k with
 | 0 => exact h0
 | 1 => exact h1
 | 2 => exact h2
 | 3 => exact h3
 | _ + 4 => exact ⟨by show (_ : Int) ≤ 0; omega, by show (0 : Int) ≤ _; omega⟩
theorem abc_at {r : Nat} (h : r < 3) : (#[.string ⟨#[97]⟩, .string ⟨#[98]⟩, .string ⟨#[99]⟩] : Array Value)[r]? = some (.string (adrName r)) := by
 match r, h with
 | 0, _ => rfl
 | 1, _ => rfl
 | 2, _ => rfl
theorem tdiv_i64 {k : Int} (h : I64 k) (n : Int) (hn : 1 ≤ n) : I64 (k.tdiv n) := by
 obtain ⟨h1, h2⟩ := h
 by_cases hk : 0 ≤ k
 ·rw [Int.tdiv_eq_ediv_of_nonneg hk]
  have a1 := Int.ediv_nonneg hk (show 0 ≤ n by omega);have a2 := Int.ediv_le_self n hk;exact ⟨by omega, by omega⟩
 ·have e : k.tdiv n = -((-k).tdiv n) := by rw [Int.neg_tdiv, Int.neg_neg]
  have hk' : 0 ≤ -k := by omega
  rw [e, Int.tdiv_eq_ediv_of_nonneg hk'];have a1 := Int.ediv_nonneg hk' (show 0 ≤ n by omega);have a2 := Int.ediv_le_self n hk';refine ⟨by omega, by omega⟩
end Go.Proofs.YtjmnnjikmmglpaaGreat
