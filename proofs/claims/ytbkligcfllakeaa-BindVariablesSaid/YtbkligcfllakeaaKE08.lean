/-
  Ops, Op, BindData, BindPure, TermBoxM, LgSlg, FlatKit, Bytes
-/
import Derived.Test.YtbkligcfllakeaaKE07
import Derived.Test.YtbkligcfllakeaaKE02
import Derived.Test.YtbkligcfllakeaaKE04
import Derived.Test.YtbkligcfllakeaaKE01
import Derived.WalkSpells
import Derived.WalkLawsBesides
import Derived.Lib.ConvBytes
import Derived.Laws.IdiomStrings
namespace Go.Proofs.Ytbkligcfllakeaa
open Go.RowKit
def numB (x : V) : Bool := (x.kind == 1) && rightV 4 x
theorem num_bounds {x : V} (h : numB x = true) : -2147483647 ≤ x.num ∧ x.num ≤ 2147483647 := by
 rw [numB, Bool.and_eq_true, beq_iff_eq] at h
 cases x with
 | mk k n s l =>
  obtain ⟨h1, h2⟩ := h;rw [rightV_mk] at h2;obtain rfl : k = 1 := h1;rcases baseB_cases h2 with ⟨_, _, _, h3, h4⟩ | ⟨e, _⟩ | ⟨e, _⟩ | ⟨e, _⟩
  ·exact ⟨h3, h4⟩
  all_goals exact absurd e (by decide)
set_option maxRecDepth 100000 in
set_option maxHeartbeats 1000000 in
theorem isNumber_any (x : V) (B : Nat) (w : World) (c0 c1 c2 c3 : Value) (hB : B ≤ w.heap.size) (hx : RepV B w x c0 c1 c2 c3) :
  Calls Try.prog 110 #[.agg #[c0, c1, c2, c3]] w fun e w' => e = .returned (.bool (numB x)) ∧ Below w.heap.size w w' := by
 have HX := Lib.hid hx;obtain ⟨fa, fc, rfl, rfl, rfl, rfl⟩ := hx.form;clear hx;have b1 := (Below.refl _ w).alloc (Nat.le_refl _) (.cells #[.int .i64 x.kind, .int .i64 x.num, .string x.text, .slice fa x.list.length fc] 27);have HB1 := Lib.hid b1
 cases hk : (x.kind == 1) with
 | false =>
  have HK : Hid (numB x = false) := by show _ = _; rw [numB, hk]; rfl
  have hk2 : ¬ x.kind = 1 := by simpa using hk
  clear b1;go_enter Try.func110, Try.ntmps110
  go_wp2_with fail
  go_ret
  exact ⟨retBool HK.out.symm, HB1.out⟩
 | true =>
  have HK : Hid (numB x = rightV 4 x) := by show _ = _; rw [numB, hk]; rfl
  have hk1 : x.kind = 1 := by simpa using hk
  have HK1 := Lib.hid hk1;clear hk b1;rw [hk1] at HX HB1 ⊢;clear hk1;go_enter Try.func110, Try.ntmps110
  go_wp2_with fail
  refine (right_any x B _ _ _ _ _ (by simp; omega) (RepV.below (fun j hj => HB1.out.block j (by omega)) x HX.out)).mono ?_;rintro e w2 ⟨rfl, hb2⟩;go_wp2_with fail
  go_ret
  exact ⟨retBool HK.out.symm, Below.step HB1.out hb2⟩
def reckonZ (s : ByteArray) (n m : Int) : Option Int :=
 if (s.toList == [43]) = true then some (n + m) else if (s.toList == [45]) = true then some (n - m) else if (s.toList == [42]) = true then some (n * m) else none
theorem mul_bound {n m : Int} (hn : -2147483647 ≤ n ∧ n ≤ 2147483647) (hm : -2147483647 ≤ m ∧ m ≤ 2147483647) : -4611686014132420609 ≤ n * m ∧ n * m ≤ 4611686014132420609 := by
 have h1 : (n * m).natAbs ≤ 2147483647 * 2147483647 := by
  rw [Int.natAbs_mul];exact Nat.mul_le_mul (by omega) (by omega)
 omega
def ReckonPost (r : Option Int) (w : World) (e : Ending) (w' : World) : Prop := e = .returned (.tuple #[.int .i64 (r.getD 0), .bool r.isSome]) ∧ w = w'
set_option maxRecDepth 100000 in
set_option maxHeartbeats 1000000 in
theorem reckon_any (s : ByteArray) (n m : Int) (w : World) (hn : -2147483647 ≤ n ∧ n ≤ 2147483647) (hm : -2147483647 ≤ m ∧ m ≤ 2147483647) :
  Calls Try.prog 111 #[.string s, .int .i64 n, .int .i64 m] w (ReckonPost (reckonZ s n m) w) := by
 have hp := mul_bound hn hm;obtain ⟨hn1, hn2⟩ := hn;obtain ⟨hm1, hm2⟩ := hm;obtain ⟨hp1, hp2⟩ := hp;unfold reckonZ
 cases h0 : (s.toList == [43]) with
 | true =>
  rw [if_pos rfl];go_enter Try.func111, Try.ntmps111
  go_wp2_with fail
  go_ret2
  exact ⟨rfl, rfl⟩
 | false =>
 rw [if_neg (by decide)]
 cases h1 : (s.toList == [45]) with
 | true =>
  rw [if_pos rfl];go_enter Try.func111, Try.ntmps111
  go_wp2_with fail
  go_ret2
  exact ⟨rfl, rfl⟩
 | false =>
 rw [if_neg (by decide)]
 cases h2 : (s.toList == [42]) with
 | true =>
  rw [if_pos rfl];have HM : Hid (IntKind.i64.wrap (n * m) = n * m) := by show _ = _; rw [IntKind.wrap_i64]; omega
  go_enter Try.func111, Try.ntmps111
  go_wp2_with fail
  go_ret2
  first
   | exact ⟨rfl, rfl⟩
   | exact ⟨by show Ending.returned (.tuple #[.int .i64 (IntKind.i64.wrap (n * m)), .bool true]) = _; rw [HM.out]; rfl, rfl⟩
 | false =>
  rw [if_neg (by decide)];go_enter Try.func111, Try.ntmps111
  go_wp2_with fail
  go_ret2
  exact ⟨rfl, rfl⟩
end Go.Proofs.Ytbkligcfllakeaa
namespace Go.Proofs.Ytbkligcfllakeaa
open Go.RowKit
theorem empty_none : (⟨#[]⟩ : ByteArray).toList.isEmpty = true := by rw [isEmpty_size]; rfl
theorem right_num (n : Int) : rightV 4 (numV n) = (decide (-2147483647 ≤ n) && decide (n ≤ 2147483647)) := by
 rw [numV, rightV_mk, baseB, if_pos rfl, empty_none]; rfl
def opZ (s : ByteArray) (a b : V) : Option Int :=
 if numB a = true ∧ numB b = true then (match reckonZ s a.num b.num with | none => none | some n => if rightV 4 (numV n) = true then some n else none) else none
def opCells : Option Int → Value
 | none => .agg #[.int .i64 0, .int .i64 0, .string ⟨#[]⟩, .slice none 0 0]
 | some n => .agg #[.int .i64 1, .int .i64 n, .string ⟨#[]⟩, .slice none 0 0]
def OpPost (r : Option Int) (w : World) (e : Ending) (w' : World) : Prop := e = .returned (.tuple #[opCells r, .bool r.isSome]) ∧ Below w.heap.size w w'
set_option maxRecDepth 100000 in
set_option maxHeartbeats 4000000 in
theorem op_any (s : ByteArray) (x y : V) (B : Nat) (w : World) (c0 c1 c2 c3 d0 d1 d2 d3 : Value) (hB : B ≤ w.heap.size) (hx : RepV B w x c0 c1 c2 c3) (hy : RepV B w y d0 d1 d2 d3) :
  Calls Try.prog 104 #[.string s, .agg #[c0, c1, c2, c3], .agg #[d0, d1, d2, d3]] w (OpPost (opZ s x y) w) := by
 have HX := Lib.hid hx; have HY := Lib.hid hy
 obtain ⟨fa, fc, rfl, rfl, rfl, rfl⟩ := hx.form;obtain ⟨ga, gc, rfl, rfl, rfl, rfl⟩ := hy.form;clear hx hy;go_enter Try.func104, Try.ntmps104
 go_wp2_with fail
 have x1 := boxed_new w (.int .i64 x.kind) (.int .i64 x.num) (.string x.text) (.slice fa x.list.length fc);have b1 := (Below.refl _ w).alloc (Nat.le_refl _) (.cells #[.int .i64 x.kind, .int .i64 x.num, .string x.text, .slice fa x.list.length fc] 27);have s1 := World.size_alloc w (.cells #[.int .i64 x.kind, .int .i64 x.num, .string x.text, .slice fa x.list.length fc] 27);generalize w.alloc (.cells #[.int .i64 x.kind, .int .i64 x.num, .string x.text, .slice fa x.list.length fc] 27) = w1 at *;have y2 := boxed_new w1 (.int .i64 y.kind) (.int .i64 y.num) (.string y.text) (.slice ga y.list.length gc);have b2 := (Below.refl _ w1).alloc (Nat.le_refl _) (.cells #[.int .i64 y.kind, .int .i64 y.num, .string y.text, .slice ga y.list.length gc] 27);have s2 := World.size_alloc w1 (.cells #[.int .i64 y.kind, .int .i64 y.num, .string y.text, .slice ga y.list.length gc] 27);generalize w1.alloc (.cells #[.int .i64 y.kind, .int .i64 y.num, .string y.text, .slice ga y.list.length gc] 27) = w2 at *;have r3 := boxed_new w2 (.int .i64 0) (.int .i64 0) (.string ⟨#[]⟩) (.slice none 0 0);have b3 := (Below.refl _ w2).alloc (Nat.le_refl _) (.cells #[.int .i64 0, .int .i64 0, .string ⟨#[]⟩, .slice none 0 0] 27);generalize w2.alloc (.cells #[.int .i64 0, .int .i64 0, .string ⟨#[]⟩, .slice none 0 0] 27) = w3 at *;rw [s1] at y2;rw [s2, s1] at r3;have X3 := (x1.on b2).on b3;have Y3 := y2.on b3;have B3 := Below.step (Below.step b1 b2) b3;clear x1 b1 b2 b3 s1 s2 y2;have hs3 := B3.size;refine (isNumber_any x B _ _ _ _ _ (by omega) (RepV.below (fun j hj => B3.block j (by omega)) x HX.out)).mono ?_;rintro e w4 ⟨rfl, b4⟩;have X4 := X3.on b4; have Y4 := Y3.on b4; have R4 := Lib.hid (r3.on b4); have B4 := Lib.hid (Below.step B3 b4)
 clear X3 Y3 r3 B3 b4;have HX4 := Lib.hid X4; have HY4 := Lib.hid Y4
 obtain ⟨q0, q1, q2, q3⟩ := Y4.cells
 have fin : ∀ (w' : World), Below w.heap.size w w' → OpPost none w (.returned (.tuple #[.agg #[.int .i64 0, .int .i64 0, .string ⟨#[]⟩, .slice none 0 0], .bool false])) ((((w'.setCell ⟨w.heap.size + 1 + 1, 0, none⟩ (.int .i64 0)).setCell ⟨w.heap.size + 1 + 1, 1, none⟩ (.int .i64 0)).setCell ⟨w.heap.size + 1 + 1, 2, none⟩ (.string ⟨#[]⟩)).setCell ⟨w.heap.size + 1 + 1, 3, none⟩ (.slice none 0 0)) := fun w' hw =>
  ⟨rfl, stored4 hw (w.heap.size + 1 + 1) (by omega) _ _ _ _⟩
 have FIN := Lib.hid fin;clear X4 Y4 fin
 cases hnx : numB x with
 | false =>
  have HE : Hid (opZ s x y = none) := by show _ = _; rw [opZ, if_neg (by rw [hnx]; simp)]
  obtain ⟨r0, r1, r2, r3⟩ := R4.out.cells;have z0 := frozen_of_row w4 _ 0 _ _ R4.out;have z1 := frozen_of_row w4 _ 1 _ _ R4.out;have z2 := frozen_of_row w4 _ 2 _ _ R4.out;have z3 := frozen_of_row w4 _ 3 _ _ R4.out;clear hnx;go_wp2_with fail
  refine bodyPost_ret (v := .tuple #[.agg #[.int .i64 0, .int .i64 0, .string ⟨#[]⟩, .slice none 0 0], .bool false]) (by simp [results, Try.results104, go_sem, r0, r1, r2, r3]) rfl ?_;rw [HE.out];exact FIN.out _ B4.out
 | true =>
  have HNX := Lib.hid hnx;have hbx := num_bounds hnx;clear hnx;go_wp2_with fail
  have hs4 := B4.out.size;refine (isNumber_any y B _ _ _ _ _ (by omega) (RepV.below (fun j hj => B4.out.block j (by omega)) y HY.out)).mono ?_;rintro e w5 ⟨rfl, b5⟩;have X5 := HX4.out.on b5; have Y5 := HY4.out.on b5; have R5 := Lib.hid (R4.out.on b5); have B5 := Lib.hid (Below.step B4.out b5)
  clear HX4 HY4 R4 B4 b5 q0 q1 q2 q3
  cases hny : numB y with
  | false =>
   have HE : Hid (opZ s x y = none) := by show _ = _; rw [opZ, if_neg (by rw [hny]; simp)]
   obtain ⟨r0, r1, r2, r3⟩ := R5.out.cells;have z0 := frozen_of_row w5 _ 0 _ _ R5.out;have z1 := frozen_of_row w5 _ 1 _ _ R5.out;have z2 := frozen_of_row w5 _ 2 _ _ R5.out;have z3 := frozen_of_row w5 _ 3 _ _ R5.out;clear hny;go_wp2_with fail
   refine bodyPost_ret (v := .tuple #[.agg #[.int .i64 0, .int .i64 0, .string ⟨#[]⟩, .slice none 0 0], .bool false]) (by simp [results, Try.results104, go_sem, r0, r1, r2, r3]) rfl ?_;rw [HE.out];exact FIN.out _ B5.out
  | true =>
   have HNY := Lib.hid hny;have hby := num_bounds hny;clear hny;have p1 := X5.cells.2.1;have q1 := Y5.cells.2.1
   have HE : Hid (opZ s x y = match reckonZ s x.num y.num with | none => none | some n => if rightV 4 (numV n) = true then some n else none) := by
    show _ = _; rw [opZ, if_pos ⟨HNX.out, HNY.out⟩]
   go_wp2_with fail
   refine (reckon_any s x.num y.num _ hbx hby).mono ?_;rintro e w6 ⟨rfl, rfl⟩
   have hrb : ∀ n, reckonZ s x.num y.num = some n → I64 n := by
    intro n hn;have hp := mul_bound hbx hby;unfold reckonZ at hn
    split at hn
    ·cases hn; exact ⟨by omega, by omega⟩
    ·split at hn
     ·cases hn; exact ⟨by omega, by omega⟩
     ·split at hn
      ·cases hn; exact ⟨by omega, by omega⟩
      ·cases hn
   have HRB := Lib.hid hrb;clear hrb;generalize reckonZ s x.num y.num = rk at *;clear X5 Y5 p1 q1 hbx hby
   cases rk with
   | none =>
    have HE2 : Hid (opZ s x y = none) := HE.out;go_wp2_with fail
    refine (number_any _ _).mono ?_;rintro e w7 ⟨rfl, b7⟩;have R7 := R5.out.on b7;have B7 := Lib.hid (Below.step B5.out b7);have R8 := R7.on ((Below.refl _ w7).alloc (Nat.le_refl _) (.cells #[.int .i64 1, .int .i64 0, .string ⟨#[]⟩, .slice none 0 0] 27));obtain ⟨r0, r1, r2, r3⟩ := R8.cells;have z0 := frozen_of_row _ _ 0 _ _ R8;have z1 := frozen_of_row _ _ 1 _ _ R8;have z2 := frozen_of_row _ _ 2 _ _ R8;have z3 := frozen_of_row _ _ 3 _ _ R8;have B8 := Lib.hid (Below.step B7.out ((Below.refl _ w7).alloc (Nat.le_refl _) (.cells #[.int .i64 1, .int .i64 0, .string ⟨#[]⟩, .slice none 0 0] 27)));clear R7 R8 b7;go_wp2_with fail
    refine bodyPost_ret (v := .tuple #[.agg #[.int .i64 0, .int .i64 0, .string ⟨#[]⟩, .slice none 0 0], .bool false]) (by simp [results, Try.results104, go_sem, r0, r1, r2, r3]) rfl ?_;rw [HE2.out];exact FIN.out _ B8.out
   | some n =>
    have hin := HRB.out n rfl;have HI := Lib.hid hin;clear hin HRB;have HE2 : Hid (opZ s x y = if rightV 4 (numV n) = true then some n else none) := HE.out;clear HE;go_wp2_with fail
    refine (number_any _ _).mono ?_;rintro e w7 ⟨rfl, b7⟩;have R7 := R5.out.on b7;have B7 := Lib.hid (Below.step B5.out b7);clear b7 R5 B5;go_wp2_with fail
    have V8 := boxed_new w7 (.int .i64 1) (.int .i64 n) (.string ⟨#[]⟩) (.slice none 0 0);have b8 := (Below.refl _ w7).alloc (Nat.le_refl _) (.cells #[.int .i64 1, .int .i64 n, .string ⟨#[]⟩, .slice none 0 0] 27);generalize w7.alloc (.cells #[.int .i64 1, .int .i64 n, .string ⟨#[]⟩, .slice none 0 0] 27) = w8 at *;refine (right_any (numV n) 0 w8 _ _ _ _ (Nat.zero_le _) (rep_num HI.out)).mono ?_;rintro e w9 ⟨rfl, b9⟩;have V9 := V8.on b9;have R9 := (R7.on b8).on b9;have B9 := Lib.hid (Below.step B7.out (Below.step b8 b9));obtain ⟨r0, r1, r2, r3⟩ := R9.cells;obtain ⟨p0, p1, p2, p3⟩ := V9.cells;have z0 := frozen_of_row _ _ 0 _ _ R9;have z1 := frozen_of_row _ _ 1 _ _ R9;have z2 := frozen_of_row _ _ 2 _ _ R9;have z3 := frozen_of_row _ _ 3 _ _ R9;clear V8 V9 R7 R9 b8 b9 B7
    cases hr : rightV 4 (numV n) with
    | false =>
     have HE3 : Hid (opZ s x y = none) := by show _ = _; rw [HE2.out, hr]; rfl
     clear hr;go_wp2_with fail
     refine bodyPost_ret (v := .tuple #[.agg #[.int .i64 0, .int .i64 0, .string ⟨#[]⟩, .slice none 0 0], .bool false]) (by simp [results, Try.results104, go_sem, r0, r1, r2, r3]) rfl ?_;rw [HE3.out];exact FIN.out _ B9.out
    | true =>
     have HE3 : Hid (opZ s x y = some n) := by show _ = _; rw [HE2.out, hr]; rfl
     clear hr;go_wp2_with fail
     refine bodyPost_ret (v := .tuple #[.agg #[.int .i64 1, .int .i64 n, .string ⟨#[]⟩, .slice none 0 0], .bool true]) (by simp [results, Try.results104, go_sem, r0, r1, r2, r3]) rfl ?_;rw [HE3.out];exact ⟨rfl, stored4 B9.out (w.heap.size + 1 + 1) (by omega) _ _ _ _⟩
end Go.Proofs.Ytbkligcfllakeaa
namespace Go.Proofs.Ytbkligcfllakeaa
open Go.RowKit
abbrev Bd := ByteArray × V
def RepB (S : Nat → Prop) (w : World) (x : Bd) (c0 c1 c2 c3 c4 : Value) : Prop := c0 = .string x.1 ∧ x.1.size ≤ maxLen ∧ RepG S w x.2 c1 c2 c3 c4
theorem RepB.on {S S' : Nat → Prop} {w w' : World} (hS : ∀ k, S k → S' k) (hw : ∀ k, S k → w'.heap[k]? = w.heap[k]?) {x : Bd} {c0 c1 c2 c3 c4 : Value} (h : RepB S w x c0 c1 c2 c3 c4) : RepB S' w' x c0 c1 c2 c3 c4 :=
 ⟨h.1, h.2.1, RepG.on hS hw _ h.2.2⟩
theorem RepB.form {S : Nat → Prop} {w : World} {x : Bd} {c0 c1 c2 c3 c4 : Value} (h : RepB S w x c0 c1 c2 c3 c4) :
  ∃ fa fc, c0 = .string x.1 ∧ c1 = .int .i64 x.2.kind ∧ c2 = .int .i64 x.2.num ∧ c3 = .string x.2.text ∧ c4 = .slice fa x.2.list.length fc := by
 obtain ⟨fa, fc, e1, e2, e3, e4⟩ := h.2.2.form;exact ⟨fa, fc, h.1, e1, e2, e3, e4⟩
def kdB : Kd Bd where
 T := 35
 ST := 31
 n := 5
 bytes := 72
 R := fun S w x c => RepB S w x (c 0) (c 1) (c 2) (c 3) (c 4)
 pos := by omega
 few := by omega
 on := fun hS hw h => RepB.on hS hw h
 one := fun h j hj => by
  obtain ⟨ga, gc, e0, e1, e2, e3, e4⟩ := h.form
  match j, hj with
  | 0, _ => rw [e0]; rfl
  | 1, _ => rw [e1]; rfl
  | 2, _ => rw [e2]; rfl
  | 3, _ => rw [e3]; rfl
  | 4, _ => rw [e4]; rfl
 und := Try.underlying31
 info := info_of (by kernel_rfl)
def RepBs (S : Nat → Prop) (w : World) (l : List Bd) (v : Value) : Prop := SlG S w 5 72 (fun x c => RepB S w x (c 0) (c 1) (c 2) (c 3) (c 4)) l v
theorem RepBs.on {S S' : Nat → Prop} {w w' : World} (hS : ∀ k, S k → S' k) (hw : ∀ k, S k → w'.heap[k]? = w.heap[k]?) {l : List Bd} {v : Value} (h : RepBs S w l v) : RepBs S' w' l v :=
 SlG.on hS hw (fun _ _ _ hx => RepB.on hS hw hx) h
theorem RepBs.at {S : Nat → Prop} {w : World} {l : List Bd} {a : Option Addr} {len cap : Nat} (h : RepBs S w l (.slice a len cap)) (i : Nat) (hi : i < l.length) :
  len = l.length ∧ l.length ≤ cap ∧ ∃ (b o : Nat) (fa : Option Addr) (fc : Nat), a = some ⟨b, o, none⟩ ∧ S b ∧ w.cell? ⟨b, o + i * 5, none⟩ = some (.string l[i].1) ∧ w.cell? ⟨b, o + i * 5 + 1, none⟩ = some (.int .i64 l[i].2.kind) ∧
   w.cell? ⟨b, o + i * 5 + 2, none⟩ = some (.int .i64 l[i].2.num) ∧ w.cell? ⟨b, o + i * 5 + 3, none⟩ = some (.string l[i].2.text) ∧ w.cell? ⟨b, o + i * 5 + 4, none⟩ = some (.slice fa l[i].2.list.length fc) ∧
   RepB S w l[i] (.string l[i].1) (.int .i64 l[i].2.kind) (.int .i64 l[i].2.num) (.string l[i].2.text) (.slice fa l[i].2.list.length fc) := by
 obtain ⟨h1, h2, b, o, h3, h4, c, hc, hR⟩ := SlG.at h i hi;obtain ⟨fa, fc, e0, e1, e2, e3, e4⟩ := hR.form;rw [e0, e1, e2, e3, e4] at hR;refine ⟨h1, h2, b, o, fa, fc, h3, h4, ?_, ?_, ?_, ?_, ?_, hR⟩
 ·have h := hc 0 (by decide); rw [e0] at h; exact h
 ·have h := hc 1 (by decide); rw [e1] at h; exact h
 ·have h := hc 2 (by decide); rw [e2] at h; exact h
 ·have h := hc 3 (by decide); rw [e3] at h; exact h
 ·have h := hc 4 (by decide); rw [e4] at h; exact h
theorem MineS.appendB {α : Type} {K : Kd α} {S : Nat → Prop} {w : World} {B : Nat} {L : List α} {lv : Value} {y : α} {b : Nat} {cs : Array Value} {t : TypeId} {fz : Nat × Nat} {c : Nat → Value} (h : MineS K S w B L lv) (hB : B ≤ w.heap.size)
  (hby : (L.length + 1) * K.bytes ≤ 140737488355328) (h63 : L.length + 1 ≤ 140737488355328)
  (hb : w.heap[b]? = some (.cells cs t fz)) (hc : ∀ j, j < K.n → cs[j]? = some (c j)) (hR : K.R (fun b => (S b ∨ B ≤ b) ∧ b < w.heap.size ∧ lv.ownBlock ≠ some b) w y c) (ty : TypeId) :
  ∃ (a : Option Addr) (cap : Nat) (w6 : World), (Builtin.append_ #[K.ST, K.ST] ty #[lv, .slice (some ⟨b, 0, none⟩) 1 1]).run Try.prog w = .ok (.slice a (L.length + 1) cap) w6 ∧ MineS K S w6 B (L ++ [y]) (.slice a (L.length + 1) cap) ∧ w.grownBy w6 lv.ownBlock := by
 obtain ⟨i0, z, hi, hz0, hz1, hz2, hz3⟩ := K.info;obtain ⟨xs, hrow, hr⟩ := h;have keep : ∀ w6 : World, w.grownBy w6 lv.ownBlock → ∀ k, ((S k ∨ B ≤ k) ∧ k < w.heap.size ∧ lv.ownBlock ≠ some k) → w6.heap[k]? = w.heap[k]? := fun w6 hg k hk => hg.block k hk.2.1 (fun e => hk.2.2 e.symm)
 have hn : K.n ≤ cs.size := by
  rcases Nat.lt_or_ge cs.size K.n with hlt | hge
  ·have := hc cs.size hlt; rw [Array.getElem?_eq_none (Nat.le_refl _)] at this; cases this
  ·exact hge
 have hys : ∀ j u, (cs.toList.take K.n)[j]? = some u → j < K.n ∧ cs[j]? = some u := fun j u hj => by
  rw [List.getElem?_take] at hj
  split at hj
  ·rename_i hlt; exact ⟨hlt, by rw [← Array.getElem?_toList]; exact hj⟩
  ·cases hj
 have hyl : (cs.toList.take K.n).length = 1 * K.n := by rw [List.length_take, Array.length_toList]; omega
 obtain ⟨v', w6, hrun, h1, h2, _, h5⟩ := run_append_own_at (P := Try.prog) w B K.ST ty K.T i0 z K.n K.bytes K.und hi hz0 hz1 hz2 hz3 K.pos lv L.length xs hrow ⟨b, 0, none⟩ 1 1 (cs.toList.take K.n) hyl
  (fun j u hj => by
   have e : ((⟨b, 0, none⟩ : Addr).add j) = ⟨b, 0 + j, none⟩ := add_lit' _ _ _;rw [e, Nat.zero_add]
   exact cell_of_block' hb u (hys j u hj).2)
  (fun u hu => by
   obtain ⟨j, hj, rfl⟩ := List.getElem_of_mem hu;obtain ⟨hj1, hj2⟩ := hys j _ (List.getElem?_eq_getElem hj);rw [Option.some.inj (hj2.symm.trans (hc j hj1))]
   exact K.one hR j hj1) (by unfold maxLen; omega) hby hB
 have hsub : ∀ k, ((S k ∨ B ≤ k) ∧ k < w.heap.size ∧ lv.ownBlock ≠ some k) → ((S k ∨ B ≤ k) ∧ k < w6.heap.size ∧ v'.ownBlock ≠ some k) := fun k hk => ⟨hk.1, Nat.lt_of_lt_of_le hk.2.1 h2.size, fun e => by
  rcases h5 with h5 | h5
  ·exact hk.2.2 (h5.symm.trans e)
  ·rw [h5] at e; have := Option.some.inj e; omega⟩
 have hm : MineS K S w6 B (L ++ [y]) v' := by
  refine ⟨xs ++ cs.toList.take K.n, by rw [List.length_append]; exact h1, fun i hi' => ?_⟩
  by_cases hlt : i < L.length
  ·obtain ⟨c', hc', hR'⟩ := hr i hlt
   refine ⟨c', fun j hj => ?_, by rw [List.getElem_append_left hlt]; exact K.on hsub (keep w6 h2) hR'⟩
   have hil : i * K.n + j < xs.length := by
    rw [hrow.1];have : (i + 1) * K.n ≤ L.length * K.n := Nat.mul_le_mul_right _ hlt;rw [Nat.succ_mul] at this; omega
   rw [List.getElem?_append_left hil]; exact hc' j hj
  ·obtain rfl : i = L.length := by simp at hi'; omega
   refine ⟨c, fun j hj => ?_, by rw [List.getElem_append_right (Nat.le_refl _)]; simpa using K.on hsub (keep w6 h2) hR⟩;rw [List.getElem?_append_right (by rw [hrow.1]; omega), hrow.1, show L.length * K.n + j - L.length * K.n = j by omega, List.getElem?_take, if_pos hj, Array.getElem?_toList];exact hc j hj
 obtain ⟨a, cap, rfl⟩ := OwnK.form hm;rw [List.length_append, List.length_singleton] at hrun hm;exact ⟨a, cap, w6, hrun, hm, h2⟩
theorem MineS.slgB {α : Type} {K : Kd α} {S : Nat → Prop} {w : World} {B : Nat} {l : List α} {v : Value} (h : MineS K S w B l v) (hby : l.length * K.bytes ≤ 140737488355328) : SlG (fun b => (S b ∨ B ≤ b) ∧ b < w.heap.size) w K.n K.bytes (K.R (fun b => (S b ∨ B ≤ b) ∧ b < w.heap.size) w) l v := by
 obtain ⟨xs, ⟨hlen, hown⟩, hr⟩ := h;rcases hown with ⟨rfl, hn⟩ | ⟨g, cap, cur, rfl, hbg, hh, hnc, hcm, hcs, htk⟩
 ·obtain rfl : l = [] := List.length_eq_zero_iff.1 hn
  exact ⟨none, 0, 0, 0, rfl, Nat.le_refl _, by simp, fun h => by omega, fun h => by simp at h, fun i hi => by simp at hi⟩
 ·have hgl := (Array.getElem?_eq_some_iff.1 hh).1
  refine ⟨_, g, 0, cap, rfl, hnc, hby, fun _ => rfl, fun _ => ⟨.inr hbg, hgl⟩, fun i hi => ?_⟩;obtain ⟨c, hc, hR⟩ := hr i hi;refine ⟨c, fun j hj => ?_, K.on (fun k hk => ⟨hk.1, hk.2.1⟩) (fun _ _ => rfl) hR⟩;have h1 := hc j hj;rw [← htk, List.getElem?_take] at h1
  have hlt : i * K.n + j < l.length * K.n := by
   have : (i + 1) * K.n ≤ l.length * K.n := Nat.mul_le_mul_right _ hi;rw [Nat.succ_mul] at this; omega
  rw [if_pos hlt] at h1;rw [show 0 + i * K.n + j = i * K.n + j by omega];exact cell_of_block' hh _ (by rw [← Array.getElem?_toList]; exact h1)
def lookZ (s : ByteArray) : List Bd → Option V
 | [] => none
 | x :: l => if (x.1.toList == s.toList) = true then some x.2 else lookZ s l
def opO (s : ByteArray) : List V → Option V
 | [x, y] => (opZ s x y).map numV
 | _ => none
mutual
/-- What a term is. -/
def evalM (E : List Bd) : Tm → Option V
 | .mk k s x l =>
  if k = 1 then lookZ s E else if k = 2 then some x
  else if k = 3 then (match evalL E l with | none => none | some m => callV (fnOf s) m)
  else if k = 4 then (match evalL E l with | none => none | some m => opO s m)
  else none
def evalL (E : List Bd) : List Tm → Option (List V)
 | [] => some []
 | t :: l => match evalM E t with
  | none => none
  | some x => match evalL E l with
   | none => none
   | some m => some (x :: m)
end
theorem evalM_mk (E : List Bd) (k : Int) (s : ByteArray) (x : V) (l : List Tm) : evalM E (.mk k s x l) =
  if k = 1 then lookZ s E else if k = 2 then some x
  else if k = 3 then (match evalL E l with | none => none | some m => callV (fnOf s) m)
  else if k = 4 then (match evalL E l with | none => none | some m => opO s m)
  else none := by rw [evalM]
theorem evalM_eq (E : List Bd) (t : Tm) : evalM E t =
  if t.kind = 1 then lookZ t.name E else if t.kind = 2 then some t.val
  else if t.kind = 3 then (match evalL E t.args with | none => none | some m => callV (fnOf t.name) m)
  else if t.kind = 4 then (match evalL E t.args with | none => none | some m => opO t.name m)
  else none := by cases t; exact evalM_mk ..
theorem evalL_nil (E : List Bd) : evalL E [] = some [] := by rw [evalL]
theorem evalL_cons (E : List Bd) (t : Tm) (l : List Tm) : evalL E (t :: l) = match evalM E t with | none => none | some x => match evalL E l with | none => none | some m => some (x :: m) := by rw [evalL]
theorem evalL_len (E : List Bd) : ∀ (l : List Tm) (m : List V), evalL E l = some m → m.length = l.length
 | [], m, h => by rw [evalL_nil] at h; cases h; rfl
 | t :: l, m, h => by
  rw [evalL_cons] at h
  match he : evalM E t, h with
  | some x, h =>
   match hl : evalL E l, h with
   | some m', h =>
    cases h
    simp [evalL_len E l m' hl]
theorem evalL_snoc (E : List Bd) : ∀ (l : List Tm) (t : Tm), evalL E (l ++ [t]) = match evalL E l with | none => none | some m => match evalM E t with | none => none | some x => some (m ++ [x])
 | [], t => by
  rw [List.nil_append, evalL_cons, evalL_nil]
  cases evalM E t <;> rfl
 | a :: l, t => by
  rw [List.cons_append, evalL_cons, evalL_cons, evalL_snoc E l t]
  cases evalM E a with
  | none => rfl
  | some x =>
   cases evalL E l with
   | none => rfl
   | some m => cases evalM E t <;> rfl
theorem evalL_none (E : List Bd) (l : List Tm) (k : Nat) (h : evalL E (l.take k) = none) : evalL E l = none := by
 have : ∀ (a b : List Tm), evalL E a = none → evalL E (a ++ b) = none := by
  intro a b
  induction a with
  | nil => intro h; rw [evalL_nil] at h; cases h
  | cons t a ih =>
   intro h;rw [List.cons_append, evalL_cons];rw [evalL_cons] at h
   cases ht : evalM E t with
   | none => rfl
   | some x =>
    rw [ht] at h
    cases ha : evalL E a with
    | none => rw [ih ha]
    | some m => rw [ha] at h; cases h
 rw [← List.take_append_drop k l];exact this _ _ h
def withZ : List (Tm × V) → List Bd → List Bd
 | [], E => E
 | (t, x) :: l, E => withZ l (if t.kind = 1 ∧ lookZ t.name E = none then E ++ [(t.name, x)] else E)
def fitZ (E : List Bd) : List (Tm × V) → Bool
 | [] => true
 | (t, x) :: l => (match evalM E t with | none => false | some y => decide (cmpV y x = 0)) && fitZ E l
def matchZ (l : List Tm) (m : List V) (E : List Bd) : Option (List Bd) :=
 if l.length = m.length ∧ fitZ (withZ (l.zip m) E) (l.zip m) = true then some (withZ (l.zip m) E) else none
def EvPost (S : Nat → Prop) (r : Option V) (w : World) (e : Ending) (w' : World) : Prop :=
 ∃ c0 c1 c2 c3, e = .returned (.tuple #[.agg #[c0, c1, c2, c3], .bool r.isSome]) ∧ RepG (fun b => S b ∨ (w.heap.size ≤ b ∧ b < w'.heap.size)) w' (r.getD zeroV) c0 c1 c2 c3 ∧ Below w.heap.size w w'
end Go.Proofs.Ytbkligcfllakeaa
namespace Go.Proofs.Ytbkligcfllakeaa
theorem lookZ_append (s : ByteArray) : ∀ (E F : List Bd), lookZ s (E ++ F) = match lookZ s E with | some x => some x | none => lookZ s F
 | [], F => rfl
 | x :: E, F => by
  rw [List.cons_append, lookZ, lookZ]
  split
  ·rfl
  ·exact lookZ_append s E F
theorem withZ_cons (t : Tm) (x : V) (l : List (Tm × V)) (E : List Bd) : withZ ((t, x) :: l) E = withZ l (if t.kind = 1 ∧ lookZ t.name E = none then E ++ [(t.name, x)] else E) := rfl
theorem withZ_append : ∀ (a b : List (Tm × V)) (E : List Bd), withZ (a ++ b) E = withZ b (withZ a E)
 | [], _, _ => rfl
 | (t, x) :: a, b, E => by rw [List.cons_append, withZ_cons, withZ_cons, withZ_append a b]
theorem withZ_len (l : List (Tm × V)) (E : List Bd) : E.length ≤ (withZ l E).length ∧ (withZ l E).length ≤ E.length + l.length := by
 induction l generalizing E with
 | nil => exact ⟨Nat.le_refl _, by simp [withZ]⟩
 | cons p l ih =>
  obtain ⟨t, x⟩ := p;rw [withZ_cons]
  by_cases h : t.kind = 1 ∧ lookZ t.name E = none
  ·rw [if_pos h]
   have := ih (E ++ [(t.name, x)]);rw [List.length_append, List.length_singleton] at this;rw [List.length_cons]; omega
  ·rw [if_neg h]
   have := ih E;rw [List.length_cons]; omega
theorem fitZ_iff (E : List Bd) : ∀ (l : List (Tm × V)), fitZ E l = true ↔ ∀ p ∈ l, ∃ y, evalM E p.1 = some y ∧ cmpV y p.2 = 0
 | [] => by simp [fitZ]
 | (t, x) :: l => by
  rw [fitZ, Bool.and_eq_true, fitZ_iff E l]
  constructor
  ·rintro ⟨h1, h2⟩ p hp
   rcases List.mem_cons.1 hp with rfl | hp
   ·cases ht : evalM E t with
    | none => rw [ht] at h1; cases h1
    | some y => rw [ht] at h1; exact ⟨y, rfl, of_decide_eq_true h1⟩
   ·exact h2 p hp
  ·intro h
   refine ⟨?_, fun p hp => h p (List.mem_cons_of_mem _ hp)⟩;obtain ⟨y, h1, h2⟩ := h (t, x) List.mem_cons_self;rw [show evalM E t = some y from h1];exact decide_eq_true h2
theorem fitZ_snoc (E : List Bd) (l : List (Tm × V)) (t : Tm) (x : V) : fitZ E (l ++ [(t, x)]) = (fitZ E l && (match evalM E t with | none => false | some y => decide (cmpV y x = 0))) := by
 induction l with
 | nil =>
  show ((match evalM E t with | none => false | some y => decide (cmpV y x = 0)) && true) = (true && _)
  rw [Bool.true_and, Bool.and_true]
 | cons p l ih =>
  obtain ⟨u, z⟩ := p;rw [List.cons_append, fitZ, ih, fitZ, Bool.and_assoc]
theorem fitZ_take (E : List Bd) (l : List (Tm × V)) (k : Nat) (h : fitZ E (l.take k) = false) : fitZ E l = false := by
 rw [Bool.eq_false_iff] at h ⊢;intro hl;rw [Ne, fitZ_iff] at h;rw [fitZ_iff] at hl;exact h (fun p hp => hl p (List.mem_of_mem_take hp))
theorem matchZ_some {l : List Tm} {m : List V} {E a : List Bd} (h : matchZ l m E = some a) : l.length = m.length ∧ a = withZ (l.zip m) E ∧ ∀ p ∈ l.zip m, ∃ y, evalM a p.1 = some y ∧ cmpV y p.2 = 0 := by
 unfold matchZ at h
 split at h
 ·rename_i h1
  cases h
  exact ⟨h1.1, rfl, (fitZ_iff _ _).1 h1.2⟩
 ·cases h
end Go.Proofs.Ytbkligcfllakeaa
namespace Go.Proofs.Ytbkligcfllakeaa
open Go.RowKit
end Go.Proofs.Ytbkligcfllakeaa
namespace Go.Proofs.Ytbkligcfllakeaa
open Go.RowKit
theorem lg_of_slg {S : Nat → Prop} {w : World} {l : List V} {v : Value} (h : SlG S w 4 56 (fun x c => RepG S w x (c 0) (c 1) (c 2) (c 3)) l v) : RepLG S w l v := by
 obtain ⟨a, b, o, cap, e, h1, h2, h3, h4, h5⟩ := h
 exact ⟨a, b, o, cap, e, h1, h2, h3, h4, fun i hi => by
  obtain ⟨c, hc, hr⟩ := h5 i hi
  exact ⟨c 0, c 1, c 2, c 3, hc 0 (by omega), hc 1 (by omega), hc 2 (by omega), hc 3 (by omega), hr⟩⟩
end Go.Proofs.Ytbkligcfllakeaa
namespace Go.Proofs.Ytbkligcfllakeaa
open Go.RowKit
theorem flat_rep (S : Nat → Prop) (w : World) (k n : Int) (s : ByteArray) (hk : I64 k) (hn : I64 n) (hs : s.size ≤ maxLen) : RepG S w (.mk k n s []) (.int .i64 k) (.int .i64 n) (.string s) (.slice none 0 0) :=
 repG_mk.2 ⟨rfl, rfl, rfl, hk, hn, hs, none, 0, 0, 0, rfl, Nat.le_refl _, by simp, fun h => by omega, fun h => by simp at h, fun i hi => by simp at hi⟩
end Go.Proofs.Ytbkligcfllakeaa
namespace Go.Proofs.Ytbkligcfllakeaa
open Go.RowKit
def BytesAt (w : World) (g : Nat) (l : List UInt8) : Prop :=
 ∃ cur lo hi, w.heap[g]? = some (.cells cur 5 (lo, hi)) ∧ cur.size ≤ lo ∧ l.length ≤ cur.size ∧ ∀ j (h : j < l.length), cur[j]? = some (.int .u8 (l[j].toNat : Int))
theorem BytesAt.cell {w : World} {g : Nat} {l : List UInt8} (h : BytesAt w g l) (j : Nat) (hj : j < l.length) : w.cell? ⟨g, j, none⟩ = some (.int .u8 (l[j].toNat : Int)) := by
 obtain ⟨cur, lo, hi, h1, h2, h3, h4⟩ := h;simp [World.cell?, h1, h4 j hj]
theorem BytesAt.free {w : World} {g : Nat} {l : List UInt8} (h : BytesAt w g l) (j : Nat) (hj : j < l.length) : w.frozen? ⟨g, j, none⟩ = false := by
 obtain ⟨cur, lo, hi, h1, h2, h3, h4⟩ := h;simp only [World.frozen?, h1]
 simp; omega
theorem BytesAt.lt {w : World} {g : Nat} {l : List UInt8} (h : BytesAt w g l) : g < w.heap.size := by
 obtain ⟨cur, lo, hi, h1, _⟩ := h;exact (Array.getElem?_eq_some_iff.1 h1).1
theorem heap_set_any (w : World) (g i : Nat) (cs : Array Value) (t : TypeId) (fz : Nat × Nat) (v : Value) (hg : w.heap[g]? = some (.cells cs t fz)) :
  (w.setCell ⟨g, i, none⟩ v).heap[g]? = some (.cells (cs.setIfInBounds i v) t fz) := by
 rw [setCell_eq_setRow w g i cs t fz v hg];exact setRow_heap w g cs _ t _ hg
theorem BytesAt.set {w : World} {g : Nat} {l : List UInt8} (h : BytesAt w g l) (i : Nat) (c : UInt8) : BytesAt (w.setCell ⟨g, i, none⟩ (.int .u8 (c.toNat : Int))) g (l.set i c) := by
 obtain ⟨cur, lo, hi, h1, h2, h3, h4⟩ := h;refine ⟨_, lo, hi, heap_set_any w g i cur _ _ _ h1, by simpa using h2, by simpa using h3, fun j hj => ?_⟩;simp only [List.length_set] at hj
 rw [Array.getElem?_setIfInBounds, List.getElem_set]
 by_cases e : i = j
 ·rw [if_pos e, if_pos (by omega), if_pos e]
 ·rw [if_neg e, if_neg e]; exact h4 j hj
theorem bytes_new (w : World) (s : ByteArray) : BytesAt (Lib.bytesWorld w 5 s) w.heap.size s.data.toList := by
 refine ⟨_, _, _, Lib.bytesWorld_at_new w _ s, Nat.le_refl _, ?_, fun j hj => ?_⟩
 ·simp [Lib.bytesCells]
 ·have hj' : j < s.size := by simpa using hj
  have := Lib.bytesWorld_cell w 5 s j hj';rw [World.cell?, Lib.bytesWorld_at_new] at this
  simpa [List.getD, hj'] using this
theorem bytes_below (w : World) (s : ByteArray) : Below w.heap.size w (Lib.bytesWorld w 5 s) :=
 ⟨by simp [Lib.bytesWorld, World.freeze]; rfl, by simp [Lib.bytesWorld, World.freeze], by simp [Lib.bytesWorld, World.freeze]; rfl, by rw [Lib.bytesWorld_size]; omega, fun k hk => Lib.bytesWorld_at_old w _ s k hk⟩
theorem conv_to (w : World) (s : ByteArray) : (convert 9 25 (.string s)).run Try.prog w = .ok (.slice (some ⟨w.heap.size, 0, none⟩) s.size (grownCap w s.size 0 5)) (Lib.bytesWorld w 5 s) :=
 Lib.run_convert_string_bytes w _ _ _ s Try.underlying9 Try.underlying25 Try.underlying5
theorem conv_back (w : World) (g cap : Nat) (l : List UInt8) (h : BytesAt w g l) : (convert 25 9 (.slice (some ⟨g, 0, none⟩) l.length cap)).run Try.prog w = .ok (.string ⟨l.toArray⟩) w :=
 run_convert_bytes_back w _ _ _ ⟨g, 0, none⟩ cap l Try.underlying25 Try.underlying5 Try.underlying9 (fun j hj => by rw [show ((⟨g, 0, none⟩ : Addr).add j) = ⟨g, j, none⟩ from by unfold Addr.add; split <;> simp_all]; exact h.cell j hj)
end Go.Proofs.Ytbkligcfllakeaa
