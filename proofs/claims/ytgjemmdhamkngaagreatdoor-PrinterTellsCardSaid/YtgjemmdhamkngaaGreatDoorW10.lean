/-
  value.Print: a right value's text, and empty of all else.
-/
import Derived.Test.YtgjemmdhamkngaaGreatDoorW09
import Derived.Test.YtgjemmdhamkngaaGreatDoorW03
import Derived.Test.YtgjemmdhamkngaaGreatDoorW06
import Derived.Lib.SmallJoins
import Derived.Maps.AppendAt
namespace Go.Proofs.YtgjemmdhamkngaaGreatDoor
open Go.RowKit

mutual
theorem write_any (x : V) : WriteAt x := by
  cases x with
  | mk k n s l => exact write_of _ (fun l' e => by have e' : l = l' := e; rw [← e']; exact writeList_any l)
  termination_by SizeOf.sizeOf x
  decreasing_by simp only [V.mk.sizeOf_spec]; omega
theorem writeList_any (l : List V) : WriteListAt l := writeList_of l (fun x _hx => write_any x)
  termination_by SizeOf.sizeOf l
  decreasing_by exact List.sizeOf_lt_of_mem _hx
end

theorem decDigits_le : ∀ (k u : Nat), u < 10 ^ (k + 1) → (Lib.decDigits u).length ≤ k + 1
  | k, u, h => by
    rw [Lib.decDigits]
    split
    · simp
    · match k with
      | 0 => simp at h; omega
      | k + 1 =>
        have := decDigits_le k (u / 10) (by rw [Nat.pow_succ] at h; omega)
        simp only [List.length_append, List.length_cons, List.length_nil]
        omega
theorem decDigits_ne (u : Nat) : Lib.decDigits u ≠ [] := by
  rw [Lib.decDigits]; split <;> simp
theorem itoa_le (n : Int) (h : -2147483647 ≤ n ∧ n ≤ 2147483647) : (Lib.itoa n).length ≤ 11 := by
  unfold Lib.itoa
  split
  · have := decDigits_le 9 n.natAbs (by omega)
    simp only [List.length_cons]; omega
  · have := decDigits_le 9 n.toNat (by omega)
    omega
theorem itoa_ne (n : Int) : Lib.itoa n ≠ [] := by
  unfold Lib.itoa
  split
  · simp
  · exact decDigits_ne _

theorem textB_le {s : ByteArray} (h : textB s = true) : s.size ≤ 32 := (of_decide_eq_true h).1
theorem nameB_le {s : ByteArray} (h : nameB s = true) : 1 ≤ s.size ∧ s.size ≤ 16 := ⟨(of_decide_eq_true h).1, (of_decide_eq_true h).2.1⟩
theorem data_length (s : ByteArray) : s.data.toList.length = s.size := by simp

theorem prL_le {b : Nat} : ∀ (l : List V) (first : Bool), (∀ x, x ∈ l → (prV x).length ≤ b) → (prL first l).length ≤ l.length * (b + 1)
  | [], _, _ => by simp [prL]
  | x :: l, first, h => by
    have h1 := h x (by simp)
    have h2 := prL_le l false (fun y hy => h y (by simp [hy]))
    simp only [prL, List.length_append, List.length_cons]
    have h3 : (if first = true then [] else [44] : List UInt8).length ≤ 1 := by split <;> simp
    rw [Nat.succ_mul]
    omega

theorem baseB_cases {k n : Int} {s : ByteArray} {l : List V} {b : Bool} (h : baseB k n s l b = true) :
    (k = 1 ∧ s.toList.isEmpty = true ∧ l = [] ∧ -2147483647 ≤ n ∧ n ≤ 2147483647) ∨ (k = 2 ∧ n = 0 ∧ l = [] ∧ textB s = true) ∨ (k = 3 ∧ n = 0 ∧ l = [] ∧ nameB s = true) ∨ (k = 4 ∧ n = 0 ∧ s.toList.isEmpty = true ∧ b = true) := by
  unfold baseB at h
  split at h
  · simp at h; simp_all
  · split at h
    · simp at h; simp_all
    · split at h
      · simp at h; simp_all
      · split at h
        · simp at h; simp_all
        · cases h

theorem prV_le : ∀ (d : Nat) (x : V), rightV d x = true → (prV x).length ≤ 64 * 20 ^ d ∧ prV x ≠ []
  | d, .mk k n s l, h => by
    have hp : 1 ≤ 20 ^ d := Nat.one_le_pow _ _ (by omega)
    rw [rightV_mk] at h
    rcases baseB_cases h with ⟨rfl, _, _, h1, h2⟩ | ⟨rfl, _, _, h1⟩ | ⟨rfl, _, _, h1⟩ | ⟨rfl, _, _, h1⟩
    · have := itoa_le n ⟨h1, h2⟩
      exact ⟨by simp only [prV, if_true]; omega, by simp only [prV, if_true]; exact itoa_ne n⟩
    · have := textB_le h1
      refine ⟨?_, by simp [prV]⟩
      simp only [prV, if_true]
      rw [if_neg (by decide)]
      simp only [List.length_cons, List.length_append, List.length_nil, data_length]
      omega
    · have := nameB_le h1
      have e : prV (.mk 3 n s l) = s.data.toList := by simp [prV]
      rw [e]
      refine ⟨by rw [data_length]; omega, fun e0 => ?_⟩
      have := data_length s
      rw [e0] at this
      simp at this
      omega
    · have e : prV (.mk 4 n s l) = 91 :: (prL true l ++ [93]) := by simp [prV]
      rw [e]
      refine ⟨?_, by simp⟩
      match d, h1 with
      | d + 1, h1 =>
        simp only [rightL, Bool.and_eq_true, decide_eq_true_eq, List.all_eq_true] at h1
        have hq : 1 ≤ 20 ^ d := Nat.one_le_pow _ _ (by omega)
        have h2 := prL_le (b := 64 * 20 ^ d) l true (fun x hx => (prV_le d x (h1.2 x hx)).1)
        have h3 : l.length * (64 * 20 ^ d + 1) ≤ 16 * (64 * 20 ^ d + 1) := Nat.mul_le_mul_right _ h1.1
        simp only [List.length_cons, List.length_append, List.length_nil]
        rw [Nat.pow_succ]
        omega

theorem ret_str {a b : List UInt8} (h : a = b) : Ending.returned (.string ⟨a.toArray⟩) = .returned (.string ⟨b.toArray⟩) := by rw [h]

/-- What 'Print' tells. -/
def printB (x : V) : List UInt8 := if rightV 4 x = true then prV x else []

set_option maxRecDepth 100000 in
set_option maxHeartbeats 1000000 in
theorem print_any (x : V) (B : Nat) (w : World) (c0 c1 c2 c3 : Value) (hB : B ≤ w.heap.size) (hgB : 0 < w.heap.size) (htab : TabOk w) (hx : RepV B w x c0 c1 c2 c3) :
    Calls Tryz.prog 85 #[.agg #[c0, c1, c2, c3]] w fun e w' => e = .returned (.string ⟨(printB x).toArray⟩) ∧ Below w.heap.size w w' := by
  obtain ⟨fa, fc, rfl, rfl, rfl, rfl⟩ := hx.form
  have HX := Lib.hid hx; clear hx
  have HTAB := Lib.hid htab; clear htab
  have hbb : Below w.heap.size w (w.alloc (.cells #[.int .i64 x.kind, .int .i64 x.num, .string x.text, .slice fa x.list.length fc] 44)) := stands_alloc _ _
  have HBOX := Lib.hid (alloc_new w (.cells #[.int .i64 x.kind, .int .i64 x.num, .string x.text, .slice fa x.list.length fc] 44))
  go_enter Tryz.func85, Tryz.ntmps85
  go_wp2_with fail
  refine (right_any x B _ _ _ _ _ (by simp; omega) (RepV.below (fun j hj => hbb.block j (by omega)) _ HX.out)).mono ?_
  rintro e w1 ⟨rfl, hb1⟩
  have hb2 : Below w.heap.size w w1 := hbb.trans (hb1.mono (by simp))
  have b1 : w1.heap[w.heap.size]? = _ := (hb1.block w.heap.size (by simp)).trans HBOX.out
  have hsz := hb2.size
  have hsz1 : w.heap.size < w1.heap.size := (Array.getElem?_eq_some_iff.1 b1).1
  have d0 := cell_of_block (i := 0) b1 _ rfl
  have d1 := cell_of_block (i := 1) b1 _ rfl
  have d2 := cell_of_block (i := 2) b1 _ rfl
  have d3 := cell_of_block (i := 3) b1 _ rfl
  clear b1
  cases hr : rightV 4 x with
  | false =>
    have HR := Lib.hid hr; clear hr
    go_wp2_with fail
    go_ret
    exact ⟨ret_str (a := []) (by rw [printB, if_neg (by simp [HR.out])]), hb2⟩
  | true =>
    have HR := Lib.hid hr; clear hr
    have HPL := Lib.hid (prV_le 4 x HR.out)
    go_wp2_with fail
    have hfr := Lib.IsBuilderF.of (Lib.fresh_isBuilder 106 5 w1)
    have hs3 : Below w1.heap.size w1 (w1.alloc (.cells #[.pointer none, .slice none 0 0] 106)) := stands_alloc _ _
    have hb3 : Below w.heap.size w (w1.alloc (.cells #[.pointer none, .slice none 0 0] 106)) := hb2.trans (hs3.mono hsz)
    refine (write_any x B w1.heap.size w1.heap.size [] _ _ _ _ _ (by omega) (by simp) (by omega) (HTAB.out.below hgB hb3) (RepV.below (fun j hj => hb3.block j (by omega)) _ HX.out) hfr (by have := HPL.out.1; simp; omega)).mono ?_
    rintro e w2 ⟨rfl, W2⟩
    clear d0 d1 d2 d3
    have W2b : Lib.IsBuilderF 106 5 w1.heap.size w1.heap.size (Lib.byteCells (prV x)) w2 := by simpa using W2.1
    go_wp2_with fail
    refine (Tryz.Builder_String_k _ _ (prV x) _ W2b HPL.out.2).mono ?_
    rintro e w4 ⟨rfl, _, hb4, _⟩
    go_wp2_with fail
    go_ret
    exact ⟨ret_str (a := prV x) (by rw [printB, if_pos HR.out]), (hb3.trans (W2.2.1.mono hsz)).trans (hb4.mono hsz)⟩

end Go.Proofs.YtgjemmdhamkngaaGreatDoor

/-
  The texts of terms, literals, rules, facts and programs, as bytes.
-/
namespace Go.Proofs.YtgjemmdhamkngaaGreatDoor
open Go.RowKit

/-- Texts, with another one between. -/
def sepL (sep : List UInt8) : List (List UInt8) → List UInt8
  | [] => []
  | x :: l => x ++ (l.map fun y => sep ++ y).flatten
theorem sepL_snoc (sep : List UInt8) (l : List (List UInt8)) (x : List UInt8) : sepL sep (l ++ [x]) = sepL sep l ++ ((if l = [] then [] else sep) ++ x) := by
  cases l with
  | nil => simp [sepL]
  | cons y l => simp [sepL]
theorem sepL_take_le (sep : List UInt8) : ∀ (l : List (List UInt8)) (k : Nat), (sepL sep (l.take k)).length ≤ (sepL sep l).length
  | [], k => by simp
  | x :: l, 0 => by simp [sepL]
  | x :: l, k + 1 => by
    have key : ∀ (m : List (List UInt8)) (j : Nat), (((m.take j).map fun y => sep ++ y).flatten).length ≤ ((m.map fun y => sep ++ y).flatten).length := by
      intro m
      induction m with
      | nil => intro j; simp
      | cons y m ih =>
        intro j
        cases j with
        | zero => simp
        | succ j => have := ih j; simp only [List.take_succ_cons, List.map_cons, List.flatten_cons, List.length_append]; omega
    have := key l k
    simp only [List.take_succ_cons, sepL, List.length_append]; omega

/-- A term's text. -/
def showM : Tm → List UInt8
  | .mk k s x l => if k = 1 then s.data.toList
    else if k = 2 then printB x
    else if k = 3 then s.data.toList ++ (40 :: (sepL [44] (l.attach.map fun y => showM y.1) ++ [41]))
    else if k = 4 then 40 :: (sepL s.data.toList (l.attach.map fun y => showM y.1) ++ [41])
    else []
  termination_by t => SizeOf.sizeOf t
  decreasing_by
    all_goals
      have := List.sizeOf_lt_of_mem y.2
      simp only [Tm.mk.sizeOf_spec]
      omega
theorem showM_mk (k : Int) (s : ByteArray) (x : V) (l : List Tm) : showM (.mk k s x l) = if k = 1 then s.data.toList
    else if k = 2 then printB x
    else if k = 3 then s.data.toList ++ (40 :: (sepL [44] (l.map showM) ++ [41]))
    else if k = 4 then 40 :: (sepL s.data.toList (l.map showM) ++ [41])
    else [] := by
  rw [showM]
  have e : (l.attach.map fun y => showM y.1) = l.map showM := by simp
  rw [e]
/-- An atom's text, of its arguments' texts. -/
def showAtom (s : ByteArray) (l : List (List UInt8)) : List UInt8 := s.data.toList ++ (40 :: 64 :: (sepL [44] l ++ [41]))
def showLi (x : Li) : List UInt8 :=
  if x.kind = 1 then showAtom x.name (x.args.map showM)
  else if x.kind = 2 then 33 :: showAtom x.name (x.args.map showM)
  else if x.kind = 3 then sepL (32 :: (x.name.data.toList ++ [32])) (x.args.map showM)
  else if x.kind = 4 then x.name.data.toList ++ (32 :: 58 :: 61 :: 32 :: ((x.args.map showM).head?.getD []))
  else []
/-- A head's arguments: the one that the aggregate is of stands within it. -/
def aggAt (x : Ru) (i : Nat) (t : List UInt8) : List UInt8 := if x.agg.toList.isEmpty = true ∨ (i : Int) ≠ x.at' then t else x.agg.data.toList ++ (60 :: (t ++ [62]))
def showHead (x : Ru) : List UInt8 := showAtom x.head ((x.args.map showM).mapIdx fun i t => aggAt x i t)
def showRu (x : Ru) : List UInt8 := x.label.data.toList ++ (32 :: (showHead x ++ ([32, 58, 45, 32] ++ (sepL [44, 32] (x.body.map showLi) ++ [46]))))
def showFa (x : Fa) : List UInt8 := showAtom x.name (x.args.map printB) ++ [46]
def showDe (x : De) : List UInt8 := [109, 97, 116, 101, 114, 105, 97, 108, 105, 122, 101] ++ (40 :: (x.name.data.toList ++ (44 :: (Lib.itoa x.arity ++ [41, 46]))))
def linesOf (l : List (List UInt8)) : List UInt8 := (l.map fun t => t ++ [10]).flatten
def showPr (x : Pr) : List UInt8 := linesOf (x.decls.map showDe) ++ (linesOf (x.facts.map showFa) ++ linesOf (x.rules.map showRu))

end Go.Proofs.YtgjemmdhamkngaaGreatDoor

/-
  The document's own digits and Print, as contracts.
-/
namespace Go.Proofs.YtgjemmdhamkngaaGreatDoor
open Go.RowKit

theorem app_mk (l : List UInt8) (b : ByteArray) : (⟨l.toArray⟩ : ByteArray) ++ b = ⟨(l ++ b.data.toList).toArray⟩ := by
  apply ByteArray.ext
  rw [ByteArray.data_append]
  simp
theorem ret_ba {a b : ByteArray} (h : a = b) : Ending.returned (.string a) = .returned (.string b) := by rw [h]

/-- 'string([]byte{b})'. -/
theorem byte_str (w : World) (z : Int) (c : UInt8) (hz : z = (c.toNat : Int)) :
    (convert 104 9 (.slice (some ⟨w.heap.size, 0, none⟩) 1 1)).run Tryz.prog (w.alloc (.cells #[.int .u8 z] 5)) = .ok (.string ⟨#[c]⟩) (w.alloc (.cells #[.int .u8 z] 5)) := by
  have := run_convert_bytes_back (P := Tryz.prog) (w.alloc (.cells #[.int .u8 z] 5)) 104 9 5 ⟨w.heap.size, 0, none⟩ 1 [c] Tryz.underlying104 Tryz.underlying5 Tryz.underlying9 (fun j hj => by
    obtain rfl : j = 0 := by simpa using hj
    rw [show ((⟨w.heap.size, 0, none⟩ : Addr).add 0) = ⟨w.heap.size, 0, none⟩ from by unfold Addr.add; simp]
    rw [cell_of_block' (alloc_new' _ _) (.int .u8 z) rfl, hz]; rfl)
  exact this

theorem digit_u8 (n : Nat) : (48 + (n : Int) % 10) = ((UInt8.ofNat (48 + n % 10)).toNat : Int) := by
  rw [UInt8.toNat_ofNat', Nat.mod_eq_of_lt (by omega)]; omega

set_option maxRecDepth 100000 in
set_option maxHeartbeats 1000000 in
theorem digits_nat : ∀ (n : Nat), n ≤ 9223372036854775807 → ∀ w : World, Calls Tryz.prog 81 #[.int .i64 n] w fun e w' => e = .returned (.string ⟨(Lib.decDigits n).toArray⟩) ∧ Below w.heap.size w w'
  | n, hn, w => by
    have hbs := byte_str w _ _ (digit_u8 n)
    have hbb := (Below.refl _ w).alloc (Nat.le_refl _) (.cells #[.int .u8 (48 + (n : Int) % 10)] 5)
    have t0 : decide ((n : Int) < 0) = false := by simp
    have HDL := Lib.hid (decDigits_le 18 (n / 10) (by omega))
    by_cases h10 : n < 10
    · have HE : Hid (Lib.decDigits n = [UInt8.ofNat (48 + n % 10)]) := by show _ = _; rw [Lib.decDigits, dif_pos h10, Nat.mod_eq_of_lt h10]
      generalize UInt8.ofNat (48 + n % 10) = c at *
      go_enter Tryz.func81, Tryz.ntmps81
      go_wp2_with fail
      go_ret
      exact ⟨ret_ba (by rw [HE.out]), hbb⟩
    · have HE : Hid (Lib.decDigits n = Lib.decDigits (n / 10) ++ [UInt8.ofNat (48 + n % 10)]) := by show _ = _; rw [Lib.decDigits, dif_neg h10]
      have ih := digits_nat (n / 10) (by omega)
      have HIH := Lib.hid ih; clear ih
      generalize UInt8.ofNat (48 + n % 10) = c at *
      go_enter Tryz.func81, Tryz.ntmps81
      go_wp2_with fail
      rw [show ((n : Int) / 10) = ((n / 10 : Nat) : Int) from by omega]
      refine (HIH.out _).mono ?_
      rintro e w2 ⟨rfl, b2⟩
      have B2 := hbb.trans (b2.mono (by simp))
      clear hbs hbb b2
      have hdl := HDL.out
      have hsz := size_mk (Lib.decDigits (n / 10))
      generalize hds : (⟨(Lib.decDigits (n / 10)).toArray⟩ : ByteArray) = ds at *
      have hdsz : ds.size ≤ 19 := by omega
      have HDS := Lib.hid hds
      clear hds hsz hdl
      go_wp2_with fail
      go_ret
      exact ⟨ret_ba (by rw [HE.out, ← HDS.out, app_mk]), B2⟩
  termination_by n => n
  decreasing_by omega

set_option maxRecDepth 100000 in
set_option maxHeartbeats 1000000 in
theorem digits_any (n : Int) (h1 : -9223372036854775807 ≤ n) (h2 : n ≤ 9223372036854775807) (w : World) : Calls Tryz.prog 81 #[.int .i64 n] w fun e w' => e = .returned (.string ⟨(Lib.itoa n).toArray⟩) ∧ Below w.heap.size w w' := by
  by_cases h : n < 0
  · have HE : Hid (Lib.itoa n = 45 :: Lib.decDigits n.natAbs) := by show _ = _; rw [Lib.itoa, if_pos h]
    have t0 : decide (n < 0) = true := by simpa using h
    go_enter Tryz.func81, Tryz.ntmps81
    go_wp2_with fail
    rw [show (-n) = ((n.natAbs : Nat) : Int) from by omega]
    refine (digits_nat n.natAbs (by omega) _).mono ?_
    rintro e w2 ⟨rfl, b2⟩
    have hdl := decDigits_le 18 n.natAbs (by omega)
    have hsz := size_mk (Lib.decDigits n.natAbs)
    generalize hds : (⟨(Lib.decDigits n.natAbs).toArray⟩ : ByteArray) = ds at *
    have hdsz : ds.size ≤ 19 := by omega
    have HDS := Lib.hid hds
    clear hds hsz hdl
    go_wp2_with fail
    go_ret
    exact ⟨ret_ba (by rw [HE.out, ← HDS.out]; exact app_mk [45] _), b2⟩
  · have HE : Hid (Lib.itoa n = Lib.decDigits n.toNat) := by show _ = _; rw [Lib.itoa, if_neg h]
    have e : n = ((n.toNat : Nat) : Int) := by omega
    rw [HE.out]
    have hd := digits_nat n.toNat (by omega) w
    rw [← e] at hd
    exact hd

end Go.Proofs.YtgjemmdhamkngaaGreatDoor

/-
  The document's own 'joined': texts, with another one between.
-/
namespace Go.Proofs.YtgjemmdhamkngaaGreatDoor
open Go.RowKit

/-- A row of texts. -/
def StrAt (w : World) (l : List ByteArray) (v : Value) : Prop :=
  ∃ (a : Option Addr) (cap : Nat), v = .slice a l.length cap ∧ l.length ≤ cap ∧ (0 < l.length → ∃ b o, a = some ⟨b, o, none⟩ ∧ ∀ i (h : i < l.length), w.cell? ⟨b, o + i, none⟩ = some (.string l[i]))

theorem sepL_up (sep : List UInt8) (m : List (List UInt8)) (k : Nat) (hk : k < m.length) : sepL sep (m.take (k + 1)) = sepL sep (m.take k) ++ ((if k = 0 then [] else sep) ++ m[k]) := by
  rw [List.take_succ_eq_append_getElem hk, sepL_snoc]
  by_cases e : k = 0
  · subst e; simp
  · rw [if_neg (by simp [e]; intro h; rw [h] at hk; simp at hk), if_neg e]

set_option maxRecDepth 100000 in
set_option maxHeartbeats 4000000 in
theorem joined_any (l : List ByteArray) (s : ByteArray) (v : Value) (w : World) (h : StrAt w l v) (hl : l.length ≤ 100) (hlen : (sepL s.data.toList (l.map fun x => x.data.toList)).length ≤ 140737488355328) :
    Calls Tryz.prog 44 #[v, .string s] w fun e w' => e = .returned (.string ⟨(sepL s.data.toList (l.map fun x => x.data.toList)).toArray⟩) ∧ w = w' := by
  obtain ⟨a, cap, rfl, hcap, hc⟩ := h
  have HC := Lib.hid hc; clear hc
  obtain ⟨m, hm⟩ : ∃ m, (l.map fun x => x.data.toList) = m := ⟨_, rfl⟩
  have hml : m.length = l.length := by rw [← hm, List.length_map]
  have HG : Hid (∀ k (h1 : k < l.length) (h2 : k < m.length), m[k] = l[k].data.toList) := by
    show ∀ _, _
    intro k h1 h2
    simp [← hm]
  rw [hm] at hlen ⊢
  have HLE := Lib.hid hlen
  clear hm hlen
  go_enter Tryz.func44, Tryz.ntmps44
  go_wp2_with fail
  go_loop [5, 6] (fun v i => ∃ k : Nat, k ≤ l.length ∧ i = .int .i64 k ∧ v = .string ⟨(sepL s.data.toList (m.take k)).toArray⟩) (fun _ i => l.length - (intOf i).toNat)
  case atStart => exact ⟨0, Nat.zero_le _, rfl, by simp [sepL]⟩
  case round =>
    obtain ⟨k, hk, rfl, rfl⟩ := hrel
    by_cases hlt : k < l.length
    · obtain ⟨b, o, rfl, hcell⟩ := HC.out (by omega)
      have g := hcell k hlt
      have hle := sepL_take_le s.data.toList m (k + 1)
      have hlm := HLE.out
      have HTS := Lib.hid (sepL_up s.data.toList m k (by omega))
      have hts : (sepL s.data.toList (m.take (k + 1))).length = (sepL s.data.toList (m.take k)).length + ((if k = 0 then [] else s.data.toList).length + l[k].data.toList.length) := by rw [HTS.out, HG.out k hlt (by omega)]; simp only [List.length_append]
      have HGK := Lib.hid (HG.out k hlt (by omega))
      have hz : l[k].data.toList.length = l[k].size := by rw [Array.length_toList]; rfl
      have hsz : s.data.toList.length = s.size := by rw [Array.length_toList]; rfl
      have hb0 : (⟨(sepL s.data.toList (m.take k)).toArray⟩ : ByteArray).size = (sepL s.data.toList (m.take k)).length := size_mk _
      clear hcell
      by_cases hk0 : k = 0
      · have t0 : decide (0 < k) = false := by simp [hk0]
        have hts0 : (⟨(sepL s.data.toList (m.take k)).toArray⟩ : ByteArray).size + l[k].size ≤ 140737488355328 := by rw [hb0]; rw [if_pos hk0] at hts; simp only [List.length_nil] at hts; omega
        have HK0 := Lib.hid hk0
        obtain ⟨sb, hsb⟩ : ∃ b : ByteArray, (⟨(sepL s.data.toList (m.take k)).toArray⟩ : ByteArray) = b := ⟨_, rfl⟩
        have HSB := Lib.hid hsb
        rw [hsb] at hts0 ⊢
        clear hk0 hle hts hz hsz hb0 hlm hsb
        generalize l[k] = z at *
        go_wp2_with fail
        go_round
        case rel => exact ⟨k + 1, by omega, by go_num, by
          rw [HTS.out, if_pos HK0.out, HGK.out, ← HSB.out, app_mk]; simp⟩
        case measure => simp [intOf]; omega
      · have t0 : decide (0 < k) = true := by simp; omega
        have t1 : 0 < k := by omega
        have hts0 : (⟨(sepL s.data.toList (m.take k)).toArray⟩ : ByteArray).size + s.size + l[k].size ≤ 140737488355328 := by rw [hb0]; rw [if_neg hk0] at hts; omega
        have HK0 := Lib.hid hk0
        obtain ⟨sb, hsb⟩ : ∃ b : ByteArray, (⟨(sepL s.data.toList (m.take k)).toArray⟩ : ByteArray) = b := ⟨_, rfl⟩
        have HSB := Lib.hid hsb
        rw [hsb] at hts0 ⊢
        clear hk0 hle hts hz hsz hb0 hlm hsb
        generalize l[k] = z at *
        go_wp2_with fail
        go_round
        case rel => exact ⟨k + 1, by omega, by go_num, by
          rw [HTS.out, if_neg HK0.out, HGK.out, ← HSB.out]
          refine congrArg Value.string (ByteArray.ext ?_)
          simp only [ByteArray.data_append]
          simp⟩
        case measure => simp [intOf]; omega
    · have HK : Hid (m.take k = m) := by show _ = _; rw [List.take_of_length_le (by omega)]
      rw [HK.out]
      go_wp2_with fail
      go_ret
      exact ⟨rfl, rfl⟩

end Go.Proofs.YtgjemmdhamkngaaGreatDoor

/-
  The document's own 'printed': the texts of some terms; a row of texts that grows.
-/
namespace Go.Proofs.YtgjemmdhamkngaaGreatDoor
open Go.RowKit

theorem infoStr : (Tryz.prog.info? 9).map (fun i => (i.zero, i.size, i.bytes)) = some (some (.string ⟨#[]⟩), 1, 16) := by kernel_rfl
theorem infoS_parts : ∃ i : TypeInfo, Tryz.prog.info? 9 = some i ∧ i.zero = some (.string ⟨#[]⟩) ∧ i.size = 1 ∧ i.bytes = 16 := by
  have h := infoStr
  cases hi : Tryz.prog.info? 9 with
  | none => rw [hi] at h; cases h
  | some i =>
    rw [hi] at h
    simp only [Option.map_some, Option.some.injEq, Prod.mk.injEq] at h
    exact ⟨i, rfl, h.1, h.2.1, h.2.2⟩
def strCells (l : List ByteArray) : List Value := l.map .string
/-- The call's own row of texts. -/
def OwnS (w : World) (base : Nat) (v : Value) (l : List ByteArray) : Prop := w.ownsRow base 9 1 v l.length (strCells l)
theorem OwnS.nil (w : World) (base : Nat) : OwnS w base (.slice none 0 0) [] := World.ownsRow_nil _ _ _ _
theorem OwnS.form {w : World} {base : Nat} {l : List ByteArray} {v : Value} (h : OwnS w base v l) : ∃ a cap, v = .slice a l.length cap := by
  obtain ⟨_, hown⟩ := h
  rcases hown with ⟨rfl, hn⟩ | ⟨g, cap, cur, rfl, _⟩
  · exact ⟨none, 0, by rw [hn]⟩
  · exact ⟨_, _, rfl⟩
theorem OwnS.lies {w : World} {base : Nat} {l : List ByteArray} {v : Value} (h : OwnS w base v l) (k : Nat) (hk : v.ownBlock = some k) : base ≤ k ∧ k < w.heap.size := by
  obtain ⟨_, hown⟩ := h
  rcases hown with ⟨rfl, hn⟩ | ⟨g, cap, cur, rfl, hbg, hh, _⟩
  · simp [Value.ownBlock] at hk
  · simp [Value.ownBlock] at hk
    subst hk
    exact ⟨hbg, (Array.getElem?_eq_some_iff.1 hh).1⟩
theorem OwnS.on {w w' : World} {base : Nat} {l : List ByteArray} {v : Value} (h : OwnS w base v l) (ho : ∀ k, base ≤ k → k < w.heap.size → v.ownBlock = some k → w'.heap[k]? = w.heap[k]?) : OwnS w' base v l := by
  obtain ⟨hlen, hown⟩ := h
  refine ⟨hlen, ?_⟩
  rcases hown with h | ⟨g, cap, cur, rfl, hbg, hh, r⟩
  · exact .inl h
  · exact .inr ⟨g, cap, cur, rfl, hbg, (ho g hbg (Array.getElem?_eq_some_iff.1 hh).1 rfl).trans hh, r⟩
theorem OwnS.stands {w w' : World} {base : Nat} {l : List ByteArray} {v : Value} (h : OwnS w base v l) (hb : Below w.heap.size w w') : OwnS w' base v l := h.on fun k _ hk _ => hb.block k hk
theorem OwnS.down {w : World} {base base' : Nat} {l : List ByteArray} {v : Value} (h : OwnS w base v l) (hb : base' ≤ base) : OwnS w base' v l := by
  obtain ⟨hlen, hown⟩ := h
  refine ⟨hlen, ?_⟩
  rcases hown with h | ⟨g, cap, cur, rfl, hbg, r⟩
  · exact .inl h
  · exact .inr ⟨g, cap, cur, rfl, by omega, r⟩
theorem OwnS.rows {w : World} {base : Nat} {l : List ByteArray} {v : Value} (h : OwnS w base v l) : StrAt w l v := by
  obtain ⟨hlen, hown⟩ := h
  rcases hown with ⟨h1, hn⟩ | ⟨g, cap', cur, h1, hbg, hh, hnc, hcm, hcs, htk⟩
  · exact ⟨none, 0, by rw [h1, hn], by omega, fun h => by omega⟩
  · refine ⟨_, cap', h1, hnc, fun _ => ⟨g, 0, rfl, fun i hi => ?_⟩⟩
    have hv : (strCells l)[i]? = some (.string l[i]) := by simp [strCells, hi]
    rw [← htk, List.getElem?_take, if_pos (by omega)] at hv
    rw [Nat.zero_add]
    exact cell_of_block' hh _ (by rw [← Array.getElem?_toList]; exact hv)

theorem add_litS (b j : Nat) : ((⟨b, 0, none⟩ : Addr).add j) = ⟨b, j, none⟩ := by unfold Addr.add; split <;> simp_all
/-- 'append(out, s)'. -/
theorem str_append {W : World} {base : Nat} {l : List ByteArray} {v : Value} (hown : OwnS W base v l) (hbase : base ≤ W.heap.size) (hlen : l.length ≤ 1000000) (x : ByteArray) (ty : TypeId) :
    ∃ (a : Option Addr) (n cap : Nat) (w6 : World), (Builtin.append_ #[74, 74] ty #[v, .slice (some ⟨W.heap.size, 0, none⟩) 1 1]).run Tryz.prog (W.alloc (.cells #[.string x] 9)) = .ok (.slice a n cap) w6 ∧
      OwnS w6 base (.slice a n cap) (l ++ [x]) ∧ Below base W w6 := by
  obtain ⟨i0, hi, hz0, hz1, hz2⟩ := infoS_parts
  have hbW := below_alloc W (.cells #[.string x] 9)
  have hsW := World.size_alloc W (.cells #[.string x] 9)
  have hnew := alloc_new' W (.cells #[.string x] 9)
  generalize W.alloc (.cells #[.string x] 9) = W' at *
  have hm := hown.stands hbW
  obtain ⟨v', w6, hrun, h1, h2, _, h5⟩ := run_append_own_at (P := Tryz.prog) W' base 74 ty 9 i0 _ 1 16 Tryz.underlying74 hi hz0 hz1 hz2 rfl (by decide) v l.length (strCells l) hm ⟨W.heap.size, 0, none⟩ 1 1 [.string x] rfl
    (fun j u hj => by
      have e : ((⟨W.heap.size, 0, none⟩ : Addr).add j) = ⟨W.heap.size, j, none⟩ := add_litS _ _
      rw [e]
      exact cell_of_block' hnew u (by rw [← hj]; simp))
    (fun u hu => by simp at hu; rw [hu]; rfl) (by unfold maxLen; omega) (by omega) (by omega)
  have ho : OwnS w6 base v' (l ++ [x]) := by
    show w6.ownsRow _ _ _ _ _ _
    rw [List.length_append, show strCells (l ++ [x]) = strCells l ++ [.string x] by simp [strCells]]; exact h1
  obtain ⟨a, cap, rfl⟩ := ho.form
  have hgs := h2.size
  refine ⟨a, _, cap, w6, hrun, ho, h2.os.trans hbW.os, h2.tape.trans hbW.tape, h2.output.trans hbW.output, by omega, fun k hk => ?_⟩
  exact (h2.block k (by omega) (fun e => by have := (OwnS.lies hown k e.symm).1; omega)).trans (hbW.block k (by omega))
theorem wpList_append_byS {P : Program} {w w' : World} {ops : Array Oper} {rest : List Oper} {o : Oper} {a : Act} {Q : Exit → Act → World → Prop} (hgd : o.guard = none) (s x : Operand) (t : TypeId)
    (ho : o.op = .call { callee := .builtin .append, args := #[s, x], argTypes := #[t, t] }) {v xv v' : Value} (hs : a.eval s = v) (hx : a.eval x = xv) (hrun : (Builtin.append_ #[t, t] o.type #[v, xv]).run P w = .ok v' w')
    (h : wpList P ops Q rest (a.put o.dst v') w') : wpList P ops Q (o :: rest) a w := by
  refine wpList_plain hgd fun K hK => ?_
  unfold Oper.wp execOp
  simp only [ho, resolve, invoke, builtin, Sem.run_bind, Sem.run_pure, Result.andThen_ok, List.map_toArray, List.map_cons, List.map_nil, hs, hx, hrun]
  exact hK _ _ h

def showB (t : Tm) : ByteArray := ⟨(showM t).toArray⟩
def ShownAt (t : Tm) : Prop := ∀ (d : Nat) (S : Nat → Prop) (w : World) (c0 c1 c2 c3 c4 c5 c6 : Value), (∀ k, S k → k < w.heap.size) → RepM S w t c0 c1 c2 c3 c4 c5 c6 → rightM d t = true → (showM t).length ≤ 140737488355328 →
  Calls Tryz.prog 56 #[.agg #[c0, c1, c2, c3, c4, c5, c6]] w fun e w' => e = .returned (.string (showB t)) ∧ Below w.heap.size w w'

set_option maxRecDepth 100000 in
set_option maxHeartbeats 4000000 in
theorem printed_any (l : List Tm) (hP : ∀ t ∈ l, ShownAt t) (d : Nat) (S : Nat → Prop) (w : World) (a : Value) (hS : ∀ k, S k → k < w.heap.size) (ha : RepMs S w l a) (hr : ∀ t ∈ l, rightM d t = true) (hs : ∀ t ∈ l, (showM t).length ≤ 140737488355328) (hn : l.length ≤ 100) :
    Calls Tryz.prog 47 #[a] w fun e w' => ∃ v, e = .returned v ∧ OwnS w' w.heap.size v (l.map showB) ∧ Below w.heap.size w w' := by
  have HA := Lib.hid ha; have HP := Lib.hid hP; have HR := Lib.hid hr; have HS := Lib.hid hs
  obtain ⟨aa, cap, rfl⟩ := SlG.form ha
  clear ha hP hr hs
  go_enter Tryz.func47, Tryz.ntmps47
  go_wp2_with fail
  go_loopw [3, 4] (fun v i wr => ∃ k : Nat, k ≤ l.length ∧ i = .int .i64 k ∧ OwnS wr w.heap.size v ((l.take k).map showB) ∧ Below w.heap.size w wr) (fun _ i _ => l.length - (intOf i).toNat)
  case atStart => exact ⟨0, Nat.zero_le _, rfl, OwnS.nil _ _, Below.refl _ _⟩
  case round =>
    obtain ⟨k, hk, rfl, hown, hbel⟩ := hrel
    have HB := Lib.hid hbel
    have HO := Lib.hid hown
    obtain ⟨oa, oc, rfl⟩ := hown.form
    clear hown
    have hol : ((l.take k).map showB).length = k := by rw [List.length_map, List.length_take]; omega
    rw [hol] at HO ⊢
    by_cases hl : k < l.length
    · have hA := RepMs.on (fun _ h => h) (fun j hj => hbel.block j (hS j hj)) HA.out
      obtain ⟨-, hcap, lb, lo, ea, ec, ia, ic, rfl, -, g0, g1, g2, g3, g4, g5, g6, g⟩ := RepMs.at hA k hl
      have G := Lib.hid g
      have hz := HP.out l[k] (List.getElem_mem hl)
      have hz1 := HR.out l[k] (List.getElem_mem hl)
      have hz2 := HS.out l[k] (List.getElem_mem hl)
      have HZ := Lib.hid hz; have HZ1 := Lib.hid hz1; have HZ2 := Lib.hid hz2
      have HTK : Hid ((l.take (k + 1)).map showB = (l.take k).map showB ++ [showB l[k]]) := by
        show _ = _
        rw [List.take_succ_eq_append_getElem hl, List.map_append]; rfl
      clear hA g hbel hz hz1 hz2 hol
      generalize l[k] = z at *
      go_wp2_with fail
      refine (HZ.out d S _ _ _ _ _ _ _ _ (fun j hj => Nat.lt_of_lt_of_le (hS j hj) HB.out.size) G.out HZ1.out HZ2.out).mono ?_
      rintro e w3 ⟨rfl, hb3⟩
      have HB3 := Lib.hid (Below.step HB.out hb3)
      have HO3 := Lib.hid (HO.out.stands hb3)
      clear hb3 g0 g1 g2 g3 g4 g5 g6
      have hlk : ((l.take k).map showB).length ≤ 1000000 := by rw [List.length_map, List.length_take]; omega
      generalize showB z = sb at *
      obtain ⟨a6, n6, c6, w6, hrun, ho6, hb6⟩ := str_append HO3.out HB3.out.size hlk sb 74
      have HRUN := Lib.hid hrun; have HO6 := Lib.hid ho6; have HB6 := Lib.hid (HB3.out.trans hb6)
      clear hrun ho6 hb6 hlk
      go_wp2_with (at_builtin; refine wpList_append_byS rfl _ _ _ rfl rfl rfl HRUN.out ?_)
      go_roundw
      case rel => exact ⟨k + 1, by omega, by go_num, by rw [HTK.out]; exact HO6.out, HB6.out⟩
      case measure => simp [intOf]; omega
    · have HT : Hid ((l.take k).map showB = l.map showB) := by show _ = _; rw [List.take_of_length_le (by omega)]
      go_wp2_with fail
      go_ret
      exact ⟨_, rfl, by rw [← HT.out]; exact HO.out, HB.out⟩

end Go.Proofs.YtgjemmdhamkngaaGreatDoor

/-
  The document's own Print, as a contract: it tells what Print tells.
-/
namespace Go.Proofs.YtgjemmdhamkngaaGreatDoor
open Go.RowKit

theorem right_succ : ∀ (d : Nat) (x : V), rightV d x = true → rightV (d + 1) x = true
  | d, .mk k n s l, h => by
    rw [rightV_mk] at h ⊢
    rcases baseB_cases h with ⟨rfl, h1, h2, h3, h4⟩ | ⟨rfl, h1, h2, h3⟩ | ⟨rfl, h1, h2, h3⟩ | ⟨rfl, h1, h2, h3⟩
    · simp [baseB, h1, h2, h3, h4]
    · simp [baseB, h1, h2, h3]
    · simp [baseB, h1, h2, h3]
    · match d, h3 with
      | d + 1, h3 =>
        simp only [rightL, Bool.and_eq_true, decide_eq_true_eq, List.all_eq_true] at h3
        have : rightL (d + 2) l = true := by
          simp only [rightL, Bool.and_eq_true, decide_eq_true_eq, List.all_eq_true]
          exact ⟨h3.1, fun x hx => right_succ d x (h3.2 x hx)⟩
        simp [baseB, h1, h2, this]

def RefPrintAt (x : V) : Prop := ∀ (B : Nat) (w : World) (c0 c1 c2 c3 : Value), B ≤ w.heap.size → RepV B w x c0 c1 c2 c3 →
  Calls Tryz.prog 40 #[.agg #[c0, c1, c2, c3]] w fun e w' => e = .returned (.string ⟨(printB x).toArray⟩) ∧ Below w.heap.size w w'

/-- Behind the call of Right. -/
theorem print_list_elem {l : List V} {n : Int} {s : ByteArray} (h : rightV 4 (.mk 4 n s l) = true) (j : Nat) (hj : j < l.length) : printB l[j] = prV l[j] ∧ l.length ≤ 16 := by
  rw [rightV_mk] at h
  rcases baseB_cases h with ⟨h0, _⟩ | ⟨h0, _⟩ | ⟨h0, _⟩ | ⟨_, _, _, h3⟩
  · omega
  · omega
  · omega
  · simp only [rightL, Bool.and_eq_true, decide_eq_true_eq, List.all_eq_true] at h3
    refine ⟨?_, h3.1⟩
    rw [printB, if_pos (right_succ 3 _ (h3.2 _ (List.getElem_mem hj)))]

set_option maxRecDepth 100000 in
set_option maxHeartbeats 2000000 in
theorem refPrint_of (x : V) (hP : ∀ y, y ∈ x.list → RefPrintAt y) : RefPrintAt x := by
  match x with
  | .mk k n s l =>
  have HP := Lib.hid hP; clear hP
  intro B w c0 c1 c2 c3 hB hx
  have HX := Lib.hid hx
  rw [repV_mk] at hx
  obtain ⟨rfl, rfl, rfl, hk, hn, hs, hl⟩ := hx
  have HL := Lib.hid hl
  obtain ⟨aa, ab, ao, ac, rfl, -⟩ := hl
  have hbb : Below w.heap.size w (w.alloc (.cells #[.int .i64 k, .int .i64 n, .string s, .slice aa l.length ac] 44)) := (Below.refl _ w).alloc (Nat.le_refl _) _
  go_enter Tryz.func40, Tryz.ntmps40
  go_wp2_with fail
  have bx := boxed_new w (.int .i64 k) (.int .i64 n) (.string s) (.slice aa l.length ac)
  generalize w.alloc (.cells #[.int .i64 k, .int .i64 n, .string s, .slice aa l.length ac] 44) = w1 at *
  refine (refRight_any (.mk k n s l) B _ _ _ _ _ (by have := hbb.size; omega) (RepV.below (fun j hj => hbb.block j (by omega)) _ HX.out)).mono ?_
  rintro e w2 ⟨rfl, b2⟩
  have HBX := Lib.hid (bx.on b2); clear bx
  have B2 : Below w.heap.size w w2 := hbb.trans (b2.mono hbb.size)
  clear b2 hbb
  obtain ⟨p0, p1, p2, p3⟩ := HBX.out.cells
  cases hr : rightV 4 (.mk k n s l) with
  | false =>
    have HR := Lib.hid hr; clear hr
    go_wp2_with fail
    go_ret
    exact ⟨ret_str (a := []) (by rw [printB, if_neg (by simp [HR.out])]), B2⟩
  | true =>
    have HPR : Hid (printB (.mk k n s l) = prV (.mk k n s l)) := by show _ = _; rw [printB, if_pos hr]
    have HLE := Lib.hid (prV_le 4 _ hr).1
    have hc := hr
    rw [rightV_mk] at hc
    rcases baseB_cases hc with ⟨rfl, h1, h2, h3, h4⟩ | ⟨rfl, h1, h2, h3⟩ | ⟨rfl, h1, h2, h3⟩ | ⟨rfl, h1, h2, h3⟩
    · clear hc hr h1 h2
      have HE : Hid (prV (.mk 1 n s l) = Lib.itoa n) := by show _ = _; simp [prV]
      go_wp2_with fail
      refine (digits_any n (by omega) (by omega) _).mono ?_
      rintro e w3 ⟨rfl, b3⟩
      go_wp2_with fail
      go_ret
      exact ⟨ret_ba (by rw [HPR.out, HE.out]), B2.trans (b3.mono B2.size)⟩
    · have hsz := textB_le h3
      clear hc hr h1 h2 h3
      have HE : Hid (prV (.mk 2 n s l) = 34 :: (s.data.toList ++ [34])) := by show _ = _; simp [prV]
      go_wp2_with fail
      go_ret
      refine ⟨ret_ba ?_, B2⟩
      rw [HPR.out, HE.out]
      apply ByteArray.ext
      simp only [ByteArray.data_append]
      simp
    · clear hc hr h1 h2 h3
      have HE : Hid (prV (.mk 3 n s l) = s.data.toList) := by show _ = _; simp [prV]
      go_wp2_with fail
      go_ret
      refine ⟨ret_ba ?_, B2⟩
      rw [HPR.out, HE.out]
    · have HEL := Lib.hid (fun j hj => print_list_elem hr j hj)
      clear hc hr h1 h2 h3
      have HE : Hid (prV (.mk 4 n s l) = 91 :: (prL true l ++ [93])) := by show _ = _; simp [prV]
      have hpl : (prL true l).length + 2 ≤ 64 * 20 ^ 4 := by
        have := HLE.out; rw [HE.out] at this
        simp only [List.length_cons, List.length_append, List.length_nil] at this
        omega
      have HPLE := Lib.hid hpl; clear hpl HLE
      have hs2 := B2.size
      obtain ⟨ca, cb, co, cc, hc1, hcl, hc56, hca, hcb, hcx⟩ := RepL.below (w' := w2) (fun j hj => B2.block j (by omega)) HL.out
      cases hc1
      have HCX := Lib.hid hcx; have HCA := Lib.hid hca
      clear hcx hca HL p0 p1 p2 p3
      obtain ⟨p0, p1, p2, p3⟩ := HBX.out.cells
      go_wp2_with fail
      clear p0 p1 p2 p3
      go_loopw [4, 5] (fun v i wr => ∃ j : Nat, j ≤ l.length ∧ i = .int .i64 j ∧ v = .string ⟨(91 :: prL true (l.take j)).toArray⟩ ∧ Below w2.heap.size w2 wr) (fun _ i _ => l.length - (intOf i).toNat)
      case atStart => exact ⟨0, Nat.zero_le _, rfl, by simp [prL], Below.refl _ _⟩
      case round =>
        obtain ⟨j, hj1, rfl, rfl, hbel⟩ := hrel
        obtain ⟨p0, p1, p2, p3⟩ := (HBX.out.on hbel).cells
        have hsr := hbel.size
        have hple := HPLE.out
        have htk : (prL true (l.take j)).length ≤ (prL true l).length := prL_take_le l j
        have hsz0 : (⟨(91 :: prL true (l.take j)).toArray⟩ : ByteArray).size ≤ 20000000 := by rw [size_mk]; simp only [List.length_cons]; omega
        generalize hsb : (⟨(91 :: prL true (l.take j)).toArray⟩ : ByteArray) = sb at *
        have HSB := Lib.hid hsb
        clear hsb hple htk
        by_cases hl : j < l.length
        · obtain ⟨x0, x1, x2, x3, g0, g1, g2, g3, gr⟩ := HCX.out j hl
          have hcb' : cb < B := hcb (by omega)
          obtain rfl := HCA.out (by omega)
          rw [← hbel.cell (by simp; omega)] at g0 g1 g2 g3
          have htk2 : (prL true (l.take (j + 1))).length ≤ (prL true l).length := prL_take_le l (j + 1)
          have hts : prL true (l.take (j + 1)) = prL true (l.take j) ++ ((if j = 0 then [] else [44]) ++ prV l[j]) := by
            rw [List.take_succ_eq_append_getElem hl, prL_snoc]
            by_cases e : j = 0
            · subst e; simp
            · rw [if_neg (by simp [e]; intro h; rw [h] at hl; simp at hl), if_neg e]
          have hvl : (prV l[j]).length ≤ 20000000 := by
            have := HPLE.out
            rw [hts] at htk2
            simp only [List.length_append] at htk2
            omega
          have HTS := Lib.hid hts
          clear hts htk2
          by_cases hj0 : j = 0
          · have t0 : decide (0 < j) = false := by simp [hj0]
            have HJ0 := Lib.hid hj0; clear hj0
            go_wp2_with fail
            refine (HP.out l[j] (List.getElem_mem hl) B _ _ _ _ _ (by omega) (RepV.below (fun i hi => hbel.block i (by omega)) _ gr)).mono ?_
            rintro e w3 ⟨rfl, b3⟩
            rw [(HEL.out j hl).1]
            have B3 := hbel.trans (b3.mono hsr)
            have hsz1 : (⟨(prV l[j]).toArray⟩ : ByteArray).size ≤ 20000000 := by rw [size_mk]; exact hvl
            generalize hpb : (⟨(prV l[j]).toArray⟩ : ByteArray) = pb at *
            have HPB := Lib.hid hpb
            clear hpb g0 g1 g2 g3 p0 p1 p2 p3 b3
            go_wp2_with fail
            go_roundw
            case rel => exact ⟨j + 1, by omega, by go_num, by rw [HTS.out, if_pos HJ0.out, ← HSB.out, ← HPB.out, app_mk]; simp, B3⟩
            case measure => simp [intOf]; omega
          · have t0 : decide (0 < j) = true := by simp; omega
            have t1 : 0 < j := by omega
            have HJ0 := Lib.hid hj0; clear hj0
            go_wp2_with fail
            refine (HP.out l[j] (List.getElem_mem hl) B _ _ _ _ _ (by omega) (RepV.below (fun i hi => hbel.block i (by omega)) _ gr)).mono ?_
            rintro e w3 ⟨rfl, b3⟩
            rw [(HEL.out j hl).1]
            have B3 := hbel.trans (b3.mono hsr)
            have hsz1 : (⟨(prV l[j]).toArray⟩ : ByteArray).size ≤ 20000000 := by rw [size_mk]; exact hvl
            generalize hpb : (⟨(prV l[j]).toArray⟩ : ByteArray) = pb at *
            have HPB := Lib.hid hpb
            clear hpb g0 g1 g2 g3 p0 p1 p2 p3 b3
            go_wp2_with fail
            go_roundw
            case rel => exact ⟨j + 1, by omega, by go_num, by
              rw [HTS.out, if_neg HJ0.out, ← HSB.out, ← HPB.out]
              refine congrArg Value.string (ByteArray.ext ?_)
              simp only [ByteArray.data_append]
              simp, B3⟩
            case measure => simp [intOf]; omega
        · have hke : j = l.length := by omega
          have HSB2 : Hid ((⟨(91 :: prL true l).toArray⟩ : ByteArray) = sb) := by
            have := HSB.out
            rw [hke, List.take_length] at this
            exact this
          clear HSB hke
          go_wp2_with fail
          go_ret
          refine ⟨ret_ba ?_, B2.trans (hbel.mono hs2)⟩
          rw [HPR.out, HE.out, ← HSB2.out]
          apply ByteArray.ext
          simp only [ByteArray.data_append]
          simp

theorem refPrint_any (x : V) : RefPrintAt x := refPrint_of x (fun y _hy => refPrint_any y)
  termination_by SizeOf.sizeOf x
  decreasing_by
    have := List.sizeOf_lt_of_mem _hy
    cases x with
    | mk k n s l => simp only [V.mk.sizeOf_spec, V.list] at *; omega

end Go.Proofs.YtgjemmdhamkngaaGreatDoor
