/-
  TxKit, LocLists, LocPlaces, LocBody
-/
import Derived.Test.YtcmlojigcgihbaaGreatDoorKR21
import Derived.Test.YtcmlojigcgihbaaGreatDoorKR08
import Derived.Test.YtcmlojigcgihbaaGreatDoorKR30
namespace Go.Proofs.YtcmlojigcgihbaaGreatDoor
open Go.RowKit
def TxAt (S : Nat → Prop) (w : World) (l : List ByteArray) (v : Value) : Prop := SlG S w 1 16 (fun x c => c 0 = .string x) l v
def kdS : Kd ByteArray where
 T := 9
 ST := 77
 n := 1
 bytes := 16
 R := fun _ _ x c => c 0 = .string x
 pos := by omega
 few := by omega
 on := fun _ _ h => h
 one := fun h j hj => by
  obtain rfl : j = 0 := by omega
  rw [h]; rfl
 und := Tryz.underlying77
 info := info_of (by kernel_rfl)
def TxOwn (w : World) (B : Nat) (l : List ByteArray) (v : Value) : Prop := OwnK kdS (fun _ => False) w B l v
theorem TxOwn.nil (w : World) (B : Nat) : TxOwn w B [] (.slice none 0 0) := OwnK.nil _ _ _
theorem TxOwn.on {w w' : World} {B : Nat} {l : List ByteArray} {v : Value} (h : TxOwn w B l v) (hb : Below w.heap.size w w') : TxOwn w' B l v :=
 OwnK.on h (fun _ h => h) (fun _ h => h.elim) (fun k _ hk _ => hb.block k hk)
theorem TxOwn.lies {w : World} {B : Nat} {l : List ByteArray} {v : Value} (h : TxOwn w B l v) (k : Nat) (hk : v.ownBlock = some k) : B ≤ k ∧ k < w.heap.size := OwnK.lies h k hk
theorem TxOwn.at {w : World} {B : Nat} {l : List ByteArray} {v : Value} (h : TxOwn w B l v) (hl : l.length ≤ 100000) : TxAt (fun b => B ≤ b ∧ b < w.heap.size) w l v :=
 OwnK.slg' h (fun _ h => h.elim) (fun _ h1 h2 => ⟨h1, h2⟩) hl
theorem TxAt.on {S S' : Nat → Prop} {w w' : World} {l : List ByteArray} {v : Value} (h : TxAt S w l v) (hS : ∀ k, S k → S' k) (hw : ∀ k, S k → w'.heap[k]? = w.heap[k]?) : TxAt S' w' l v :=
 SlG.on hS hw (fun _ _ _ h => h) h
theorem TxAt.one (w : World) (s : ByteArray) : TxAt (fun b => b = w.heap.size) (w.alloc (.cells #[.string s] 9)) [s] (.slice (some ⟨w.heap.size, 0, none⟩) 1 1) :=
 one_row (K := kdS) (S := fun _ => False) (c := fun _ => .string s) (alloc_new' w _) rfl (fun j hj => by
  obtain rfl : j = 0 := by have : kdS.n = 1 := rfl; omega
  rfl) rfl
theorem tx_append {w : World} {B : Nat} {L : List ByteArray} {lv : Value} (h : TxOwn w B L lv) (hB : B ≤ w.heap.size) (hlen : L.length ≤ 1000) (s : ByteArray) :
  ∃ (a : Option Addr) (cap : Nat) (w6 : World), (Builtin.append_ #[77, 77] 77 #[lv, .slice (some ⟨w.heap.size, 0, none⟩) 1 1]).run Tryz.prog (w.alloc (.cells #[.string s] 9)) = .ok (.slice a (L.length + 1) cap) w6 ∧
   TxOwn w6 B (L ++ [s]) (.slice a (L.length + 1) cap) ∧ Below B w w6 ∧ (∀ k, k < w.heap.size → lv.ownBlock ≠ some k → w6.heap[k]? = w.heap[k]?) ∧ (∀ k, k < w.heap.size → (Value.slice a (L.length + 1) cap).ownBlock = some k → lv.ownBlock = some k) := by
 have hbW := below_alloc w (.cells #[.string s] 9);have h1 := h.on hbW;have hone := TxAt.one w s;have hsz := World.size_alloc w (.cells #[.string s] 9);generalize w.alloc (.cells #[.string s] 9) = W at *;obtain ⟨v', w6, hrun, ho, hg, h5⟩ := own_manyH (K := kdS) (S := fun _ => False) (m := [s]) h1 hone (fun _ h => h.elim) (by omega) (by simp; omega) 77;obtain ⟨a, cap, rfl⟩ := OwnK.form ho;rw [List.length_append, List.length_singleton] at hrun ho h5;have hgs := hg.size;refine ⟨a, cap, w6, hrun, ho, ?_, ?_, ?_⟩
 ·refine ⟨hg.os.trans hbW.os, hg.tape.trans hbW.tape, hg.output.trans hbW.output, by omega, fun k hk => ?_⟩
  exact (hg.block k (by omega) (fun e => by have := (h.lies k e.symm).1; omega)).trans (hbW.block k (by omega))
 ·intro k hk hne
  exact (hg.block k (by omega) (fun e => hne e.symm)).trans (hbW.block k hk)
 ·intro k hk he
  rcases h5 with h5 | h5
  ·exact h5.symm.trans he
  ·rw [h5] at he; have := Option.some.inj he; omega
theorem below_two {B : Nat} {w w1 w2 : World} (h : Below B w w1) (h2 : Below B w1 w2) : Below B w w2 :=
 ⟨h2.os.trans h.os, h2.tape.trans h.tape, h2.output.trans h.output, Nat.le_trans h.size h2.size, fun b hb => (h2.block b hb).trans (h.block b hb)⟩
end Go.Proofs.YtcmlojigcgihbaaGreatDoor
namespace Go.Proofs.YtcmlojigcgihbaaGreatDoor
open Go.RowKit
theorem ret_i64 {a b : Int} (h : a = b) : Ending.returned (.int .i64 a) = .returned (.int .i64 b) := by rw [h]
def idxL {α : Type} (p : α → Bool) : List α → Int → Int
 | [], _ => -1
 | x :: l, i => if p x = true then i else idxL p l (i + 1)
theorem idxL_any {α : Type} (p : α → Bool) : ∀ (l : List α) (i : Int), 0 ≤ i → decide (0 ≤ idxL p l i) = l.any p
 | [], _, _ => rfl
 | x :: l, i, h => by
  rw [idxL, List.any_cons]
  split
  ·rename_i hp; rw [hp]; simpa using h
  ·rename_i hp
   rw [idxL_any p l (i + 1) (by omega), Bool.eq_false_iff.2 hp, Bool.false_or]
def sameS (s : ByteArray) (x : ByteArray) : Bool := s.toList == x.toList
theorem any_sameS (l : List ByteArray) (s : ByteArray) : l.any (sameS s) = inB l s := by
 rw [inB]
 congr 1
 funext x
 rw [sameS, Lib.toList_data, Lib.toList_data, Bool.eq_iff_iff, beq_iff_eq, beq_iff_eq];exact ⟨fun h => h.symm, fun h => h.symm⟩
set_option maxRecDepth 100000 in
set_option maxHeartbeats 1000000 in
theorem index_any (l : List ByteArray) (s : ByteArray) (S : Nat → Prop) (w : World) (v : Value) (_hS : ∀ k, S k → k < w.heap.size) (hl : TxAt S w l v) :
  Calls Tryz.prog 118 #[v, .string s] w fun e w' => e = .returned (.int .i64 (idxL (sameS s) l 0)) ∧ Below w.heap.size w w' := by
 have hlb := SlG.bytes hl;have HL := Lib.hid hl;obtain ⟨fa, fc, rfl⟩ := SlG.form hl;clear hl;go_enter Tryz.func118, Tryz.ntmps118
 go_wp2_with fail
 go_loopw [8] (fun i wr => ∃ k : Nat, k ≤ l.length ∧ i = .int .i64 k ∧ Hid (idxL (sameS s) l 0 = idxL (sameS s) (l.drop k) k) ∧ wr = w) (fun i _ => l.length - (intOf i).toNat)
 case atStart => exact ⟨0, Nat.zero_le _, rfl, rfl, rfl⟩
 case round =>
  obtain ⟨k, hk, rfl, hrec, hwr⟩ := hrel;obtain rfl := hwr
  by_cases hl : k < l.length
  ·obtain ⟨-, -, b, o, rfl, -, c, hc, hx⟩ := SlG.at HL.out k hl
   have q0 := hc 0 (by omega);rw [Nat.mul_one, Nat.add_zero, hx] at q0;have HD := Lib.hid (List.drop_eq_getElem_cons hl);clear hc hx;generalize l[k] = z at *
   cases hp : (s.toList == z.toList) with
   | true =>
    have HF : Hid (idxL (sameS s) l 0 = k) := by show _ = _; rw [hrec.out, HD.out, idxL, if_pos (show sameS s z = true from hp)]
    go_wp2_with fail
    go_ret
    exact ⟨ret_i64 HF.out.symm, Below.refl _ _⟩
   | false =>
    have HF : Hid (idxL (sameS s) l 0 = idxL (sameS s) (l.drop (k + 1)) ((k + 1 : Nat) : Int)) := by show _ = _; rw [hrec.out, HD.out, idxL, if_neg (by rw [sameS, hp]; decide)]; rfl
    go_wp2_with fail
    go_roundw
    case rel => exact ⟨k + 1, hl, by go_num, HF, trivial⟩
    case measure => simp [intOf]; omega
  ·have HF : Hid (idxL (sameS s) l 0 = -1) := by show _ = _; rw [hrec.out, List.drop_of_length_le (by omega)]; rfl
   go_wp2_with fail
   go_ret
   exact ⟨ret_i64 HF.out.symm, Below.refl _ _⟩
set_option maxRecDepth 100000 in
set_option maxHeartbeats 1000000 in
theorem contains_any (l : List ByteArray) (s : ByteArray) (S : Nat → Prop) (w : World) (v : Value) (hS : ∀ k, S k → k < w.heap.size) (hl : TxAt S w l v) :
  Calls Tryz.prog 73 #[v, .string s] w fun e w' => e = .returned (.bool (inB l s)) ∧ Below w.heap.size w w' := by
 go_enter Tryz.func73, Tryz.ntmps73
 go_wp2_with fail
 refine (index_any l s S w v hS hl).mono ?_;rintro e w2 ⟨rfl, hb⟩;have HF : Hid (decide (0 ≤ idxL (sameS s) l 0) = inB l s) := by show _ = _; rw [idxL_any _ _ _ (by omega), any_sameS]
 have HB := Lib.hid hb;clear hb;generalize idxL (sameS s) l 0 = r at *;go_wp2_with fail
 go_ret
 exact ⟨ret_bool HF.out, HB.out⟩
set_option maxRecDepth 100000 in
set_option maxHeartbeats 1000000 in
theorem indexAtom_any (l : List Li) (S : Nat → Prop) (w : World) (v : Value) (hS : ∀ k, S k → k < w.heap.size) (hl : RepLis S w l v) :
  Calls Tryz.prog 116 #[v, .func (.func 68) #[] #[]] w fun e w' => e = .returned (.int .i64 (idxL isAt l 0)) ∧ Below w.heap.size w w' := by
 have hlb := SlG.bytes hl;have HL := Lib.hid hl; have HS := Lib.hid hS
 obtain ⟨fa, fc, rfl⟩ := SlG.form hl;clear hl hS;have hen : ∀ args w, Sem.run Tryz.prog (callFunc 68 args) w = .ok (.enter 68 args) w := fun args w => by kernel_rfl
 go_enter Tryz.func116, Tryz.ntmps116
 go_wp2_with fail
 go_loopw [8] (fun i wr => ∃ k : Nat, k ≤ l.length ∧ i = .int .i64 k ∧ Hid (idxL isAt l 0 = idxL isAt (l.drop k) k) ∧ Below w.heap.size w wr) (fun i _ => l.length - (intOf i).toNat)
 case atStart => exact ⟨0, Nat.zero_le _, rfl, rfl, Below.refl _ _⟩
 case round =>
  obtain ⟨k, hk, rfl, hrec, hbel⟩ := hrel
  by_cases hl : k < l.length
  ·have hA := (SlG.on (fun _ h => h) (fun j hj => hbel.block j (HS.out j hj)) (fun x _ c hx => RepLi.on (fun _ h => h) (fun j hj => hbel.block j (HS.out j hj)) hx) HL.out : RepLis S wr l (.slice fa l.length fc))
   obtain ⟨-, -, b, o, ga, gc, rfl, hSb, g0, g1, g2, g⟩ := RepLis.at hA k hl;have HD := Lib.hid (List.drop_eq_getElem_cons hl);have HB := Lib.hid hbel;clear g hSb hA;generalize l[k] = z at *;go_wp2_with fail
   refine (isAtom_any z ga gc wr).mono ?_;rintro e w3 ⟨rfl, hb3⟩;have HB3 := Lib.hid (Below.step HB.out hb3);clear hb3 hbel g0 g1 g2
   cases hp : isAt z with
   | true =>
    have HF : Hid (idxL isAt l 0 = k) := by show _ = _; rw [hrec.out, HD.out, idxL, if_pos hp]
    go_wp2_with fail
    go_ret
    exact ⟨ret_i64 HF.out.symm, HB3.out⟩
   | false =>
    have HF : Hid (idxL isAt l 0 = idxL isAt (l.drop (k + 1)) ((k + 1 : Nat) : Int)) := by show _ = _; rw [hrec.out, HD.out, idxL, if_neg (by rw [hp]; decide)]; rfl
    go_wp2_with fail
    go_roundw
    case rel => exact ⟨k + 1, hl, by go_num, HF, HB3.out⟩
    case measure => simp [intOf]; omega
  ·have HF : Hid (idxL isAt l 0 = -1) := by show _ = _; rw [hrec.out, List.drop_of_length_le (by omega)]; rfl
   go_wp2_with fail
   go_ret
   exact ⟨ret_i64 HF.out.symm, hbel⟩
set_option maxRecDepth 100000 in
set_option maxHeartbeats 1000000 in
theorem containsAtom_any (l : List Li) (S : Nat → Prop) (w : World) (v : Value) (hS : ∀ k, S k → k < w.heap.size) (hl : RepLis S w l v) :
  Calls Tryz.prog 67 #[v, .func (.func 68) #[] #[]] w fun e w' => e = .returned (.bool (l.any isAt)) ∧ Below w.heap.size w w' := by
 go_enter Tryz.func67, Tryz.ntmps67
 go_wp2_with fail
 refine (indexAtom_any l S w v hS hl).mono ?_;rintro e w2 ⟨rfl, hb⟩;have HF : Hid (decide (0 ≤ idxL isAt l 0) = l.any isAt) := by show _ = _; rw [idxL_any _ _ _ (by omega)]
 have HB := Lib.hid hb;clear hb;generalize idxL isAt l 0 = r at *;go_wp2_with fail
 go_ret
 exact ⟨ret_bool HF.out, HB.out⟩
end Go.Proofs.YtcmlojigcgihbaaGreatDoor
namespace Go.Proofs.YtcmlojigcgihbaaGreatDoor
open Go.RowKit Go.Maps
theorem places_take (l : List Li) {k : Nat} (h : k < l.length) : placesL [] (l.take (k + 1)) = if hasPl l[k] = true ∧ inB (placesL [] (l.take k)) (name0 l[k].args) = false then placesL [] (l.take k) ++ [name0 l[k].args] else placesL [] (l.take k) := by
 rw [List.take_succ_eq_append_getElem h, placesL_snoc]
set_option maxRecDepth 100000 in
set_option maxHeartbeats 2000000 in
theorem bodyPlaces_any (l : List Li) (S : Nat → Prop) (w : World) (v : Value) (hS : ∀ k, S k → k < w.heap.size) (hl : RepLis S w l v) (hlen : l.length ≤ 900) (hargs : ∀ x ∈ l, hasPl x = true → 0 < x.args.length) :
  Calls Tryz.prog 70 #[v] w fun e w' => ∃ v', e = .returned v' ∧ TxOwn w' w.heap.size (placesL [] l) v' ∧ Below w.heap.size w w' := by
 have HL := Lib.hid hl; have HS := Lib.hid hS; have HN := Lib.hid hlen; have HA := Lib.hid hargs
 obtain ⟨fa, fc, rfl⟩ := SlG.form hl;clear hl hS hargs;go_enter Tryz.func70, Tryz.ntmps70
 go_wp2_with fail
 go_loopw [3, 8] (fun ov iv wr => ∃ k : Nat, k ≤ l.length ∧ iv = .int .i64 k ∧ Hid (TxOwn wr w.heap.size (placesL [] (l.take k)) ov) ∧ Below w.heap.size w wr) (fun _ iv _ => l.length - (intOf iv).toNat)
 case atStart => exact ⟨0, Nat.zero_le _, rfl, TxOwn.nil _ _, Below.refl _ _⟩
 case round =>
  obtain ⟨k, hk, rfl, hown, hbel⟩ := hrel
  by_cases hl : k < l.length
  ·have hA := (SlG.on (fun _ h => h) (fun j hj => hbel.block j (HS.out j hj)) (fun x _ c hx => RepLi.on (fun _ h => h) (fun j hj => hbel.block j (HS.out j hj)) hx) HL.out : RepLis S wr l (.slice fa l.length fc))
   obtain ⟨-, -, b, o, ga, gc, rfl, hSb, g0, g1, g2, g⟩ := RepLis.at hA k hl;have HF := Lib.hid (places_take l hl);have HM := Lib.hid (HA.out _ (List.getElem_mem hl))
   have HPL : Hid ((placesL [] (l.take k)).length ≤ 900) := by
    show _ ≤ _
    have h := placesL_len (l.take k) [];simp only [List.length_nil, List.length_take, Nat.zero_add] at h; omega
   have G := Lib.hid g;clear g hSb hA;generalize l[k] = z at *;have hba := below_alloc wr (.cells #[.int .i64 z.kind, .string z.name, .slice ga z.args.length gc] 61);have hbx := boxLi_new wr (.int .i64 z.kind) (.string z.name) (.slice ga z.args.length gc);have HB := Lib.hid (Below.step hbel hba);have HO := Lib.hid (hown.out.on hba);have G1 := Lib.hid (RepLi.on (fun _ h => h) (fun j hj => hba.block j (Nat.lt_of_lt_of_le (HS.out j hj) hbel.size)) G.out);have HX := Lib.hid hbx;obtain ⟨e0, e1, e2⟩ := hbx.cells;clear hba hbx hown hbel G;go_wp2_with fail
   clear g0 g1 g2;obtain ⟨bx, hbx⟩ : ∃ bx, wr.heap.size = bx := ⟨_, rfl⟩;rw [hbx] at HX ⊢;clear hbx;generalize wr.alloc (.cells #[.int .i64 z.kind, .string z.name, .slice ga z.args.length gc] 61) = wa at *;refine (hasPlace_any z ga gc wa).mono ?_;rintro e w3 ⟨rfl, hb3⟩;have X3 := Lib.hid (HX.out.on hb3); have B3 := Lib.hid (Below.step HB.out hb3); have O3 := Lib.hid (HO.out.on hb3)
   have G3 := Lib.hid (RepMs.on (fun _ h => h) (fun j hj => hb3.block j (Nat.lt_of_lt_of_le (HS.out j hj) HB.out.size)) G1.out.2.2.2.2);clear hb3 e0 e1 e2 HX HB HO G1
   cases hc : hasPl z with
   | false =>
    have HK : Hid (TxOwn w3 w.heap.size (placesL [] (l.take (k + 1))) u3) := by show TxOwn _ _ _ _; rw [HF.out, if_neg (by rw [hc]; simp)]; exact O3.out
    clear hc;go_wp2_with fail
    go_roundw
    case rel => exact ⟨k + 1, hl, by go_num, HK, B3.out⟩
    case measure => simp [intOf]; omega
   | true =>
    have h1 := HM.out hc;have HHC := Lib.hid hc;obtain ⟨-, -, ab, ao, fa0, fc0, xa0, xc0, hga, hab, -, m0, -, -, -, -, -, t0⟩ := RepMs.at G3.out 0 h1;have HN0 : Hid (name0 z.args = z.args[0].name) := (kind0_at h1).2;have M0 : Hid (w3.cell? ⟨ab, ao + 1, none⟩ = some (.string z.args[0].name)) := by show _ = _; rw [← m0]
    have AB : Hid (ab < w3.heap.size) := Nat.lt_of_lt_of_le (HS.out ab hab) B3.out.size;have i0 : (0 : Int) < (z.args.length : Int) := by omega
    have j0 : 0 < z.args.length := h1;clear m0 t0 hab G3 hc;subst hga;generalize z.args[0].name = n0 at *;clear h1;obtain ⟨p0, p1, p2⟩ := X3.out.cells;have q0 := M0.out;obtain ⟨pv, hpv⟩ : ∃ pv, placesL [] (l.take k) = pv := ⟨_, rfl⟩;rw [hpv] at O3 HF HPL;clear hpv;obtain ⟨oa, oc, rfl⟩ := OwnK.form O3.out;go_wp2_with fail
    refine (contains_any pv n0 _ w3 _ (fun j hj => hj.2) (O3.out.at (Nat.le_trans HPL.out (by omega)))).mono ?_;rintro e w4 ⟨rfl, hb4⟩;have X4 := Lib.hid (X3.out.on hb4); have B4 := Lib.hid (Below.step B3.out hb4); have O4 := Lib.hid (O3.out.on hb4)
    have M4 : Hid (w4.cell? ⟨ab, ao + 1, none⟩ = some (.string n0)) := (hb4.cell (p := ⟨ab, ao + 1, none⟩) AB.out).trans M0.out;clear hb4 p0 p1 p2 q0;obtain ⟨p0, p1, p2⟩ := X4.out.cells;have q0 := M4.out
    cases hc : inB pv n0 with
    | true =>
     have HK : Hid (TxOwn w4 w.heap.size (placesL [] (l.take (k + 1))) (.slice oa pv.length oc)) := by show TxOwn _ _ _ _; rw [HF.out, if_neg (by rw [HN0.out, hc]; simp)]; exact O4.out
     clear hc;go_wp2_with fail
     go_roundw
     case rel => exact ⟨k + 1, hl, by go_num, HK, B4.out⟩
     case measure => simp [intOf]; omega
    | false =>
     have HE : Hid (placesL [] (l.take (k + 1)) = pv ++ [n0]) := by show _ = _; rw [HF.out, if_pos ⟨HHC.out, by rw [HN0.out]; exact hc⟩, HN0.out]
     obtain ⟨a6, c6, w6, hrun, ho6, hb6, -, -⟩ := tx_append O4.out B4.out.size (Nat.le_trans HPL.out (by omega)) n0;have HK : Hid (TxOwn w6 w.heap.size (placesL [] (l.take (k + 1))) (.slice a6 (pv.length + 1) c6)) := by show TxOwn _ _ _ _; rw [HE.out]; exact ho6
     have B6 := Lib.hid (below_two B4.out hb6);have HRUN := Lib.hid hrun;clear hc ho6 hb6 hrun;go_wp2_with (at_builtin; refine wpList_append_by rfl _ _ _ rfl rfl rfl HRUN.out ?_)
     go_roundw
     case rel => exact ⟨k + 1, hl, by go_num, HK, B6.out⟩
     case measure => simp [intOf]; omega
  ·have HE : Hid (TxOwn wr w.heap.size (placesL [] l) u3) := by
    have hkl : k = l.length := by omega
    subst hkl;have h := hown.out
    rwa [List.take_length] at h
   go_wp2_with fail
   go_ret
   exact ⟨_, rfl, HE.out, hbel⟩
end Go.Proofs.YtcmlojigcgihbaaGreatDoor
namespace Go.Proofs.YtcmlojigcgihbaaGreatDoor
open Go.RowKit Go.Maps
set_option maxRecDepth 100000 in
set_option maxHeartbeats 2000000 in
theorem atVars_any (r : Ru) (S : Nat → Prop) (w : World) (c0 c1 c2 c3 c4 c5 : Value) (hS : ∀ k, S k → k < w.heap.size) (hx : RepRu S w r c0 c1 c2 c3 c4 c5) (hargs : ∀ x ∈ r.body, hasPl x = true → 0 < x.args.length) (h0 : 0 < r.args.length) :
  Calls Tryz.prog 36 #[.agg #[c0, c1, c2, c3, c4, c5]] w fun e w' => e = .returned (.bool (atVarsL r.body && kind0 r.args == 1)) ∧ Below w.heap.size w w' := by
 have HX := Lib.hid hx; have HS := Lib.hid hS; have HA := Lib.hid hargs
 obtain ⟨fa, fc, xa, xc, rfl, rfl, rfl, rfl, rfl, rfl⟩ := hx.form;have hlb := SlG.bytes hx.2.2.2.2.2.2.2.2.2;clear hx hS hargs;go_enter Tryz.func36, Tryz.ntmps36
 go_upto_region 1 with fail
 have mk := boxRu_new w (.string r.label) (.string r.head) (.slice fa r.args.length fc) (.string r.agg) (.int .i64 r.at') (.slice xa r.body.length xc);have da := below_alloc w (.cells #[.string r.label, .string r.head, .slice fa r.args.length fc, .string r.agg, .int .i64 r.at', .slice xa r.body.length xc] 43);generalize w.alloc (.cells #[.string r.label, .string r.head, .slice fa r.args.length fc, .string r.agg, .int .i64 r.at', .slice xa r.body.length xc] 43) = w1 at *;have X1 := Lib.hid mk; have B1 := Lib.hid da
 clear mk da;obtain ⟨p0, p1, p2, p3, p4, p5⟩ := X1.out.cells;go_wp2_with fail
 clear p0 p1 p2 p3 p4 p5;go_loopw [8] (fun i wr => ∃ k : Nat, k ≤ r.body.length ∧ i = .int .i64 k ∧ Hid (atVarsL r.body = atVarsL (r.body.drop k)) ∧ Below w1.heap.size w1 wr) (fun i _ => r.body.length - (intOf i).toNat)
 case atStart => exact ⟨0, Nat.zero_le _, rfl, rfl, Below.refl _ _⟩
 case round =>
  obtain ⟨k, hk, rfl, hrec, hbel⟩ := hrel
  by_cases hl : k < r.body.length
  ·have hA := (SlG.on (fun _ h => h) (fun j hj => (Below.step B1.out hbel).block j (HS.out j hj)) (fun x _ c hx => RepLi.on (fun _ h => h) (fun j hj => (Below.step B1.out hbel).block j (HS.out j hj)) hx) HX.out.2.2.2.2.2.2.2.2.2 : RepLis S wr r.body (.slice xa r.body.length xc))
   obtain ⟨-, -, b, o, ga, gc, rfl, hSb, g0, g1, g2, g⟩ := RepLis.at hA k hl;have HD := Lib.hid (List.drop_eq_getElem_cons hl);have HM := Lib.hid (HA.out _ (List.getElem_mem hl));have G := Lib.hid g;clear g hSb hA;generalize r.body[k] = z at *;have hba := below_alloc wr (.cells #[.int .i64 z.kind, .string z.name, .slice ga z.args.length gc] 61);have hbx := boxLi_new wr (.int .i64 z.kind) (.string z.name) (.slice ga z.args.length gc);have HB := Lib.hid (Below.step hbel hba);have hsz : w.heap.size ≤ wr.heap.size := Nat.le_trans B1.out.size hbel.size;have G1 := Lib.hid (RepLi.on (fun _ h => h) (fun j hj => hba.block j (Nat.lt_of_lt_of_le (HS.out j hj) hsz)) G.out);have HW := Lib.hid (Nat.le_trans hsz hba.size);have HXB := Lib.hid hbx;obtain ⟨e0, e1, e2⟩ := hbx.cells;clear hba hbx hbel G hsz;go_wp2_with fail
   clear g0 g1 g2;obtain ⟨bx, hbx⟩ : ∃ bx, wr.heap.size = bx := ⟨_, rfl⟩;rw [hbx] at HXB ⊢;clear hbx;generalize wr.alloc (.cells #[.int .i64 z.kind, .string z.name, .slice ga z.args.length gc] 61) = wa at *;refine (hasPlace_any z ga gc wa).mono ?_;rintro e w3 ⟨rfl, hb3⟩;have X3 := Lib.hid (HXB.out.on hb3); have B3 := Lib.hid (Below.step HB.out hb3)
   have G3 := Lib.hid (RepMs.on (fun _ h => h) (fun j hj => hb3.block j (Nat.lt_of_lt_of_le (HS.out j hj) HW.out)) G1.out.2.2.2.2);clear hb3 e0 e1 e2 HXB HB G1
   cases hc : hasPl z with
   | false =>
    have HF : Hid (atVarsL r.body = atVarsL (r.body.drop (k + 1))) := by show _ = _; rw [hrec.out, HD.out, atVarsL, List.all_cons, hc]; rfl
    clear hc;go_wp2_with fail
    go_roundw
    case rel => exact ⟨k + 1, hl, by go_num, HF, B3.out⟩
    case measure => simp [intOf]; omega
   | true =>
    have h1 := HM.out hc;obtain ⟨-, -, ab, ao, fa0, fc0, xa0, xc0, hga, hab, m0, -, -, -, -, -, -, t0⟩ := RepMs.at G3.out 0 h1;have HK0 : Hid (kind0 z.args = z.args[0].kind) := (kind0_at h1).1;have q0 : w3.cell? ⟨ab, ao, none⟩ = some (.int .i64 z.args[0].kind) := by rw [← m0]; simp
    have HREC : Hid (atVarsL r.body = (kind0 z.args == 1 && atVarsL (r.body.drop (k + 1)))) := by show _ = _; rw [hrec.out, HD.out, atVarsL, List.all_cons, hc]; rfl
    have i0 : (0 : Int) < (z.args.length : Int) := by omega
    have j0 : 0 < z.args.length := h1;clear m0 t0 hab G3 hc;subst hga;rw [HK0.out] at HREC;clear HK0;generalize z.args[0].kind = n0 at *;clear h1;obtain ⟨p0, p1, p2⟩ := X3.out.cells
    cases hn : (n0 == 1) with
    | true =>
     have HF : Hid (atVarsL r.body = atVarsL (r.body.drop (k + 1))) := by show _ = _; rw [HREC.out, hn]; rfl
     have hn' : (n0 != 1) = false := by simp only [bne, hn]; rfl
     go_wp2_with fail
     go_roundw
     case rel => exact ⟨k + 1, hl, by go_num, HF, B3.out⟩
     case measure => simp [intOf]; omega
    | false =>
     have HF : Hid ((atVarsL r.body && kind0 r.args == 1) = false) := by show _ = _; rw [HREC.out, hn]; rfl
     have hn' : (n0 != 1) = true := by simp only [bne, hn]; rfl
     go_wp2_with fail
     go_ret
     exact ⟨ret_bool HF.out.symm, Below.step B1.out B3.out⟩
  ·have HE : Hid ((atVarsL r.body && kind0 r.args == 1) = (r.args[0].kind == 1)) := by show _ = _; rw [hrec.out, List.drop_of_length_le (by omega), (kind0_at h0).1]; rfl
   have HB := Lib.hid (Below.step B1.out hbel);obtain ⟨p0, p1, p2, p3, p4, p5⟩ := (X1.out.on hbel).cells;obtain ⟨-, -, ab, ao, fa0, fc0, xa0, xc0, hga, hab, m0, -, -, -, -, -, -, t0⟩ := RepMs.at (RepMs.on (fun _ h => h) (fun j hj => HB.out.block j (HS.out j hj)) HX.out.2.2.2.2.2.2.2.2.1) 0 h0;have q0 : wr.cell? ⟨ab, ao, none⟩ = some (.int .i64 r.args[0].kind) := by rw [← m0]; simp
   have i0 : (0 : Int) < (r.args.length : Int) := by omega
   have j0 : 0 < r.args.length := h0;clear m0 t0 hab;subst hga;generalize r.args[0].kind = n0 at *;go_wp2_with fail
   go_ret
   exact ⟨ret_bool HE.out.symm, HB.out⟩
def BoxW (w : World) (k : Nat) (c0 c1 : Value) : Prop := w.heap[k]? = some (.cells #[c0, c1] 114 (0, 0))
theorem BoxW.cells {w : World} {k : Nat} {c0 c1 : Value} (h : BoxW w k c0 c1) : w.cell? ⟨k, 0, none⟩ = some c0 ∧ w.cell? ⟨k, 1, none⟩ = some c1 := ⟨cell_of_block' h _ rfl, cell_of_block' h _ rfl⟩
theorem BoxW.lt {w : World} {k : Nat} {c0 c1 : Value} (h : BoxW w k c0 c1) : k < w.heap.size := (Array.getElem?_eq_some_iff.1 h).1
theorem BoxW.on {w w' : World} {k : Nat} {c0 c1 : Value} (h : BoxW w k c0 c1) (hb : Below w.heap.size w w') : BoxW w' k c0 c1 := (hb.block k h.lt).trans h
theorem BoxW.set {w : World} {k : Nat} {c0 c1 : Value} (h : BoxW w k c0 c1) (d0 d1 : Value) : BoxW ((w.setCell ⟨k, 0, none⟩ d0).setCell ⟨k, 1, none⟩ d1) k d0 d1 := boxWay_set h d0 d1
theorem betweenZ_one {f : ByteArray → ByteArray → Option Nat} {a b : ByteArray} (h : f b a = none) : betweenZ f a b = (a, b, (f a b).isSome) := by rw [betweenZ, h]
theorem betweenZ_back {f : ByteArray → ByteArray → Option Nat} {a b : ByteArray} {k : Nat} (h : f b a = some k) (h2 : f a b = none) : betweenZ f a b = (b, a, true) := by rw [betweenZ, h, h2]
theorem betweenZ_two {f : ByteArray → ByteArray → Option Nat} {a b : ByteArray} {k i : Nat} (h : f b a = some k) (h2 : f a b = some i) : betweenZ f a b = if k < i then (b, a, true) else (a, b, true) := by rw [betweenZ, h, h2]
def wayRet (x : ByteArray × ByteArray × Bool) : Ending := .returned (.tuple #[.agg #[.string x.1, .string x.2.1], .bool x.2.2])
set_option maxRecDepth 100000 in
set_option maxHeartbeats 2000000 in
theorem between_any (b n : Nat) (f : ByteArray → ByteArray → Option Nat) (x y : ByteArray) (w : World) (hx : x.size ≤ maxLen) (hy : y.size ≤ maxLen) (h : LinksAt w b n f) :
  Calls Tryz.prog 72 #[.map (some b), .string x, .string y] w fun e w' => e = wayRet (betweenZ f x y) ∧ Below w.heap.size w w' := by
 have HL := Lib.hid h;obtain ⟨l1, hk1⟩ := key_way hx hy;obtain ⟨l2, hk2⟩ := key_way hy hx;clear h;go_enter Tryz.func72, Tryz.ntmps72
 go_upto_region 2 with fail
 have m1 := alloc_new' w (.cells #[.string ⟨#[]⟩, .string ⟨#[]⟩] 114);have d1 := below_alloc w (.cells #[.string ⟨#[]⟩, .string ⟨#[]⟩] 114);have s1 := World.size_alloc w (.cells #[.string ⟨#[]⟩, .string ⟨#[]⟩] 114);generalize w.alloc (.cells #[.string ⟨#[]⟩, .string ⟨#[]⟩] 114) = w1 at *;have m2 := alloc_new' w1 (.cells #[.string x, .string y] 114);have d2 := below_alloc w1 (.cells #[.string x, .string y] 114);have s2 := World.size_alloc w1 (.cells #[.string x, .string y] 114);generalize w1.alloc (.cells #[.string x, .string y] 114) = w2 at *;have m3 := alloc_new' w2 (.cells #[.string y, .string x] 114);have d3 := below_alloc w2 (.cells #[.string y, .string x] 114);have s3 := World.size_alloc w2 (.cells #[.string y, .string x] 114);generalize w2.alloc (.cells #[.string y, .string x] 114) = w3 at *;have X6 : Hid (BoxW w3 w.heap.size (.string ⟨#[]⟩) (.string ⟨#[]⟩)) := (d3.block _ (by omega)).trans ((d2.block _ (by omega)).trans m1);have X8 : Hid (BoxW w3 (w.heap.size + 1) (.string x) (.string y)) := by rw [s1] at m2; exact (d3.block _ (by omega)).trans m2
 have X9 : Hid (BoxW w3 (w.heap.size + 1 + 1) (.string y) (.string x)) := by rw [s2, s1] at m3; exact m3
 have B3 : Hid (Below w.heap.size w w3) := Below.step (Below.step d1 d2) d3;have L3 : Hid (LinksAt w3 b n f) := ((HL.out.on d1).on d2).on d3;clear m1 m2 m3 d1 d2 d3 s1 s2 s3 HL;have KA : Hid (w.heap.size ≤ w.heap.size) := Nat.le_refl _;obtain ⟨kb, hkb⟩ : ∃ k, w.heap.size + 1 = k := ⟨_, rfl⟩;rw [hkb] at X8 X9 ⊢;obtain ⟨kc, hkc⟩ : ∃ k, kb + 1 = k := ⟨_, rfl⟩;rw [hkc] at X9 ⊢;clear hkb hkc;obtain ⟨D, hown, hf⟩ := L3.out;have HF1 : Hid (Maps.has D l1 = (f x y).isSome ∧ ∀ i, f x y = some i → D.atKey l1 (.lit (.int .i64 0)) = .lit (.int .i64 (i : Int))) := hf x y l1 hk1;have HF2 : Hid (Maps.has D l2 = (f y x).isSome ∧ ∀ i, f y x = some i → D.atKey l2 (.lit (.int .i64 0)) = .lit (.int .i64 (i : Int))) := hf y x l2 hk2;rw [wayV] at hk1 hk2;clear hf;obtain ⟨q0, q1⟩ := X8.out.cells;obtain ⟨r0, r1⟩ := X9.out.cells;obtain ⟨u0, u1⟩ := X6.out.cells;have z0 := frozen_of_row w3 w.heap.size 0 _ _ X6.out; have z1 := frozen_of_row w3 w.heap.size 1 _ _ X6.out
 cases h2 : f y x with
 | none =>
  have HZ := Lib.hid (betweenZ_one h2);have HH2 : Hid (Maps.has D l2 = false) := by show _ = _; rw [HF2.out.1, h2]; rfl
  obtain ⟨g1, hg1⟩ : ∃ g, (f x y).isSome = g := ⟨_, rfl⟩;have HH1 : Hid (Maps.has D l1 = g1) := by show _ = _; rw [HF1.out.1, hg1]
  rw [hg1] at HZ;clear h2 hg1;go_wp2_with (first | (at_lookup; refine wpList_lookup_own_ok_int _ rfl _ _ 109 rfl 114 3 .i64 keyWay Tryz.underlying109 Tryz.underlying3 (zeroInt _) b n _ rfl hown _ _ rfl hk1 ?_; intro c1 hat1 hwc1; rw [HH1.out]) | (at_lookup; refine wpList_lookup_own_ok_int _ rfl _ _ 109 rfl 114 3 .i64 keyWay Tryz.underlying109 Tryz.underlying3 (zeroInt _) b n _ rfl hown _ _ rfl hk2 ?_; intro c2 hat2 hwc2; rw [HH2.out]) | fail)
  have Y := (X6.out.set (.string x) (.string y)).cells;have BB : Below w.heap.size w ((w3.setCell ⟨w.heap.size, 0, none⟩ (.string x)).setCell ⟨w.heap.size, 1, none⟩ (.string y)) := (B3.out.setCell (p := ⟨w.heap.size, 0, none⟩) KA.out _).setCell (p := ⟨w.heap.size, 1, none⟩) KA.out _;refine bodyPost_ret (v := .tuple #[.agg #[.string x, .string y], .bool g1]) (by simp [results, Tryz.results72, go_sem, Y.1, Y.2]) rfl ⟨?_, BB⟩;rw [HZ.out]; rfl
 | some k2 =>
  have HH2 : Hid (Maps.has D l2 = true) := by show _ = _; rw [HF2.out.1, h2]; rfl
  have HA2 := Lib.hid (HF2.out.2 _ h2)
  cases h1 : f x y with
  | none =>
   have HZ := Lib.hid (betweenZ_back h2 h1);have HH1 : Hid (Maps.has D l1 = false) := by show _ = _; rw [HF1.out.1, h1]; rfl
   clear h2 h1;go_wp2_with (first | (at_lookup; refine wpList_lookup_own_ok_int _ rfl _ _ 109 rfl 114 3 .i64 keyWay Tryz.underlying109 Tryz.underlying3 (zeroInt _) b n _ rfl hown _ _ rfl hk1 ?_; intro c1 hat1 hwc1; rw [HH1.out]) | (at_lookup; refine wpList_lookup_own_ok_int _ rfl _ _ 109 rfl 114 3 .i64 keyWay Tryz.underlying109 Tryz.underlying3 (zeroInt _) b n _ rfl hown _ _ rfl hk2 ?_; intro c2 hat2 hwc2; rw [HH2.out]) | fail)
   have Y := (X6.out.set (.string y) (.string x)).cells;have BB : Below w.heap.size w ((w3.setCell ⟨w.heap.size, 0, none⟩ (.string y)).setCell ⟨w.heap.size, 1, none⟩ (.string x)) := (B3.out.setCell (p := ⟨w.heap.size, 0, none⟩) KA.out _).setCell (p := ⟨w.heap.size, 1, none⟩) KA.out _;refine bodyPost_ret (v := .tuple #[.agg #[.string y, .string x], .bool true]) (by simp [results, Tryz.results72, go_sem, Y.1, Y.2]) rfl ⟨?_, BB⟩;rw [HZ.out]; rfl
  | some k1 =>
   have HZ := Lib.hid (betweenZ_two h2 h1);have HH1 : Hid (Maps.has D l1 = true) := by show _ = _; rw [HF1.out.1, h1]; rfl
   have HA1 := Lib.hid (HF1.out.2 _ h1);clear h2 h1;go_upto_region 4 with (first | (at_lookup; refine wpList_lookup_own_ok_int _ rfl _ _ 109 rfl 114 3 .i64 keyWay Tryz.underlying109 Tryz.underlying3 (zeroInt _) b n _ rfl hown _ _ rfl hk1 ?_; intro c1 hat1 hwc1; rw [HH1.out]) | (at_lookup; refine wpList_lookup_own_ok_int _ rfl _ _ 109 rfl 114 3 .i64 keyWay Tryz.underlying109 Tryz.underlying3 (zeroInt _) b n _ rfl hown _ _ rfl hk2 ?_; intro c2 hat2 hwc2; rw [HH2.out]) | fail)
   obtain rfl : c1 = (k1 : Int) := by have h := HA1.out; rw [hat1] at h; simpa using h
   obtain rfl : c2 = (k2 : Int) := by have h := HA2.out; rw [hat2] at h; simpa using h
   clear hat1 hat2 hwc1 hwc2
   by_cases hlt : k2 < k1
   ·rw [if_pos hlt] at HZ
    have i1 : decide ((k2 : Int) < (k1 : Int)) = true := decide_eq_true (by omega);have i2 : decide (k2 < k1) = true := decide_eq_true hlt;go_wp2_with fail
    have Y := (X6.out.set (.string y) (.string x)).cells;have BB : Below w.heap.size w ((w3.setCell ⟨w.heap.size, 0, none⟩ (.string y)).setCell ⟨w.heap.size, 1, none⟩ (.string x)) := (B3.out.setCell (p := ⟨w.heap.size, 0, none⟩) KA.out _).setCell (p := ⟨w.heap.size, 1, none⟩) KA.out _;refine bodyPost_ret (v := .tuple #[.agg #[.string y, .string x], .bool true]) (by simp [results, Tryz.results72, go_sem, Y.1, Y.2]) rfl ⟨?_, BB⟩;rw [HZ.out]; rfl
   ·rw [if_neg hlt] at HZ
    have i1 : decide ((k2 : Int) < (k1 : Int)) = false := decide_eq_false (by omega);have i2 : decide (k2 < k1) = false := decide_eq_false hlt;go_wp2_with fail
    have Y := (X6.out.set (.string x) (.string y)).cells;have BB : Below w.heap.size w ((w3.setCell ⟨w.heap.size, 0, none⟩ (.string x)).setCell ⟨w.heap.size, 1, none⟩ (.string y)) := (B3.out.setCell (p := ⟨w.heap.size, 0, none⟩) KA.out _).setCell (p := ⟨w.heap.size, 1, none⟩) KA.out _;refine bodyPost_ret (v := .tuple #[.agg #[.string x, .string y], .bool true]) (by simp [results, Tryz.results72, go_sem, Y.1, Y.2]) rfl ⟨?_, BB⟩;rw [HZ.out]; rfl
end Go.Proofs.YtcmlojigcgihbaaGreatDoor
