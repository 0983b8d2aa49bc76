/-
  OpenSix, NameLe, BaseCases, LawName, FitText, FitDef, SizeMk, NameOf, FitRight
-/
import Derived.Test.YtjohcnhiblfbnaaGreatK31
import Derived.Test.YtjohcnhiblfbnaaGreatK03
import Derived.Test.YtjohcnhiblfbnaaGreatK08
import Derived.Test.YtjohcnhiblfbnaaGreatK18
import Derived.Test.YtjohcnhiblfbnaaGreatK07
import Derived.Test.YtjohcnhiblfbnaaGreatK01
import Derived.Laws.IdiomArrays
import Derived.WalkSpells
import Derived.WalkLawsBesides
import Derived.RowKit
namespace Go.Proofs.YtjohcnhiblfbnaaGreat
open Go.ChangeShapes Go.WideShapes Go.ChangeAt Go.RowKit Go.Deep Go.Joins
theorem cellsRw : Tryz.prog.cellsOf 72 = 6 := by kernel_rfl
theorem bytesRw : Tryz.prog.bytesOf 72 = 48 := by kernel_rfl
theorem cellsRws : Tryz.prog.cellsOf 28 = 1 := by kernel_rfl
theorem bytesRws : Tryz.prog.bytesOf 28 = 24 := by kernel_rfl
theorem cellsN4 : Tryz.prog.cellsOf 70 = 4 := by kernel_rfl
section
variable {H : Type} {enc : TypeId × Value → H} {W : World}
set_option maxRecDepth 100000 in
theorem rw_of_trod (d : DataW H) (fuel : Nat) (cs : List Value) (ps : List MemPlace) (h : DataW.trod enc Tryz.prog W 0 (fun _ => true) true fuel 72 cs = some (d, ps)) :
  ∃ (x : Rw) (c : Nat → Value), (∀ j, j < 6 → cs[j]? = some (c j)) ∧ RepRw (fun k => k < W.heap.size) W x c := by
 obtain ⟨y0, y1, y2, n, hx, hlen, h0, h1, h2⟩ := trod_struct3 Tryz.underlying72 h;rw [cellsRw] at hlen
 match cs, hlen with
 | [c0, c1, c2, c3, c4, c5], _ =>
  simp [cellsInt] at h0
  simp [cellsInt] at h1
  simp [cellsN4] at h2
  obtain ⟨k, e0, r0, w0⟩ := DataW.trod_int Tryz.underlying3 h0;obtain ⟨s, e1, r1, w1⟩ := DataW.trod_int Tryz.underlying3 h1;obtain ⟨z0, z1, z2, z3, n', hx', q0, q1, q2, q3⟩ := trod_array4 Tryz.underlying70 cellsInt h2;obtain ⟨n0, f0, r2, w2⟩ := DataW.trod_int Tryz.underlying3 q0;obtain ⟨n1, f1, r3, w3⟩ := DataW.trod_int Tryz.underlying3 q1;obtain ⟨n2, f2, r4, w4⟩ := DataW.trod_int Tryz.underlying3 q2;obtain ⟨n3, f3, r5, w5⟩ := DataW.trod_int Tryz.underlying3 q3;simp at e0 e1 f0 f1 f2 f3
  subst e0 e1 f0 f1 f2 f3
  exact ⟨⟨k, s, n0, n1, n2, n3⟩, at7o (.int .i64 k) (.int .i64 s) (.int .i64 n0) (.int .i64 n1) (.int .i64 n2) (.int .i64 n3) (.int .i64 n3), fun j hj => match j, hj with
   | 0, _ => rfl | 1, _ => rfl | 2, _ => rfl | 3, _ => rfl | 4, _ => rfl | 5, _ => rfl, rfl, rfl, rfl, rfl, rfl, rfl, i64_wf w0, i64_wf w1, i64_wf w2, i64_wf w3, i64_wf w4, i64_wf w5⟩
theorem rws_of_trod (d : DataW H) (fuel : Nat) (v : Value) (ps : List MemPlace) (h : DataW.trod enc Tryz.prog W 0 (fun _ => true) true fuel 28 [v] = some (d, ps)) (hf : Fits Tryz.prog 28 d) :
  ∃ l, RepRws (fun k => k < W.heap.size) W l v := by
 obtain ⟨l, hl, -⟩ := slg_of_trod (RepRw (fun k => k < W.heap.size) W) ⟨0, 0, 0, 0, 0, 0⟩ Tryz.underlying28 cellsRw bytesRw (by omega) d fuel v ps h hf
  (fun d' fuel' cs' ps' _ h' _ => rw_of_trod d' fuel' cs' ps' h')
 exact ⟨l, hl⟩
set_option maxRecDepth 100000 in
theorem open_rws {base : Nat} {v : Value} {d : DataW H} {p : List MemPlace} (hv : Value.okWide Tryz.prog W .any base 28 v) (h : DataW.Trod enc Tryz.prog W 0 (fun _ => true) true 28 v d p) (hf : Fits Tryz.prog 28 d) :
  ∃ l, RepRws (fun k => k < W.heap.size) W l v := by
 obtain ⟨a0, len, cap, rfl⟩ := okWide_slice Tryz.underlying28 hv;obtain ⟨fuel, hf'⟩ := h;exact rws_of_trod d fuel _ p (by simpa [Value.cells] using hf') hf
set_option maxRecDepth 100000 in
theorem open_rwss {base : Nat} {v : Value} {d : DataW H} {p : List MemPlace} (hv : Value.okWide Tryz.prog W .any base 27 v) (h : DataW.Trod enc Tryz.prog W 0 (fun _ => true) true 27 v d p) (hf : Fits Tryz.prog 27 d) :
  ∃ l, RepRwss (fun k => k < W.heap.size) W l v := by
 obtain ⟨a0, len, cap, rfl⟩ := okWide_slice Tryz.underlying27 hv;obtain ⟨fuel, hf'⟩ := h
 obtain ⟨l, hl, -⟩ := slg_of_trod (fun x c => RepRws (fun k => k < W.heap.size) W x (c 0)) [] Tryz.underlying27 cellsRws bytesRws (by omega) d fuel _ p (by simpa [Value.cells] using hf') hf
  (fun d' fuel' cs' ps' hs h' hf'' => by
   have hlen : cs'.length = 1 := by
    rcases open_slice Tryz.underlying28 h' with ⟨hcs, -⟩ | ⟨a, len, cap, mm, nf, D, Pl, hcs, -⟩ <;> rw [hcs] <;> rfl
   match cs', hlen with
   | [c], _ =>
    obtain ⟨l, hl⟩ := rws_of_trod d' fuel' c ps' h' hf''
    exact ⟨l, fun _ => c, fun j hj => match j, hj with
     | 0, _ => rfl, hl⟩)
 exact ⟨l, hl⟩
end
end Go.Proofs.YtjohcnhiblfbnaaGreat
namespace Go.Proofs.YtjohcnhiblfbnaaGreat
open Go.RowKit
theorem relB_name {s : ByteArray} (h : relB s = true) : nameB s = true := by
 rw [relB, Bool.and_eq_true] at h; exact h.1
theorem varB_le {s : ByteArray} (h : varB s = true) : s.size ≤ 16 := (of_decide_eq_true h).2.1
theorem relB_le {s : ByteArray} (h : relB s = true) : s.size ≤ 16 := (of_decide_eq_true (relB_name h)).2.1
end Go.Proofs.YtjohcnhiblfbnaaGreat
namespace Go.Proofs.YtjohcnhiblfbnaaGreat
open Go.RowKit
theorem baseB_cases {k n : Int} {s : ByteArray} {l : List V} {b : Bool} (h : baseB k n s l b = true) :
  (k = 1 ∧ s.toList.isEmpty = true ∧ l = [] ∧ -2147483647 ≤ n ∧ n ≤ 2147483647) ∨ (k = 2 ∧ n = 0 ∧ l = [] ∧ textB s = true) ∨ (k = 3 ∧ n = 0 ∧ l = [] ∧ nameB s = true) ∨ (k = 4 ∧ n = 0 ∧ s.toList.isEmpty = true ∧ b = true) := by
 unfold baseB at h
 split at h
 ·simp at h; simp_all
 ·split at h
  ·simp at h; simp_all
  ·split at h
   ·simp at h; simp_all
   ·split at h
    ·simp at h; simp_all
    ·cases h
end Go.Proofs.YtjohcnhiblfbnaaGreat
namespace Go.Proofs.YtjohcnhiblfbnaaGreat
open Go.RowKit
def nameByte (c : UInt8) : UInt8 := if c.toNat % 37 < 26 then UInt8.ofNat (97 + c.toNat % 37) else if c.toNat % 37 < 36 then UInt8.ofNat (48 + c.toNat % 37 - 26) else 95
def rawName (s : ByteArray) : List UInt8 := 110 :: s.data.toList.take 15
def nameOf (s : ByteArray) : List UInt8 := 110 :: (s.data.toList.take 15).map nameByte
def nameTo (s : ByteArray) (i : Nat) : List UInt8 := (nameOf s).take i ++ (rawName s).drop i
theorem rawName_length (s : ByteArray) : (rawName s).length = 1 + min s.size 15 := by simp [rawName]; omega
theorem nameOf_length (s : ByteArray) : (nameOf s).length = 1 + min s.size 15 := by simp [nameOf]; omega
theorem nameTo_length (s : ByteArray) (i : Nat) : (nameTo s i).length = 1 + min s.size 15 := by
 simp only [nameTo, List.length_append, List.length_take, List.length_drop, rawName_length, nameOf_length]; omega
theorem nameTo_one (s : ByteArray) : nameTo s 1 = rawName s := by simp [nameTo, nameOf, rawName]
theorem nameTo_end (s : ByteArray) : nameTo s (1 + min s.size 15) = nameOf s := by
 rw [nameTo, List.take_of_length_le (by rw [nameOf_length]; omega), List.drop_of_length_le (by rw [rawName_length]; omega), List.append_nil]
theorem nameTo_get (s : ByteArray) (i : Nat) (_h1 : 1 ≤ i) (h : i < (nameTo s i).length) (h' : i < (rawName s).length) : (nameTo s i)[i] = (rawName s)[i] := by
 have e : ((nameOf s).take i).length = i := by rw [List.length_take, nameOf_length]; rw [rawName_length] at h'; omega
 simp only [nameTo]
 rw [List.getElem_append_right (by omega)];simp [e]
theorem nameTo_succ (s : ByteArray) (i : Nat) (h1 : 1 ≤ i) (h' : i < (rawName s).length) : nameTo s (i + 1) = (nameTo s i).set i (nameByte (rawName s)[i]) := by
 have hn : i < (nameOf s).length := by rw [nameOf_length]; rw [rawName_length] at h'; exact h'
 have e : ((nameOf s).take i).length = i := by rw [List.length_take]; omega
 have hget : (nameOf s)[i] = nameByte (rawName s)[i] := by
  match i, h1 with
  | i + 1, _ => simp [nameOf, rawName]
 rw [nameTo, nameTo, List.set_append_right _ _ (by omega), e, Nat.sub_self, List.drop_eq_getElem_cons h', List.set_cons_zero, List.take_succ_eq_append_getElem hn, hget];simp
theorem nameByte_small (c : UInt8) (h : c.toNat % 37 < 26) : ((nameByte c).toNat : Int) = 97 + (c.toNat : Int) % 37 := by
 rw [nameByte, if_pos h, UInt8.toNat_ofNat', Nat.mod_eq_of_lt (by omega)]; omega
theorem nameByte_digit (c : UInt8) (h : ¬ c.toNat % 37 < 26) (h2 : c.toNat % 37 < 36) : ((nameByte c).toNat : Int) = 48 + (c.toNat : Int) % 37 - 26 := by
 rw [nameByte, if_neg h, if_pos h2, UInt8.toNat_ofNat', Nat.mod_eq_of_lt (by omega)]; omega
theorem nameByte_low (c : UInt8) (h : ¬ c.toNat % 37 < 26) (h2 : ¬ c.toNat % 37 < 36) : nameByte c = 95 := by rw [nameByte, if_neg h, if_neg h2]
set_option maxRecDepth 100000 in
set_option maxHeartbeats 2000000 in
theorem lawName_any (s : ByteArray) (w : World) (hs : s.size ≤ maxLen) :
  Calls Tryz.prog 52 #[.string s] w fun e w' => e = .returned (.string ⟨(nameOf s).toArray⟩) ∧ Below w.heap.size w w' := by
 unfold maxLen at hs;have hconv := conv_to w;go_enter Tryz.func52, Tryz.ntmps52
 go_wp2_with fail
 have hraw : (({ data := #[110] } : ByteArray) ++ s.extract 0 (min (s.size : Int) 15).toNat).data.toList = rawName s := by
  rw [rawName];have e : (min (s.size : Int) 15).toNat = min s.size 15 := by omega
  rw [e, ByteArray.data_append, ByteArray.data_extract];simp
  omega
 have hlen : 1 + min (min (s.size : Int) 15).toNat s.size = (rawName s).length := by rw [rawName_length]; omega
 have hby := bytes_new w (({ data := #[110] } : ByteArray) ++ s.extract 0 (min (s.size : Int) 15).toNat);have hbe := bytes_below w (({ data := #[110] } : ByteArray) ++ s.extract 0 (min (s.size : Int) 15).toNat);rw [hraw] at hby;generalize Lib.bytesWorld w 5 (({ data := #[110] } : ByteArray) ++ s.extract 0 (min (s.size : Int) 15).toNat) = w1 at *;generalize grownCap w (1 + min (min (s.size : Int) 15).toNat s.size) 0 5 = cap at *;generalize 1 + min (min (s.size : Int) 15).toNat s.size = len at *;have hl16 : len ≤ 16 := by rw [hlen, rawName_length]; omega
 have HLEN := Lib.hid hlen;rw [← nameTo_one] at hby;have hl1 : 1 ≤ len := by rw [hlen, rawName_length]; omega
 clear hlen hraw hconv;go_loopw [4] (fun i wr => ∃ k : Nat, 1 ≤ k ∧ k ≤ len ∧ i = .int .i64 k ∧ BytesAt wr w.heap.size (nameTo s k) ∧ Below w.heap.size w wr) (fun i _ => len - (intOf i).toNat)
 case atStart => exact ⟨1, Nat.le_refl _, hl1, rfl, hby, hbe⟩
 case round =>
  obtain ⟨k, hk1, hk2, rfl, hb, hbel⟩ := hrel;clear hby hbe
  by_cases hlt : k < len
  ·have hkr : k < (rawName s).length := by rw [← HLEN.out]; exact hlt
   have hkn : k < (nameTo s k).length := by rw [nameTo_length, ← rawName_length]; exact hkr
   have hc := hb.cell k hkn;have hf := hb.free k hkn;rw [nameTo_get s k hk1 hkn hkr] at hc;have HS := Lib.hid (nameTo_succ s k hk1 hkr);have HB := Lib.hid (hb.set k (nameByte (rawName s)[k])); clear hb
   generalize (rawName s)[k] = c at *;have hc255 : (c.toNat : Int) ≤ 255 := by have := c.toNat_lt; omega
   have hbel' := fun v => hbel.setCell (p := ⟨w.heap.size, k, none⟩) (Nat.le_refl _) v
   have HBEL := Lib.hid hbel'; clear hbel'
   by_cases h1 : c.toNat % 37 < 26
   ·have HN := Lib.hid (nameByte_small c h1)
    have t1 : (c.toNat : Int) % 37 < 26 := by omega
    go_wp2_with fail
    go_roundw
    case rel => exact ⟨k + 1, by omega, by omega, by go_num, by rw [HS.out]; have := HB.out; rw [HN.out] at this; exact this, HBEL.out _⟩
    case measure => simp [intOf]; omega
   ·by_cases h2 : c.toNat % 37 < 36
    ·have HN := Lib.hid (nameByte_digit c h1 h2)
     have t1 : ¬ (c.toNat : Int) % 37 < 26 := by omega
     have t2 : (c.toNat : Int) % 37 < 36 := by omega
     go_wp2_with fail
     go_roundw
     case rel => exact ⟨k + 1, by omega, by omega, by go_num, by rw [HS.out]; have := HB.out; rw [HN.out] at this; exact this, HBEL.out _⟩
     case measure => simp [intOf]; omega
    ·have HN := Lib.hid (nameByte_low c h1 h2)
     have t1 : ¬ (c.toNat : Int) % 37 < 26 := by omega
     have t2 : ¬ (c.toNat : Int) % 37 < 36 := by omega
     go_wp2_with fail
     go_roundw
     case rel => exact ⟨k + 1, by omega, by omega, by go_num, by rw [HS.out]; have := HB.out; rw [HN.out] at this; rw [HN.out]; exact this, HBEL.out _⟩
     case measure => simp [intOf]; omega
  ·have hke : k = len := by omega
   have hnb : BytesAt wr w.heap.size (nameOf s) := by rw [hke, HLEN.out, rawName_length, nameTo_end] at hb; exact hb
   have hback := conv_back wr w.heap.size cap (nameOf s) hnb;have hnl : (nameOf s).length = len := by rw [HLEN.out, nameOf_length, rawName_length]
   rw [hnl] at hback;clear hnl hb hnb hke;go_wp2_with fail
   go_ret
   exact ⟨rfl, hbel⟩
end Go.Proofs.YtjohcnhiblfbnaaGreat
namespace Go.Proofs.YtjohcnhiblfbnaaGreat
open Go.RowKit
def fitByte (c : UInt8) : UInt8 := if 32 + c.toNat % 95 = 34 ∨ 32 + c.toNat % 95 = 92 then 32 else UInt8.ofNat (32 + c.toNat % 95)
def rawText (s : ByteArray) : List UInt8 := s.data.toList.take 32
def textOf (s : ByteArray) : List UInt8 := (rawText s).map fitByte
def textTo (s : ByteArray) (i : Nat) : List UInt8 := (textOf s).take i ++ (rawText s).drop i
theorem rawText_length (s : ByteArray) : (rawText s).length = min s.size 32 := by simp [rawText]; omega
theorem textOf_length (s : ByteArray) : (textOf s).length = min s.size 32 := by simp [textOf, rawText_length]
theorem textTo_length (s : ByteArray) (i : Nat) : (textTo s i).length = min s.size 32 := by
 simp only [textTo, List.length_append, List.length_take, List.length_drop, rawText_length, textOf_length]; omega
theorem textTo_zero (s : ByteArray) : textTo s 0 = rawText s := by simp [textTo]
theorem textTo_end (s : ByteArray) : textTo s (min s.size 32) = textOf s := by
 rw [textTo, List.take_of_length_le (by rw [textOf_length]; omega), List.drop_of_length_le (by rw [rawText_length]; omega), List.append_nil]
theorem textTo_get (s : ByteArray) (i : Nat) (h : i < (textTo s i).length) (h' : i < (rawText s).length) : (textTo s i)[i] = (rawText s)[i] := by
 have e : ((textOf s).take i).length = i := by rw [List.length_take, textOf_length]; rw [rawText_length] at h'; omega
 simp only [textTo]
 rw [List.getElem_append_right (by omega)];simp [e]
theorem textTo_succ (s : ByteArray) (i : Nat) (h' : i < (rawText s).length) : textTo s (i + 1) = (textTo s i).set i (fitByte (rawText s)[i]) := by
 have hn : i < (textOf s).length := by rw [textOf_length]; rw [rawText_length] at h'; exact h'
 have e : ((textOf s).take i).length = i := by rw [List.length_take]; omega
 have hget : (textOf s)[i] = fitByte (rawText s)[i] := by simp [textOf]
 rw [textTo, textTo, List.set_append_right _ _ (by omega), e, Nat.sub_self, List.drop_eq_getElem_cons h', List.set_cons_zero, List.take_succ_eq_append_getElem hn, hget];simp
theorem size_mk' (l : List UInt8) : (⟨l.toArray⟩ : ByteArray).size = l.length := by
 show l.toArray.size = _
 simp
def fitFlat (x : V) : V :=
 if pickZ x.kind 4 = 0 then .mk 1 (pickZ x.num 4294967295 - 2147483647) ⟨#[]⟩ []
 else if pickZ x.kind 4 = 1 then .mk 2 0 ⟨(textOf x.text).toArray⟩ []
 else .mk 3 0 ⟨(nameOf x.text).toArray⟩ []
def FitPost (y : V) (w : World) (e : Ending) (w' : World) : Prop :=
 ∃ c0 c1 c2 c3, e = .returned (.agg #[c0, c1, c2, c3]) ∧ RepG (fun b => w.heap.size ≤ b ∧ b < w'.heap.size) w' y c0 c1 c2 c3 ∧ Below w.heap.size w w'
set_option maxRecDepth 100000 in
set_option maxHeartbeats 2000000 in
theorem fit_num (x : V) (d : Int) (w : World) (fa : Option Addr) (len cap : Nat) (hk : I64 x.kind) (hn : I64 x.num) (h : pickZ x.kind 4 = 0) :
  Calls Tryz.prog 53 #[.agg #[.int .i64 x.kind, .int .i64 x.num, .string x.text, .slice fa len cap], .int .i64 d] w (FitPost (fitFlat x) w) := by
 have HE : Hid (fitFlat x = .mk 1 (pickZ x.num 4294967295 - 2147483647) ⟨#[]⟩ []) := by show _ = _; rw [fitFlat, if_pos h]
 obtain ⟨b1, b2⟩ := pickZ_bd x.num 4294967295 (by omega);have HP := Lib.hid h; clear h
 go_enter Tryz.func53, Tryz.ntmps53
 go_wp2_with fail
 refine (pick_any _ 4 _ hk (by omega) (by omega)).mono ?_;rintro e w' ⟨rfl, rfl⟩;rw [HP.out];go_wp2_with fail
 refine (pick_any _ 4294967295 _ hn (by omega) (by omega)).mono ?_;rintro e w' ⟨rfl, rfl⟩;generalize pickZ x.num 4294967295 = z at *;go_wp2_with fail
 refine bodyPost_ret (v := .agg #[.int .i64 1, .int .i64 (z - 2147483647), .string ⟨#[]⟩, .slice none 0 0]) (by simp [results, Tryz.results53, go_sem]) rfl ?_;rw [HE.out];exact ⟨_, _, _, _, rfl, flat_rep _ _ _ _ _ ⟨by omega, by omega⟩ ⟨by omega, by omega⟩ (by unfold maxLen; simp [ByteArray.size]), ((Below.refl _ w).alloc (Nat.le_refl _) _).alloc (by simp) _⟩
theorem stored_below {w w1 : World} {k : Nat} (hk : w.heap.size ≤ k) (hb : Below w.heap.size w w1) (c0 c1 c2 c3 : Value) : Below w.heap.size w ((((w1.setCell ⟨k, 0, none⟩ c0).setCell ⟨k, 1, none⟩ c1).setCell ⟨k, 2, none⟩ c2).setCell ⟨k, 3, none⟩ c3) :=
 (((hb.setCell (p := ⟨k, 0, none⟩) hk _).setCell (p := ⟨k, 1, none⟩) hk _).setCell (p := ⟨k, 2, none⟩) hk _).setCell (p := ⟨k, 3, none⟩) hk _
set_option maxRecDepth 100000 in
set_option maxHeartbeats 2000000 in
theorem fit_addr (x : V) (d : Int) (w : World) (fa : Option Addr) (len cap : Nat) (hk : I64 x.kind) (hs : x.text.size ≤ maxLen) (h : pickZ x.kind 4 = 2) :
  Calls Tryz.prog 53 #[.agg #[.int .i64 x.kind, .int .i64 x.num, .string x.text, .slice fa len cap], .int .i64 d] w (FitPost (fitFlat x) w) := by
 have HE : Hid (fitFlat x = .mk 3 0 ⟨(nameOf x.text).toArray⟩ []) := by show _ = _; rw [fitFlat, if_neg (by omega), if_neg (by omega)]
 have HP := Lib.hid h; clear h
 go_enter Tryz.func53, Tryz.ntmps53
 go_wp2_with fail
 refine (pick_any _ 4 _ hk (by omega) (by omega)).mono ?_;rintro e w' ⟨rfl, rfl⟩;rw [HP.out];go_wp2_with fail
 have b1 := (Below.refl _ w).alloc (Nat.le_refl _) (.cells #[.int .i64 x.kind, .int .i64 x.num, .string x.text, .slice fa len cap] 31);have s1 := World.size_alloc w (.cells #[.int .i64 x.kind, .int .i64 x.num, .string x.text, .slice fa len cap] 31);generalize w.alloc (.cells #[.int .i64 x.kind, .int .i64 x.num, .string x.text, .slice fa len cap] 31) = w1 at *;have y2 := boxed_new w1 (.int .i64 0) (.int .i64 0) (.string ⟨#[]⟩) (.slice none 0 0);have b2 := (Below.refl _ w1).alloc (Nat.le_refl _) (.cells #[.int .i64 0, .int .i64 0, .string ⟨#[]⟩, .slice none 0 0] 31);generalize w1.alloc (.cells #[.int .i64 0, .int .i64 0, .string ⟨#[]⟩, .slice none 0 0] 31) = w2 at *;rw [s1] at y2;have B2 := Below.step b1 b2;clear b1 b2 s1;refine (lawName_any _ _ hs).mono ?_;rintro e w3 ⟨rfl, b3⟩;have y3 := y2.on b3;have B3 := Below.step B2 b3;have hnl := nameOf_length x.text;generalize hnm : (⟨(nameOf x.text).toArray⟩ : ByteArray) = nm at *;have hnsz : nm.size ≤ 16 := by rw [← hnm, size_mk']; omega
 clear hnm hnl b3 y2 B2;obtain ⟨p0, p1, p2, p3⟩ := y3.cells;have z0 := frozen_of_row w3 _ 0 _ _ y3;have z1 := frozen_of_row w3 _ 1 _ _ y3;have z2 := frozen_of_row w3 _ 2 _ _ y3;have z3 := frozen_of_row w3 _ 3 _ _ y3;clear y3;go_wp2_with fail
 refine bodyPost_ret (v := .agg #[.int .i64 3, .int .i64 0, .string nm, .slice none 0 0]) (by simp [results, Tryz.results53, go_sem, p0, p1, p2, p3]) rfl ?_;rw [HE.out];exact ⟨_, _, _, _, rfl, flat_rep _ _ _ _ _ ⟨by omega, by omega⟩ ⟨by omega, by omega⟩ (by unfold maxLen; omega), stored_below (by omega) B3 _ _ _ _⟩
theorem fitByte_plain (c : UInt8) (h1 : 32 + c.toNat % 95 ≠ 34) (h2 : 32 + c.toNat % 95 ≠ 92) : ((fitByte c).toNat : Int) = 32 + (c.toNat : Int) % 95 := by
 rw [fitByte, if_neg (by omega), UInt8.toNat_ofNat', Nat.mod_eq_of_lt (by omega)]; omega
theorem fitByte_blank (c : UInt8) (h : 32 + c.toNat % 95 = 34 ∨ 32 + c.toNat % 95 = 92) : fitByte c = 32 := by rw [fitByte, if_pos h]
set_option maxRecDepth 100000 in
set_option maxHeartbeats 4000000 in
theorem fit_text (x : V) (d : Int) (w : World) (fa : Option Addr) (len cap : Nat) (hk : I64 x.kind) (hs : x.text.size ≤ maxLen) (h : pickZ x.kind 4 = 1) :
  Calls Tryz.prog 53 #[.agg #[.int .i64 x.kind, .int .i64 x.num, .string x.text, .slice fa len cap], .int .i64 d] w (FitPost (fitFlat x) w) := by
 have HE : Hid (fitFlat x = .mk 2 0 ⟨(textOf x.text).toArray⟩ []) := by show _ = _; rw [fitFlat, if_neg (by omega), if_pos h]
 have HP := Lib.hid h; clear h
 unfold maxLen at hs;generalize x.text = s at *;go_enter Tryz.func53, Tryz.ntmps53
 go_wp2_with fail
 refine (pick_any _ 4 _ hk (by omega) (by omega)).mono ?_;rintro e w' ⟨rfl, rfl⟩;rw [HP.out];have b1 := (Below.refl _ w).alloc (Nat.le_refl _) (.cells #[.int .i64 x.kind, .int .i64 x.num, .string s, .slice fa len cap] 31);have s1 := World.size_alloc w (.cells #[.int .i64 x.kind, .int .i64 x.num, .string s, .slice fa len cap] 31);have x1 := boxed_new w (.int .i64 x.kind) (.int .i64 x.num) (.string s) (.slice fa len cap);generalize w.alloc (.cells #[.int .i64 x.kind, .int .i64 x.num, .string s, .slice fa len cap] 31) = w1 at *;have y2 := boxed_new w1 (.int .i64 0) (.int .i64 0) (.string ⟨#[]⟩) (.slice none 0 0);have b2 := (Below.refl _ w1).alloc (Nat.le_refl _) (.cells #[.int .i64 0, .int .i64 0, .string ⟨#[]⟩, .slice none 0 0] 31);generalize w1.alloc (.cells #[.int .i64 0, .int .i64 0, .string ⟨#[]⟩, .slice none 0 0] 31) = w2 at *;rw [s1] at y2;have x2 := x1.on b2;have B2 := Below.step b1 b2;have hs2 := b2.size;clear b1 b2 x1;obtain ⟨p0, p1, p2, p3⟩ := x2.cells;have hconv := conv_to w2;go_wp2_with fail
 have hraw : (s.extract 0 (min (s.size : Int) 32).toNat).data.toList = rawText s := by
  rw [rawText];have e : (min (s.size : Int) 32).toNat = min s.size 32 := by omega
  rw [e, ByteArray.data_extract];simp
  omega
 have hby := bytes_new w2 (s.extract 0 (min (s.size : Int) 32).toNat);have hbe := bytes_below w2 (s.extract 0 (min (s.size : Int) 32).toNat);rw [hraw] at hby;have hlen : min (min (s.size : Int) 32).toNat s.size = (rawText s).length := by rw [rawText_length]; omega
 generalize Lib.bytesWorld w2 5 (s.extract 0 (min (s.size : Int) 32).toNat) = w3 at *;generalize grownCap w2 (min (min (s.size : Int) 32).toNat s.size) 0 5 = cap2 at *;generalize min (min (s.size : Int) 32).toNat s.size = tl at *;have hl32 : tl ≤ 32 := by rw [hlen, rawText_length]; omega
 have HLEN := Lib.hid hlen;rw [← textTo_zero] at hby;have HY2 := Lib.hid y2;have hy2sz := y2.lt;clear hlen hraw hconv p0 p1 p2 p3 x2 y2;have hgs := hbe.size;have hg3 := hby.lt;go_loopw [7] (fun i wr => ∃ k : Nat, k ≤ tl ∧ i = .int .i64 k ∧ BytesAt wr w2.heap.size (textTo s k) ∧ Below w2.heap.size w2 wr) (fun i _ => tl - (intOf i).toNat)
 case atStart => exact ⟨0, Nat.zero_le _, rfl, hby, hbe⟩
 case round =>
  obtain ⟨k, hk2, rfl, hb, hbel⟩ := hrel;clear hby hbe
  by_cases hlt : k < tl
  ·have hkr : k < (rawText s).length := by rw [← HLEN.out]; exact hlt
   have hkn : k < (textTo s k).length := by rw [textTo_length, ← rawText_length]; exact hkr
   have hc := hb.cell k hkn;have hf := hb.free k hkn;rw [textTo_get s k hkn hkr] at hc;have HS := Lib.hid (textTo_succ s k hkr);have HB := Lib.hid hb; clear hb
   generalize (rawText s)[k] = c at *;have hc255 : (c.toNat : Int) ≤ 255 := by have := c.toNat_lt; omega
   have HBEL := Lib.hid hbel
   by_cases h34 : 32 + c.toNat % 95 = 34
   ·have HN := Lib.hid (fitByte_blank c (Or.inl h34))
    have t1 : (32 + (c.toNat : Int) % 95 == 34) = true := beq_iff_eq.2 (by omega)
    have HB2 : Hid (BytesAt ((wr.setCell ⟨w2.heap.size, k, none⟩ (.int .u8 (32 + (c.toNat : Int) % 95))).setCell ⟨w2.heap.size, k, none⟩ (.int .u8 32)) w2.heap.size (textTo s (k + 1))) := by
     have e1 : (32 + (c.toNat : Int) % 95) = ((UInt8.ofNat (32 + c.toNat % 95)).toNat : Int) := by rw [UInt8.toNat_ofNat', Nat.mod_eq_of_lt (by omega)]; omega
     show BytesAt _ _ _
     rw [e1, HS.out, HN.out];have := (HB.out.set k (UInt8.ofNat (32 + c.toNat % 95))).set k 32;rw [List.set_set] at this;exact this
    clear h34;go_wp2_with fail
    go_roundw
    case rel => exact ⟨k + 1, by omega, by go_num, HB2.out, (HBEL.out.setCell (p := ⟨w2.heap.size, k, none⟩) (Nat.le_refl _) _).setCell (p := ⟨w2.heap.size, k, none⟩) (Nat.le_refl _) _⟩
    case measure => simp [intOf]; omega
   by_cases h92 : 32 + c.toNat % 95 = 92
   ·have HN := Lib.hid (fitByte_blank c (Or.inr h92))
    have t1 : (32 + (c.toNat : Int) % 95 == 34) = false := beq_eq_false_iff_ne.2 (by omega);have t2 : (32 + (c.toNat : Int) % 95 == 92) = true := beq_iff_eq.2 (by omega)
    have HB2 : Hid (BytesAt ((wr.setCell ⟨w2.heap.size, k, none⟩ (.int .u8 (32 + (c.toNat : Int) % 95))).setCell ⟨w2.heap.size, k, none⟩ (.int .u8 32)) w2.heap.size (textTo s (k + 1))) := by
     have e1 : (32 + (c.toNat : Int) % 95) = ((UInt8.ofNat (32 + c.toNat % 95)).toNat : Int) := by rw [UInt8.toNat_ofNat', Nat.mod_eq_of_lt (by omega)]; omega
     show BytesAt _ _ _
     rw [e1, HS.out, HN.out];have := (HB.out.set k (UInt8.ofNat (32 + c.toNat % 95))).set k 32;rw [List.set_set] at this;exact this
    clear h34 h92;go_wp2_with fail
    go_roundw
    case rel => exact ⟨k + 1, by omega, by go_num, HB2.out, (HBEL.out.setCell (p := ⟨w2.heap.size, k, none⟩) (Nat.le_refl _) _).setCell (p := ⟨w2.heap.size, k, none⟩) (Nat.le_refl _) _⟩
    case measure => simp [intOf]; omega
   ·have t1 : (32 + (c.toNat : Int) % 95 == 34) = false := beq_eq_false_iff_ne.2 (by omega)
    have t2 : (32 + (c.toNat : Int) % 95 == 92) = false := beq_eq_false_iff_ne.2 (by omega)
    have HB2 : Hid (BytesAt (wr.setCell ⟨w2.heap.size, k, none⟩ (.int .u8 (32 + (c.toNat : Int) % 95))) w2.heap.size (textTo s (k + 1))) := by
     show BytesAt _ _ _
     rw [HS.out, ← fitByte_plain c h34 h92];exact HB.out.set k (fitByte c)
    clear h34 h92;go_wp2_with fail
    go_roundw
    case rel => exact ⟨k + 1, by omega, by go_num, HB2.out, HBEL.out.setCell (p := ⟨w2.heap.size, k, none⟩) (Nat.le_refl _) _⟩
    case measure => simp [intOf]; omega
  ·have hke : k = tl := by omega
   have hnb : BytesAt wr w2.heap.size (textOf s) := by rw [hke, HLEN.out, rawText_length, textTo_end] at hb; exact hb
   have hback := conv_back wr w2.heap.size cap2 (textOf s) hnb;have hnl : (textOf s).length = tl := by rw [HLEN.out, textOf_length, rawText_length]
   rw [hnl] at hback;have yr := HY2.out.on hbel;have HB := Lib.hid (stored_below (k := w.heap.size + 1) (by omega) (B2.trans (hbel.mono B2.size)) (.int .i64 2) (.int .i64 0) (.string ⟨(textOf s).toArray⟩) (.slice none 0 0));have hsz : (⟨(textOf s).toArray⟩ : ByteArray).size ≤ 32 := by rw [size_mk', textOf_length]; omega
   generalize (⟨(textOf s).toArray⟩ : ByteArray) = nm at *;clear hnl hb hnb hbel HY2 B2;obtain ⟨p0, p1, p2, p3⟩ := yr.cells;have z0 := frozen_of_row wr _ 0 _ _ yr;have z1 := frozen_of_row wr _ 1 _ _ yr;have z2 := frozen_of_row wr _ 2 _ _ yr;have z3 := frozen_of_row wr _ 3 _ _ yr;clear yr;go_wp2_with fail
   refine bodyPost_ret (v := .agg #[.int .i64 2, .int .i64 0, .string nm, .slice none 0 0]) (by simp [results, Tryz.results53, go_sem, p0, p1, p2, p3]) rfl ?_;rw [HE.out];exact ⟨_, _, _, _, rfl, flat_rep _ _ _ _ _ ⟨by omega, by omega⟩ ⟨by omega, by omega⟩ (by unfold maxLen; omega), HB.out⟩
end Go.Proofs.YtjohcnhiblfbnaaGreat
namespace Go.Proofs.YtjohcnhiblfbnaaGreat
open Go.RowKit
theorem RepG.bounds {S : Nat → Prop} {w : World} {x : V} {c0 c1 c2 c3 : Value} (h : RepG S w x c0 c1 c2 c3) : I64 x.kind ∧ I64 x.num ∧ x.text.size ≤ maxLen := by
 cases x with
 | mk k n s l => exact ⟨(repG_mk.1 h).2.2.2.1, (repG_mk.1 h).2.2.2.2.1, (repG_mk.1 h).2.2.2.2.2.1⟩
def unlist (d : Nat) (x : V) : V := if d ≤ 1 ∧ pickZ x.kind 4 = 3 then .mk 0 x.num x.text x.list else x
def fitV : Nat → V → V
 | 0, x => fitFlat x
 | d + 1, x => if pickZ x.kind 4 = 3 then .mk 4 0 ⟨#[]⟩ ((x.list.take 16).map fun y => fitV d (unlist (d + 1) y)) else fitFlat x
def fitTo (d : Nat) (l : List V) (k : Nat) : List V := (l.take k).map fun y => fitV d (unlist (d + 1) y)
end Go.Proofs.YtjohcnhiblfbnaaGreat
namespace Go.Proofs.YtjohcnhiblfbnaaGreat
open Go.RowKit
theorem size_mk (l : List UInt8) : (⟨l.toArray⟩ : ByteArray).size = l.length := by
 show l.toArray.size = _
 simp
end Go.Proofs.YtjohcnhiblfbnaaGreat
namespace Go.Proofs.YtjohcnhiblfbnaaGreat.valueNames
open Go.RowKit
theorem nameByte_ok (i : Nat) (h : 1 ≤ i) (c : UInt8) : okAt i ((nameByte c).toNat : Int) = true := by
 have hi : decide (i = 0) = false := by simp; omega
 by_cases h1 : c.toNat % 37 < 26
 ·simp only [okAt, smallB, nameByte_small c h1, hi, Bool.or_eq_true, decide_eq_true_eq]; omega
 ·by_cases h2 : c.toNat % 37 < 36
  ·simp only [okAt, smallB, digitB, nameByte_digit c h1 h2, hi, Bool.or_eq_true, Bool.and_eq_true, decide_eq_true_eq, Bool.not_false]
   right; refine ⟨trivial, Or.inl ?_⟩; omega
  ·simp [okAt, smallB, digitB, nameByte_low c h1 h2, hi]
theorem ba_get (l : List UInt8) (i : Nat) (_h : i < (⟨l.toArray⟩ : ByteArray).size) (h' : i < l.length) : (⟨l.toArray⟩ : ByteArray)[i] = l[i] := by
 show l.toArray[i] = l[i]
 simp
theorem nameB_list (l : List UInt8) : nameB ⟨l.toArray⟩ = true ↔ (1 ≤ l.length ∧ l.length ≤ 16 ∧ ∀ i (h : i < l.length), okAt i (l[i].toNat : Int) = true) := by
 rw [nameB, decide_eq_true_eq];have hsz := size_mk l
 constructor
 ·rintro ⟨h1, h2, h3⟩
  exact ⟨by omega, by omega, fun i h => by have := h3 i (by omega); rwa [ba_get l i (by omega) h] at this⟩
 ·rintro ⟨h1, h2, h3⟩
  exact ⟨by omega, by omega, fun i h => by rw [ba_get l i h (by omega)]; exact h3 i _⟩
theorem nameOf_ok (s : ByteArray) : ∀ i (h : i < (nameOf s).length), okAt i ((nameOf s)[i].toNat : Int) = true := by
 intro i h
 match i, h with
 | 0, _ => simp [nameOf, okAt, smallB]
 | i + 1, h =>
  have : (nameOf s)[i + 1] = nameByte ((s.data.toList.take 15)[i]'(by simp [nameOf] at h; simp; omega)) := by simp [nameOf]
  rw [this];exact nameByte_ok (i + 1) (by omega) _
theorem name_of (s : ByteArray) : nameB ⟨(nameOf s).toArray⟩ = true :=
 (nameB_list _).2 ⟨by rw [nameOf_length]; omega, by rw [nameOf_length]; omega, nameOf_ok s⟩
end Go.Proofs.YtjohcnhiblfbnaaGreat.valueNames
namespace Go.Proofs.YtjohcnhiblfbnaaGreat
open Go.RowKit
theorem fitByte_ok (c : UInt8) : okText ((fitByte c).toNat : Int) = true := by
 by_cases h : 32 + c.toNat % 95 = 34 ∨ 32 + c.toNat % 95 = 92
 ·rw [fitByte_blank c h]; decide
 ·rw [fitByte_plain c (fun e => h (Or.inl e)) (fun e => h (Or.inr e))]
  have := Nat.mod_lt c.toNat (show 0 < 95 by omega);simp only [okText, decide_eq_true_eq]
  omega
theorem textOf_ok (s : ByteArray) : textB ⟨(textOf s).toArray⟩ = true := by
 refine textB_true (by rw [size_mk', textOf_length]; omega) (fun i h => ?_);have h' : i < (textOf s).length := by rw [size_mk'] at h; exact h
 rw [valueNames.ba_get _ i h h'];have hr : i < (rawText s).length := by rw [textOf, List.length_map] at h'; exact h'
 have : (textOf s)[i] = fitByte (rawText s)[i] := by simp [textOf]
 rw [this];exact fitByte_ok _
theorem none_empty : (⟨#[]⟩ : ByteArray).toList.isEmpty = true := by rw [isEmpty_size]; rfl
theorem flat_right (d : Nat) (x : V) : rightV d (fitFlat x) = true := by
 obtain ⟨h1, h2⟩ := pickZ_bd x.num 4294967295 (by omega);unfold fitFlat
 split
 ·rw [rightV_mk]
  simp only [baseB, none_empty, List.isEmpty_nil, if_pos, Bool.and_eq_true, decide_eq_true_eq, Bool.true_and]
  omega
 ·split
  ·rw [rightV_mk]; simp [baseB, textOf_ok]
  ·rw [rightV_mk]; simp [baseB, valueNames.name_of]
theorem fit_right : ∀ (d : Nat) (x : V), rightV d (fitV d x) = true
 | 0, x => flat_right 0 x
 | d + 1, x => by
  unfold fitV
  split
  ·rw [rightV_mk]
   have hl : ((x.list.take 16).map fun y => fitV d (unlist (d + 1) y)).length ≤ 16 := by simp; omega
   have ha : (((x.list.take 16).map fun y => fitV d (unlist (d + 1) y)).all (rightV d)) = true := by
    rw [List.all_eq_true];intro y hy;obtain ⟨z, _, rfl⟩ := List.mem_map.1 hy;exact fit_right d _
   simp only [baseB, none_empty, rightL, ha, hl, decide_true]
   simp
  ·exact flat_right _ x
end Go.Proofs.YtjohcnhiblfbnaaGreat
