/-
  FitText, BindEval, CopyKit
-/
import Derived.Test.YtjmnnjikmmglpaaKD10
import Derived.Test.YtjmnnjikmmglpaaKD01
import Derived.Test.YtjmnnjikmmglpaaKD02
import Derived.Test.YtjmnnjikmmglpaaKD03
import Derived.WalkSpells
import Derived.WalkLawsBesides
import Derived.Deep.CutRange
import Derived.Deep.Cut
namespace Go.Proofs.Ytjmnnjikmmglpaa
open Go.RowKit
def fitByte (c : UInt8) : UInt8 := if 32 + c.toNat % 95 = 34 ∨ 32 + c.toNat % 95 = 92 then 32 else UInt8.ofNat (32 + c.toNat % 95)
def rawText (s : ByteArray) : List UInt8 := s.data.toList.take 32
def textOf (s : ByteArray) : List UInt8 := (rawText s).map fitByte
def textTo (s : ByteArray) (i : Nat) : List UInt8 := (textOf s).take i ++ (rawText s).drop i
theorem rawText_length (s : ByteArray) : (rawText s).length = min s.size 32 := by simp [rawText]; omega
theorem textOf_length (s : ByteArray) : (textOf s).length = min s.size 32 := by simp [textOf, rawText_length]
theorem textTo_length (s : ByteArray) (i : Nat) : (textTo s i).length = min s.size 32 := by
 simp only [textTo, List.length_append, List.length_take, List.length_drop, rawText_length, textOf_length]; omega
theorem textTo_zero (s : ByteArray) : textTo s 0 = rawText s := by simp [textTo]
theorem textTo_end (s : ByteArray) : textTo s (min s.size 32) = textOf s := by
 rw [textTo, List.take_of_length_le (by rw [textOf_length]; omega), List.drop_of_length_le (by rw [rawText_length]; omega), List.append_nil]
theorem textTo_get (s : ByteArray) (i : Nat) (h : i < (textTo s i).length) (h' : i < (rawText s).length) : (textTo s i)[i] = (rawText s)[i] := by
 have e : ((textOf s).take i).length = i := by rw [List.length_take, textOf_length]; rw [rawText_length] at h'; omega
 simp only [textTo]
 rw [List.getElem_append_right (by omega)];simp [e]
theorem textTo_succ (s : ByteArray) (i : Nat) (h' : i < (rawText s).length) : textTo s (i + 1) = (textTo s i).set i (fitByte (rawText s)[i]) := by
 have hn : i < (textOf s).length := by rw [textOf_length]; rw [rawText_length] at h'; exact h'
 have e : ((textOf s).take i).length = i := by rw [List.length_take]; omega
 have hget : (textOf s)[i] = fitByte (rawText s)[i] := by simp [textOf]
 rw [textTo, textTo, List.set_append_right _ _ (by omega), e, Nat.sub_self, List.drop_eq_getElem_cons h', List.set_cons_zero, List.take_succ_eq_append_getElem hn, hget];simp
theorem size_mk' (l : List UInt8) : (⟨l.toArray⟩ : ByteArray).size = l.length := by
 show l.toArray.size = _
 simp
def fitFlat (x : V) : V :=
 if pickZ x.kind 4 = 0 then .mk 1 (pickZ x.num 4294967295 - 2147483647) ⟨#[]⟩ []
 else if pickZ x.kind 4 = 1 then .mk 2 0 ⟨(textOf x.text).toArray⟩ []
 else .mk 3 0 ⟨(nameOf x.text).toArray⟩ []
def FitPost (y : V) (w : World) (e : Ending) (w' : World) : Prop :=
 ∃ c0 c1 c2 c3, e = .returned (.agg #[c0, c1, c2, c3]) ∧ RepG (fun b => w.heap.size ≤ b ∧ b < w'.heap.size) w' y c0 c1 c2 c3 ∧ Below w.heap.size w w'
set_option maxRecDepth 100000 in
set_option maxHeartbeats 2000000 in
theorem fit_num (x : V) (d : Int) (w : World) (fa : Option Addr) (len cap : Nat) (hk : I64 x.kind) (hn : I64 x.num) (h : pickZ x.kind 4 = 0) :
  Calls Try.prog 34 #[.agg #[.int .i64 x.kind, .int .i64 x.num, .string x.text, .slice fa len cap], .int .i64 d] w (FitPost (fitFlat x) w) := by
 have HE : Hid (fitFlat x = .mk 1 (pickZ x.num 4294967295 - 2147483647) ⟨#[]⟩ []) := by show _ = _; rw [fitFlat, if_pos h]
 obtain ⟨b1, b2⟩ := pickZ_bd x.num 4294967295 (by omega);have HP := Lib.hid h; clear h
 go_enter Try.func34, Try.ntmps34
 go_wp2_with fail
 refine (pick_any _ 4 _ hk (by omega) (by omega)).mono ?_;rintro e w' ⟨rfl, rfl⟩;rw [HP.out];go_wp2_with fail
 refine (pick_any _ 4294967295 _ hn (by omega) (by omega)).mono ?_;rintro e w' ⟨rfl, rfl⟩;generalize pickZ x.num 4294967295 = z at *;go_wp2_with fail
 refine bodyPost_ret (v := .agg #[.int .i64 1, .int .i64 (z - 2147483647), .string ⟨#[]⟩, .slice none 0 0]) (by simp [results, Try.results34, go_sem]) rfl ?_;rw [HE.out];exact ⟨_, _, _, _, rfl, flat_rep _ _ _ _ _ ⟨by omega, by omega⟩ ⟨by omega, by omega⟩ (by unfold maxLen; simp [ByteArray.size]), ((Below.refl _ w).alloc (Nat.le_refl _) _).alloc (by simp) _⟩
theorem stored_below {w w1 : World} {k : Nat} (hk : w.heap.size ≤ k) (hb : Below w.heap.size w w1) (c0 c1 c2 c3 : Value) : Below w.heap.size w ((((w1.setCell ⟨k, 0, none⟩ c0).setCell ⟨k, 1, none⟩ c1).setCell ⟨k, 2, none⟩ c2).setCell ⟨k, 3, none⟩ c3) :=
 (((hb.setCell (p := ⟨k, 0, none⟩) hk _).setCell (p := ⟨k, 1, none⟩) hk _).setCell (p := ⟨k, 2, none⟩) hk _).setCell (p := ⟨k, 3, none⟩) hk _
set_option maxRecDepth 100000 in
set_option maxHeartbeats 2000000 in
theorem fit_addr (x : V) (d : Int) (w : World) (fa : Option Addr) (len cap : Nat) (hk : I64 x.kind) (hs : x.text.size ≤ maxLen) (h : pickZ x.kind 4 = 2) :
  Calls Try.prog 34 #[.agg #[.int .i64 x.kind, .int .i64 x.num, .string x.text, .slice fa len cap], .int .i64 d] w (FitPost (fitFlat x) w) := by
 have HE : Hid (fitFlat x = .mk 3 0 ⟨(nameOf x.text).toArray⟩ []) := by show _ = _; rw [fitFlat, if_neg (by omega), if_neg (by omega)]
 have HP := Lib.hid h; clear h
 go_enter Try.func34, Try.ntmps34
 go_wp2_with fail
 refine (pick_any _ 4 _ hk (by omega) (by omega)).mono ?_;rintro e w' ⟨rfl, rfl⟩;rw [HP.out];go_wp2_with fail
 have b1 := (Below.refl _ w).alloc (Nat.le_refl _) (.cells #[.int .i64 x.kind, .int .i64 x.num, .string x.text, .slice fa len cap] 28);have s1 := World.size_alloc w (.cells #[.int .i64 x.kind, .int .i64 x.num, .string x.text, .slice fa len cap] 28);generalize w.alloc (.cells #[.int .i64 x.kind, .int .i64 x.num, .string x.text, .slice fa len cap] 28) = w1 at *;have y2 := boxed_new w1 (.int .i64 0) (.int .i64 0) (.string ⟨#[]⟩) (.slice none 0 0);have b2 := (Below.refl _ w1).alloc (Nat.le_refl _) (.cells #[.int .i64 0, .int .i64 0, .string ⟨#[]⟩, .slice none 0 0] 28);generalize w1.alloc (.cells #[.int .i64 0, .int .i64 0, .string ⟨#[]⟩, .slice none 0 0] 28) = w2 at *;rw [s1] at y2;have B2 := Below.step b1 b2;clear b1 b2 s1;refine (lawName_any _ _ hs).mono ?_;rintro e w3 ⟨rfl, b3⟩;have y3 := y2.on b3;have B3 := Below.step B2 b3;have hnl := nameOf_length x.text;generalize hnm : (⟨(nameOf x.text).toArray⟩ : ByteArray) = nm at *;have hnsz : nm.size ≤ 16 := by rw [← hnm, size_mk']; omega
 clear hnm hnl b3 y2 B2;obtain ⟨p0, p1, p2, p3⟩ := y3.cells;have z0 := frozen_of_row w3 _ 0 _ _ y3;have z1 := frozen_of_row w3 _ 1 _ _ y3;have z2 := frozen_of_row w3 _ 2 _ _ y3;have z3 := frozen_of_row w3 _ 3 _ _ y3;clear y3;go_wp2_with fail
 refine bodyPost_ret (v := .agg #[.int .i64 3, .int .i64 0, .string nm, .slice none 0 0]) (by simp [results, Try.results34, go_sem, p0, p1, p2, p3]) rfl ?_;rw [HE.out];exact ⟨_, _, _, _, rfl, flat_rep _ _ _ _ _ ⟨by omega, by omega⟩ ⟨by omega, by omega⟩ (by unfold maxLen; omega), stored_below (by omega) B3 _ _ _ _⟩
theorem fitByte_plain (c : UInt8) (h1 : 32 + c.toNat % 95 ≠ 34) (h2 : 32 + c.toNat % 95 ≠ 92) : ((fitByte c).toNat : Int) = 32 + (c.toNat : Int) % 95 := by
 rw [fitByte, if_neg (by omega), UInt8.toNat_ofNat', Nat.mod_eq_of_lt (by omega)]; omega
theorem fitByte_blank (c : UInt8) (h : 32 + c.toNat % 95 = 34 ∨ 32 + c.toNat % 95 = 92) : fitByte c = 32 := by rw [fitByte, if_pos h]
set_option maxRecDepth 100000 in
set_option maxHeartbeats 4000000 in
theorem fit_text (x : V) (d : Int) (w : World) (fa : Option Addr) (len cap : Nat) (hk : I64 x.kind) (hs : x.text.size ≤ maxLen) (h : pickZ x.kind 4 = 1) :
  Calls Try.prog 34 #[.agg #[.int .i64 x.kind, .int .i64 x.num, .string x.text, .slice fa len cap], .int .i64 d] w (FitPost (fitFlat x) w) := by
 have HE : Hid (fitFlat x = .mk 2 0 ⟨(textOf x.text).toArray⟩ []) := by show _ = _; rw [fitFlat, if_neg (by omega), if_pos h]
 have HP := Lib.hid h; clear h
 unfold maxLen at hs;generalize x.text = s at *;go_enter Try.func34, Try.ntmps34
 go_wp2_with fail
 refine (pick_any _ 4 _ hk (by omega) (by omega)).mono ?_;rintro e w' ⟨rfl, rfl⟩;rw [HP.out];have b1 := (Below.refl _ w).alloc (Nat.le_refl _) (.cells #[.int .i64 x.kind, .int .i64 x.num, .string s, .slice fa len cap] 28);have s1 := World.size_alloc w (.cells #[.int .i64 x.kind, .int .i64 x.num, .string s, .slice fa len cap] 28);have x1 := boxed_new w (.int .i64 x.kind) (.int .i64 x.num) (.string s) (.slice fa len cap);generalize w.alloc (.cells #[.int .i64 x.kind, .int .i64 x.num, .string s, .slice fa len cap] 28) = w1 at *;have y2 := boxed_new w1 (.int .i64 0) (.int .i64 0) (.string ⟨#[]⟩) (.slice none 0 0);have b2 := (Below.refl _ w1).alloc (Nat.le_refl _) (.cells #[.int .i64 0, .int .i64 0, .string ⟨#[]⟩, .slice none 0 0] 28);generalize w1.alloc (.cells #[.int .i64 0, .int .i64 0, .string ⟨#[]⟩, .slice none 0 0] 28) = w2 at *;rw [s1] at y2;have x2 := x1.on b2;have B2 := Below.step b1 b2;have hs2 := b2.size;clear b1 b2 x1;obtain ⟨p0, p1, p2, p3⟩ := x2.cells;have hconv := conv_to w2;go_wp2_with fail
 have hraw : (s.extract 0 (min (s.size : Int) 32).toNat).data.toList = rawText s := by
  rw [rawText];have e : (min (s.size : Int) 32).toNat = min s.size 32 := by omega
  rw [e, ByteArray.data_extract];simp
  omega
 have hby := bytes_new w2 (s.extract 0 (min (s.size : Int) 32).toNat);have hbe := bytes_below w2 (s.extract 0 (min (s.size : Int) 32).toNat);rw [hraw] at hby;have hlen : min (min (s.size : Int) 32).toNat s.size = (rawText s).length := by rw [rawText_length]; omega
 generalize Lib.bytesWorld w2 5 (s.extract 0 (min (s.size : Int) 32).toNat) = w3 at *;generalize grownCap w2 (min (min (s.size : Int) 32).toNat s.size) 0 5 = cap2 at *;generalize min (min (s.size : Int) 32).toNat s.size = tl at *;have hl32 : tl ≤ 32 := by rw [hlen, rawText_length]; omega
 have HLEN := Lib.hid hlen;rw [← textTo_zero] at hby;have HY2 := Lib.hid y2;have hy2sz := y2.lt;clear hlen hraw hconv p0 p1 p2 p3 x2 y2;have hgs := hbe.size;have hg3 := hby.lt;go_loopw [7] (fun i wr => ∃ k : Nat, k ≤ tl ∧ i = .int .i64 k ∧ BytesAt wr w2.heap.size (textTo s k) ∧ Below w2.heap.size w2 wr) (fun i _ => tl - (intOf i).toNat)
 case atStart => exact ⟨0, Nat.zero_le _, rfl, hby, hbe⟩
 case round =>
  obtain ⟨k, hk2, rfl, hb, hbel⟩ := hrel;clear hby hbe
  by_cases hlt : k < tl
  ·have hkr : k < (rawText s).length := by rw [← HLEN.out]; exact hlt
   have hkn : k < (textTo s k).length := by rw [textTo_length, ← rawText_length]; exact hkr
   have hc := hb.cell k hkn;have hf := hb.free k hkn;rw [textTo_get s k hkn hkr] at hc;have HS := Lib.hid (textTo_succ s k hkr);have HB := Lib.hid hb; clear hb
   generalize (rawText s)[k] = c at *;have hc255 : (c.toNat : Int) ≤ 255 := by have := c.toNat_lt; omega
   have HBEL := Lib.hid hbel
   by_cases h34 : 32 + c.toNat % 95 = 34
   ·have HN := Lib.hid (fitByte_blank c (Or.inl h34))
    have t1 : (32 + (c.toNat : Int) % 95 == 34) = true := beq_iff_eq.2 (by omega)
    have HB2 : Hid (BytesAt ((wr.setCell ⟨w2.heap.size, k, none⟩ (.int .u8 (32 + (c.toNat : Int) % 95))).setCell ⟨w2.heap.size, k, none⟩ (.int .u8 32)) w2.heap.size (textTo s (k + 1))) := by
     have e1 : (32 + (c.toNat : Int) % 95) = ((UInt8.ofNat (32 + c.toNat % 95)).toNat : Int) := by rw [UInt8.toNat_ofNat', Nat.mod_eq_of_lt (by omega)]; omega
     show BytesAt _ _ _
     rw [e1, HS.out, HN.out];have := (HB.out.set k (UInt8.ofNat (32 + c.toNat % 95))).set k 32;rw [List.set_set] at this;exact this
    clear h34;go_wp2_with fail
    go_roundw
    case rel => exact ⟨k + 1, by omega, by go_num, HB2.out, (HBEL.out.setCell (p := ⟨w2.heap.size, k, none⟩) (Nat.le_refl _) _).setCell (p := ⟨w2.heap.size, k, none⟩) (Nat.le_refl _) _⟩
    case measure => simp [intOf]; omega
   by_cases h92 : 32 + c.toNat % 95 = 92
   ·have HN := Lib.hid (fitByte_blank c (Or.inr h92))
    have t1 : (32 + (c.toNat : Int) % 95 == 34) = false := beq_eq_false_iff_ne.2 (by omega);have t2 : (32 + (c.toNat : Int) % 95 == 92) = true := beq_iff_eq.2 (by omega)
    have HB2 : Hid (BytesAt ((wr.setCell ⟨w2.heap.size, k, none⟩ (.int .u8 (32 + (c.toNat : Int) % 95))).setCell ⟨w2.heap.size, k, none⟩ (.int .u8 32)) w2.heap.size (textTo s (k + 1))) := by
     have e1 : (32 + (c.toNat : Int) % 95) = ((UInt8.ofNat (32 + c.toNat % 95)).toNat : Int) := by rw [UInt8.toNat_ofNat', Nat.mod_eq_of_lt (by omega)]; omega
     show BytesAt _ _ _
     rw [e1, HS.out, HN.out];have := (HB.out.set k (UInt8.ofNat (32 + c.toNat % 95))).set k 32;rw [List.set_set] at this;exact this
    clear h34 h92;go_wp2_with fail
    go_roundw
    case rel => exact ⟨k + 1, by omega, by go_num, HB2.out, (HBEL.out.setCell (p := ⟨w2.heap.size, k, none⟩) (Nat.le_refl _) _).setCell (p := ⟨w2.heap.size, k, none⟩) (Nat.le_refl _) _⟩
    case measure => simp [intOf]; omega
   ·have t1 : (32 + (c.toNat : Int) % 95 == 34) = false := beq_eq_false_iff_ne.2 (by omega)
    have t2 : (32 + (c.toNat : Int) % 95 == 92) = false := beq_eq_false_iff_ne.2 (by omega)
    have HB2 : Hid (BytesAt (wr.setCell ⟨w2.heap.size, k, none⟩ (.int .u8 (32 + (c.toNat : Int) % 95))) w2.heap.size (textTo s (k + 1))) := by
     show BytesAt _ _ _
     rw [HS.out, ← fitByte_plain c h34 h92];exact HB.out.set k (fitByte c)
    clear h34 h92;go_wp2_with fail
    go_roundw
    case rel => exact ⟨k + 1, by omega, by go_num, HB2.out, HBEL.out.setCell (p := ⟨w2.heap.size, k, none⟩) (Nat.le_refl _) _⟩
    case measure => simp [intOf]; omega
  ·have hke : k = tl := by omega
   have hnb : BytesAt wr w2.heap.size (textOf s) := by rw [hke, HLEN.out, rawText_length, textTo_end] at hb; exact hb
   have hback := conv_back wr w2.heap.size cap2 (textOf s) hnb;have hnl : (textOf s).length = tl := by rw [HLEN.out, textOf_length, rawText_length]
   rw [hnl] at hback;have yr := HY2.out.on hbel;have HB := Lib.hid (stored_below (k := w.heap.size + 1) (by omega) (B2.trans (hbel.mono B2.size)) (.int .i64 2) (.int .i64 0) (.string ⟨(textOf s).toArray⟩) (.slice none 0 0));have hsz : (⟨(textOf s).toArray⟩ : ByteArray).size ≤ 32 := by rw [size_mk', textOf_length]; omega
   generalize (⟨(textOf s).toArray⟩ : ByteArray) = nm at *;clear hnl hb hnb hbel HY2 B2;obtain ⟨p0, p1, p2, p3⟩ := yr.cells;have z0 := frozen_of_row wr _ 0 _ _ yr;have z1 := frozen_of_row wr _ 1 _ _ yr;have z2 := frozen_of_row wr _ 2 _ _ yr;have z3 := frozen_of_row wr _ 3 _ _ yr;clear yr;go_wp2_with fail
   refine bodyPost_ret (v := .agg #[.int .i64 2, .int .i64 0, .string nm, .slice none 0 0]) (by simp [results, Try.results34, go_sem, p0, p1, p2, p3]) rfl ?_;rw [HE.out];exact ⟨_, _, _, _, rfl, flat_rep _ _ _ _ _ ⟨by omega, by omega⟩ ⟨by omega, by omega⟩ (by unfold maxLen; omega), HB.out⟩
end Go.Proofs.Ytjmnnjikmmglpaa
namespace Go.Proofs.Ytjmnnjikmmglpaa
open Go.RowKit
set_option maxRecDepth 100000 in
set_option maxHeartbeats 1000000 in
theorem lookup_any (E : List Bd) (s : ByteArray) (S : Nat → Prop) (w : World) (a : Value) (hS : ∀ k, S k → k < w.heap.size) (hE : RepBs S w E a) :
  Calls Try.prog 35 #[a, .string s] w (EvPost S (lookZ s E) w) := by
 have HE := Lib.hid hE; have HS := Lib.hid hS
 have HBY := SlG.bytes hE;obtain ⟨fa, fc, rfl⟩ := SlG.form hE;clear hE hS;go_enter Try.func35, Try.ntmps35
 go_upto_region 2 with fail
 have x1 := boxed_new w (.int .i64 0) (.int .i64 0) (.string ⟨#[]⟩) (.slice none 0 0);have b1 := below_alloc w (.cells #[.int .i64 0, .int .i64 0, .string ⟨#[]⟩, .slice none 0 0] 28);have s1 := World.size_alloc w (.cells #[.int .i64 0, .int .i64 0, .string ⟨#[]⟩, .slice none 0 0] 28);generalize w.alloc (.cells #[.int .i64 0, .int .i64 0, .string ⟨#[]⟩, .slice none 0 0] 28) = w1 at *;have X1 := Lib.hid x1; have B1 := Lib.hid b1; have S1 := Lib.hid s1
 clear x1 b1 s1;go_loopw [10] (fun iv wr => ∃ k : Nat, k ≤ E.length ∧ iv = .int .i64 (k : Int) ∧ Hid (lookZ s E = lookZ s (E.drop k)) ∧ Hid (Below w1.heap.size w1 wr)) (fun iv _ => E.length - (intOf iv).toNat)
 case atStart => exact ⟨0, Nat.zero_le _, rfl, rfl, Below.refl _ _⟩
 case round =>
  obtain ⟨k, hk, rfl, hrec, hb⟩ := hrel;have XR := Lib.hid (X1.out.on hb.out);have BR := Lib.hid (Below.step B1.out hb.out)
  by_cases hlt : k < E.length
  ·have hE : RepBs S wr E (.slice fa E.length fc) := RepBs.on (fun _ h => h) (fun j hj => BR.out.block j (HS.out j hj)) HE.out
   obtain ⟨-, -, lb, lo, ga, gc, rfl, hSb, g0, g1, g2, g3, g4, g⟩ := RepBs.at hE k hlt;have HD := Lib.hid (List.drop_eq_getElem_cons hlt);have HG := Lib.hid g;have HLT := Lib.hid hlt;have hk1 : (0 : Int) ≤ (k : Int) := Int.natCast_nonneg k;have hk2 : (k : Int) < (E.length : Int) := by omega
   clear g hSb hE;generalize E[k] = z at *;clear hlt;have m1 := alloc_new' wr (.cells #[.string z.1, .int .i64 z.2.kind, .int .i64 z.2.num, .string z.2.text, .slice ga z.2.list.length gc] 43);have d1 := below_alloc wr (.cells #[.string z.1, .int .i64 z.2.kind, .int .i64 z.2.num, .string z.2.text, .slice ga z.2.list.length gc] 43);have XQ := Lib.hid (XR.out.on d1);have BQ := Lib.hid (Below.step BR.out d1);have BW := Lib.hid (Below.step hb.out d1);have SQ : Hid (wr.heap.size ≤ (wr.alloc (.cells #[.string z.1, .int .i64 z.2.kind, .int .i64 z.2.num, .string z.2.text, .slice ga z.2.list.length gc] 43)).heap.size) := d1.size;have HGQ : Hid (RepB S (wr.alloc (.cells #[.string z.1, .int .i64 z.2.kind, .int .i64 z.2.num, .string z.2.text, .slice ga z.2.list.length gc] 43)) z (.string z.1) (.int .i64 z.2.kind) (.int .i64 z.2.num) (.string z.2.text) (.slice ga z.2.list.length gc)) := RepB.on (fun _ h => h) (fun j hj => d1.block j (Nat.lt_of_lt_of_le (HS.out j hj) BR.out.size)) HG.out;go_upto_region 4 with fail
   clear g0 g1 g2 g3 g4 d1 HG XR BR hb;obtain ⟨kz, hkz⟩ : ∃ kz, wr.heap.size = kz := ⟨_, rfl⟩;rw [hkz] at m1 SQ ⊢;clear hkz;generalize wr.alloc (.cells #[.string z.1, .int .i64 z.2.kind, .int .i64 z.2.num, .string z.2.text, .slice ga z.2.list.length gc] 43) = w2 at *;have q0 := cell_of_block' (i := 0) m1 _ rfl;have q1 := cell_of_block' (i := 1) m1 _ rfl;have q2 := cell_of_block' (i := 2) m1 _ rfl;have q3 := cell_of_block' (i := 3) m1 _ rfl;have q4 := cell_of_block' (i := 4) m1 _ rfl;clear m1
   cases hp : (z.1.toList == s.toList) with
   | true =>
    have HF : Hid (lookZ s E = some z.2) := by show _ = _; rw [hrec.out, HD.out, lookZ, if_pos hp]
    obtain ⟨r0, r1, r2, r3⟩ := XQ.out.cells;have z0 := frozen_of_row w2 _ 0 _ _ XQ.out;have z1 := frozen_of_row w2 _ 1 _ _ XQ.out;have z2 := frozen_of_row w2 _ 2 _ _ XQ.out;have z3 := frozen_of_row w2 _ 3 _ _ XQ.out;go_wp2_with fail
    refine bodyPost_ret (v := .tuple #[.agg #[.int .i64 z.2.kind, .int .i64 z.2.num, .string z.2.text, .slice ga z.2.list.length gc], .bool true]) (by simp [results, Try.results35, go_sem, r0, r1, r2, r3]) rfl ?_;rw [HF.out]
    exact ⟨_, _, _, _, rfl, RepG.on (fun b hb => .inl hb) (fun b hb => by
     have h1 := HS.out b hb
     rw [Below.heap_setCell _ _ _ _ (by simp; omega), Below.heap_setCell _ _ _ _ (by simp; omega), Below.heap_setCell _ _ _ _ (by simp; omega), Below.heap_setCell _ _ _ _ (by simp; omega)]) _ HGQ.out.2.2, stored_below (k := w.heap.size) (Nat.le_refl _) BQ.out _ _ _ _⟩
   | false =>
    have HF : Hid (lookZ s E = lookZ s (E.drop (k + 1))) := by show _ = _; rw [hrec.out, HD.out, lookZ, if_neg (by rw [hp]; decide)]
    go_wp2_with fail
    go_roundw
    case rel => exact ⟨k + 1, HLT.out, by go_num, HF, BW⟩
    case measure => have := HLT.out; simp [intOf]; omega
  ·have HF : Hid (lookZ s E = none) := by show _ = _; rw [hrec.out, List.drop_of_length_le (by omega)]; rfl
   obtain ⟨r0, r1, r2, r3⟩ := XR.out.cells;have z0 := frozen_of_row wr _ 0 _ _ XR.out;have z1 := frozen_of_row wr _ 1 _ _ XR.out;have z2 := frozen_of_row wr _ 2 _ _ XR.out;have z3 := frozen_of_row wr _ 3 _ _ XR.out;go_wp2_with fail
   refine bodyPost_ret (v := .tuple #[.agg #[.int .i64 0, .int .i64 0, .string ⟨#[]⟩, .slice none 0 0], .bool false]) (by simp [results, Try.results35, go_sem, r0, r1, r2, r3]) rfl ?_;rw [HF.out];exact ⟨_, _, _, _, rfl, rep_zero, stored_below (k := w.heap.size) (Nat.le_refl _) BR.out _ _ _ _⟩
def tellId (k : Int) : Nat := if k = 1 then 62 else if k = 2 then 63 else if k = 3 then 64 else if k = 4 then 65 else 66
set_option maxRecDepth 100000 in
theorem teller_any (k : Int) (a : Option Addr) (n c : Nat) (w : World) :
  Calls Try.prog 47 #[.slice a n c, .int .i64 k] w fun e w' => e = .returned (.func (.func (tellId k)) #[.slice a n c] #[]) ∧ w = w' := by
 have hid : ∃ v, v = tellId k := ⟨_, rfl⟩;obtain ⟨v, hv⟩ := hid;rw [← hv];unfold tellId at hv
 by_cases h1 : k = 1
 ·subst h1; rw [if_pos rfl] at hv; subst hv
  go_enter Try.func47, Try.ntmps47
  go_wp2_with fail
  go_ret
  exact ⟨rfl, rfl⟩
 ·rw [if_neg h1] at hv
  by_cases h2 : k = 2
  ·subst h2; rw [if_pos rfl] at hv; subst hv
   go_enter Try.func47, Try.ntmps47
   go_wp2_with fail
   go_ret
   exact ⟨rfl, rfl⟩
  ·rw [if_neg h2] at hv
   by_cases h3 : k = 3
   ·subst h3; rw [if_pos rfl] at hv; subst hv
    go_enter Try.func47, Try.ntmps47
    go_wp2_with fail
    go_ret
    exact ⟨rfl, rfl⟩
   ·rw [if_neg h3] at hv
    by_cases h4 : k = 4
    ·subst h4; rw [if_pos rfl] at hv; subst hv
     go_enter Try.func47, Try.ntmps47
     go_wp2_with fail
     go_ret
     exact ⟨rfl, rfl⟩
    ·rw [if_neg h4] at hv; subst hv
     have b1 : (k == 1) = false := by simpa using h1
     have b2 : (k == 2) = false := by simpa using h2
     have b3 : (k == 3) = false := by simpa using h3
     have b4 : (k == 4) = false := by simpa using h4
     clear h1 h2 h3 h4;go_enter Try.func47, Try.ntmps47
     go_wp2_with fail
     go_ret
     exact ⟨rfl, rfl⟩
end Go.Proofs.Ytjmnnjikmmglpaa
namespace Go.Proofs.Ytjmnnjikmmglpaa
open Go.RowKit
def putCells (w : World) (g : Nat) : Nat → List Value → World
 | _, [] => w
 | o, v :: l => putCells (w.setCell ⟨g, o, none⟩ v) g (o + 1) l
theorem putCells_other (g : Nat) (b : Nat) (h : b ≠ g) : ∀ (l : List Value) (w : World) (o : Nat), (putCells w g o l).heap[b]? = w.heap[b]?
 | [], _, _ => rfl
 | v :: l, w, o => by rw [putCells, putCells_other g b h l]; exact Below.heap_setCell _ _ _ _ (by simpa using h)
theorem putCells_size (g : Nat) : ∀ (l : List Value) (w : World) (o : Nat), (putCells w g o l).heap.size = w.heap.size
 | [], _, _ => rfl
 | v :: l, w, o => by rw [putCells, putCells_size g l]; simp [World.setCell]
theorem putCells_below (B g : Nat) (hB : B ≤ g) {w0 : World} : ∀ (l : List Value) (w : World) (o : Nat), Below B w0 w → Below B w0 (putCells w g o l)
 | [], _, _, h => h
 | v :: l, _w, o, h => putCells_below B g hB l _ _ (Below.setCell (p := ⟨g, o, none⟩) h hB v)
theorem putCells_same (g : Nat) (t : TypeId) : ∀ (l : List Value) (w : World) (o : Nat) (cs : Array Value), w.heap[g]? = some (.cells cs t (0, 0)) → o + l.length ≤ cs.size →
  ∃ cs' : Array Value, (putCells w g o l).heap[g]? = some (.cells cs' t (0, 0)) ∧ cs'.size = cs.size ∧ (∀ j, j < l.length → cs'[o + j]? = l[j]?) ∧ ∀ j, (j < o ∨ o + l.length ≤ j) → cs'[j]? = cs[j]?
 | [], w, o, cs, h, _ => ⟨cs, h, rfl, fun j hj => by simp at hj, fun _ _ => rfl⟩
 | v :: l, w, o, cs, h, hl => by
  simp only [List.length_cons] at hl
  obtain ⟨cs', h1, h2, h3, h4⟩ := putCells_same g t l (w.setCell ⟨g, o, none⟩ v) (o + 1) (cs.setIfInBounds o v) (heap_setCell_same _ _ _ _ _ _ h) (by rw [Array.size_setIfInBounds]; omega);refine ⟨cs', h1, by rw [h2, Array.size_setIfInBounds], fun j hj => ?_, fun j hj => ?_⟩
  ·cases j with
   | zero => rw [Nat.add_zero, h4 o (.inl (by omega)), Array.getElem?_setIfInBounds, if_pos rfl, if_pos (by omega)]; rfl
   | succ j =>
    simp only [List.length_cons] at hj
    rw [show o + (j + 1) = o + 1 + j by omega, h3 j (by omega)]; rfl
  ·simp only [List.length_cons] at hj
   rw [h4 j (by omega), Array.getElem?_setIfInBounds, if_neg (by omega)]
theorem putCells_all {w : World} {g : Nat} {cs : Array Value} {t : TypeId} {vs : List Value} (h : w.heap[g]? = some (.cells cs t (0, 0))) (hn : cs.size = vs.length) : (putCells w g 0 vs).heap[g]? = some (.cells vs.toArray t (0, 0)) := by
 obtain ⟨cs', e1, e2, e3, -⟩ := putCells_same g t vs w 0 cs h (by omega);rw [e1]
 have : cs' = vs.toArray := by
  apply Array.ext_getElem?
  intro i
  by_cases hi : i < vs.length
  ·have := e3 i hi
   rw [Nat.zero_add] at this;rw [this]; simp
  ·rw [Array.getElem?_eq_none (by omega)]; simp; omega
 rw [this]
section
variable {α : Type} {K : Kd α}
def EachAt (K : Kd α) (S : Nat → Prop) (B g : Nat) (l : List α) (i : Nat) (w : World) : Prop :=
 ∃ cs : Array Value, w.heap[g]? = some (.cells cs K.T (0, 0)) ∧ l.length * K.n ≤ cs.size ∧
  ∀ j (h : j < l.length), ∃ c : Nat → Value, (∀ t, t < K.n → cs[j * K.n + t]? = some (c t)) ∧ K.R (fun b => if j < i then B ≤ b ∧ b < w.heap.size ∧ b ≠ g else S b) w l[j] c
theorem EachAt.lt {S : Nat → Prop} {B g : Nat} {l : List α} {i : Nat} {w : World} (h : EachAt K S B g l i w) : g < w.heap.size := by
 obtain ⟨cs, h, -⟩ := h;exact (Array.getElem?_eq_some_iff.1 h).1
theorem EachAt.on {S : Nat → Prop} {B g : Nat} {l : List α} {i : Nat} {w w' : World} (h : EachAt K S B g l i w) (hS : ∀ b, S b → b < w.heap.size) (hb : Below w.heap.size w w') : EachAt K S B g l i w' := by
 have hl := h.lt;obtain ⟨cs, h1, h2, h3⟩ := h;refine ⟨cs, (hb.block g hl).trans h1, h2, fun j hj => ?_⟩;obtain ⟨c, h4, h5⟩ := h3 j hj;refine ⟨c, h4, K.on (fun b hb' => ?_) (fun b hb' => hb.block b ?_) h5⟩
 ·split at hb'
  ·next hji => rw [if_pos hji]; exact ⟨hb'.1, Nat.lt_of_lt_of_le hb'.2.1 hb.size, hb'.2.2⟩
  ·next hji => rw [if_neg hji]; exact hb'
 ·split at hb'
  ·exact hb'.2.1
  ·exact hS b hb'
theorem EachAt.load {S : Nat → Prop} {B g : Nat} {l : List α} {i : Nat} {w : World} (h : EachAt K S B g l i w) (hi : i < l.length) :
  ∃ c : Nat → Value, (∀ t, t < K.n → w.cell? ⟨g, i * K.n + t, none⟩ = some (c t)) ∧ K.R S w l[i] c := by
 obtain ⟨cs, h1, h2, h3⟩ := h;obtain ⟨c, h4, h5⟩ := h3 i hi;exact ⟨c, fun t ht => cell_of_block' h1 _ (h4 t ht), K.on (fun b hb => by rw [if_neg (Nat.lt_irrefl _)] at hb; exact hb) (fun _ _ => rfl) h5⟩
theorem EachAt.frozen {S : Nat → Prop} {B g : Nat} {l : List α} {i : Nat} {w : World} (h : EachAt K S B g l i w) (k : Nat) : w.frozen? ⟨g, k, none⟩ = false := by
 obtain ⟨cs, h1, -⟩ := h;exact frozen_of_row w g k _ _ h1
theorem EachAt.put {S : Nat → Prop} {B g : Nat} {l : List α} {i : Nat} {w : World} (h : EachAt K S B g l i w) (hi : i < l.length) (hS : ∀ b, S b → b ≠ g) {c' : Nat → Value} (hR : K.R (fun b => B ≤ b ∧ b < w.heap.size ∧ b ≠ g) w l[i] c') {vs : List Value} (hn : vs.length = K.n) (hv : ∀ t, t < K.n → vs[t]? = some (c' t)) :
  EachAt K S B g l (i + 1) (putCells w g (i * K.n) vs) := by
 obtain ⟨cs, h1, h2, h3⟩ := h;have hm : (i + 1) * K.n ≤ l.length * K.n := Nat.mul_le_mul_right _ hi;rw [Nat.succ_mul] at hm;obtain ⟨cs', e1, e2, e3, e4⟩ := putCells_same g K.T vs w (i * K.n) cs h1 (by omega);have hsz := putCells_size g vs w (i * K.n);refine ⟨cs', e1, by omega, fun j hj => ?_⟩
 by_cases he : j = i
 ·subst he
  refine ⟨c', fun t ht => by rw [e3 t (by omega)]; exact hv t ht, K.on (fun b hb => ?_) (fun b hb => putCells_other g b hb.2.2 _ _ _) hR⟩;rw [if_pos (by omega), hsz]; exact hb
 ·obtain ⟨c, h4, h5⟩ := h3 j hj
  refine ⟨c, fun t ht => ?_, K.on (fun b hb => ?_) (fun b hb => putCells_other g b ?_ _ _ _) h5⟩
  ·rw [e4 (j * K.n + t) ?_]
   ·exact h4 t ht
   ·rcases Nat.lt_or_gt_of_ne he with hlt | hgt
    ·have : (j + 1) * K.n ≤ i * K.n := Nat.mul_le_mul_right _ hlt
     rw [Nat.succ_mul] at this; omega
    ·have : (i + 1) * K.n ≤ j * K.n := Nat.mul_le_mul_right _ hgt
     rw [Nat.succ_mul] at this; omega
  ·by_cases hji : j < i
   ·rw [if_pos (by omega), hsz]; rw [if_pos hji] at hb; exact hb
   ·rw [if_neg (by omega)]; rw [if_neg hji] at hb; exact hb
  ·split at hb
   ·exact hb.2.2
   ·exact hS b hb
theorem EachAt.done {S : Nat → Prop} {B g cap : Nat} {l : List α} {w : World} (h : EachAt K S B g l l.length w) (hB : B ≤ g) (hcap : l.length ≤ cap) (hby : l.length * K.bytes ≤ 140737488355328) : SlG (fun b => B ≤ b ∧ b < w.heap.size) w K.n K.bytes (K.R (fun b => B ≤ b ∧ b < w.heap.size) w) l (.slice (some ⟨g, 0, none⟩) l.length cap) := by
 have hl := h.lt;obtain ⟨cs, h1, h2, h3⟩ := h;refine ⟨_, g, 0, cap, rfl, hcap, hby, fun _ => rfl, fun _ => ⟨hB, hl⟩, fun i hi => ?_⟩;obtain ⟨c, h4, h5⟩ := h3 i hi;exact ⟨c, fun t ht => by rw [Nat.zero_add]; exact cell_of_block' h1 _ (h4 t ht), K.on (fun b hb => by rw [if_pos hi] at hb; exact ⟨hb.1, hb.2.1⟩) (fun _ _ => rfl) h5⟩
def CloneR (K : Kd α) (S : Nat → Prop) (l : List α) (w : World) (e : Ending) (w' : World) : Prop :=
 Below w.heap.size w w' ∧ ((l = [] ∧ ∃ a c, e = .returned (.slice a 0 c) ∧ (0 < c → ∃ g, a = some ⟨g, 0, none⟩)) ∨ ∃ g c, e = .returned (.slice (some ⟨g, 0, none⟩) l.length c) ∧ l.length ≤ c ∧ w.heap.size ≤ g ∧ EachAt K S w.heap.size g l 0 w')
theorem clone_each {S : Nat → Prop} {l : List α} {w w' : World} {v : Value} (h : OwnK K S w' w.heap.size l v) (hb : Below w.heap.size w w') : CloneR K S l w (.returned v) w' := by
 obtain ⟨xs, ⟨hlen, hown⟩, hr⟩ := h;refine ⟨hb, ?_⟩;rcases hown with ⟨rfl, hn⟩ | ⟨g, cap, cur, rfl, hbg, hh, hnc, hcm, hcs, htk⟩
 ·exact .inl ⟨List.length_eq_zero_iff.1 hn, none, 0, rfl, fun h => by omega⟩
 ·refine .inr ⟨g, cap, rfl, hnc, hbg, cur, hh, ?_, fun j hj => ?_⟩
  ·rw [hcs]; exact Nat.mul_le_mul_right _ hnc
  ·obtain ⟨c, hc, hR⟩ := hr j hj
   refine ⟨c, fun t ht => ?_, K.on (fun b hb => by rw [if_neg (Nat.not_lt_zero _)]; exact hb) (fun _ _ => rfl) hR⟩;have h1 := hc t ht;rw [← htk, List.getElem?_take] at h1
   have hlt : j * K.n + t < l.length * K.n := by
    have : (j + 1) * K.n ≤ l.length * K.n := Nat.mul_le_mul_right _ hj;rw [Nat.succ_mul] at this; omega
   rw [if_pos hlt] at h1;rw [← Array.getElem?_toList]; exact h1
def CopyL (K : Kd α) (l : List α) (w : World) (e : Ending) (w' : World) : Prop :=
 ∃ v, e = .returned v ∧ SlG (fun b => w.heap.size ≤ b ∧ b < w'.heap.size) w' K.n K.bytes (K.R (fun b => w.heap.size ≤ b ∧ b < w'.heap.size) w') l v ∧ Below w.heap.size w w'
def CopyE (K : Kd α) (x : α) (w : World) (e : Ending) (w' : World) : Prop :=
 ∃ vs : List Value, e = .returned (.agg vs.toArray) ∧ vs.length = K.n ∧ K.R (fun b => w.heap.size ≤ b ∧ b < w'.heap.size) w' x (fun t => vs.getD t undef) ∧ Below w.heap.size w w'
end
end Go.Proofs.Ytjmnnjikmmglpaa
