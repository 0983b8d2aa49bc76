/-
  LawName, PickZ, Pick, FitText, BindEval
-/
import Derived.Test.YtbkligcfllakeaaKE08
import Derived.Test.YtbkligcfllakeaaKE06
import Derived.Test.YtbkligcfllakeaaKE01
import Derived.WalkSpells
import Derived.WalkLawsBesides
import Derived.Deep.CutRange
import Derived.Deep.Cut
namespace Go.Proofs.Ytbkligcfllakeaa
open Go.RowKit
def nameByte (c : UInt8) : UInt8 := if c.toNat % 37 < 26 then UInt8.ofNat (97 + c.toNat % 37) else if c.toNat % 37 < 36 then UInt8.ofNat (48 + c.toNat % 37 - 26) else 95
def rawName (s : ByteArray) : List UInt8 := 110 :: s.data.toList.take 15
def nameOf (s : ByteArray) : List UInt8 := 110 :: (s.data.toList.take 15).map nameByte
def nameTo (s : ByteArray) (i : Nat) : List UInt8 := (nameOf s).take i ++ (rawName s).drop i
theorem rawName_length (s : ByteArray) : (rawName s).length = 1 + min s.size 15 := by simp [rawName]; omega
theorem nameOf_length (s : ByteArray) : (nameOf s).length = 1 + min s.size 15 := by simp [nameOf]; omega
theorem nameTo_length (s : ByteArray) (i : Nat) : (nameTo s i).length = 1 + min s.size 15 := by
 simp only [nameTo, List.length_append, List.length_take, List.length_drop, rawName_length, nameOf_length]; omega
theorem nameTo_one (s : ByteArray) : nameTo s 1 = rawName s := by simp [nameTo, nameOf, rawName]
theorem nameTo_end (s : ByteArray) : nameTo s (1 + min s.size 15) = nameOf s := by
 rw [nameTo, List.take_of_length_le (by rw [nameOf_length]; omega), List.drop_of_length_le (by rw [rawName_length]; omega), List.append_nil]
theorem nameTo_get (s : ByteArray) (i : Nat) (_h1 : 1 ≤ i) (h : i < (nameTo s i).length) (h' : i < (rawName s).length) : (nameTo s i)[i] = (rawName s)[i] := by
 have e : ((nameOf s).take i).length = i := by rw [List.length_take, nameOf_length]; rw [rawName_length] at h'; omega
 simp only [nameTo]
 rw [List.getElem_append_right (by omega)];simp [e]
theorem nameTo_succ (s : ByteArray) (i : Nat) (h1 : 1 ≤ i) (h' : i < (rawName s).length) : nameTo s (i + 1) = (nameTo s i).set i (nameByte (rawName s)[i]) := by
 have hn : i < (nameOf s).length := by rw [nameOf_length]; rw [rawName_length] at h'; exact h'
 have e : ((nameOf s).take i).length = i := by rw [List.length_take]; omega
 have hget : (nameOf s)[i] = nameByte (rawName s)[i] := by
  match i, h1 with
  | i + 1, _ => simp [nameOf, rawName]
 rw [nameTo, nameTo, List.set_append_right _ _ (by omega), e, Nat.sub_self, List.drop_eq_getElem_cons h', List.set_cons_zero, List.take_succ_eq_append_getElem hn, hget];simp
theorem nameByte_small (c : UInt8) (h : c.toNat % 37 < 26) : ((nameByte c).toNat : Int) = 97 + (c.toNat : Int) % 37 := by
 rw [nameByte, if_pos h, UInt8.toNat_ofNat', Nat.mod_eq_of_lt (by omega)]; omega
theorem nameByte_digit (c : UInt8) (h : ¬ c.toNat % 37 < 26) (h2 : c.toNat % 37 < 36) : ((nameByte c).toNat : Int) = 48 + (c.toNat : Int) % 37 - 26 := by
 rw [nameByte, if_neg h, if_pos h2, UInt8.toNat_ofNat', Nat.mod_eq_of_lt (by omega)]; omega
theorem nameByte_low (c : UInt8) (h : ¬ c.toNat % 37 < 26) (h2 : ¬ c.toNat % 37 < 36) : nameByte c = 95 := by rw [nameByte, if_neg h, if_neg h2]
set_option maxRecDepth 100000 in
set_option maxHeartbeats 2000000 in
theorem lawName_any (s : ByteArray) (w : World) (hs : s.size ≤ maxLen) :
  Calls Try.prog 50 #[.string s] w fun e w' => e = .returned (.string ⟨(nameOf s).toArray⟩) ∧ Below w.heap.size w w' := by
 unfold maxLen at hs;have hconv := conv_to w;go_enter Try.func50, Try.ntmps50
 go_wp2_with fail
 have hraw : (({ data := #[110] } : ByteArray) ++ s.extract 0 (min (s.size : Int) 15).toNat).data.toList = rawName s := by
  rw [rawName];have e : (min (s.size : Int) 15).toNat = min s.size 15 := by omega
  rw [e, ByteArray.data_append, ByteArray.data_extract];simp
  omega
 have hlen : 1 + min (min (s.size : Int) 15).toNat s.size = (rawName s).length := by rw [rawName_length]; omega
 have hby := bytes_new w (({ data := #[110] } : ByteArray) ++ s.extract 0 (min (s.size : Int) 15).toNat);have hbe := bytes_below w (({ data := #[110] } : ByteArray) ++ s.extract 0 (min (s.size : Int) 15).toNat);rw [hraw] at hby;generalize Lib.bytesWorld w 5 (({ data := #[110] } : ByteArray) ++ s.extract 0 (min (s.size : Int) 15).toNat) = w1 at *;generalize grownCap w (1 + min (min (s.size : Int) 15).toNat s.size) 0 5 = cap at *;generalize 1 + min (min (s.size : Int) 15).toNat s.size = len at *;have hl16 : len ≤ 16 := by rw [hlen, rawName_length]; omega
 have HLEN := Lib.hid hlen;rw [← nameTo_one] at hby;have hl1 : 1 ≤ len := by rw [hlen, rawName_length]; omega
 clear hlen hraw hconv;go_loopw [4] (fun i wr => ∃ k : Nat, 1 ≤ k ∧ k ≤ len ∧ i = .int .i64 k ∧ BytesAt wr w.heap.size (nameTo s k) ∧ Below w.heap.size w wr) (fun i _ => len - (intOf i).toNat)
 case atStart => exact ⟨1, Nat.le_refl _, hl1, rfl, hby, hbe⟩
 case round =>
  obtain ⟨k, hk1, hk2, rfl, hb, hbel⟩ := hrel;clear hby hbe
  by_cases hlt : k < len
  ·have hkr : k < (rawName s).length := by rw [← HLEN.out]; exact hlt
   have hkn : k < (nameTo s k).length := by rw [nameTo_length, ← rawName_length]; exact hkr
   have hc := hb.cell k hkn;have hf := hb.free k hkn;rw [nameTo_get s k hk1 hkn hkr] at hc;have HS := Lib.hid (nameTo_succ s k hk1 hkr);have HB := Lib.hid (hb.set k (nameByte (rawName s)[k])); clear hb
   generalize (rawName s)[k] = c at *;have hc255 : (c.toNat : Int) ≤ 255 := by have := c.toNat_lt; omega
   have hbel' := fun v => hbel.setCell (p := ⟨w.heap.size, k, none⟩) (Nat.le_refl _) v
   have HBEL := Lib.hid hbel'; clear hbel'
   by_cases h1 : c.toNat % 37 < 26
   ·have HN := Lib.hid (nameByte_small c h1)
    have t1 : (c.toNat : Int) % 37 < 26 := by omega
    go_wp2_with fail
    go_roundw
    case rel => exact ⟨k + 1, by omega, by omega, by go_num, by rw [HS.out]; have := HB.out; rw [HN.out] at this; exact this, HBEL.out _⟩
    case measure => simp [intOf]; omega
   ·by_cases h2 : c.toNat % 37 < 36
    ·have HN := Lib.hid (nameByte_digit c h1 h2)
     have t1 : ¬ (c.toNat : Int) % 37 < 26 := by omega
     have t2 : (c.toNat : Int) % 37 < 36 := by omega
     go_wp2_with fail
     go_roundw
     case rel => exact ⟨k + 1, by omega, by omega, by go_num, by rw [HS.out]; have := HB.out; rw [HN.out] at this; exact this, HBEL.out _⟩
     case measure => simp [intOf]; omega
    ·have HN := Lib.hid (nameByte_low c h1 h2)
     have t1 : ¬ (c.toNat : Int) % 37 < 26 := by omega
     have t2 : ¬ (c.toNat : Int) % 37 < 36 := by omega
     go_wp2_with fail
     go_roundw
     case rel => exact ⟨k + 1, by omega, by omega, by go_num, by rw [HS.out]; have := HB.out; rw [HN.out] at this; rw [HN.out]; exact this, HBEL.out _⟩
     case measure => simp [intOf]; omega
  ·have hke : k = len := by omega
   have hnb : BytesAt wr w.heap.size (nameOf s) := by rw [hke, HLEN.out, rawName_length, nameTo_end] at hb; exact hb
   have hback := conv_back wr w.heap.size cap (nameOf s) hnb;have hnl : (nameOf s).length = len := by rw [HLEN.out, nameOf_length, rawName_length]
   rw [hnl] at hback;clear hnl hb hnb hke;go_wp2_with fail
   go_ret
   exact ⟨rfl, hbel⟩
end Go.Proofs.Ytbkligcfllakeaa
namespace Go.Proofs.Ytbkligcfllakeaa
open Go.RowKit
def pickZ (c n : Int) : Int := (if c < 0 then -(c + 1) else c) % n
theorem pickZ_bd (c n : Int) (h : 0 < n) : 0 ≤ pickZ c n ∧ pickZ c n < n := ⟨Int.emod_nonneg _ (by omega), Int.emod_lt_of_pos _ h⟩
theorem ret_int' {k : IntKind} {a b : Int} (h : a = b) : Ending.returned (.int k a) = .returned (.int k b) := by rw [h]
end Go.Proofs.Ytbkligcfllakeaa
namespace Go.Proofs.Ytbkligcfllakeaa
open Go.RowKit
theorem pick_any (c n : Int) (w : World) (hc : I64 c) (hn : 1 ≤ n) (hn2 : n ≤ 9223372036854775807) :
  Calls Try.prog 49 #[.int .i64 c, .int .i64 n] w fun e w' => e = .returned (.int .i64 (pickZ c n)) ∧ w = w' := by
 obtain ⟨h1, h2⟩ := hc
 by_cases h : c < 0
 ·have HF : Hid (pickZ c n = (-(c + 1)) % n) := by show _ = _; rw [pickZ, if_pos h]
  have h3 : 0 ≤ -(c + 1) := by omega
  have hne : (n == 0) = false := beq_eq_false_iff_ne.2 (by omega);go_enter Try.func49, Try.ntmps49
  go_wp2_with fail
  go_ret
  refine ⟨?_, rfl⟩;rw [HF.out];refine ret_int' ?_;rw [← Int.neg_tmod, Int.tmod_eq_emod_of_nonneg h3]
 ·have HF : Hid (pickZ c n = c % n) := by show _ = _; rw [pickZ, if_neg h]
  have h3 : 0 ≤ c := by omega
  have hne : (n == 0) = false := beq_eq_false_iff_ne.2 (by omega);go_enter Try.func49, Try.ntmps49
  go_wp2_with fail
  go_ret
  refine ⟨?_, rfl⟩;rw [HF.out];rfl
end Go.Proofs.Ytbkligcfllakeaa
namespace Go.Proofs.Ytbkligcfllakeaa
open Go.RowKit
def fitByte (c : UInt8) : UInt8 := if 32 + c.toNat % 95 = 34 ∨ 32 + c.toNat % 95 = 92 then 32 else UInt8.ofNat (32 + c.toNat % 95)
def rawText (s : ByteArray) : List UInt8 := s.data.toList.take 32
def textOf (s : ByteArray) : List UInt8 := (rawText s).map fitByte
def textTo (s : ByteArray) (i : Nat) : List UInt8 := (textOf s).take i ++ (rawText s).drop i
theorem rawText_length (s : ByteArray) : (rawText s).length = min s.size 32 := by simp [rawText]; omega
theorem textOf_length (s : ByteArray) : (textOf s).length = min s.size 32 := by simp [textOf, rawText_length]
theorem textTo_length (s : ByteArray) (i : Nat) : (textTo s i).length = min s.size 32 := by
 simp only [textTo, List.length_append, List.length_take, List.length_drop, rawText_length, textOf_length]; omega
theorem textTo_zero (s : ByteArray) : textTo s 0 = rawText s := by simp [textTo]
theorem textTo_end (s : ByteArray) : textTo s (min s.size 32) = textOf s := by
 rw [textTo, List.take_of_length_le (by rw [textOf_length]; omega), List.drop_of_length_le (by rw [rawText_length]; omega), List.append_nil]
theorem textTo_get (s : ByteArray) (i : Nat) (h : i < (textTo s i).length) (h' : i < (rawText s).length) : (textTo s i)[i] = (rawText s)[i] := by
 have e : ((textOf s).take i).length = i := by rw [List.length_take, textOf_length]; rw [rawText_length] at h'; omega
 simp only [textTo]
 rw [List.getElem_append_right (by omega)];simp [e]
theorem textTo_succ (s : ByteArray) (i : Nat) (h' : i < (rawText s).length) : textTo s (i + 1) = (textTo s i).set i (fitByte (rawText s)[i]) := by
 have hn : i < (textOf s).length := by rw [textOf_length]; rw [rawText_length] at h'; exact h'
 have e : ((textOf s).take i).length = i := by rw [List.length_take]; omega
 have hget : (textOf s)[i] = fitByte (rawText s)[i] := by simp [textOf]
 rw [textTo, textTo, List.set_append_right _ _ (by omega), e, Nat.sub_self, List.drop_eq_getElem_cons h', List.set_cons_zero, List.take_succ_eq_append_getElem hn, hget];simp
theorem size_mk' (l : List UInt8) : (⟨l.toArray⟩ : ByteArray).size = l.length := by
 show l.toArray.size = _
 simp
def fitFlat (x : V) : V :=
 if pickZ x.kind 4 = 0 then .mk 1 (pickZ x.num 4294967295 - 2147483647) ⟨#[]⟩ []
 else if pickZ x.kind 4 = 1 then .mk 2 0 ⟨(textOf x.text).toArray⟩ []
 else .mk 3 0 ⟨(nameOf x.text).toArray⟩ []
def FitPost (y : V) (w : World) (e : Ending) (w' : World) : Prop :=
 ∃ c0 c1 c2 c3, e = .returned (.agg #[c0, c1, c2, c3]) ∧ RepG (fun b => w.heap.size ≤ b ∧ b < w'.heap.size) w' y c0 c1 c2 c3 ∧ Below w.heap.size w w'
set_option maxRecDepth 100000 in
set_option maxHeartbeats 2000000 in
theorem fit_num (x : V) (d : Int) (w : World) (fa : Option Addr) (len cap : Nat) (hk : I64 x.kind) (hn : I64 x.num) (h : pickZ x.kind 4 = 0) :
  Calls Try.prog 26 #[.agg #[.int .i64 x.kind, .int .i64 x.num, .string x.text, .slice fa len cap], .int .i64 d] w (FitPost (fitFlat x) w) := by
 have HE : Hid (fitFlat x = .mk 1 (pickZ x.num 4294967295 - 2147483647) ⟨#[]⟩ []) := by show _ = _; rw [fitFlat, if_pos h]
 obtain ⟨b1, b2⟩ := pickZ_bd x.num 4294967295 (by omega);have HP := Lib.hid h; clear h
 go_enter Try.func26, Try.ntmps26
 go_wp2_with fail
 refine (pick_any _ 4 _ hk (by omega) (by omega)).mono ?_;rintro e w' ⟨rfl, rfl⟩;rw [HP.out];go_wp2_with fail
 refine (pick_any _ 4294967295 _ hn (by omega) (by omega)).mono ?_;rintro e w' ⟨rfl, rfl⟩;generalize pickZ x.num 4294967295 = z at *;go_wp2_with fail
 refine bodyPost_ret (v := .agg #[.int .i64 1, .int .i64 (z - 2147483647), .string ⟨#[]⟩, .slice none 0 0]) (by simp [results, Try.results26, go_sem]) rfl ?_;rw [HE.out];exact ⟨_, _, _, _, rfl, flat_rep _ _ _ _ _ ⟨by omega, by omega⟩ ⟨by omega, by omega⟩ (by unfold maxLen; simp [ByteArray.size]), ((Below.refl _ w).alloc (Nat.le_refl _) _).alloc (by simp) _⟩
theorem stored_below {w w1 : World} {k : Nat} (hk : w.heap.size ≤ k) (hb : Below w.heap.size w w1) (c0 c1 c2 c3 : Value) : Below w.heap.size w ((((w1.setCell ⟨k, 0, none⟩ c0).setCell ⟨k, 1, none⟩ c1).setCell ⟨k, 2, none⟩ c2).setCell ⟨k, 3, none⟩ c3) :=
 (((hb.setCell (p := ⟨k, 0, none⟩) hk _).setCell (p := ⟨k, 1, none⟩) hk _).setCell (p := ⟨k, 2, none⟩) hk _).setCell (p := ⟨k, 3, none⟩) hk _
set_option maxRecDepth 100000 in
set_option maxHeartbeats 2000000 in
theorem fit_addr (x : V) (d : Int) (w : World) (fa : Option Addr) (len cap : Nat) (hk : I64 x.kind) (hs : x.text.size ≤ maxLen) (h : pickZ x.kind 4 = 2) :
  Calls Try.prog 26 #[.agg #[.int .i64 x.kind, .int .i64 x.num, .string x.text, .slice fa len cap], .int .i64 d] w (FitPost (fitFlat x) w) := by
 have HE : Hid (fitFlat x = .mk 3 0 ⟨(nameOf x.text).toArray⟩ []) := by show _ = _; rw [fitFlat, if_neg (by omega), if_neg (by omega)]
 have HP := Lib.hid h; clear h
 go_enter Try.func26, Try.ntmps26
 go_wp2_with fail
 refine (pick_any _ 4 _ hk (by omega) (by omega)).mono ?_;rintro e w' ⟨rfl, rfl⟩;rw [HP.out];go_wp2_with fail
 have b1 := (Below.refl _ w).alloc (Nat.le_refl _) (.cells #[.int .i64 x.kind, .int .i64 x.num, .string x.text, .slice fa len cap] 27);have s1 := World.size_alloc w (.cells #[.int .i64 x.kind, .int .i64 x.num, .string x.text, .slice fa len cap] 27);generalize w.alloc (.cells #[.int .i64 x.kind, .int .i64 x.num, .string x.text, .slice fa len cap] 27) = w1 at *;have y2 := boxed_new w1 (.int .i64 0) (.int .i64 0) (.string ⟨#[]⟩) (.slice none 0 0);have b2 := (Below.refl _ w1).alloc (Nat.le_refl _) (.cells #[.int .i64 0, .int .i64 0, .string ⟨#[]⟩, .slice none 0 0] 27);generalize w1.alloc (.cells #[.int .i64 0, .int .i64 0, .string ⟨#[]⟩, .slice none 0 0] 27) = w2 at *;rw [s1] at y2;have B2 := Below.step b1 b2;clear b1 b2 s1;refine (lawName_any _ _ hs).mono ?_;rintro e w3 ⟨rfl, b3⟩;have y3 := y2.on b3;have B3 := Below.step B2 b3;have hnl := nameOf_length x.text;generalize hnm : (⟨(nameOf x.text).toArray⟩ : ByteArray) = nm at *;have hnsz : nm.size ≤ 16 := by rw [← hnm, size_mk']; omega
 clear hnm hnl b3 y2 B2;obtain ⟨p0, p1, p2, p3⟩ := y3.cells;have z0 := frozen_of_row w3 _ 0 _ _ y3;have z1 := frozen_of_row w3 _ 1 _ _ y3;have z2 := frozen_of_row w3 _ 2 _ _ y3;have z3 := frozen_of_row w3 _ 3 _ _ y3;clear y3;go_wp2_with fail
 refine bodyPost_ret (v := .agg #[.int .i64 3, .int .i64 0, .string nm, .slice none 0 0]) (by simp [results, Try.results26, go_sem, p0, p1, p2, p3]) rfl ?_;rw [HE.out];exact ⟨_, _, _, _, rfl, flat_rep _ _ _ _ _ ⟨by omega, by omega⟩ ⟨by omega, by omega⟩ (by unfold maxLen; omega), stored_below (by omega) B3 _ _ _ _⟩
theorem fitByte_plain (c : UInt8) (h1 : 32 + c.toNat % 95 ≠ 34) (h2 : 32 + c.toNat % 95 ≠ 92) : ((fitByte c).toNat : Int) = 32 + (c.toNat : Int) % 95 := by
 rw [fitByte, if_neg (by omega), UInt8.toNat_ofNat', Nat.mod_eq_of_lt (by omega)]; omega
theorem fitByte_blank (c : UInt8) (h : 32 + c.toNat % 95 = 34 ∨ 32 + c.toNat % 95 = 92) : fitByte c = 32 := by rw [fitByte, if_pos h]
set_option maxRecDepth 100000 in
set_option maxHeartbeats 4000000 in
theorem fit_text (x : V) (d : Int) (w : World) (fa : Option Addr) (len cap : Nat) (hk : I64 x.kind) (hs : x.text.size ≤ maxLen) (h : pickZ x.kind 4 = 1) :
  Calls Try.prog 26 #[.agg #[.int .i64 x.kind, .int .i64 x.num, .string x.text, .slice fa len cap], .int .i64 d] w (FitPost (fitFlat x) w) := by
 have HE : Hid (fitFlat x = .mk 2 0 ⟨(textOf x.text).toArray⟩ []) := by show _ = _; rw [fitFlat, if_neg (by omega), if_pos h]
 have HP := Lib.hid h; clear h
 unfold maxLen at hs;generalize x.text = s at *;go_enter Try.func26, Try.ntmps26
 go_wp2_with fail
 refine (pick_any _ 4 _ hk (by omega) (by omega)).mono ?_;rintro e w' ⟨rfl, rfl⟩;rw [HP.out];have b1 := (Below.refl _ w).alloc (Nat.le_refl _) (.cells #[.int .i64 x.kind, .int .i64 x.num, .string s, .slice fa len cap] 27);have s1 := World.size_alloc w (.cells #[.int .i64 x.kind, .int .i64 x.num, .string s, .slice fa len cap] 27);have x1 := boxed_new w (.int .i64 x.kind) (.int .i64 x.num) (.string s) (.slice fa len cap);generalize w.alloc (.cells #[.int .i64 x.kind, .int .i64 x.num, .string s, .slice fa len cap] 27) = w1 at *;have y2 := boxed_new w1 (.int .i64 0) (.int .i64 0) (.string ⟨#[]⟩) (.slice none 0 0);have b2 := (Below.refl _ w1).alloc (Nat.le_refl _) (.cells #[.int .i64 0, .int .i64 0, .string ⟨#[]⟩, .slice none 0 0] 27);generalize w1.alloc (.cells #[.int .i64 0, .int .i64 0, .string ⟨#[]⟩, .slice none 0 0] 27) = w2 at *;rw [s1] at y2;have x2 := x1.on b2;have B2 := Below.step b1 b2;have hs2 := b2.size;clear b1 b2 x1;obtain ⟨p0, p1, p2, p3⟩ := x2.cells;have hconv := conv_to w2;go_wp2_with fail
 have hraw : (s.extract 0 (min (s.size : Int) 32).toNat).data.toList = rawText s := by
  rw [rawText];have e : (min (s.size : Int) 32).toNat = min s.size 32 := by omega
  rw [e, ByteArray.data_extract];simp
  omega
 have hby := bytes_new w2 (s.extract 0 (min (s.size : Int) 32).toNat);have hbe := bytes_below w2 (s.extract 0 (min (s.size : Int) 32).toNat);rw [hraw] at hby;have hlen : min (min (s.size : Int) 32).toNat s.size = (rawText s).length := by rw [rawText_length]; omega
 generalize Lib.bytesWorld w2 5 (s.extract 0 (min (s.size : Int) 32).toNat) = w3 at *;generalize grownCap w2 (min (min (s.size : Int) 32).toNat s.size) 0 5 = cap2 at *;generalize min (min (s.size : Int) 32).toNat s.size = tl at *;have hl32 : tl ≤ 32 := by rw [hlen, rawText_length]; omega
 have HLEN := Lib.hid hlen;rw [← textTo_zero] at hby;have HY2 := Lib.hid y2;have hy2sz := y2.lt;clear hlen hraw hconv p0 p1 p2 p3 x2 y2;have hgs := hbe.size;have hg3 := hby.lt;go_loopw [7] (fun i wr => ∃ k : Nat, k ≤ tl ∧ i = .int .i64 k ∧ BytesAt wr w2.heap.size (textTo s k) ∧ Below w2.heap.size w2 wr) (fun i _ => tl - (intOf i).toNat)
 case atStart => exact ⟨0, Nat.zero_le _, rfl, hby, hbe⟩
 case round =>
  obtain ⟨k, hk2, rfl, hb, hbel⟩ := hrel;clear hby hbe
  by_cases hlt : k < tl
  ·have hkr : k < (rawText s).length := by rw [← HLEN.out]; exact hlt
   have hkn : k < (textTo s k).length := by rw [textTo_length, ← rawText_length]; exact hkr
   have hc := hb.cell k hkn;have hf := hb.free k hkn;rw [textTo_get s k hkn hkr] at hc;have HS := Lib.hid (textTo_succ s k hkr);have HB := Lib.hid hb; clear hb
   generalize (rawText s)[k] = c at *;have hc255 : (c.toNat : Int) ≤ 255 := by have := c.toNat_lt; omega
   have HBEL := Lib.hid hbel
   by_cases h34 : 32 + c.toNat % 95 = 34
   ·have HN := Lib.hid (fitByte_blank c (Or.inl h34))
    have t1 : (32 + (c.toNat : Int) % 95 == 34) = true := beq_iff_eq.2 (by omega)
    have HB2 : Hid (BytesAt ((wr.setCell ⟨w2.heap.size, k, none⟩ (.int .u8 (32 + (c.toNat : Int) % 95))).setCell ⟨w2.heap.size, k, none⟩ (.int .u8 32)) w2.heap.size (textTo s (k + 1))) := by
     have e1 : (32 + (c.toNat : Int) % 95) = ((UInt8.ofNat (32 + c.toNat % 95)).toNat : Int) := by rw [UInt8.toNat_ofNat', Nat.mod_eq_of_lt (by omega)]; omega
     show BytesAt _ _ _
     rw [e1, HS.out, HN.out];have := (HB.out.set k (UInt8.ofNat (32 + c.toNat % 95))).set k 32;rw [List.set_set] at this;exact this
    clear h34;go_wp2_with fail
    go_roundw
    case rel => exact ⟨k + 1, by omega, by go_num, HB2.out, (HBEL.out.setCell (p := ⟨w2.heap.size, k, none⟩) (Nat.le_refl _) _).setCell (p := ⟨w2.heap.size, k, none⟩) (Nat.le_refl _) _⟩
    case measure => simp [intOf]; omega
   by_cases h92 : 32 + c.toNat % 95 = 92
   ·have HN := Lib.hid (fitByte_blank c (Or.inr h92))
    have t1 : (32 + (c.toNat : Int) % 95 == 34) = false := beq_eq_false_iff_ne.2 (by omega);have t2 : (32 + (c.toNat : Int) % 95 == 92) = true := beq_iff_eq.2 (by omega)
    have HB2 : Hid (BytesAt ((wr.setCell ⟨w2.heap.size, k, none⟩ (.int .u8 (32 + (c.toNat : Int) % 95))).setCell ⟨w2.heap.size, k, none⟩ (.int .u8 32)) w2.heap.size (textTo s (k + 1))) := by
     have e1 : (32 + (c.toNat : Int) % 95) = ((UInt8.ofNat (32 + c.toNat % 95)).toNat : Int) := by rw [UInt8.toNat_ofNat', Nat.mod_eq_of_lt (by omega)]; omega
     show BytesAt _ _ _
     rw [e1, HS.out, HN.out];have := (HB.out.set k (UInt8.ofNat (32 + c.toNat % 95))).set k 32;rw [List.set_set] at this;exact this
    clear h34 h92;go_wp2_with fail
    go_roundw
    case rel => exact ⟨k + 1, by omega, by go_num, HB2.out, (HBEL.out.setCell (p := ⟨w2.heap.size, k, none⟩) (Nat.le_refl _) _).setCell (p := ⟨w2.heap.size, k, none⟩) (Nat.le_refl _) _⟩
    case measure => simp [intOf]; omega
   ·have t1 : (32 + (c.toNat : Int) % 95 == 34) = false := beq_eq_false_iff_ne.2 (by omega)
    have t2 : (32 + (c.toNat : Int) % 95 == 92) = false := beq_eq_false_iff_ne.2 (by omega)
    have HB2 : Hid (BytesAt (wr.setCell ⟨w2.heap.size, k, none⟩ (.int .u8 (32 + (c.toNat : Int) % 95))) w2.heap.size (textTo s (k + 1))) := by
     show BytesAt _ _ _
     rw [HS.out, ← fitByte_plain c h34 h92];exact HB.out.set k (fitByte c)
    clear h34 h92;go_wp2_with fail
    go_roundw
    case rel => exact ⟨k + 1, by omega, by go_num, HB2.out, HBEL.out.setCell (p := ⟨w2.heap.size, k, none⟩) (Nat.le_refl _) _⟩
    case measure => simp [intOf]; omega
  ·have hke : k = tl := by omega
   have hnb : BytesAt wr w2.heap.size (textOf s) := by rw [hke, HLEN.out, rawText_length, textTo_end] at hb; exact hb
   have hback := conv_back wr w2.heap.size cap2 (textOf s) hnb;have hnl : (textOf s).length = tl := by rw [HLEN.out, textOf_length, rawText_length]
   rw [hnl] at hback;have yr := HY2.out.on hbel;have HB := Lib.hid (stored_below (k := w.heap.size + 1) (by omega) (B2.trans (hbel.mono B2.size)) (.int .i64 2) (.int .i64 0) (.string ⟨(textOf s).toArray⟩) (.slice none 0 0));have hsz : (⟨(textOf s).toArray⟩ : ByteArray).size ≤ 32 := by rw [size_mk', textOf_length]; omega
   generalize (⟨(textOf s).toArray⟩ : ByteArray) = nm at *;clear hnl hb hnb hbel HY2 B2;obtain ⟨p0, p1, p2, p3⟩ := yr.cells;have z0 := frozen_of_row wr _ 0 _ _ yr;have z1 := frozen_of_row wr _ 1 _ _ yr;have z2 := frozen_of_row wr _ 2 _ _ yr;have z3 := frozen_of_row wr _ 3 _ _ yr;clear yr;go_wp2_with fail
   refine bodyPost_ret (v := .agg #[.int .i64 2, .int .i64 0, .string nm, .slice none 0 0]) (by simp [results, Try.results26, go_sem, p0, p1, p2, p3]) rfl ?_;rw [HE.out];exact ⟨_, _, _, _, rfl, flat_rep _ _ _ _ _ ⟨by omega, by omega⟩ ⟨by omega, by omega⟩ (by unfold maxLen; omega), HB.out⟩
end Go.Proofs.Ytbkligcfllakeaa
namespace Go.Proofs.Ytbkligcfllakeaa
open Go.RowKit
set_option maxRecDepth 100000 in
set_option maxHeartbeats 1000000 in
theorem lookup_any (E : List Bd) (s : ByteArray) (S : Nat → Prop) (w : World) (a : Value) (hS : ∀ k, S k → k < w.heap.size) (hE : RepBs S w E a) :
  Calls Try.prog 46 #[a, .string s] w (EvPost S (lookZ s E) w) := by
 have HE := Lib.hid hE; have HS := Lib.hid hS
 have HBY := SlG.bytes hE;obtain ⟨fa, fc, rfl⟩ := SlG.form hE;clear hE hS;go_enter Try.func46, Try.ntmps46
 go_upto_region 2 with fail
 have x1 := boxed_new w (.int .i64 0) (.int .i64 0) (.string ⟨#[]⟩) (.slice none 0 0);have b1 := below_alloc w (.cells #[.int .i64 0, .int .i64 0, .string ⟨#[]⟩, .slice none 0 0] 27);have s1 := World.size_alloc w (.cells #[.int .i64 0, .int .i64 0, .string ⟨#[]⟩, .slice none 0 0] 27);generalize w.alloc (.cells #[.int .i64 0, .int .i64 0, .string ⟨#[]⟩, .slice none 0 0] 27) = w1 at *;have X1 := Lib.hid x1; have B1 := Lib.hid b1; have S1 := Lib.hid s1
 clear x1 b1 s1;go_loopw [10] (fun iv wr => ∃ k : Nat, k ≤ E.length ∧ iv = .int .i64 (k : Int) ∧ Hid (lookZ s E = lookZ s (E.drop k)) ∧ Hid (Below w1.heap.size w1 wr)) (fun iv _ => E.length - (intOf iv).toNat)
 case atStart => exact ⟨0, Nat.zero_le _, rfl, rfl, Below.refl _ _⟩
 case round =>
  obtain ⟨k, hk, rfl, hrec, hb⟩ := hrel;have XR := Lib.hid (X1.out.on hb.out);have BR := Lib.hid (Below.step B1.out hb.out)
  by_cases hlt : k < E.length
  ·have hE : RepBs S wr E (.slice fa E.length fc) := RepBs.on (fun _ h => h) (fun j hj => BR.out.block j (HS.out j hj)) HE.out
   obtain ⟨-, -, lb, lo, ga, gc, rfl, hSb, g0, g1, g2, g3, g4, g⟩ := RepBs.at hE k hlt;have HD := Lib.hid (List.drop_eq_getElem_cons hlt);have HG := Lib.hid g;have HLT := Lib.hid hlt;have hk1 : (0 : Int) ≤ (k : Int) := Int.natCast_nonneg k;have hk2 : (k : Int) < (E.length : Int) := by omega
   clear g hSb hE;generalize E[k] = z at *;clear hlt;have m1 := alloc_new' wr (.cells #[.string z.1, .int .i64 z.2.kind, .int .i64 z.2.num, .string z.2.text, .slice ga z.2.list.length gc] 35);have d1 := below_alloc wr (.cells #[.string z.1, .int .i64 z.2.kind, .int .i64 z.2.num, .string z.2.text, .slice ga z.2.list.length gc] 35);have XQ := Lib.hid (XR.out.on d1);have BQ := Lib.hid (Below.step BR.out d1);have BW := Lib.hid (Below.step hb.out d1);have SQ : Hid (wr.heap.size ≤ (wr.alloc (.cells #[.string z.1, .int .i64 z.2.kind, .int .i64 z.2.num, .string z.2.text, .slice ga z.2.list.length gc] 35)).heap.size) := d1.size;have HGQ : Hid (RepB S (wr.alloc (.cells #[.string z.1, .int .i64 z.2.kind, .int .i64 z.2.num, .string z.2.text, .slice ga z.2.list.length gc] 35)) z (.string z.1) (.int .i64 z.2.kind) (.int .i64 z.2.num) (.string z.2.text) (.slice ga z.2.list.length gc)) := RepB.on (fun _ h => h) (fun j hj => d1.block j (Nat.lt_of_lt_of_le (HS.out j hj) BR.out.size)) HG.out;go_upto_region 4 with fail
   clear g0 g1 g2 g3 g4 d1 HG XR BR hb;obtain ⟨kz, hkz⟩ : ∃ kz, wr.heap.size = kz := ⟨_, rfl⟩;rw [hkz] at m1 SQ ⊢;clear hkz;generalize wr.alloc (.cells #[.string z.1, .int .i64 z.2.kind, .int .i64 z.2.num, .string z.2.text, .slice ga z.2.list.length gc] 35) = w2 at *;have q0 := cell_of_block' (i := 0) m1 _ rfl;have q1 := cell_of_block' (i := 1) m1 _ rfl;have q2 := cell_of_block' (i := 2) m1 _ rfl;have q3 := cell_of_block' (i := 3) m1 _ rfl;have q4 := cell_of_block' (i := 4) m1 _ rfl;clear m1
   cases hp : (z.1.toList == s.toList) with
   | true =>
    have HF : Hid (lookZ s E = some z.2) := by show _ = _; rw [hrec.out, HD.out, lookZ, if_pos hp]
    obtain ⟨r0, r1, r2, r3⟩ := XQ.out.cells;have z0 := frozen_of_row w2 _ 0 _ _ XQ.out;have z1 := frozen_of_row w2 _ 1 _ _ XQ.out;have z2 := frozen_of_row w2 _ 2 _ _ XQ.out;have z3 := frozen_of_row w2 _ 3 _ _ XQ.out;go_wp2_with fail
    refine bodyPost_ret (v := .tuple #[.agg #[.int .i64 z.2.kind, .int .i64 z.2.num, .string z.2.text, .slice ga z.2.list.length gc], .bool true]) (by simp [results, Try.results46, go_sem, r0, r1, r2, r3]) rfl ?_;rw [HF.out]
    exact ⟨_, _, _, _, rfl, RepG.on (fun b hb => .inl hb) (fun b hb => by
     have h1 := HS.out b hb
     rw [Below.heap_setCell _ _ _ _ (by simp; omega), Below.heap_setCell _ _ _ _ (by simp; omega), Below.heap_setCell _ _ _ _ (by simp; omega), Below.heap_setCell _ _ _ _ (by simp; omega)]) _ HGQ.out.2.2, stored_below (k := w.heap.size) (Nat.le_refl _) BQ.out _ _ _ _⟩
   | false =>
    have HF : Hid (lookZ s E = lookZ s (E.drop (k + 1))) := by show _ = _; rw [hrec.out, HD.out, lookZ, if_neg (by rw [hp]; decide)]
    go_wp2_with fail
    go_roundw
    case rel => exact ⟨k + 1, HLT.out, by go_num, HF, BW⟩
    case measure => have := HLT.out; simp [intOf]; omega
  ·have HF : Hid (lookZ s E = none) := by show _ = _; rw [hrec.out, List.drop_of_length_le (by omega)]; rfl
   obtain ⟨r0, r1, r2, r3⟩ := XR.out.cells;have z0 := frozen_of_row wr _ 0 _ _ XR.out;have z1 := frozen_of_row wr _ 1 _ _ XR.out;have z2 := frozen_of_row wr _ 2 _ _ XR.out;have z3 := frozen_of_row wr _ 3 _ _ XR.out;go_wp2_with fail
   refine bodyPost_ret (v := .tuple #[.agg #[.int .i64 0, .int .i64 0, .string ⟨#[]⟩, .slice none 0 0], .bool false]) (by simp [results, Try.results46, go_sem, r0, r1, r2, r3]) rfl ?_;rw [HF.out];exact ⟨_, _, _, _, rfl, rep_zero, stored_below (k := w.heap.size) (Nat.le_refl _) BR.out _ _ _ _⟩
def tellId (k : Int) : Nat := if k = 1 then 92 else if k = 2 then 93 else if k = 3 then 94 else if k = 4 then 95 else 96
set_option maxRecDepth 100000 in
theorem teller_any (k : Int) (a : Option Addr) (n c : Nat) (w : World) :
  Calls Try.prog 79 #[.slice a n c, .int .i64 k] w fun e w' => e = .returned (.func (.func (tellId k)) #[.slice a n c] #[]) ∧ w = w' := by
 have hid : ∃ v, v = tellId k := ⟨_, rfl⟩;obtain ⟨v, hv⟩ := hid;rw [← hv];unfold tellId at hv
 by_cases h1 : k = 1
 ·subst h1; rw [if_pos rfl] at hv; subst hv
  go_enter Try.func79, Try.ntmps79
  go_wp2_with fail
  go_ret
  exact ⟨rfl, rfl⟩
 ·rw [if_neg h1] at hv
  by_cases h2 : k = 2
  ·subst h2; rw [if_pos rfl] at hv; subst hv
   go_enter Try.func79, Try.ntmps79
   go_wp2_with fail
   go_ret
   exact ⟨rfl, rfl⟩
  ·rw [if_neg h2] at hv
   by_cases h3 : k = 3
   ·subst h3; rw [if_pos rfl] at hv; subst hv
    go_enter Try.func79, Try.ntmps79
    go_wp2_with fail
    go_ret
    exact ⟨rfl, rfl⟩
   ·rw [if_neg h3] at hv
    by_cases h4 : k = 4
    ·subst h4; rw [if_pos rfl] at hv; subst hv
     go_enter Try.func79, Try.ntmps79
     go_wp2_with fail
     go_ret
     exact ⟨rfl, rfl⟩
    ·rw [if_neg h4] at hv; subst hv
     have b1 : (k == 1) = false := by simpa using h1
     have b2 : (k == 2) = false := by simpa using h2
     have b3 : (k == 3) = false := by simpa using h3
     have b4 : (k == 4) = false := by simpa using h4
     clear h1 h2 h3 h4;go_enter Try.func79, Try.ntmps79
     go_wp2_with fail
     go_ret
     exact ⟨rfl, rfl⟩
end Go.Proofs.Ytbkligcfllakeaa
