/-
  LawName, Pick, Heap, Boxed, FitText, FitDef
-/
import Derived.Test.YtgjemmdhamkngaaGreatDoorK01
import Derived.WalkSpells
import Derived.WalkLawsBesides
namespace Go.Proofs.YtgjemmdhamkngaaGreatDoor
open Go.RowKit
def nameByte (c : UInt8) : UInt8 := if c.toNat % 37 < 26 then UInt8.ofNat (97 + c.toNat % 37) else if c.toNat % 37 < 36 then UInt8.ofNat (48 + c.toNat % 37 - 26) else 95
def rawName (s : ByteArray) : List UInt8 := 110 :: s.data.toList.take 15
def nameOf (s : ByteArray) : List UInt8 := 110 :: (s.data.toList.take 15).map nameByte
def nameTo (s : ByteArray) (i : Nat) : List UInt8 := (nameOf s).take i ++ (rawName s).drop i
theorem rawName_length (s : ByteArray) : (rawName s).length = 1 + min s.size 15 := by simp [rawName]; omega
theorem nameOf_length (s : ByteArray) : (nameOf s).length = 1 + min s.size 15 := by simp [nameOf]; omega
theorem nameTo_length (s : ByteArray) (i : Nat) : (nameTo s i).length = 1 + min s.size 15 := by
 simp only [nameTo, List.length_append, List.length_take, List.length_drop, rawName_length, nameOf_length]; omega
theorem nameTo_one (s : ByteArray) : nameTo s 1 = rawName s := by simp [nameTo, nameOf, rawName]
theorem nameTo_end (s : ByteArray) : nameTo s (1 + min s.size 15) = nameOf s := by
 rw [nameTo, List.take_of_length_le (by rw [nameOf_length]; omega), List.drop_of_length_le (by rw [rawName_length]; omega), List.append_nil]
theorem nameTo_get (s : ByteArray) (i : Nat) (_h1 : 1 ≤ i) (h : i < (nameTo s i).length) (h' : i < (rawName s).length) : (nameTo s i)[i] = (rawName s)[i] := by
 have e : ((nameOf s).take i).length = i := by rw [List.length_take, nameOf_length]; rw [rawName_length] at h'; omega
 simp only [nameTo]
 rw [List.getElem_append_right (by omega)]
 simp [e]
theorem nameTo_succ (s : ByteArray) (i : Nat) (h1 : 1 ≤ i) (h' : i < (rawName s).length) : nameTo s (i + 1) = (nameTo s i).set i (nameByte (rawName s)[i]) := by
 have hn : i < (nameOf s).length := by rw [nameOf_length]; rw [rawName_length] at h'; exact h'
 have e : ((nameOf s).take i).length = i := by rw [List.length_take]; omega
 have hget : (nameOf s)[i] = nameByte (rawName s)[i] := by
  match i, h1 with
  | i + 1, _ => simp [nameOf, rawName]
 rw [nameTo, nameTo, List.set_append_right _ _ (by omega), e, Nat.sub_self, List.drop_eq_getElem_cons h', List.set_cons_zero, List.take_succ_eq_append_getElem hn, hget]
 simp
theorem nameByte_small (c : UInt8) (h : c.toNat % 37 < 26) : ((nameByte c).toNat : Int) = 97 + (c.toNat : Int) % 37 := by
 rw [nameByte, if_pos h, UInt8.toNat_ofNat', Nat.mod_eq_of_lt (by omega)]; omega
theorem nameByte_digit (c : UInt8) (h : ¬ c.toNat % 37 < 26) (h2 : c.toNat % 37 < 36) : ((nameByte c).toNat : Int) = 48 + (c.toNat : Int) % 37 - 26 := by
 rw [nameByte, if_neg h, if_pos h2, UInt8.toNat_ofNat', Nat.mod_eq_of_lt (by omega)]; omega
theorem nameByte_low (c : UInt8) (h : ¬ c.toNat % 37 < 26) (h2 : ¬ c.toNat % 37 < 36) : nameByte c = 95 := by rw [nameByte, if_neg h, if_neg h2]
set_option maxRecDepth 100000 in
set_option maxHeartbeats 2000000 in
theorem lawName_any (s : ByteArray) (w : World) (hs : s.size ≤ maxLen) :
  Calls Tryz.prog 99 #[.string s] w fun e w' => e = .returned (.string ⟨(nameOf s).toArray⟩) ∧ Below w.heap.size w w' := by
 unfold maxLen at hs
 have hconv := conv_to w
 go_enter Tryz.func99, Tryz.ntmps99
 go_wp2_with fail
 have hraw : (({ data := #[110] } : ByteArray) ++ s.extract 0 (min (s.size : Int) 15).toNat).data.toList = rawName s := by
  rw [rawName]
  have e : (min (s.size : Int) 15).toNat = min s.size 15 := by omega
  rw [e, ByteArray.data_append, ByteArray.data_extract]
  simp
  omega
 have hlen : 1 + min (min (s.size : Int) 15).toNat s.size = (rawName s).length := by rw [rawName_length]; omega
 have hby := bytes_new w (({ data := #[110] } : ByteArray) ++ s.extract 0 (min (s.size : Int) 15).toNat)
 have hbe := bytes_below w (({ data := #[110] } : ByteArray) ++ s.extract 0 (min (s.size : Int) 15).toNat)
 rw [hraw] at hby
 generalize Lib.bytesWorld w 5 (({ data := #[110] } : ByteArray) ++ s.extract 0 (min (s.size : Int) 15).toNat) = w1 at *
 generalize grownCap w (1 + min (min (s.size : Int) 15).toNat s.size) 0 5 = cap at *
 generalize 1 + min (min (s.size : Int) 15).toNat s.size = len at *
 have hl16 : len ≤ 16 := by rw [hlen, rawName_length]; omega
 have HLEN := Lib.hid hlen
 rw [← nameTo_one] at hby
 have hl1 : 1 ≤ len := by rw [hlen, rawName_length]; omega
 clear hlen hraw hconv
 go_loopw [4] (fun i wr => ∃ k : Nat, 1 ≤ k ∧ k ≤ len ∧ i = .int .i64 k ∧ BytesAt wr w.heap.size (nameTo s k) ∧ Below w.heap.size w wr) (fun i _ => len - (intOf i).toNat)
 case atStart => exact ⟨1, Nat.le_refl _, hl1, rfl, hby, hbe⟩
 case round =>
  obtain ⟨k, hk1, hk2, rfl, hb, hbel⟩ := hrel
  clear hby hbe
  by_cases hlt : k < len
  ·have hkr : k < (rawName s).length := by rw [← HLEN.out]; exact hlt
   have hkn : k < (nameTo s k).length := by rw [nameTo_length, ← rawName_length]; exact hkr
   have hc := hb.cell k hkn
   have hf := hb.free k hkn
   rw [nameTo_get s k hk1 hkn hkr] at hc
   have HS := Lib.hid (nameTo_succ s k hk1 hkr)
   have HB := Lib.hid (hb.set k (nameByte (rawName s)[k])); clear hb
   generalize (rawName s)[k] = c at *
   have hc255 : (c.toNat : Int) ≤ 255 := by have := c.toNat_lt; omega
   have hbel' := fun v => hbel.setCell (p := ⟨w.heap.size, k, none⟩) (Nat.le_refl _) v
   have HBEL := Lib.hid hbel'; clear hbel'
   by_cases h1 : c.toNat % 37 < 26
   ·have HN := Lib.hid (nameByte_small c h1)
    have t1 : (c.toNat : Int) % 37 < 26 := by omega
    go_wp2_with fail
    go_roundw
    case rel => exact ⟨k + 1, by omega, by omega, by go_num, by rw [HS.out]; have := HB.out; rw [HN.out] at this; exact this, HBEL.out _⟩
    case measure => simp [intOf]; omega
   ·by_cases h2 : c.toNat % 37 < 36
    ·have HN := Lib.hid (nameByte_digit c h1 h2)
     have t1 : ¬ (c.toNat : Int) % 37 < 26 := by omega
     have t2 : (c.toNat : Int) % 37 < 36 := by omega
     go_wp2_with fail
     go_roundw
     case rel => exact ⟨k + 1, by omega, by omega, by go_num, by rw [HS.out]; have := HB.out; rw [HN.out] at this; exact this, HBEL.out _⟩
     case measure => simp [intOf]; omega
    ·have HN := Lib.hid (nameByte_low c h1 h2)
     have t1 : ¬ (c.toNat : Int) % 37 < 26 := by omega
     have t2 : ¬ (c.toNat : Int) % 37 < 36 := by omega
     go_wp2_with fail
     go_roundw
     case rel => exact ⟨k + 1, by omega, by omega, by go_num, by rw [HS.out]; have := HB.out; rw [HN.out] at this; rw [HN.out]; exact this, HBEL.out _⟩
     case measure => simp [intOf]; omega
  ·have hke : k = len := by omega
   have hnb : BytesAt wr w.heap.size (nameOf s) := by rw [hke, HLEN.out, rawName_length, nameTo_end] at hb; exact hb
   have hback := conv_back wr w.heap.size cap (nameOf s) hnb
   have hnl : (nameOf s).length = len := by rw [HLEN.out, nameOf_length, rawName_length]
   rw [hnl] at hback
   clear hnl hb hnb hke
   go_wp2_with fail
   go_ret
   exact ⟨rfl, hbel⟩
end Go.Proofs.YtgjemmdhamkngaaGreatDoor
namespace Go.Proofs.YtgjemmdhamkngaaGreatDoor
open Go.RowKit
def pickZ (c n : Int) : Int := (if c < 0 then -(c + 1) else c) % n
theorem pickZ_bd (c n : Int) (h : 0 < n) : 0 ≤ pickZ c n ∧ pickZ c n < n := ⟨Int.emod_nonneg _ (by omega), Int.emod_lt_of_pos _ h⟩
theorem ret_int' {k : IntKind} {a b : Int} (h : a = b) : Ending.returned (.int k a) = .returned (.int k b) := by rw [h]
theorem pick_any (c n : Int) (w : World) (hc : I64 c) (hn : 1 ≤ n) (hn2 : n ≤ 9223372036854775807) :
  Calls Tryz.prog 119 #[.int .i64 c, .int .i64 n] w fun e w' => e = .returned (.int .i64 (pickZ c n)) ∧ w = w' := by
 obtain ⟨h1, h2⟩ := hc
 by_cases h : c < 0
 ·have HF : Hid (pickZ c n = (-(c + 1)) % n) := by show _ = _; rw [pickZ, if_pos h]
  have h3 : 0 ≤ -(c + 1) := by omega
  have hne : (n == 0) = false := beq_eq_false_iff_ne.2 (by omega)
  go_enter Tryz.func119, Tryz.ntmps119
  go_wp2_with fail
  go_ret
  refine ⟨?_, rfl⟩
  rw [HF.out]
  refine ret_int' ?_
  rw [← Int.neg_tmod, Int.tmod_eq_emod_of_nonneg h3]
 ·have HF : Hid (pickZ c n = c % n) := by show _ = _; rw [pickZ, if_neg h]
  have h3 : 0 ≤ c := by omega
  have hne : (n == 0) = false := beq_eq_false_iff_ne.2 (by omega)
  go_enter Tryz.func119, Tryz.ntmps119
  go_wp2_with fail
  go_ret
  refine ⟨?_, rfl⟩
  rw [HF.out]
  rfl
end Go.Proofs.YtgjemmdhamkngaaGreatDoor
namespace Go.Proofs.YtgjemmdhamkngaaGreatDoor
open Go.RowKit
theorem infoValue : (Tryz.prog.info? 44).map (fun i => (i.zero, i.size, i.bytes)) = some (some (.agg #[.int .i64 0, .int .i64 0, .string ⟨#[]⟩, .slice none 0 0]), 4, 56) := by kernel_rfl
theorem alloc_new' (w : World) (o : Obj) : (w.alloc o).heap[w.heap.size]? = some o := by
 show (w.heap.push o)[w.heap.size]? = _
 simp
theorem cell_of_block' {w : World} {k i : Nat} {cs : Array Value} {t : TypeId} {fz : Nat × Nat} (h : w.heap[k]? = some (.cells cs t fz)) (v : Value) (hv : cs[i]? = some v) : w.cell? ⟨k, i, none⟩ = some v := by
 simp [World.cell?, h, hv]
theorem RepLG.at {S : Nat → Prop} {w : World} {l : List V} {a : Option Addr} {n cap : Nat} (h : RepLG S w l (.slice a n cap)) (i : Nat) (hi : i < l.length) :
  n = l.length ∧ l.length ≤ cap ∧ ∃ b o fa fc, a = some ⟨b, o, none⟩ ∧ S b ∧ w.cell? ⟨b, o + i * 4, none⟩ = some (.int .i64 l[i].kind) ∧ w.cell? ⟨b, o + i * 4 + 1, none⟩ = some (.int .i64 l[i].num) ∧ w.cell? ⟨b, o + i * 4 + 2, none⟩ = some (.string l[i].text) ∧
   w.cell? ⟨b, o + i * 4 + 3, none⟩ = some (.slice fa l[i].list.length fc) ∧ RepG S w l[i] (.int .i64 l[i].kind) (.int .i64 l[i].num) (.string l[i].text) (.slice fa l[i].list.length fc) := by
 obtain ⟨a', b, o, cap', e, h6, h7, h8, h9, h10⟩ := h
 cases e
 obtain ⟨x0, x1, x2, x3, g0, g1, g2, g3, g⟩ := h10 i hi
 obtain ⟨fa, fc, rfl, rfl, rfl, rfl⟩ := g.form
 exact ⟨rfl, h6, b, o, fa, fc, h8 (by omega), h9 (by omega), g0, g1, g2, g3, g⟩
theorem below_alloc (w : World) (o : Obj) : Below w.heap.size w (w.alloc o) := (Below.refl _ w).alloc (Nat.le_refl _) o
end Go.Proofs.YtgjemmdhamkngaaGreatDoor
namespace Go.Proofs.YtgjemmdhamkngaaGreatDoor
open Go.RowKit
def Boxed (w : World) (k : Nat) (c0 c1 c2 c3 : Value) : Prop := w.heap[k]? = some (.cells #[c0, c1, c2, c3] 44 (0, 0))
theorem Boxed.cells {w : World} {k : Nat} {c0 c1 c2 c3 : Value} (h : Boxed w k c0 c1 c2 c3) : w.cell? ⟨k, 0, none⟩ = some c0 ∧ w.cell? ⟨k, 1, none⟩ = some c1 ∧ w.cell? ⟨k, 2, none⟩ = some c2 ∧ w.cell? ⟨k, 3, none⟩ = some c3 :=
 ⟨cell_of_block' h _ rfl, cell_of_block' h _ rfl, cell_of_block' h _ rfl, cell_of_block' h _ rfl⟩
theorem Boxed.lt {w : World} {k : Nat} {c0 c1 c2 c3 : Value} (h : Boxed w k c0 c1 c2 c3) : k < w.heap.size := (Array.getElem?_eq_some_iff.1 h).1
theorem Boxed.on {w w' : World} {k : Nat} {c0 c1 c2 c3 : Value} (h : Boxed w k c0 c1 c2 c3) (hb : Below w.heap.size w w') : Boxed w' k c0 c1 c2 c3 := (hb.block k h.lt).trans h
theorem boxed_new (w : World) (c0 c1 c2 c3 : Value) : Boxed (w.alloc (.cells #[c0, c1, c2, c3] 44)) w.heap.size c0 c1 c2 c3 := alloc_new' _ _
theorem RepV.on {B : Nat} {w w' : World} (hb : Below w.heap.size w w') (hB : B ≤ w.heap.size) {x : V} {c0 c1 c2 c3 : Value} (h : RepV B w x c0 c1 c2 c3) : RepV B w' x c0 c1 c2 c3 := RepV.below (fun j hj => hb.block j (by omega)) _ h
theorem Below.step {w w1 w2 : World} (h : Below w.heap.size w w1) (h' : Below w1.heap.size w1 w2) : Below w.heap.size w w2 := h.trans (h'.mono h.size)
end Go.Proofs.YtgjemmdhamkngaaGreatDoor
namespace Go.Proofs.YtgjemmdhamkngaaGreatDoor
open Go.RowKit
def fitByte (c : UInt8) : UInt8 := if 32 + c.toNat % 95 = 34 ∨ 32 + c.toNat % 95 = 92 then 32 else UInt8.ofNat (32 + c.toNat % 95)
def rawText (s : ByteArray) : List UInt8 := s.data.toList.take 32
def textOf (s : ByteArray) : List UInt8 := (rawText s).map fitByte
def textTo (s : ByteArray) (i : Nat) : List UInt8 := (textOf s).take i ++ (rawText s).drop i
theorem rawText_length (s : ByteArray) : (rawText s).length = min s.size 32 := by simp [rawText]; omega
theorem textOf_length (s : ByteArray) : (textOf s).length = min s.size 32 := by simp [textOf, rawText_length]
theorem textTo_length (s : ByteArray) (i : Nat) : (textTo s i).length = min s.size 32 := by
 simp only [textTo, List.length_append, List.length_take, List.length_drop, rawText_length, textOf_length]; omega
theorem textTo_zero (s : ByteArray) : textTo s 0 = rawText s := by simp [textTo]
theorem textTo_end (s : ByteArray) : textTo s (min s.size 32) = textOf s := by
 rw [textTo, List.take_of_length_le (by rw [textOf_length]; omega), List.drop_of_length_le (by rw [rawText_length]; omega), List.append_nil]
theorem textTo_get (s : ByteArray) (i : Nat) (h : i < (textTo s i).length) (h' : i < (rawText s).length) : (textTo s i)[i] = (rawText s)[i] := by
 have e : ((textOf s).take i).length = i := by rw [List.length_take, textOf_length]; rw [rawText_length] at h'; omega
 simp only [textTo]
 rw [List.getElem_append_right (by omega)]
 simp [e]
theorem textTo_succ (s : ByteArray) (i : Nat) (h' : i < (rawText s).length) : textTo s (i + 1) = (textTo s i).set i (fitByte (rawText s)[i]) := by
 have hn : i < (textOf s).length := by rw [textOf_length]; rw [rawText_length] at h'; exact h'
 have e : ((textOf s).take i).length = i := by rw [List.length_take]; omega
 have hget : (textOf s)[i] = fitByte (rawText s)[i] := by simp [textOf]
 rw [textTo, textTo, List.set_append_right _ _ (by omega), e, Nat.sub_self, List.drop_eq_getElem_cons h', List.set_cons_zero, List.take_succ_eq_append_getElem hn, hget]
 simp
theorem size_mk' (l : List UInt8) : (⟨l.toArray⟩ : ByteArray).size = l.length := by
 show l.toArray.size = _
 simp
def fitFlat (x : V) : V :=
 if pickZ x.kind 4 = 0 then .mk 1 (pickZ x.num 4294967295 - 2147483647) ⟨#[]⟩ []
 else if pickZ x.kind 4 = 1 then .mk 2 0 ⟨(textOf x.text).toArray⟩ []
 else .mk 3 0 ⟨(nameOf x.text).toArray⟩ []
def FitPost (y : V) (w : World) (e : Ending) (w' : World) : Prop :=
 ∃ c0 c1 c2 c3, e = .returned (.agg #[c0, c1, c2, c3]) ∧ RepG (fun b => w.heap.size ≤ b ∧ b < w'.heap.size) w' y c0 c1 c2 c3 ∧ Below w.heap.size w w'
theorem flat_rep (S : Nat → Prop) (w : World) (k n : Int) (s : ByteArray) (hk : I64 k) (hn : I64 n) (hs : s.size ≤ maxLen) : RepG S w (.mk k n s []) (.int .i64 k) (.int .i64 n) (.string s) (.slice none 0 0) :=
 repG_mk.2 ⟨rfl, rfl, rfl, hk, hn, hs, none, 0, 0, 0, rfl, Nat.le_refl _, by simp, fun h => by omega, fun h => by simp at h, fun i hi => by simp at hi⟩
set_option maxRecDepth 100000 in
set_option maxHeartbeats 2000000 in
theorem fit_num (x : V) (d : Int) (w : World) (fa : Option Addr) (len cap : Nat) (hk : I64 x.kind) (hn : I64 x.num) (h : pickZ x.kind 4 = 0) :
  Calls Tryz.prog 100 #[.agg #[.int .i64 x.kind, .int .i64 x.num, .string x.text, .slice fa len cap], .int .i64 d] w (FitPost (fitFlat x) w) := by
 have HE : Hid (fitFlat x = .mk 1 (pickZ x.num 4294967295 - 2147483647) ⟨#[]⟩ []) := by show _ = _; rw [fitFlat, if_pos h]
 obtain ⟨b1, b2⟩ := pickZ_bd x.num 4294967295 (by omega)
 have HP := Lib.hid h; clear h
 go_enter Tryz.func100, Tryz.ntmps100
 go_wp2_with fail
 refine (pick_any _ 4 _ hk (by omega) (by omega)).mono ?_
 rintro e w' ⟨rfl, rfl⟩
 rw [HP.out]
 go_wp2_with fail
 refine (pick_any _ 4294967295 _ hn (by omega) (by omega)).mono ?_
 rintro e w' ⟨rfl, rfl⟩
 generalize pickZ x.num 4294967295 = z at *
 go_wp2_with fail
 refine bodyPost_ret (v := .agg #[.int .i64 1, .int .i64 (z - 2147483647), .string ⟨#[]⟩, .slice none 0 0]) (by simp [results, Tryz.results100, go_sem]) rfl ?_
 rw [HE.out]
 exact ⟨_, _, _, _, rfl, flat_rep _ _ _ _ _ ⟨by omega, by omega⟩ ⟨by omega, by omega⟩ (by unfold maxLen; simp [ByteArray.size]), ((Below.refl _ w).alloc (Nat.le_refl _) _).alloc (by simp) _⟩
theorem stored_below {w w1 : World} {k : Nat} (hk : w.heap.size ≤ k) (hb : Below w.heap.size w w1) (c0 c1 c2 c3 : Value) : Below w.heap.size w ((((w1.setCell ⟨k, 0, none⟩ c0).setCell ⟨k, 1, none⟩ c1).setCell ⟨k, 2, none⟩ c2).setCell ⟨k, 3, none⟩ c3) :=
 (((hb.setCell (p := ⟨k, 0, none⟩) hk _).setCell (p := ⟨k, 1, none⟩) hk _).setCell (p := ⟨k, 2, none⟩) hk _).setCell (p := ⟨k, 3, none⟩) hk _
set_option maxRecDepth 100000 in
set_option maxHeartbeats 2000000 in
theorem fit_addr (x : V) (d : Int) (w : World) (fa : Option Addr) (len cap : Nat) (hk : I64 x.kind) (hs : x.text.size ≤ maxLen) (h : pickZ x.kind 4 = 2) :
  Calls Tryz.prog 100 #[.agg #[.int .i64 x.kind, .int .i64 x.num, .string x.text, .slice fa len cap], .int .i64 d] w (FitPost (fitFlat x) w) := by
 have HE : Hid (fitFlat x = .mk 3 0 ⟨(nameOf x.text).toArray⟩ []) := by show _ = _; rw [fitFlat, if_neg (by omega), if_neg (by omega)]
 have HP := Lib.hid h; clear h
 go_enter Tryz.func100, Tryz.ntmps100
 go_wp2_with fail
 refine (pick_any _ 4 _ hk (by omega) (by omega)).mono ?_
 rintro e w' ⟨rfl, rfl⟩
 rw [HP.out]
 go_wp2_with fail
 have b1 := (Below.refl _ w).alloc (Nat.le_refl _) (.cells #[.int .i64 x.kind, .int .i64 x.num, .string x.text, .slice fa len cap] 44)
 have s1 := World.size_alloc w (.cells #[.int .i64 x.kind, .int .i64 x.num, .string x.text, .slice fa len cap] 44)
 generalize w.alloc (.cells #[.int .i64 x.kind, .int .i64 x.num, .string x.text, .slice fa len cap] 44) = w1 at *
 have y2 := boxed_new w1 (.int .i64 0) (.int .i64 0) (.string ⟨#[]⟩) (.slice none 0 0)
 have b2 := (Below.refl _ w1).alloc (Nat.le_refl _) (.cells #[.int .i64 0, .int .i64 0, .string ⟨#[]⟩, .slice none 0 0] 44)
 generalize w1.alloc (.cells #[.int .i64 0, .int .i64 0, .string ⟨#[]⟩, .slice none 0 0] 44) = w2 at *
 rw [s1] at y2
 have B2 := Below.step b1 b2
 clear b1 b2 s1
 refine (lawName_any _ _ hs).mono ?_
 rintro e w3 ⟨rfl, b3⟩
 have y3 := y2.on b3
 have B3 := Below.step B2 b3
 have hnl := nameOf_length x.text
 generalize hnm : (⟨(nameOf x.text).toArray⟩ : ByteArray) = nm at *
 have hnsz : nm.size ≤ 16 := by rw [← hnm, size_mk']; omega
 clear hnm hnl b3 y2 B2
 obtain ⟨p0, p1, p2, p3⟩ := y3.cells
 have z0 := frozen_of_row w3 _ 0 _ _ y3
 have z1 := frozen_of_row w3 _ 1 _ _ y3
 have z2 := frozen_of_row w3 _ 2 _ _ y3
 have z3 := frozen_of_row w3 _ 3 _ _ y3
 clear y3
 go_wp2_with fail
 refine bodyPost_ret (v := .agg #[.int .i64 3, .int .i64 0, .string nm, .slice none 0 0]) (by simp [results, Tryz.results100, go_sem, p0, p1, p2, p3]) rfl ?_
 rw [HE.out]
 exact ⟨_, _, _, _, rfl, flat_rep _ _ _ _ _ ⟨by omega, by omega⟩ ⟨by omega, by omega⟩ (by unfold maxLen; omega), stored_below (by omega) B3 _ _ _ _⟩
theorem fitByte_plain (c : UInt8) (h1 : 32 + c.toNat % 95 ≠ 34) (h2 : 32 + c.toNat % 95 ≠ 92) : ((fitByte c).toNat : Int) = 32 + (c.toNat : Int) % 95 := by
 rw [fitByte, if_neg (by omega), UInt8.toNat_ofNat', Nat.mod_eq_of_lt (by omega)]; omega
theorem fitByte_blank (c : UInt8) (h : 32 + c.toNat % 95 = 34 ∨ 32 + c.toNat % 95 = 92) : fitByte c = 32 := by rw [fitByte, if_pos h]
set_option maxRecDepth 100000 in
set_option maxHeartbeats 4000000 in
theorem fit_text (x : V) (d : Int) (w : World) (fa : Option Addr) (len cap : Nat) (hk : I64 x.kind) (hs : x.text.size ≤ maxLen) (h : pickZ x.kind 4 = 1) :
  Calls Tryz.prog 100 #[.agg #[.int .i64 x.kind, .int .i64 x.num, .string x.text, .slice fa len cap], .int .i64 d] w (FitPost (fitFlat x) w) := by
 have HE : Hid (fitFlat x = .mk 2 0 ⟨(textOf x.text).toArray⟩ []) := by show _ = _; rw [fitFlat, if_neg (by omega), if_pos h]
 have HP := Lib.hid h; clear h
 unfold maxLen at hs
 generalize x.text = s at *
 go_enter Tryz.func100, Tryz.ntmps100
 go_wp2_with fail
 refine (pick_any _ 4 _ hk (by omega) (by omega)).mono ?_
 rintro e w' ⟨rfl, rfl⟩
 rw [HP.out]
 have b1 := (Below.refl _ w).alloc (Nat.le_refl _) (.cells #[.int .i64 x.kind, .int .i64 x.num, .string s, .slice fa len cap] 44)
 have s1 := World.size_alloc w (.cells #[.int .i64 x.kind, .int .i64 x.num, .string s, .slice fa len cap] 44)
 have x1 := boxed_new w (.int .i64 x.kind) (.int .i64 x.num) (.string s) (.slice fa len cap)
 generalize w.alloc (.cells #[.int .i64 x.kind, .int .i64 x.num, .string s, .slice fa len cap] 44) = w1 at *
 have y2 := boxed_new w1 (.int .i64 0) (.int .i64 0) (.string ⟨#[]⟩) (.slice none 0 0)
 have b2 := (Below.refl _ w1).alloc (Nat.le_refl _) (.cells #[.int .i64 0, .int .i64 0, .string ⟨#[]⟩, .slice none 0 0] 44)
 generalize w1.alloc (.cells #[.int .i64 0, .int .i64 0, .string ⟨#[]⟩, .slice none 0 0] 44) = w2 at *
 rw [s1] at y2
 have x2 := x1.on b2
 have B2 := Below.step b1 b2
 have hs2 := b2.size
 clear b1 b2 x1
 obtain ⟨p0, p1, p2, p3⟩ := x2.cells
 have hconv := conv_to w2
 go_wp2_with fail
 have hraw : (s.extract 0 (min (s.size : Int) 32).toNat).data.toList = rawText s := by
  rw [rawText]
  have e : (min (s.size : Int) 32).toNat = min s.size 32 := by omega
  rw [e, ByteArray.data_extract]
  simp
  omega
 have hby := bytes_new w2 (s.extract 0 (min (s.size : Int) 32).toNat)
 have hbe := bytes_below w2 (s.extract 0 (min (s.size : Int) 32).toNat)
 rw [hraw] at hby
 have hlen : min (min (s.size : Int) 32).toNat s.size = (rawText s).length := by rw [rawText_length]; omega
 generalize Lib.bytesWorld w2 5 (s.extract 0 (min (s.size : Int) 32).toNat) = w3 at *
 generalize grownCap w2 (min (min (s.size : Int) 32).toNat s.size) 0 5 = cap2 at *
 generalize min (min (s.size : Int) 32).toNat s.size = tl at *
 have hl32 : tl ≤ 32 := by rw [hlen, rawText_length]; omega
 have HLEN := Lib.hid hlen
 rw [← textTo_zero] at hby
 have HY2 := Lib.hid y2
 have hy2sz := y2.lt
 clear hlen hraw hconv p0 p1 p2 p3 x2 y2
 have hgs := hbe.size
 have hg3 := hby.lt
 go_loopw [7] (fun i wr => ∃ k : Nat, k ≤ tl ∧ i = .int .i64 k ∧ BytesAt wr w2.heap.size (textTo s k) ∧ Below w2.heap.size w2 wr) (fun i _ => tl - (intOf i).toNat)
 case atStart => exact ⟨0, Nat.zero_le _, rfl, hby, hbe⟩
 case round =>
  obtain ⟨k, hk2, rfl, hb, hbel⟩ := hrel
  clear hby hbe
  by_cases hlt : k < tl
  ·have hkr : k < (rawText s).length := by rw [← HLEN.out]; exact hlt
   have hkn : k < (textTo s k).length := by rw [textTo_length, ← rawText_length]; exact hkr
   have hc := hb.cell k hkn
   have hf := hb.free k hkn
   rw [textTo_get s k hkn hkr] at hc
   have HS := Lib.hid (textTo_succ s k hkr)
   have HB := Lib.hid hb; clear hb
   generalize (rawText s)[k] = c at *
   have hc255 : (c.toNat : Int) ≤ 255 := by have := c.toNat_lt; omega
   have HBEL := Lib.hid hbel
   by_cases h34 : 32 + c.toNat % 95 = 34
   ·have HN := Lib.hid (fitByte_blank c (Or.inl h34))
    have t1 : (32 + (c.toNat : Int) % 95 == 34) = true := beq_iff_eq.2 (by omega)
    have HB2 : Hid (BytesAt ((wr.setCell ⟨w2.heap.size, k, none⟩ (.int .u8 (32 + (c.toNat : Int) % 95))).setCell ⟨w2.heap.size, k, none⟩ (.int .u8 32)) w2.heap.size (textTo s (k + 1))) := by
     have e1 : (32 + (c.toNat : Int) % 95) = ((UInt8.ofNat (32 + c.toNat % 95)).toNat : Int) := by rw [UInt8.toNat_ofNat', Nat.mod_eq_of_lt (by omega)]; omega
     show BytesAt _ _ _
     rw [e1, HS.out, HN.out]
     have := (HB.out.set k (UInt8.ofNat (32 + c.toNat % 95))).set k 32
     rw [List.set_set] at this
     exact this
    clear h34
    go_wp2_with fail
    go_roundw
    case rel => exact ⟨k + 1, by omega, by go_num, HB2.out, (HBEL.out.setCell (p := ⟨w2.heap.size, k, none⟩) (Nat.le_refl _) _).setCell (p := ⟨w2.heap.size, k, none⟩) (Nat.le_refl _) _⟩
    case measure => simp [intOf]; omega
   by_cases h92 : 32 + c.toNat % 95 = 92
   ·have HN := Lib.hid (fitByte_blank c (Or.inr h92))
    have t1 : (32 + (c.toNat : Int) % 95 == 34) = false := beq_eq_false_iff_ne.2 (by omega)
    have t2 : (32 + (c.toNat : Int) % 95 == 92) = true := beq_iff_eq.2 (by omega)
    have HB2 : Hid (BytesAt ((wr.setCell ⟨w2.heap.size, k, none⟩ (.int .u8 (32 + (c.toNat : Int) % 95))).setCell ⟨w2.heap.size, k, none⟩ (.int .u8 32)) w2.heap.size (textTo s (k + 1))) := by
     have e1 : (32 + (c.toNat : Int) % 95) = ((UInt8.ofNat (32 + c.toNat % 95)).toNat : Int) := by rw [UInt8.toNat_ofNat', Nat.mod_eq_of_lt (by omega)]; omega
     show BytesAt _ _ _
     rw [e1, HS.out, HN.out]
     have := (HB.out.set k (UInt8.ofNat (32 + c.toNat % 95))).set k 32
     rw [List.set_set] at this
     exact this
    clear h34 h92
    go_wp2_with fail
    go_roundw
    case rel => exact ⟨k + 1, by omega, by go_num, HB2.out, (HBEL.out.setCell (p := ⟨w2.heap.size, k, none⟩) (Nat.le_refl _) _).setCell (p := ⟨w2.heap.size, k, none⟩) (Nat.le_refl _) _⟩
    case measure => simp [intOf]; omega
   ·have t1 : (32 + (c.toNat : Int) % 95 == 34) = false := beq_eq_false_iff_ne.2 (by omega)
    have t2 : (32 + (c.toNat : Int) % 95 == 92) = false := beq_eq_false_iff_ne.2 (by omega)
    have HB2 : Hid (BytesAt (wr.setCell ⟨w2.heap.size, k, none⟩ (.int .u8 (32 + (c.toNat : Int) % 95))) w2.heap.size (textTo s (k + 1))) := by
     show BytesAt _ _ _
     rw [HS.out, ← fitByte_plain c h34 h92]
     exact HB.out.set k (fitByte c)
    clear h34 h92
    go_wp2_with fail
    go_roundw
    case rel => exact ⟨k + 1, by omega, by go_num, HB2.out, HBEL.out.setCell (p := ⟨w2.heap.size, k, none⟩) (Nat.le_refl _) _⟩
    case measure => simp [intOf]; omega
  ·have hke : k = tl := by omega
   have hnb : BytesAt wr w2.heap.size (textOf s) := by rw [hke, HLEN.out, rawText_length, textTo_end] at hb; exact hb
   have hback := conv_back wr w2.heap.size cap2 (textOf s) hnb
   have hnl : (textOf s).length = tl := by rw [HLEN.out, textOf_length, rawText_length]
   rw [hnl] at hback
   have yr := HY2.out.on hbel
   have HB := Lib.hid (stored_below (k := w.heap.size + 1) (by omega) (B2.trans (hbel.mono B2.size)) (.int .i64 2) (.int .i64 0) (.string ⟨(textOf s).toArray⟩) (.slice none 0 0))
   have hsz : (⟨(textOf s).toArray⟩ : ByteArray).size ≤ 32 := by rw [size_mk', textOf_length]; omega
   generalize (⟨(textOf s).toArray⟩ : ByteArray) = nm at *
   clear hnl hb hnb hbel HY2 B2
   obtain ⟨p0, p1, p2, p3⟩ := yr.cells
   have z0 := frozen_of_row wr _ 0 _ _ yr
   have z1 := frozen_of_row wr _ 1 _ _ yr
   have z2 := frozen_of_row wr _ 2 _ _ yr
   have z3 := frozen_of_row wr _ 3 _ _ yr
   clear yr
   go_wp2_with fail
   refine bodyPost_ret (v := .agg #[.int .i64 2, .int .i64 0, .string nm, .slice none 0 0]) (by simp [results, Tryz.results100, go_sem, p0, p1, p2, p3]) rfl ?_
   rw [HE.out]
   exact ⟨_, _, _, _, rfl, flat_rep _ _ _ _ _ ⟨by omega, by omega⟩ ⟨by omega, by omega⟩ (by unfold maxLen; omega), HB.out⟩
end Go.Proofs.YtgjemmdhamkngaaGreatDoor
namespace Go.Proofs.YtgjemmdhamkngaaGreatDoor
open Go.RowKit
theorem RepG.bounds {S : Nat → Prop} {w : World} {x : V} {c0 c1 c2 c3 : Value} (h : RepG S w x c0 c1 c2 c3) : I64 x.kind ∧ I64 x.num ∧ x.text.size ≤ maxLen := by
 cases x with
 | mk k n s l => exact ⟨(repG_mk.1 h).2.2.2.1, (repG_mk.1 h).2.2.2.2.1, (repG_mk.1 h).2.2.2.2.2.1⟩
def unlist (d : Nat) (x : V) : V := if d ≤ 1 ∧ pickZ x.kind 4 = 3 then .mk 0 x.num x.text x.list else x
def fitV : Nat → V → V
 | 0, x => fitFlat x
 | d + 1, x => if pickZ x.kind 4 = 3 then .mk 4 0 ⟨#[]⟩ ((x.list.take 16).map fun y => fitV d (unlist (d + 1) y)) else fitFlat x
def fitTo (d : Nat) (l : List V) (k : Nat) : List V := (l.take k).map fun y => fitV d (unlist (d + 1) y)
end Go.Proofs.YtgjemmdhamkngaaGreatDoor
