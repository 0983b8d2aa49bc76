/-
  The law's own 'fit' of numbers, texts and addresses: raw values made right.
-/
import Derived.Test.YtkaiihoijcpldaaW01
import Derived.Test.YtkaiihoijcpldaaLawName
import Derived.WalkSpells
import Derived.WalkLawsBesides
namespace Go.Proofs.Ytkaiihoijcpldaa
open Go.RowKit

def fitByte (c : UInt8) : UInt8 := if 32 + c.toNat % 95 = 34 ∨ 32 + c.toNat % 95 = 92 then 32 else UInt8.ofNat (32 + c.toNat % 95)
def rawText (s : ByteArray) : List UInt8 := s.data.toList.take 32
def textOf (s : ByteArray) : List UInt8 := (rawText s).map fitByte
def textTo (s : ByteArray) (i : Nat) : List UInt8 := (textOf s).take i ++ (rawText s).drop i
theorem rawText_length (s : ByteArray) : (rawText s).length = min s.size 32 := by simp [rawText]; omega
theorem textOf_length (s : ByteArray) : (textOf s).length = min s.size 32 := by simp [textOf, rawText_length]
theorem textTo_length (s : ByteArray) (i : Nat) : (textTo s i).length = min s.size 32 := by
  simp only [textTo, List.length_append, List.length_take, List.length_drop, rawText_length, textOf_length]; omega
theorem textTo_zero (s : ByteArray) : textTo s 0 = rawText s := by simp [textTo]
theorem textTo_end (s : ByteArray) : textTo s (min s.size 32) = textOf s := by
  rw [textTo, List.take_of_length_le (by rw [textOf_length]; omega), List.drop_of_length_le (by rw [rawText_length]; omega), List.append_nil]
theorem textTo_get (s : ByteArray) (i : Nat) (h : i < (textTo s i).length) (h' : i < (rawText s).length) : (textTo s i)[i] = (rawText s)[i] := by
  have e : ((textOf s).take i).length = i := by rw [List.length_take, textOf_length]; rw [rawText_length] at h'; omega
  simp only [textTo]
  rw [List.getElem_append_right (by omega)]
  simp [e]
theorem textTo_succ (s : ByteArray) (i : Nat) (h' : i < (rawText s).length) : textTo s (i + 1) = (textTo s i).set i (fitByte (rawText s)[i]) := by
  have hn : i < (textOf s).length := by rw [textOf_length]; rw [rawText_length] at h'; exact h'
  have e : ((textOf s).take i).length = i := by rw [List.length_take]; omega
  have hget : (textOf s)[i] = fitByte (rawText s)[i] := by simp [textOf]
  rw [textTo, textTo, List.set_append_right _ _ (by omega), e, Nat.sub_self, List.drop_eq_getElem_cons h', List.set_cons_zero, List.take_succ_eq_append_getElem hn, hget]
  simp

theorem size_mk' (l : List UInt8) : (⟨l.toArray⟩ : ByteArray).size = l.length := by
  show l.toArray.size = _
  simp

/-- A value as 'fit' makes it, of what is no list. -/
def fitFlat (x : V) : V :=
  if pickZ x.kind 4 = 0 then .mk 1 (pickZ x.num 4294967295 - 2147483647) ⟨#[]⟩ []
  else if pickZ x.kind 4 = 1 then .mk 2 0 ⟨(textOf x.text).toArray⟩ []
  else .mk 3 0 ⟨(nameOf x.text).toArray⟩ []

/-- What 'fit' does: a new value. -/
def FitPost (y : V) (w : World) (e : Ending) (w' : World) : Prop :=
  ∃ c0 c1 c2 c3, e = .returned (.agg #[c0, c1, c2, c3]) ∧ RepG (fun b => w.heap.size ≤ b ∧ b < w'.heap.size) w' y c0 c1 c2 c3 ∧ Below w.heap.size w w'

set_option maxRecDepth 100000 in
set_option maxHeartbeats 2000000 in
theorem fit_num (x : V) (d : Int) (w : World) (fa : Option Addr) (len cap : Nat) (hk : I64 x.kind) (hn : I64 x.num) (h : pickZ x.kind 4 = 0) :
    Calls Try.prog 48 #[.agg #[.int .i64 x.kind, .int .i64 x.num, .string x.text, .slice fa len cap], .int .i64 d] w (FitPost (fitFlat x) w) := by
  have HE : Hid (fitFlat x = .mk 1 (pickZ x.num 4294967295 - 2147483647) ⟨#[]⟩ []) := by show _ = _; rw [fitFlat, if_pos h]
  obtain ⟨b1, b2⟩ := pickZ_bd x.num 4294967295 (by omega)
  have HP := Lib.hid h; clear h
  go_enter Try.func48, Try.ntmps48
  go_wp2_with fail
  refine (pick_any _ 4 _ hk (by omega) (by omega)).mono ?_
  rintro e w' ⟨rfl, rfl⟩
  rw [HP.out]
  go_wp2_with fail
  refine (pick_any _ 4294967295 _ hn (by omega) (by omega)).mono ?_
  rintro e w' ⟨rfl, rfl⟩
  generalize pickZ x.num 4294967295 = z at *
  go_wp2_with fail
  refine bodyPost_ret (v := .agg #[.int .i64 1, .int .i64 (z - 2147483647), .string ⟨#[]⟩, .slice none 0 0]) (by simp [results, Try.results48, go_sem]) rfl ?_
  rw [HE.out]
  exact ⟨_, _, _, _, rfl, flat_rep _ _ _ _ _ ⟨by omega, by omega⟩ ⟨by omega, by omega⟩ (by unfold maxLen; simp [ByteArray.size]), ((Below.refl _ w).alloc (Nat.le_refl _) _).alloc (by simp) _⟩

/-- The result's own cell, behind four stores. -/
theorem stored_below {w w1 : World} {k : Nat} (hk : w.heap.size ≤ k) (hb : Below w.heap.size w w1) (c0 c1 c2 c3 : Value) : Below w.heap.size w ((((w1.setCell ⟨k, 0, none⟩ c0).setCell ⟨k, 1, none⟩ c1).setCell ⟨k, 2, none⟩ c2).setCell ⟨k, 3, none⟩ c3) :=
  (((hb.setCell (p := ⟨k, 0, none⟩) hk _).setCell (p := ⟨k, 1, none⟩) hk _).setCell (p := ⟨k, 2, none⟩) hk _).setCell (p := ⟨k, 3, none⟩) hk _

set_option maxRecDepth 100000 in
set_option maxHeartbeats 2000000 in
theorem fit_addr (x : V) (d : Int) (w : World) (fa : Option Addr) (len cap : Nat) (hk : I64 x.kind) (hs : x.text.size ≤ maxLen) (h : pickZ x.kind 4 = 2) :
    Calls Try.prog 48 #[.agg #[.int .i64 x.kind, .int .i64 x.num, .string x.text, .slice fa len cap], .int .i64 d] w (FitPost (fitFlat x) w) := by
  have HE : Hid (fitFlat x = .mk 3 0 ⟨(nameOf x.text).toArray⟩ []) := by show _ = _; rw [fitFlat, if_neg (by omega), if_neg (by omega)]
  have HP := Lib.hid h; clear h
  go_enter Try.func48, Try.ntmps48
  go_wp2_with fail
  refine (pick_any _ 4 _ hk (by omega) (by omega)).mono ?_
  rintro e w' ⟨rfl, rfl⟩
  rw [HP.out]
  go_wp2_with fail
  have b1 := (Below.refl _ w).alloc (Nat.le_refl _) (.cells #[.int .i64 x.kind, .int .i64 x.num, .string x.text, .slice fa len cap] 46)
  have s1 := World.size_alloc w (.cells #[.int .i64 x.kind, .int .i64 x.num, .string x.text, .slice fa len cap] 46)
  generalize w.alloc (.cells #[.int .i64 x.kind, .int .i64 x.num, .string x.text, .slice fa len cap] 46) = w1 at *
  have y2 := boxed_new w1 (.int .i64 0) (.int .i64 0) (.string ⟨#[]⟩) (.slice none 0 0)
  have b2 := (Below.refl _ w1).alloc (Nat.le_refl _) (.cells #[.int .i64 0, .int .i64 0, .string ⟨#[]⟩, .slice none 0 0] 46)
  generalize w1.alloc (.cells #[.int .i64 0, .int .i64 0, .string ⟨#[]⟩, .slice none 0 0] 46) = w2 at *
  rw [s1] at y2
  have B2 := Below.step b1 b2
  clear b1 b2 s1
  refine (lawName_any _ _ hs).mono ?_
  rintro e w3 ⟨rfl, b3⟩
  have y3 := y2.on b3
  have B3 := Below.step B2 b3
  have hnl := nameOf_length x.text
  generalize hnm : (⟨(nameOf x.text).toArray⟩ : ByteArray) = nm at *
  have hnsz : nm.size ≤ 16 := by rw [← hnm, size_mk']; omega
  clear hnm hnl b3 y2 B2
  obtain ⟨p0, p1, p2, p3⟩ := y3.cells
  have z0 := frozen_of_row w3 _ 0 _ _ y3
  have z1 := frozen_of_row w3 _ 1 _ _ y3
  have z2 := frozen_of_row w3 _ 2 _ _ y3
  have z3 := frozen_of_row w3 _ 3 _ _ y3
  clear y3
  go_wp2_with fail
  refine bodyPost_ret (v := .agg #[.int .i64 3, .int .i64 0, .string nm, .slice none 0 0]) (by simp [results, Try.results48, go_sem, p0, p1, p2, p3]) rfl ?_
  rw [HE.out]
  exact ⟨_, _, _, _, rfl, flat_rep _ _ _ _ _ ⟨by omega, by omega⟩ ⟨by omega, by omega⟩ (by unfold maxLen; omega), stored_below (by omega) B3 _ _ _ _⟩

theorem fitByte_plain (c : UInt8) (h1 : 32 + c.toNat % 95 ≠ 34) (h2 : 32 + c.toNat % 95 ≠ 92) : ((fitByte c).toNat : Int) = 32 + (c.toNat : Int) % 95 := by
  rw [fitByte, if_neg (by omega), UInt8.toNat_ofNat', Nat.mod_eq_of_lt (by omega)]; omega
theorem fitByte_blank (c : UInt8) (h : 32 + c.toNat % 95 = 34 ∨ 32 + c.toNat % 95 = 92) : fitByte c = 32 := by rw [fitByte, if_pos h]

set_option maxRecDepth 100000 in
set_option maxHeartbeats 4000000 in
theorem fit_text (x : V) (d : Int) (w : World) (fa : Option Addr) (len cap : Nat) (hk : I64 x.kind) (hs : x.text.size ≤ maxLen) (h : pickZ x.kind 4 = 1) :
    Calls Try.prog 48 #[.agg #[.int .i64 x.kind, .int .i64 x.num, .string x.text, .slice fa len cap], .int .i64 d] w (FitPost (fitFlat x) w) := by
  have HE : Hid (fitFlat x = .mk 2 0 ⟨(textOf x.text).toArray⟩ []) := by show _ = _; rw [fitFlat, if_neg (by omega), if_pos h]
  have HP := Lib.hid h; clear h
  unfold maxLen at hs
  generalize x.text = s at *
  go_enter Try.func48, Try.ntmps48
  go_wp2_with fail
  refine (pick_any _ 4 _ hk (by omega) (by omega)).mono ?_
  rintro e w' ⟨rfl, rfl⟩
  rw [HP.out]
  have b1 := (Below.refl _ w).alloc (Nat.le_refl _) (.cells #[.int .i64 x.kind, .int .i64 x.num, .string s, .slice fa len cap] 46)
  have s1 := World.size_alloc w (.cells #[.int .i64 x.kind, .int .i64 x.num, .string s, .slice fa len cap] 46)
  have x1 := boxed_new w (.int .i64 x.kind) (.int .i64 x.num) (.string s) (.slice fa len cap)
  generalize w.alloc (.cells #[.int .i64 x.kind, .int .i64 x.num, .string s, .slice fa len cap] 46) = w1 at *
  have y2 := boxed_new w1 (.int .i64 0) (.int .i64 0) (.string ⟨#[]⟩) (.slice none 0 0)
  have b2 := (Below.refl _ w1).alloc (Nat.le_refl _) (.cells #[.int .i64 0, .int .i64 0, .string ⟨#[]⟩, .slice none 0 0] 46)
  generalize w1.alloc (.cells #[.int .i64 0, .int .i64 0, .string ⟨#[]⟩, .slice none 0 0] 46) = w2 at *
  rw [s1] at y2
  have x2 := x1.on b2
  have B2 := Below.step b1 b2
  have hs2 := b2.size
  clear b1 b2 x1
  obtain ⟨p0, p1, p2, p3⟩ := x2.cells
  have hconv := conv_to w2
  go_wp2_with fail
  have hraw : (s.extract 0 (min (s.size : Int) 32).toNat).data.toList = rawText s := by
    rw [rawText]
    have e : (min (s.size : Int) 32).toNat = min s.size 32 := by omega
    rw [e, ByteArray.data_extract]
    simp
    omega
  have hby := bytes_new w2 (s.extract 0 (min (s.size : Int) 32).toNat)
  have hbe := bytes_below w2 (s.extract 0 (min (s.size : Int) 32).toNat)
  rw [hraw] at hby
  have hlen : min (min (s.size : Int) 32).toNat s.size = (rawText s).length := by rw [rawText_length]; omega
  generalize Lib.bytesWorld w2 5 (s.extract 0 (min (s.size : Int) 32).toNat) = w3 at *
  generalize grownCap w2 (min (min (s.size : Int) 32).toNat s.size) 0 5 = cap2 at *
  generalize min (min (s.size : Int) 32).toNat s.size = tl at *
  have hl32 : tl ≤ 32 := by rw [hlen, rawText_length]; omega
  have HLEN := Lib.hid hlen
  rw [← textTo_zero] at hby
  have HY2 := Lib.hid y2
  have hy2sz := y2.lt
  clear hlen hraw hconv p0 p1 p2 p3 x2 y2
  have hgs := hbe.size
  have hg3 := hby.lt
  go_loopw [7] (fun i wr => ∃ k : Nat, k ≤ tl ∧ i = .int .i64 k ∧ BytesAt wr w2.heap.size (textTo s k) ∧ Below w2.heap.size w2 wr) (fun i _ => tl - (intOf i).toNat)
  case atStart => exact ⟨0, Nat.zero_le _, rfl, hby, hbe⟩
  case round =>
    obtain ⟨k, hk2, rfl, hb, hbel⟩ := hrel
    clear hby hbe
    by_cases hlt : k < tl
    · have hkr : k < (rawText s).length := by rw [← HLEN.out]; exact hlt
      have hkn : k < (textTo s k).length := by rw [textTo_length, ← rawText_length]; exact hkr
      have hc := hb.cell k hkn
      have hf := hb.free k hkn
      rw [textTo_get s k hkn hkr] at hc
      have HS := Lib.hid (textTo_succ s k hkr)
      have HB := Lib.hid hb; clear hb
      generalize (rawText s)[k] = c at *
      have hc255 : (c.toNat : Int) ≤ 255 := by have := c.toNat_lt; omega
      have HBEL := Lib.hid hbel
      by_cases h34 : 32 + c.toNat % 95 = 34
      · have HN := Lib.hid (fitByte_blank c (Or.inl h34))
        have t1 : (32 + (c.toNat : Int) % 95 == 34) = true := beq_iff_eq.2 (by omega)
        have HB2 : Hid (BytesAt ((wr.setCell ⟨w2.heap.size, k, none⟩ (.int .u8 (32 + (c.toNat : Int) % 95))).setCell ⟨w2.heap.size, k, none⟩ (.int .u8 32)) w2.heap.size (textTo s (k + 1))) := by
          have e1 : (32 + (c.toNat : Int) % 95) = ((UInt8.ofNat (32 + c.toNat % 95)).toNat : Int) := by rw [UInt8.toNat_ofNat', Nat.mod_eq_of_lt (by omega)]; omega
          show BytesAt _ _ _
          rw [e1, HS.out, HN.out]
          have := (HB.out.set k (UInt8.ofNat (32 + c.toNat % 95))).set k 32
          rw [List.set_set] at this
          exact this
        clear h34
        go_wp2_with fail
        go_roundw
        case rel => exact ⟨k + 1, by omega, by go_num, HB2.out, (HBEL.out.setCell (p := ⟨w2.heap.size, k, none⟩) (Nat.le_refl _) _).setCell (p := ⟨w2.heap.size, k, none⟩) (Nat.le_refl _) _⟩
        case measure => simp [intOf]; omega
      by_cases h92 : 32 + c.toNat % 95 = 92
      · have HN := Lib.hid (fitByte_blank c (Or.inr h92))
        have t1 : (32 + (c.toNat : Int) % 95 == 34) = false := beq_eq_false_iff_ne.2 (by omega)
        have t2 : (32 + (c.toNat : Int) % 95 == 92) = true := beq_iff_eq.2 (by omega)
        have HB2 : Hid (BytesAt ((wr.setCell ⟨w2.heap.size, k, none⟩ (.int .u8 (32 + (c.toNat : Int) % 95))).setCell ⟨w2.heap.size, k, none⟩ (.int .u8 32)) w2.heap.size (textTo s (k + 1))) := by
          have e1 : (32 + (c.toNat : Int) % 95) = ((UInt8.ofNat (32 + c.toNat % 95)).toNat : Int) := by rw [UInt8.toNat_ofNat', Nat.mod_eq_of_lt (by omega)]; omega
          show BytesAt _ _ _
          rw [e1, HS.out, HN.out]
          have := (HB.out.set k (UInt8.ofNat (32 + c.toNat % 95))).set k 32
          rw [List.set_set] at this
          exact this
        clear h34 h92
        go_wp2_with fail
        go_roundw
        case rel => exact ⟨k + 1, by omega, by go_num, HB2.out, (HBEL.out.setCell (p := ⟨w2.heap.size, k, none⟩) (Nat.le_refl _) _).setCell (p := ⟨w2.heap.size, k, none⟩) (Nat.le_refl _) _⟩
        case measure => simp [intOf]; omega
      · have t1 : (32 + (c.toNat : Int) % 95 == 34) = false := beq_eq_false_iff_ne.2 (by omega)
        have t2 : (32 + (c.toNat : Int) % 95 == 92) = false := beq_eq_false_iff_ne.2 (by omega)
        have HB2 : Hid (BytesAt (wr.setCell ⟨w2.heap.size, k, none⟩ (.int .u8 (32 + (c.toNat : Int) % 95))) w2.heap.size (textTo s (k + 1))) := by
          show BytesAt _ _ _
          rw [HS.out, ← fitByte_plain c h34 h92]
          exact HB.out.set k (fitByte c)
        clear h34 h92
        go_wp2_with fail
        go_roundw
        case rel => exact ⟨k + 1, by omega, by go_num, HB2.out, HBEL.out.setCell (p := ⟨w2.heap.size, k, none⟩) (Nat.le_refl _) _⟩
        case measure => simp [intOf]; omega
    · have hke : k = tl := by omega
      have hnb : BytesAt wr w2.heap.size (textOf s) := by rw [hke, HLEN.out, rawText_length, textTo_end] at hb; exact hb
      have hback := conv_back wr w2.heap.size cap2 (textOf s) hnb
      have hnl : (textOf s).length = tl := by rw [HLEN.out, textOf_length, rawText_length]
      rw [hnl] at hback
      have yr := HY2.out.on hbel
      have HB := Lib.hid (stored_below (k := w.heap.size + 1) (by omega) (B2.trans (hbel.mono B2.size)) (.int .i64 2) (.int .i64 0) (.string ⟨(textOf s).toArray⟩) (.slice none 0 0))
      have hsz : (⟨(textOf s).toArray⟩ : ByteArray).size ≤ 32 := by rw [size_mk', textOf_length]; omega
      generalize (⟨(textOf s).toArray⟩ : ByteArray) = nm at *
      clear hnl hb hnb hbel HY2 B2
      obtain ⟨p0, p1, p2, p3⟩ := yr.cells
      have z0 := frozen_of_row wr _ 0 _ _ yr
      have z1 := frozen_of_row wr _ 1 _ _ yr
      have z2 := frozen_of_row wr _ 2 _ _ yr
      have z3 := frozen_of_row wr _ 3 _ _ yr
      clear yr
      go_wp2_with fail
      refine bodyPost_ret (v := .agg #[.int .i64 2, .int .i64 0, .string nm, .slice none 0 0]) (by simp [results, Try.results48, go_sem, p0, p1, p2, p3]) rfl ?_
      rw [HE.out]
      exact ⟨_, _, _, _, rfl, flat_rep _ _ _ _ _ ⟨by omega, by omega⟩ ⟨by omega, by omega⟩ (by unfold maxLen; omega), HB.out⟩

end Go.Proofs.Ytkaiihoijcpldaa
