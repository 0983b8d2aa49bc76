/-
  The law's own 'Name': of a raw text, one that may be a name.
-/
import Derived.Test.YtkaiihoijcpldaaBytes
import Derived.Test.YtkaiihoijcpldaaW10
namespace Go.Proofs.Ytkaiihoijcpldaa
open Go.RowKit

/-- What a raw byte becomes. -/
def nameByte (c : UInt8) : UInt8 := if c.toNat % 37 < 26 then UInt8.ofNat (97 + c.toNat % 37) else if c.toNat % 37 < 36 then UInt8.ofNat (48 + c.toNat % 37 - 26) else 95
def rawName (s : ByteArray) : List UInt8 := 110 :: s.data.toList.take 15
def nameOf (s : ByteArray) : List UInt8 := 110 :: (s.data.toList.take 15).map nameByte
/-- Behind the rounds up to i. -/
def nameTo (s : ByteArray) (i : Nat) : List UInt8 := (nameOf s).take i ++ (rawName s).drop i
theorem rawName_length (s : ByteArray) : (rawName s).length = 1 + min s.size 15 := by simp [rawName]; omega
theorem nameOf_length (s : ByteArray) : (nameOf s).length = 1 + min s.size 15 := by simp [nameOf]; omega
theorem nameTo_length (s : ByteArray) (i : Nat) : (nameTo s i).length = 1 + min s.size 15 := by
  simp only [nameTo, List.length_append, List.length_take, List.length_drop, rawName_length, nameOf_length]; omega
theorem nameTo_one (s : ByteArray) : nameTo s 1 = rawName s := by simp [nameTo, nameOf, rawName]
theorem nameTo_end (s : ByteArray) : nameTo s (1 + min s.size 15) = nameOf s := by
  rw [nameTo, List.take_of_length_le (by rw [nameOf_length]; omega), List.drop_of_length_le (by rw [rawName_length]; omega), List.append_nil]
theorem nameTo_get (s : ByteArray) (i : Nat) (_h1 : 1 ≤ i) (h : i < (nameTo s i).length) (h' : i < (rawName s).length) : (nameTo s i)[i] = (rawName s)[i] := by
  have e : ((nameOf s).take i).length = i := by rw [List.length_take, nameOf_length]; rw [rawName_length] at h'; omega
  simp only [nameTo]
  rw [List.getElem_append_right (by omega)]
  simp [e]
theorem nameTo_succ (s : ByteArray) (i : Nat) (h1 : 1 ≤ i) (h' : i < (rawName s).length) : nameTo s (i + 1) = (nameTo s i).set i (nameByte (rawName s)[i]) := by
  have hn : i < (nameOf s).length := by rw [nameOf_length]; rw [rawName_length] at h'; exact h'
  have e : ((nameOf s).take i).length = i := by rw [List.length_take]; omega
  have hget : (nameOf s)[i] = nameByte (rawName s)[i] := by
    match i, h1 with
    | i + 1, _ => simp [nameOf, rawName]
  rw [nameTo, nameTo, List.set_append_right _ _ (by omega), e, Nat.sub_self, List.drop_eq_getElem_cons h', List.set_cons_zero, List.take_succ_eq_append_getElem hn, hget]
  simp

theorem nameByte_small (c : UInt8) (h : c.toNat % 37 < 26) : ((nameByte c).toNat : Int) = 97 + (c.toNat : Int) % 37 := by
  rw [nameByte, if_pos h, UInt8.toNat_ofNat', Nat.mod_eq_of_lt (by omega)]; omega
theorem nameByte_digit (c : UInt8) (h : ¬ c.toNat % 37 < 26) (h2 : c.toNat % 37 < 36) : ((nameByte c).toNat : Int) = 48 + (c.toNat : Int) % 37 - 26 := by
  rw [nameByte, if_neg h, if_pos h2, UInt8.toNat_ofNat', Nat.mod_eq_of_lt (by omega)]; omega
theorem nameByte_low (c : UInt8) (h : ¬ c.toNat % 37 < 26) (h2 : ¬ c.toNat % 37 < 36) : nameByte c = 95 := by rw [nameByte, if_neg h, if_neg h2]

set_option maxRecDepth 100000 in
set_option maxHeartbeats 2000000 in
theorem lawName_any (s : ByteArray) (w : World) (hs : s.size ≤ maxLen) :
    Calls Try.prog 47 #[.string s] w fun e w' => e = .returned (.string ⟨(nameOf s).toArray⟩) ∧ Below w.heap.size w w' := by
  unfold maxLen at hs
  have hconv := conv_to w
  go_enter Try.func47, Try.ntmps47
  go_wp2_with fail
  have hraw : (({ data := #[110] } : ByteArray) ++ s.extract 0 (min (s.size : Int) 15).toNat).data.toList = rawName s := by
    rw [rawName]
    have e : (min (s.size : Int) 15).toNat = min s.size 15 := by omega
    rw [e, ByteArray.data_append, ByteArray.data_extract]
    simp
    omega
  have hlen : 1 + min (min (s.size : Int) 15).toNat s.size = (rawName s).length := by rw [rawName_length]; omega
  have hby := bytes_new w (({ data := #[110] } : ByteArray) ++ s.extract 0 (min (s.size : Int) 15).toNat)
  have hbe := bytes_below w (({ data := #[110] } : ByteArray) ++ s.extract 0 (min (s.size : Int) 15).toNat)
  rw [hraw] at hby
  generalize Lib.bytesWorld w 5 (({ data := #[110] } : ByteArray) ++ s.extract 0 (min (s.size : Int) 15).toNat) = w1 at *
  generalize grownCap w (1 + min (min (s.size : Int) 15).toNat s.size) 0 5 = cap at *
  generalize 1 + min (min (s.size : Int) 15).toNat s.size = len at *
  have hl16 : len ≤ 16 := by rw [hlen, rawName_length]; omega
  have HLEN := Lib.hid hlen
  rw [← nameTo_one] at hby
  have hl1 : 1 ≤ len := by rw [hlen, rawName_length]; omega
  clear hlen hraw hconv
  go_loopw [4] (fun i wr => ∃ k : Nat, 1 ≤ k ∧ k ≤ len ∧ i = .int .i64 k ∧ BytesAt wr w.heap.size (nameTo s k) ∧ Below w.heap.size w wr) (fun i _ => len - (intOf i).toNat)
  case atStart => exact ⟨1, Nat.le_refl _, hl1, rfl, hby, hbe⟩
  case round =>
    obtain ⟨k, hk1, hk2, rfl, hb, hbel⟩ := hrel
    clear hby hbe
    by_cases hlt : k < len
    · have hkr : k < (rawName s).length := by rw [← HLEN.out]; exact hlt
      have hkn : k < (nameTo s k).length := by rw [nameTo_length, ← rawName_length]; exact hkr
      have hc := hb.cell k hkn
      have hf := hb.free k hkn
      rw [nameTo_get s k hk1 hkn hkr] at hc
      have HS := Lib.hid (nameTo_succ s k hk1 hkr)
      have HB := Lib.hid (hb.set k (nameByte (rawName s)[k])); clear hb
      generalize (rawName s)[k] = c at *
      have hc255 : (c.toNat : Int) ≤ 255 := by have := c.toNat_lt; omega
      have hbel' := fun v => hbel.setCell (p := ⟨w.heap.size, k, none⟩) (Nat.le_refl _) v
      have HBEL := Lib.hid hbel'; clear hbel'
      by_cases h1 : c.toNat % 37 < 26
      · have HN := Lib.hid (nameByte_small c h1)
        have t1 : (c.toNat : Int) % 37 < 26 := by omega
        go_wp2_with fail
        go_roundw
        case rel => exact ⟨k + 1, by omega, by omega, by go_num, by rw [HS.out]; have := HB.out; rw [HN.out] at this; exact this, HBEL.out _⟩
        case measure => simp [intOf]; omega
      · by_cases h2 : c.toNat % 37 < 36
        · have HN := Lib.hid (nameByte_digit c h1 h2)
          have t1 : ¬ (c.toNat : Int) % 37 < 26 := by omega
          have t2 : (c.toNat : Int) % 37 < 36 := by omega
          go_wp2_with fail
          go_roundw
          case rel => exact ⟨k + 1, by omega, by omega, by go_num, by rw [HS.out]; have := HB.out; rw [HN.out] at this; exact this, HBEL.out _⟩
          case measure => simp [intOf]; omega
        · have HN := Lib.hid (nameByte_low c h1 h2)
          have t1 : ¬ (c.toNat : Int) % 37 < 26 := by omega
          have t2 : ¬ (c.toNat : Int) % 37 < 36 := by omega
          go_wp2_with fail
          go_roundw
          case rel => exact ⟨k + 1, by omega, by omega, by go_num, by rw [HS.out]; have := HB.out; rw [HN.out] at this; rw [HN.out]; exact this, HBEL.out _⟩
          case measure => simp [intOf]; omega
    · have hke : k = len := by omega
      have hnb : BytesAt wr w.heap.size (nameOf s) := by rw [hke, HLEN.out, rawName_length, nameTo_end] at hb; exact hb
      have hback := conv_back wr w.heap.size cap (nameOf s) hnb
      have hnl : (nameOf s).length = len := by rw [HLEN.out, nameOf_length, rawName_length]
      rw [hnl] at hback
      clear hnl hb hnb hke
      go_wp2_with fail
      go_ret
      exact ⟨rfl, hbel⟩

end Go.Proofs.Ytkaiihoijcpldaa
