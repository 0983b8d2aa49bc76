/-
  Layer 3's own 'Word': a raw token's text, of a raw kind.
-/
import Derived.Test.YtgkgnfafjbjbnaaDoorLexSign
import Derived.Test.YtgkgnfafjbjbnaaDoorLexJoin
import Derived.Test.YtgkgnfafjbjbnaaDoorPickThree
import Derived.Test.YtgkgnfafjbjbnaaDoorFit
import Derived.Test.YtgkgnfafjbjbnaaDoorFitRight
namespace Go.Proofs.YtgkgnfafjbjbnaaDoor
open Go.RowKit
open Go.Proofs.YtgkgnfafjbjbnaaDoor.valueNames (name_of nameOf_ok)

def digL (m : Nat) : List UInt8 := if m < 10 then [UInt8.ofNat (48 + m % 10)] else digL (m / 10) ++ [UInt8.ofNat (48 + m % 10)]
theorem digL_step (m : Nat) : digL m = (if m / 10 = 0 then [] else digL (m / 10)) ++ [UInt8.ofNat (48 + m % 10)] := by
  rw [digL]
  by_cases h : m < 10
  · rw [if_pos h, if_pos (by omega)]; rfl
  · rw [if_neg h, if_neg (by omega)]
theorem dig_byte (m : Nat) : ((UInt8.ofNat (48 + m % 10)).toNat : Int) = 48 + (m : Int) % 10 := by
  rw [UInt8.toNat_ofNat', Nat.mod_eq_of_lt (by omega)]; omega
theorem digL_facts (k : Nat) : ∀ m, m < 10 ^ (k + 1) → (digL m).length ≤ k + 1 ∧ 1 ≤ (digL m).length ∧ (∀ c ∈ digL m, digitZ (c.toNat : Int) = true) ∧ numL (digL m) = m := by
  induction k with
  | zero =>
    intro m hm
    have h10 : m < 10 := by simpa using hm
    rw [digL, if_pos h10]
    refine ⟨by simp, by simp, fun c hc => ?_, ?_⟩
    · obtain rfl := List.mem_singleton.1 hc
      rw [digit_range, dig_byte]; omega
    · show 10 * 0 + (((UInt8.ofNat (48 + m % 10)).toNat : Int) - 48) = m
      rw [dig_byte]; omega
  | succ k ih =>
    intro m hm
    by_cases h10 : m < 10
    · rw [digL, if_pos h10]
      refine ⟨by simp, by simp, fun c hc => ?_, ?_⟩
      · obtain rfl := List.mem_singleton.1 hc
        rw [digit_range, dig_byte]; omega
      · show 10 * 0 + (((UInt8.ofNat (48 + m % 10)).toNat : Int) - 48) = m
        rw [dig_byte]; omega
    · obtain ⟨h1, h2, h3, h4⟩ := ih (m / 10) (by rw [Nat.pow_succ] at hm; omega)
      rw [digL, if_neg h10]
      refine ⟨by simp; omega, by simp, fun c hc => ?_, ?_⟩
      · rcases List.mem_append.1 hc with hc | hc
        · exact h3 c hc
        · obtain rfl := List.mem_singleton.1 hc
          rw [digit_range, dig_byte]; omega
      · rw [numL_snoc, h4, dig_byte]; omega

def rawR (kind : Int) (s : ByteArray) (n : Int) : Read :=
  if pickZ kind 5 = 0 then ⟨1, nameOf s, 0, (nameOf s).length⟩
  else if pickZ kind 5 = 1 then ⟨2, 86 :: (nameOf s).take (min (s.size + 1) 15), 0, (86 :: (nameOf s).take (min (s.size + 1) 15)).length⟩
  else if pickZ kind 5 = 2 then ⟨3, digL (pickZ n 2147483648).toNat, numL (digL (pickZ n 2147483648).toNat), (digL (pickZ n 2147483648).toNat).length⟩
  else if pickZ kind 5 = 3 then ⟨4, textOf s, 0, (textOf s).length + 2⟩
  else ⟨5, signsL.getD (pickZ n 19).toNat [], 0, (signsL.getD (pickZ n 19).toNat []).length⟩
theorem rawR_facts (kind : Int) (s : ByteArray) (n : Int) : Good (rawR kind s n) ∧ (rawR kind s n).kind = 1 + pickZ kind 5 ∧ (wordOf (rawR kind s n)).length ≤ 34 := by
  have hp := pickZ_bd kind 5 (by omega)
  unfold rawR Good
  have hl := nameOf_length s
  split
  · rename_i h
    exact ⟨name_word (name_of s), by rw [h]; rfl, by show (nameOf s).length ≤ 34; omega⟩
  split
  · rename_i h0 h
    refine ⟨var_word (by decide) (fun x hx => ?_) (by rw [List.length_take]; omega), by rw [h]; rfl, ?_⟩
    · obtain ⟨i, hi, rfl⟩ := List.getElem_of_mem (List.mem_of_mem_take hx)
      exact okAt_word (nameOf_ok s i hi)
    · show (86 :: (nameOf s).take (min (s.size + 1) 15)).length ≤ 34
      rw [List.length_cons, List.length_take]; omega
  split
  · rename_i h0 h1 h
    have hb := pickZ_bd n 2147483648 (by omega)
    obtain ⟨g1, g2, g3, g4⟩ := digL_facts 9 (pickZ n 2147483648).toNat (by show _ < 10000000000; omega)
    refine ⟨?_, by rw [h]; rfl, by show (digL _).length ≤ 34; omega⟩
    show IsWord (digL (pickZ n 2147483648).toNat) _
    match hd : digL (pickZ n 2147483648).toNat, g2 with
    | c :: w', _ =>
      rw [hd] at g1 g3 g4
      exact num_word g3 (by simpa using g1) (by rw [g4]; omega)
  split
  · rename_i h0 h1 h2 h
    have ht := textOf_length s
    exact ⟨text_word (textOf_ok s), by rw [h]; rfl, by show (34 :: (textOf s ++ [34])).length ≤ 34; simp; omega⟩
  · rename_i h0 h1 h2 h3
    have hb := pickZ_bd n 19 (by omega)
    have hj : (pickZ n 19).toNat < signsL.length := by show _ < 19; omega
    have he : signsL.getD (pickZ n 19).toNat [] = signsL[(pickZ n 19).toNat] := by simp [List.getD, hj]
    have hm : signsL.getD (pickZ n 19).toNat [] ∈ signsL := by rw [he]; exact List.getElem_mem hj
    have h2 : ∀ y ∈ signsL, y.length ≤ 2 := by decide
    refine ⟨sign_word hm, by show (5 : Int) = _; omega, ?_⟩
    have := h2 _ hm
    show (signsL.getD (pickZ n 19).toNat []).length ≤ 34
    omega

theorem app_mk (a b : List UInt8) : (⟨a.toArray⟩ : ByteArray) ++ ⟨b.toArray⟩ = ⟨(a ++ b).toArray⟩ := by
  apply ByteArray.ext
  rw [ByteArray.data_append]
  simp
theorem extract_mk (l : List UInt8) (k : Nat) : (⟨l.toArray⟩ : ByteArray).extract 0 k = ⟨(l.take k).toArray⟩ := by
  apply ByteArray.ext
  rw [ByteArray.data_extract]
  apply Array.toList_inj.1
  rw [Array.toList_extract]
  simp [List.extract_eq_take_drop]
theorem field_text (a b c d : Value) (w : World) : Sem.run Tryd.prog (Instr.field 24 (.agg #[a, b, c, d]) 2) w = .ok c w := by
  kernel_rfl
theorem conv_one (w : World) (c : UInt8) (cap : Nat) : (convert 60 9 (.slice (some ⟨w.heap.size, 0, none⟩) 1 cap)).run Tryd.prog (w.alloc (.cells #[.int .u8 (c.toNat : Int)] 5)) = .ok (.string ⟨#[c]⟩) (w.alloc (.cells #[.int .u8 (c.toNat : Int)] 5)) :=
  run_convert_bytes_back _ _ _ _ ⟨w.heap.size, 0, none⟩ cap [c] Tryd.underlying60 Tryd.underlying5 Tryd.underlying9 (fun j hj => by
    obtain rfl : j = 0 := by simpa using hj
    have e : ((⟨w.heap.size, 0, none⟩ : Addr).add 0) = ⟨w.heap.size, 0, none⟩ := by unfold Addr.add; split <;> simp_all
    rw [e]
    exact cell_of_block' (alloc_new' w _) _ rfl)
theorem signs_new (w : World) (t : TypeId) (j : Nat) (hj : j < 19) : (w.alloc (.cells signCells t)).cell? ⟨w.heap.size, j, none⟩ = some (.string ⟨(signsL.getD j []).toArray⟩) := by
  refine cell_of_block' (alloc_new' w _) _ ?_
  match j, hj with
  | 0, _ => rfl
  | 1, _ => rfl
  | 2, _ => rfl
  | 3, _ => rfl
  | 4, _ => rfl
  | 5, _ => rfl
  | 6, _ => rfl
  | 7, _ => rfl
  | 8, _ => rfl
  | 9, _ => rfl
  | 10, _ => rfl
  | 11, _ => rfl
  | 12, _ => rfl
  | 13, _ => rfl
  | 14, _ => rfl
  | 15, _ => rfl
  | 16, _ => rfl
  | 17, _ => rfl
  | 18, _ => rfl
  | n + 19, h => exact absurd h (by omega)

def bitOf : Value → Nat
  | .bool true => 1
  | _ => 0
def WordPost (kind : Int) (s : ByteArray) (n : Int) (w : World) (e : Ending) (w' : World) : Prop := e = .returned (.string ⟨(wordOf (rawR kind s n)).toArray⟩) ∧ Below w.heap.size w w'

set_option maxRecDepth 100000 in
set_option maxHeartbeats 4000000 in
theorem word_0 (kind : Int) (s : ByteArray) (n : Int) (w : World) (hk : I64 kind) (hs : s.size ≤ maxLen) (h : pickZ kind 5 = 0) :
    Calls Tryd.prog 36 #[.int .i64 kind, .string s, .int .i64 n] w (WordPost kind s n w) := by
  have HE : Hid (wordOf (rawR kind s n) = nameOf s) := by show _ = _; rw [rawR, if_pos h]; rfl
  have HP := Lib.hid h; clear h
  go_enter Tryd.func36, Tryd.ntmps36
  go_wp2_with fail
  refine (pick3_any _ 5 _ hk (by omega) (by omega)).mono ?_
  rintro e w' ⟨rfl, rfl⟩
  rw [HP.out]
  go_wp2_with fail
  refine (lawName_any s _ hs).mono ?_
  rintro e w2 ⟨rfl, b2⟩
  go_wp2_with fail
  go_ret
  exact ⟨by rw [HE.out]; rfl, b2⟩

set_option maxRecDepth 100000 in
set_option maxHeartbeats 4000000 in
theorem word_1 (kind : Int) (s : ByteArray) (n : Int) (w : World) (hk : I64 kind) (hs : s.size ≤ 140737488355328) (h : pickZ kind 5 = 1) :
    Calls Tryd.prog 36 #[.int .i64 kind, .string s, .int .i64 n] w (WordPost kind s n w) := by
  have HE : Hid (wordOf (rawR kind s n) = 86 :: (nameOf s).take (min (s.size + 1) 15)) := by show _ = _; rw [rawR, if_neg (by omega), if_pos h]; rfl
  have HP := Lib.hid h; clear h
  have hl := nameOf_length s
  have HX : Hid ((⟨#[86]⟩ : ByteArray) ++ (⟨(nameOf s).toArray⟩ : ByteArray).extract 0 (min ((s.size : Int) + 1) 15).toNat = ⟨(86 :: (nameOf s).take (min (s.size + 1) 15)).toArray⟩) := by
    show _ = _
    have e : (min ((s.size : Int) + 1) 15).toNat = min (s.size + 1) 15 := by omega
    rw [e, extract_mk]
    exact app_mk [86] _
  go_enter Tryd.func36, Tryd.ntmps36
  go_wp2_with fail
  refine (pick3_any _ 5 _ hk (by omega) (by omega)).mono ?_
  rintro e w' ⟨rfl, rfl⟩
  rw [HP.out]
  go_wp2_with fail
  refine (lawName_any s _ (by unfold maxLen; omega)).mono ?_
  rintro e w2 ⟨rfl, b2⟩
  have hsz : (⟨(nameOf s).toArray⟩ : ByteArray).size = (nameOf s).length := size_mk _
  generalize hnm : (⟨(nameOf s).toArray⟩ : ByteArray) = nm at *
  have hmn : (min ((s.size : Int) + 1) 15) ≤ (nm.size : Int) := by omega
  have hmn0 : (0 : Int) ≤ min ((s.size : Int) + 1) 15 := by omega
  clear hnm hsz hl
  go_wp2_with fail
  go_ret
  exact ⟨by rw [HE.out, ← HX.out]; rfl, b2⟩

set_option maxRecDepth 100000 in
set_option maxHeartbeats 4000000 in
theorem word_2 (kind : Int) (s : ByteArray) (n : Int) (w : World) (hk : I64 kind) (hn : I64 n) (h : pickZ kind 5 = 2) :
    Calls Tryd.prog 36 #[.int .i64 kind, .string s, .int .i64 n] w (WordPost kind s n w) := by
  have HE : Hid (wordOf (rawR kind s n) = digL (pickZ n 2147483648).toNat) := by show _ = _; rw [rawR, if_neg (by omega), if_neg (by omega), if_pos h]; rfl
  have HP := Lib.hid h; clear h
  go_enter Tryd.func36, Tryd.ntmps36
  go_wp2_with fail
  refine (pick3_any _ 5 _ hk (by omega) (by omega)).mono ?_
  rintro e w' ⟨rfl, rfl⟩
  rw [HP.out]
  go_wp2_with fail
  refine (pick3_any _ 2147483648 _ hn (by omega) (by omega)).mono ?_
  rintro e w' ⟨rfl, rfl⟩
  obtain ⟨h1, h2⟩ := pickZ_bd n 2147483648 (by omega)
  obtain ⟨N, hN⟩ := Int.eq_ofNat_of_zero_le h1
  rw [hN] at HE h2 ⊢
  rw [Int.toNat_natCast] at HE
  clear h1 hN
  go_wp2_with fail
  have HD10 : Hid ((digL N).length ≤ 10) := (digL_facts 9 N (by show _ < 10000000000; omega)).1
  go_loopw [2, 7, 8] (fun m t f wr => ∃ (k : Nat) (tb : List UInt8) (fb : Bool), k < 2147483648 ∧ m = .int .i64 k ∧ t = .string ⟨tb.toArray⟩ ∧ f = .bool fb ∧ Hid (if fb = true then tb = [] ∧ k = N else digL N = (if k = 0 then [] else digL k) ++ tb) ∧ Below w.heap.size w wr) (fun m _ f _ => (intOf m).toNat + bitOf f)
  case atStart => exact ⟨N, [], true, by omega, rfl, rfl, rfl, ⟨rfl, rfl⟩, Below.refl _ _⟩
  case round =>
    obtain ⟨k, tb, fb, hk2, rfl, rfl, rfl, hinv, hbel⟩ := hrel
    have HBEL := Lib.hid hbel
    clear hbel
    have htb : tb.length ≤ 10 := by
      have h0 := HD10.out
      cases fb with
      | true => rw [(hinv.out).1]; simp
      | false =>
        have h1 := hinv.out
        simp only [Bool.false_eq_true, if_false] at h1
        rw [h1, List.length_append] at h0
        omega
    have hsz : (⟨tb.toArray⟩ : ByteArray).size = tb.length := size_mk tb
    have HSTEP : Hid ((fb = true ∨ 0 < k) → digL N = (if k / 10 = 0 then [] else digL (k / 10)) ++ (UInt8.ofNat (48 + k % 10) :: tb)) := by
      show _ → _
      intro hc
      have hs := digL_step k
      cases fb with
      | true =>
        obtain ⟨h1, h2⟩ := hinv.out
        rw [h1, ← h2]
        exact hs
      | false =>
        have h1 := hinv.out
        simp only [Bool.false_eq_true, if_false, false_or] at h1 hc
        rw [if_neg (by omega)] at h1
        rw [h1, hs]; simp
    have HB := Lib.hid (dig_byte k)
    have hco := conv_one wr (UInt8.ofNat (48 + k % 10)) 1
    rw [HB.out] at hco
    have HAPP : Hid ((⟨#[UInt8.ofNat (48 + k % 10)]⟩ : ByteArray) ++ ⟨tb.toArray⟩ = ⟨(UInt8.ofNat (48 + k % 10) :: tb).toArray⟩) := app_mk [_] tb
    generalize UInt8.ofNat (48 + k % 10) = c at *
    cases fb with
    | true =>
      have HN : Hid (if false = true then (c :: tb) = [] ∧ k / 10 = N else digL N = (if k / 10 = 0 then [] else digL (k / 10)) ++ (c :: tb)) := HSTEP.out (.inl rfl)
      go_wp2_with fail
      go_roundw
      case rel => exact ⟨k / 10, c :: tb, false, by omega, by go_num, by rw [HAPP.out], rfl, HN, HBEL.out.alloc HBEL.out.size _⟩
      case measure => simp [intOf, bitOf]; omega
    | false =>
      by_cases hk0 : k = 0
      · subst hk0
        have HF : Hid (digL N = tb) := by
          have h1 := hinv.out
          simp only [Bool.false_eq_true, if_false, if_true, List.nil_append] at h1
          exact h1
        go_wp2_with fail
        go_ret
        exact ⟨by rw [HE.out, HF.out]; rfl, HBEL.out⟩
      · have HN : Hid (if false = true then (c :: tb) = [] ∧ k / 10 = N else digL N = (if k / 10 = 0 then [] else digL (k / 10)) ++ (c :: tb)) := HSTEP.out (.inr (by omega))
        have hk1 : 0 < k := by omega
        clear hk0
        go_wp2_with fail
        go_roundw
        case rel => exact ⟨k / 10, c :: tb, false, by omega, by go_num, by rw [HAPP.out], rfl, HN, HBEL.out.alloc HBEL.out.size _⟩
        case measure => simp [intOf, bitOf]; omega

set_option maxRecDepth 100000 in
set_option maxHeartbeats 4000000 in
theorem word_3 (kind : Int) (s : ByteArray) (n : Int) (w : World) (hk : I64 kind) (hs : s.size ≤ maxLen) (h : pickZ kind 5 = 3) :
    Calls Tryd.prog 36 #[.int .i64 kind, .string s, .int .i64 n] w (WordPost kind s n w) := by
  have HE : Hid (wordOf (rawR kind s n) = 34 :: (textOf s ++ [34])) := by show _ = _; rw [rawR, if_neg (by omega), if_neg (by omega), if_neg (by omega), if_pos h]; rfl
  have HP := Lib.hid h; clear h
  have HX : Hid (((⟨#[34]⟩ : ByteArray) ++ ⟨(textOf s).toArray⟩) ++ ⟨#[34]⟩ = ⟨(34 :: (textOf s ++ [34])).toArray⟩) := by
    show _ = _
    rw [show (⟨#[34]⟩ : ByteArray) = ⟨([34] : List UInt8).toArray⟩ from rfl, app_mk, app_mk]; rfl
  have hfit : fitV 4 (.mk 1 0 s []) = .mk 2 0 ⟨(textOf s).toArray⟩ [] := by
    have e3 : ¬ pickZ (V.mk 1 0 s []).kind 4 = 3 := by show ¬ pickZ 1 4 = 3; decide
    have e0 : ¬ pickZ (V.mk 1 0 s []).kind 4 = 0 := by show ¬ pickZ 1 4 = 0; decide
    have e1 : pickZ (V.mk 1 0 s []).kind 4 = 1 := by show pickZ 1 4 = 1; decide
    rw [fitV, if_neg e3, fitFlat, if_neg e0, if_pos e1]; rfl
  have HFIT := Lib.hid hfit; clear hfit
  have hl := textOf_length s
  have hsz : (⟨(textOf s).toArray⟩ : ByteArray).size = (textOf s).length := size_mk _
  go_enter Tryd.func36, Tryd.ntmps36
  go_wp2_with fail
  refine (pick3_any _ 5 _ hk (by omega) (by omega)).mono ?_
  rintro e w' ⟨rfl, rfl⟩
  rw [HP.out]
  go_wp2_with fail
  refine (Fit_any (.mk 1 0 s []) 0 _ _ _ _ _ (Nat.zero_le _) (repV_mk.2 ⟨rfl, rfl, rfl, ⟨by omega, by omega⟩, ⟨by omega, by omega⟩, hs, none, 0, 0, 0, rfl, Nat.le_refl _, by simp, fun h => by omega, fun h => by simp at h, fun i hi => by simp at hi⟩)).mono ?_
  rw [HFIT.out]
  rintro e w2 ⟨c0, c1, c2, c3, rfl, hr, b2⟩
  obtain ⟨fa, fc, rfl, rfl, rfl, rfl⟩ := hr.form
  have hf := field_text
  dsimp only [V.kind, V.num, V.text, V.list]
  clear hr
  go_wp2_with fail
  go_ret
  exact ⟨by rw [HE.out, ← HX.out]; rfl, b2⟩

set_option maxRecDepth 100000 in
set_option maxHeartbeats 4000000 in
theorem word_4 (kind : Int) (s : ByteArray) (n : Int) (w : World) (hk : I64 kind) (hn : I64 n) (h : pickZ kind 5 = 4) :
    Calls Tryd.prog 36 #[.int .i64 kind, .string s, .int .i64 n] w (WordPost kind s n w) := by
  have HE : Hid (wordOf (rawR kind s n) = signsL.getD (pickZ n 19).toNat []) := by show _ = _; rw [rawR, if_neg (by omega), if_neg (by omega), if_neg (by omega), if_neg (by omega)]; rfl
  have HP := Lib.hid h; clear h
  go_enter Tryd.func36, Tryd.ntmps36
  go_wp2_with fail
  refine (pick3_any _ 5 _ hk (by omega) (by omega)).mono ?_
  rintro e w' ⟨rfl, rfl⟩
  rw [HP.out]
  go_wp2_with fail
  have hnew := signs_new w 9
  have b2 := stands_alloc w (.cells signCells 9)
  generalize hw2 : w.alloc (.cells signCells 9) = w2 at *
  refine (pick3_any _ 19 _ hn (by omega) (by omega)).mono ?_
  rintro e w3 ⟨rfl, rfl⟩
  obtain ⟨h1, h2⟩ := pickZ_bd n 19 (by omega)
  obtain ⟨j, hj⟩ := Int.eq_ofNat_of_zero_le h1
  rw [hj] at HE h2 ⊢
  rw [Int.toNat_natCast] at HE
  have hj19 : j < 19 := by omega
  have hcell := hnew j hj19
  clear h1 hj hnew hw2
  generalize signsL.getD j [] = x at *
  go_wp2_with fail
  go_ret
  exact ⟨by rw [HE.out]; rfl, b2⟩

theorem word_any (kind : Int) (s : ByteArray) (n : Int) (w : World) (hk : I64 kind) (hs : s.size ≤ 140737488355328) (hn : I64 n) :
    Calls Tryd.prog 36 #[.int .i64 kind, .string s, .int .i64 n] w (WordPost kind s n w) := by
  have hp := pickZ_bd kind 5 (by omega)
  have hs' : s.size ≤ maxLen := by unfold maxLen; omega
  rcases (show pickZ kind 5 = 0 ∨ pickZ kind 5 = 1 ∨ pickZ kind 5 = 2 ∨ pickZ kind 5 = 3 ∨ pickZ kind 5 = 4 by omega) with h | h | h | h | h
  · exact word_0 kind s n w hk hs' h
  · exact word_1 kind s n w hk hs h
  · exact word_2 kind s n w hk hn h
  · exact word_3 kind s n w hk hs' h
  · exact word_4 kind s n w hk hn h

end Go.Proofs.YtgkgnfafjbjbnaaDoor
