/-
  lexer.Scan as plain data: what a list of bytes is scanned to, byte by byte. No program is named here.
-/
import Derived.Test.YtgpgjaenbhbbgaaDoorName
import Derived.Lib.DecodeN
namespace Go.Proofs.YtgpgjaenbhbbgaaDoor
open Go.RowKit

/-- A token. -/
structure Tok where
  kind : Int
  text : List UInt8
  num : Int
  line : Nat
  col : Nat

def smallZ (r : Int) : Bool := decide (97 ≤ r ∧ r ≤ 122)
def greatZ (r : Int) : Bool := decide (65 ≤ r ∧ r ≤ 90)
def digitZ (r : Int) : Bool := decide (48 ≤ r ∧ r ≤ 57)
def wordZ (r : Int) : Bool := smallZ r || (greatZ r || (digitZ r || r == 95))
def notFeedZ (r : Int) : Bool := r != 10
def notQuoteZ (r : Int) : Bool := r != 34
def blankZ (r : Int) : Bool := r == 32 || (r == 9 || r == 10)

/-- A set of runes, asked of a byte. -/
def onB (g : Int → Bool) (c : UInt8) : Bool := g (c.toNat : Int)
def spanL (g : Int → Bool) (l : List UInt8) : Nat := (l.takeWhile (onB g)).length

def signsL : List (List UInt8) := [[58, 45], [58, 61], [61, 61], [33, 61], [60, 61], [62, 61], [60], [62], [40], [41], [91], [93], [44], [46], [64], [33], [43], [45], [42]]
def signIn : List (List UInt8) → List UInt8 → Option (List UInt8)
  | [], _ => none
  | x :: r, l => if Lib.hasPrefix l x then some x else signIn r l
def numL (l : List UInt8) : Int := l.foldl (fun n c => 10 * n + ((c.toNat : Int) - 48)) 0

/-- What stands at the beginning: its kind, text, number, and how many bytes it takes. -/
structure Read where
  kind : Int
  text : List UInt8
  num : Int
  len : Nat
def nameR (l : List UInt8) : Option Read := if nameB ⟨(l.takeWhile (onB wordZ)).toArray⟩ then some ⟨1, l.takeWhile (onB wordZ), 0, spanL wordZ l⟩ else none
def varR (l : List UInt8) : Option Read := if 16 < spanL wordZ l then none else some ⟨2, l.takeWhile (onB wordZ), 0, spanL wordZ l⟩
def numR (l : List UInt8) : Option Read := if 10 < spanL digitZ l then none else if 2147483647 < numL (l.takeWhile (onB digitZ)) then none else some ⟨3, l.takeWhile (onB digitZ), numL (l.takeWhile (onB digitZ)), spanL digitZ l⟩
def textR (l : List UInt8) : Option Read := if spanL notQuoteZ l.tail = l.tail.length then none else if textB ⟨(l.tail.takeWhile (onB notQuoteZ)).toArray⟩ then some ⟨4, l.tail.takeWhile (onB notQuoteZ), 0, spanL notQuoteZ l.tail + 2⟩ else none
def signR (l : List UInt8) : Option Read := (signIn signsL l).map fun x => ⟨5, x, 0, x.length⟩
def readL (c : Int) (l : List UInt8) : Option Read :=
  if smallZ c then nameR l else if greatZ c then varR l else if digitZ c then numR l else if c == 34 then textR l else signR l

/-- What a text is scanned to: its tokens; or the place of the first one that may not be. -/
inductive Res where
  | bad (line col : Nat) : Res
  | ok (l : List Tok) : Res
def Res.app (a : List Tok) : Res → Res
  | .bad l c => .bad l c
  | .ok l => .ok (a ++ l)
theorem Res.app_app (a b : List Tok) (r : Res) : (r.app b).app a = r.app (a ++ b) := by cases r <;> simp [Res.app]
theorem Res.app_nil (r : Res) : r.app [] = r := by cases r <;> simp [Res.app]

def Tok.of (r : Read) (line col : Nat) : Tok := ⟨r.kind, r.text, r.num, line, col⟩

/-- The bytes from a place on; the first 'skip' of them have been read. -/
def scanS : Nat → List UInt8 → Nat → Nat → Res
  | _, [], line, col => .ok [⟨6, [], 0, line, col⟩]
  | k + 1, _ :: r, line, col => scanS k r line (col + 1)
  | 0, c :: r, line, col =>
    if c.toNat = 10 then scanS 0 r (line + 1) 1
    else if blankZ (c.toNat : Int) then scanS 0 r line (col + 1)
    else if c.toNat = 37 then scanS (spanL notFeedZ (c :: r) - 1) r line (col + 1)
    else match readL (c.toNat : Int) (c :: r) with
      | none => .bad line col
      | some t => (scanS (t.len - 1) r line (col + 1)).app [Tok.of t line col]

theorem scanS_nil (k line col : Nat) : scanS k [] line col = .ok [⟨6, [], 0, line, col⟩] := by cases k <;> rfl
theorem scanS_skip : ∀ (j k : Nat) (l : List UInt8) (line col : Nat), j ≤ k → k ≤ l.length → scanS k l line col = scanS (k - j) (l.drop j) line (col + j)
  | 0, k, l, line, col, _, _ => by simp
  | j + 1, k, [], line, col, h, hk => by simp at hk; omega
  | j + 1, k + 1, c :: r, line, col, h, hk => by
    rw [scanS, scanS_skip j k r line (col + 1) (by omega) (by simpa using hk)]
    rw [show k + 1 - (j + 1) = k - j by omega, List.drop_succ_cons, show col + 1 + j = col + (j + 1) by omega]
  | j + 1, 0, _ :: _, _, _, h, _ => by omega

/-- What Scan gives of a text. -/
def scanB (s : ByteArray) : Res := if 20000 < s.size then .bad 1 1 else scanS 0 s.data.toList 1 1

/-! ### runes and bytes -/

/-- A rune's bytes behind the first are none that stand alone. -/
theorem decodeN_wide (n b0 b1 b2 b3 : Nat) (hn : 1 ≤ n) :
    1 ≤ (Lib.decodeN n b0 b1 b2 b3).2 ∧ (Lib.decodeN n b0 b1 b2 b3).2 ≤ n ∧ (1 < (Lib.decodeN n b0 b1 b2 b3).2 → 128 ≤ b0 ∧ 128 ≤ b1) ∧ (2 < (Lib.decodeN n b0 b1 b2 b3).2 → 128 ≤ b2) ∧ (3 < (Lib.decodeN n b0 b1 b2 b3).2 → 128 ≤ b3) ∧ (Lib.decodeN n b0 b1 b2 b3).2 ≤ 4 := by
  unfold Lib.decodeN
  repeat' split
  all_goals (simp only []; omega)

theorem get_get (s : ByteArray) (i : Nat) (h : i < s.size) : s.get! i = s[i] := by
  simp [ByteArray.get!, getElem!_pos, h]
  rfl

theorem decode_wide (s : ByteArray) (pos : Nat) (h : pos < s.size) :
    1 ≤ (Utf8.decode s pos).2 ∧ pos + (Utf8.decode s pos).2 ≤ s.size ∧ (∀ k (hk : k < s.size), pos < k → k < pos + (Utf8.decode s pos).2 → 128 ≤ s[k].toNat) ∧ (1 < (Utf8.decode s pos).2 → 128 ≤ s[pos].toNat) := by
  rw [Lib.decode_at]
  obtain ⟨h1, h2, h3, h4, h5, h6⟩ := decodeN_wide (s.size - pos) (s.get! pos).toNat (s.get! (pos + 1)).toNat (s.get! (pos + 2)).toNat (s.get! (pos + 3)).toNat (by omega)
  generalize Lib.decodeN (s.size - pos) (s.get! pos).toNat (s.get! (pos + 1)).toNat (s.get! (pos + 2)).toNat (s.get! (pos + 3)).toNat = d at *
  refine ⟨h1, by omega, fun k hk hk1 hk2 => ?_, fun h => ?_⟩
  · rw [← get_get s k hk]
    obtain rfl | rfl | rfl : k = pos + 1 ∨ k = pos + 2 ∨ k = pos + 3 := by omega
    · exact (h3 (by omega)).2
    · exact h4 (by omega)
    · exact h5 (by omega)
  · rw [← get_get s pos (by omega)]
    exact (h3 h).1

/-- 'next' is where the runes from 'pos' on come to. -/
def Hits (s : ByteArray) (pos next : Nat) : Prop := next ≤ s.size ∧ (next ≤ pos ∨ next = s.size ∨ (∃ h : next < s.size, s[next].toNat < 128) ∨ ∀ k (h : k < s.size), pos ≤ k → k < next → s[k].toNat < 128)
theorem Hits.step {s : ByteArray} {pos next : Nat} (h : Hits s pos next) (hp : pos < next) : pos + (Utf8.decode s pos).2 ≤ next ∧ Hits s (pos + (Utf8.decode s pos).2) next := by
  have hs : pos < s.size := by have := h.1; omega
  obtain ⟨h1, h2, h3, h4⟩ := decode_wide s pos hs
  have key : pos + (Utf8.decode s pos).2 ≤ next := by
    by_cases hc : pos + (Utf8.decode s pos).2 ≤ next
    · exact hc
    · exfalso
      have hn : next < s.size := by omega
      have a := h3 next hn hp (by omega)
      rcases h.2 with g | g | ⟨_, g⟩ | g
      · omega
      · omega
      · omega
      · have b := g pos hs (Nat.le_refl _) hp
        have c := h4 (by omega)
        omega
  refine ⟨key, h.1, ?_⟩
  rcases h.2 with g | g | g | g
  · exact .inl (by omega)
  · exact .inr (.inl g)
  · exact .inr (.inr (.inl g))
  · exact .inr (.inr (.inr fun k hk h1 h2 => g k hk (by omega) h2))

/-- How far a set of runes goes is how far it goes of bytes, if it has all runes from 128 on, or none. -/
theorem spanL_cons (g : Int → Bool) (c : UInt8) (r : List UInt8) : spanL g (c :: r) = if onB g c then spanL g r + 1 else 0 := by
  simp only [spanL, List.takeWhile_cons]
  split <;> simp
theorem spanL_le (g : Int → Bool) (l : List UInt8) : spanL g l ≤ l.length := by
  simp only [spanL]
  exact (List.takeWhile_prefix _).length_le
theorem spanL_all (g : Int → Bool) : ∀ (j : Nat) (l : List UInt8), j ≤ l.length → (∀ k (h : k < l.length), k < j → onB g l[k] = true) → spanL g l = j + spanL g (l.drop j)
  | 0, l, _, _ => by simp
  | j + 1, [], h, _ => by simp at h
  | j + 1, c :: r, h, ha => by
    have h0 : onB g c = true := ha 0 (by simp) (by omega)
    rw [spanL_cons, if_pos h0, List.drop_succ_cons, spanL_all g j r (by simpa using h) (fun k hk hj => ha (k + 1) (by simpa using hk) (by omega))]
    omega

end Go.Proofs.YtgpgjaenbhbbgaaDoor
