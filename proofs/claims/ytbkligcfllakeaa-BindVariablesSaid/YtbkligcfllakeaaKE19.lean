/-
  NineVars, OwnSet
-/
import Derived.Test.YtbkligcfllakeaaKE17
import Derived.Test.YtbkligcfllakeaaKE18
import Derived.Test.YtbkligcfllakeaaKE15
import Derived.Test.YtbkligcfllakeaaKE10
import Derived.Test.YtbkligcfllakeaaKE13
namespace Go.Proofs.Ytbkligcfllakeaa
open Go.RowKit
def xn (k : Nat) : ByteArray := ⟨#[88, UInt8.ofNat (97 + k)]⟩
def tv (k : Nat) : Tm := .mk 1 (xn k) zeroV []
theorem xn_list (k : Nat) : (xn k).toList = [88, UInt8.ofNat (97 + k)] := by rw [Lib.toList_data]; rfl
theorem xn_inj {i j : Nat} (hi : i ≤ 8) (hj : j ≤ 8) (h : (xn i).toList = (xn j).toList) : i = j := by
 rw [xn_list, xn_list] at h
 injection h with _ h
 injection h with h _
 have h1 := congrArg UInt8.toNat h;rw [UInt8.toNat_ofNat', UInt8.toNat_ofNat'] at h1;omega
def lookV (s : ByteArray) : List (Tm × V) → Option V
 | [] => none
 | (t, x) :: l => if (t.name.toList == s.toList) = true then some x else lookV s l
theorem look_with (s : ByteArray) : ∀ (l : List (Tm × V)) (E : List Bd), (∀ p ∈ l, p.1.kind = 1) → lookZ s (withZ l E) = match lookZ s E with | some y => some y | none => lookV s l
 | [], E, _ => by
  show lookZ s E = _
  cases lookZ s E <;> rfl
 | (t, x) :: l, E, h => by
  have ht : t.kind = 1 := h (t, x) List.mem_cons_self;rw [withZ_cons, look_with s l _ (fun p hp => h p (List.mem_cons_of_mem _ hp))]
  by_cases hn : lookZ t.name E = none
  ·rw [if_pos ⟨ht, hn⟩, lookZ_append]
   cases hs : lookZ s E with
   | some y => rfl
   | none =>
    show (match (match (none : Option V) with | some x => some x | none => lookZ s [(t.name, x)]) with | some y => some y | none => lookV s l) = lookV s ((t, x) :: l)
    rw [lookV, lookZ]
    by_cases he : (t.name.toList == s.toList) = true
    ·rw [if_pos he, if_pos he]
    ·rw [if_neg he, if_neg he]; rfl
  ·rw [if_neg (fun hh => hn hh.2)]
   cases hs : lookZ s E with
   | some y => rfl
   | none =>
    show lookV s l = lookV s ((t, x) :: l)
    rw [lookV, if_neg];intro he;have : t.name = s := toList_inj (by simpa using he);rw [this] at hn;exact hn hs
theorem lookV_sound {s : ByteArray} {y : V} : ∀ {l : List (Tm × V)}, lookV s l = some y → ∃ p ∈ l, p.1.name.toList = s.toList ∧ p.2 = y
 | [], h => by cases h
 | (t, x) :: l, h => by
  rw [lookV] at h
  split at h
  ·rename_i he; exact ⟨(t, x), List.mem_cons_self, by simpa using he, Option.some.inj h⟩
  ·obtain ⟨p, hp, h1⟩ := lookV_sound h
   exact ⟨p, List.mem_cons_of_mem _ hp, h1⟩
theorem lookV_has {l : List (Tm × V)} {p : Tm × V} (hp : p ∈ l) : ∃ y, lookV p.1.name l = some y := by
 induction l with
 | nil => cases hp
 | cons q l ih =>
  obtain ⟨t, z⟩ := q;rw [lookV]
  by_cases he : (t.name.toList == p.1.name.toList) = true
  ·rw [if_pos he]; exact ⟨z, rfl⟩
  ·rw [if_neg he]
   rcases List.mem_cons.1 hp with rfl | hp
   ·simp at he
   ·exact ih hp
theorem match_vars {T : List Tm} {M : List V} (hl : T.length = M.length) (hk : ∀ t ∈ T, t.kind = 1) :
  (matchZ T M []).isSome = true ↔ ∀ p ∈ T.zip M, ∃ y, lookV p.1.name (T.zip M) = some y ∧ cmpV y p.2 = 0 := by
 have hkz : ∀ p ∈ T.zip M, p.1.kind = 1 := fun p hp => hk _ (List.of_mem_zip (a := p.1) (b := p.2) hp).1
 have hev : ∀ p ∈ T.zip M, evalM (withZ (T.zip M) []) p.1 = lookV p.1.name (T.zip M) := fun p hp => by
  rw [evalM_eq, if_pos (hkz p hp), look_with _ _ _ hkz];rfl
 have hfit : fitZ (withZ (T.zip M) []) (T.zip M) = true ↔ ∀ p ∈ T.zip M, ∃ y, lookV p.1.name (T.zip M) = some y ∧ cmpV y p.2 = 0 := by
  rw [fitZ_iff];exact ⟨fun h p hp => by obtain ⟨y, h1, h2⟩ := h p hp; rw [hev p hp] at h1; exact ⟨y, h1, h2⟩, fun h p hp => by obtain ⟨y, h1, h2⟩ := h p hp; exact ⟨y, by rw [hev p hp]; exact h1, h2⟩⟩
 rw [← hfit];unfold matchZ
 by_cases hf : fitZ (withZ (T.zip M) []) (T.zip M) = true
 ·rw [if_pos ⟨hl, hf⟩]
  exact Iff.intro (fun _ => hf) (fun _ => rfl)
 ·rw [if_neg (fun h => hf h.2)]
  exact Iff.intro (fun h => absurd h (by decide)) (fun h => absurd h hf)
def tvs (n : Nat) : List Tm := (List.range n).map tv
theorem tvs_len (n : Nat) : (tvs n).length = n := by rw [tvs, List.length_map, List.length_range]
theorem tvs_at (n i : Nat) (h : i < (tvs n).length) : (tvs n)[i] = tv i := by simp [tvs]
theorem with_tvs : ∀ (n : Nat) (M : List V), n ≤ 8 → M.length = n → withZ ((tvs n).zip M) [] = (List.range n).zipWith (fun i x => (xn i, x)) M := by
 intro n
 induction n with
 | zero => intro M _ hM; rw [List.length_eq_zero_iff.1 hM]; rfl
 | succ n ih =>
  intro M hn hM
  obtain ⟨M', x, rfl⟩ : ∃ M' x, M = M' ++ [x] := by
   have hne : M ≠ [] := fun e => by rw [e] at hM; cases hM
   exact ⟨M.dropLast, M.getLast hne, (List.dropLast_concat_getLast hne).symm⟩
  have hM' : M'.length = n := by rw [List.length_append, List.length_singleton] at hM; omega
  have ht : tvs (n + 1) = tvs n ++ [tv n] := by rw [tvs, List.range_succ, List.map_append]; rfl
  rw [ht, List.zip_append (by rw [tvs_len, hM']), withZ_append, ih M' (by omega) hM', List.range_succ, List.zipWith_append (by rw [List.length_range, hM'])]
  show withZ [(tv n, x)] _ = _
  rw [withZ_cons, if_pos]
  ·rfl
  ·refine ⟨rfl, ?_⟩
   have : ∀ (m : Nat) (Q : List V), m ≤ n → Q.length = m → lookZ (xn n) ((List.range m).zipWith (fun i x => (xn i, x)) Q) = none := by
    intro m Q hm hQ
    have hh : ∀ (L : List Bd), (∀ b ∈ L, (b.1.toList == (xn n).toList) = false) → lookZ (xn n) L = none := by
     intro L
     induction L with
     | nil => intro _; rfl
     | cons b L ihL => intro h; rw [lookZ, if_neg (by rw [h b List.mem_cons_self]; decide)]; exact ihL (fun c hc => h c (List.mem_cons_of_mem _ hc))
    apply hh
    intro b hb;obtain ⟨i, hi, rfl⟩ := List.getElem_of_mem hb;rw [List.length_zipWith, List.length_range] at hi;simp only [List.getElem_zipWith, List.getElem_range]
    rw [beq_eq_false_iff_ne];intro e;have := xn_inj (by omega) (by omega) e;omega
   exact this n M' (Nat.le_refl _) hM'
theorem match_tvs (n : Nat) (M : List V) (hn : n ≤ 8) (hM : M.length = n) : matchZ (tvs n) M [] = some ((List.range n).zipWith (fun i x => (xn i, x)) M) := by
 have hs : (matchZ (tvs n) M []).isSome = true := by
  rw [match_vars (by rw [tvs_len, hM]) (fun t ht => by obtain ⟨i, -, rfl⟩ := List.mem_map.1 ht; rfl)];intro p hp;obtain ⟨y, hy⟩ := lookV_has hp;refine ⟨y, hy, ?_⟩;obtain ⟨q, hq, h1, h2⟩ := lookV_sound hy;obtain ⟨i, hi, rfl⟩ := List.getElem_of_mem hp;obtain ⟨j, hj, rfl⟩ := List.getElem_of_mem hq;rw [List.length_zip, tvs_len] at hi hj;simp only [List.getElem_zip, tvs_at] at h1 h2
  have := xn_inj (by omega) (by omega) h1;subst this;rw [← h2];simp only [List.getElem_zip]
  exact cmp_refl9 _
 cases hm : matchZ (tvs n) M [] with
 | none => rw [hm] at hs; cases hs
 | some F =>
  obtain ⟨-, rfl, -⟩ := matchZ_some hm;rw [with_tvs n M hn hM]
theorem match_twice (n : Nat) (M : List V) (hn : n ≤ 8) (hM : M.length = n) (hr : ∀ x ∈ M, rightV 4 x = true) (j k : Nat) (hj : j < n) (hk : k < n) :
  (matchZ ((tvs n).set j (tv k)) M []).isSome = sameV (M[j]'(by omega)) (M[k]'(by omega)) := by
 have hl : ((tvs n).set j (tv k)).length = M.length := by rw [List.length_set, tvs_len, hM]
 have hat : ∀ i (hi : i < (((tvs n).set j (tv k)).zip M).length), (((tvs n).set j (tv k)).zip M)[i] = (tv (if j = i then k else i), M[i]'(by rw [List.length_zip] at hi; omega)) := by
  intro i hi;rw [List.length_zip, List.length_set, tvs_len] at hi;simp only [List.getElem_zip, List.getElem_set, tvs_at]
  split <;> rfl
 have hkind : ∀ t ∈ (tvs n).set j (tv k), t.kind = 1 := by
  intro t ht;rcases List.mem_or_eq_of_mem_set ht with h | h
  ·obtain ⟨i, -, rfl⟩ := List.mem_map.1 h; rfl
  ·rw [h]; rfl
 have hzl : (((tvs n).set j (tv k)).zip M).length = n := by rw [List.length_zip, List.length_set, tvs_len, hM, Nat.min_self]
 rw [Bool.eq_iff_iff, match_vars hl hkind, sameV_iff]
 constructor
 ·intro h
  have hp : ∀ i (hi : i < n), ∃ y, lookV (xn (if j = i then k else i)) (((tvs n).set j (tv k)).zip M) = some y ∧ y = M[i]'(by omega) := by
   intro i hi;obtain ⟨y, h1, h2⟩ := h _ (List.getElem_mem (show i < (((tvs n).set j (tv k)).zip M).length by omega));rw [hat i (by omega)] at h1 h2;refine ⟨y, h1, ?_⟩;obtain ⟨q, hq, -, h3⟩ := lookV_sound h1;obtain ⟨i', hi', rfl⟩ := List.getElem_of_mem hq;rw [hat i' hi'] at h3;exact cmp_zero y _ 4 (by rw [← h3]; exact hr _ (List.getElem_mem _)) (hr _ (List.getElem_mem _)) h2
  obtain ⟨y, h1, h2⟩ := hp j hj;obtain ⟨z, h3, h4⟩ := hp k hk;have e1 : (if j = j then k else j) = k := if_pos rfl;have e2 : (if j = k then k else k) = k := by split <;> rfl
  rw [e1] at h1;rw [e2, h1] at h3;rw [← h2, ← h4, Option.some.inj h3]
 ·intro he p hp
  obtain ⟨y, hy⟩ := lookV_has hp;refine ⟨y, hy, ?_⟩;obtain ⟨q, hq, h1, h2⟩ := lookV_sound hy;obtain ⟨i, hi, rfl⟩ := List.getElem_of_mem hp;obtain ⟨i', hi', rfl⟩ := List.getElem_of_mem hq;rw [hat i hi, hat i' hi'] at h1;rw [hat i' hi'] at h2;rw [hat i hi];have hx : (if j = i' then k else i') = (if j = i then k else i) := xn_inj (by split <;> omega) (by split <;> omega) h1
  have : y = M[i]'(by omega) := by
   rw [← h2]
   show M[i'] = M[i]
   by_cases a : j = i
   ·by_cases b : j = i'
    ·subst a b; rfl
    ·rw [if_neg b, if_pos a] at hx
     subst a hx; exact he.symm
   ·by_cases b : j = i'
    ·rw [if_pos b, if_neg a] at hx
     subst b hx; exact he
    ·rw [if_neg b, if_neg a] at hx
     subst hx; rfl
  rw [this];exact cmp_refl9 _
end Go.Proofs.Ytbkligcfllakeaa
namespace Go.Proofs.Ytbkligcfllakeaa
open Go.RowKit
theorem own_set {α : Type} {K : Kd α} {S : Nat → Prop} {w : World} {B : Nat} {L : List α} {a : Option Addr} {n c : Nat} (h : OwnK K S w B L (.slice a n c)) (hS : ∀ b, S b → b < B) (hby : L.length * K.bytes ≤ 140737488355328) (j q : Nat) (hj : j < L.length) (hq : q < L.length) :
  ∃ (g : Nat) (f d : Nat → Value), a = some ⟨g, 0, none⟩ ∧ n = L.length ∧ n ≤ c ∧ B ≤ g ∧ g < w.heap.size ∧ (∀ t, t < K.n → w.cell? ⟨g, q * K.n + t, none⟩ = some (f t)) ∧ (∀ t, t < K.n → w.cell? ⟨g, j * K.n + t, none⟩ = some (d t)) ∧ (∀ i, w.frozen? ⟨g, i, none⟩ = false) ∧ K.R S w L[q] f ∧
   ∀ vs : List Value, vs.length = K.n → (∀ t, t < K.n → vs[t]? = some (f t)) → SlG (fun b => S b ∨ b = g) (putCells w g (j * K.n) vs) K.n K.bytes (K.R (fun b => S b ∨ b = g) (putCells w g (j * K.n) vs)) (L.set j L[q]) (.slice a n c) := by
 obtain ⟨xs, ⟨hlen, hown⟩, hr⟩ := h;rcases hown with ⟨e, hn⟩ | ⟨g, cap, cur, e, hbg, hh, hnc, hcm, hcs, htk⟩
 ·omega
 ·injection e with e1 e2 e3
  subst e1 e2 e3;have hgl := (Array.getElem?_eq_some_iff.1 hh).1
  have hcell : ∀ i (hi : i < L.length), ∃ f : Nat → Value, (∀ t, t < K.n → cur[i * K.n + t]? = some (f t)) ∧ K.R S w L[i] f := by
   intro i hi;obtain ⟨f, h1, h2⟩ := hr i hi;refine ⟨f, fun t ht => ?_, h2⟩;have h3 := h1 t ht;rw [← htk, List.getElem?_take] at h3
   have hlt : i * K.n + t < L.length * K.n := by
    have : (i + 1) * K.n ≤ L.length * K.n := Nat.mul_le_mul_right _ hi;rw [Nat.succ_mul] at this; omega
   rw [if_pos hlt] at h3;rw [← Array.getElem?_toList]; exact h3
  obtain ⟨f, hf1, hf2⟩ := hcell q hq;obtain ⟨d, hd1, -⟩ := hcell j hj;refine ⟨g, f, d, rfl, rfl, hnc, hbg, hgl, fun t ht => cell_of_block' hh _ (hf1 t ht), fun t ht => cell_of_block' hh _ (hd1 t ht), fun i => frozen_of_row w g i _ _ hh, hf2, fun vs hvs hvf => ?_⟩
  have hcur : L.length * K.n ≤ cur.size := by
   rw [hcs];exact Nat.mul_le_mul_right _ hnc
  have hjm : (j + 1) * K.n ≤ L.length * K.n := Nat.mul_le_mul_right _ hj;rw [Nat.succ_mul] at hjm;obtain ⟨cs', p1, p2, p3, p4⟩ := putCells_same g K.T vs w (j * K.n) cur hh (by omega);refine ⟨_, g, 0, c, ?_, by rw [List.length_set]; exact hnc, by rw [List.length_set]; exact hby, fun _ => rfl, fun _ => .inr rfl, fun i hi => ?_⟩
  ·rw [List.length_set]
  ·rw [List.length_set] at hi
   have hoth : ∀ b, S b → (putCells w g (j * K.n) vs).heap[b]? = w.heap[b]? := fun b hb => putCells_other g b (by have := hS b hb; omega) _ _ _
   by_cases hij : j = i
   ·subst hij
    refine ⟨f, fun t ht => ?_, ?_⟩
    ·rw [Nat.zero_add]
     exact cell_of_block' p1 _ ((p3 t (by omega)).trans (hvf t ht))
    ·rw [List.getElem_set_self]
     exact K.on (fun b hb => .inl hb) hoth hf2
   ·obtain ⟨f', h1, h2⟩ := hcell i hi
    refine ⟨f', fun t ht => ?_, ?_⟩
    ·rw [Nat.zero_add]
     refine cell_of_block' p1 _ ((p4 _ ?_).trans (h1 t ht));rcases Nat.lt_or_gt_of_ne hij with hlt | hgt
     ·have : (j + 1) * K.n ≤ i * K.n := Nat.mul_le_mul_right _ hlt
      rw [Nat.succ_mul] at this; omega
     ·have : (i + 1) * K.n ≤ j * K.n := Nat.mul_le_mul_right _ hgt
      rw [Nat.succ_mul] at this; omega
    ·rw [List.getElem_set_ne hij]
     exact K.on (fun b hb => .inl hb) hoth h2
end Go.Proofs.Ytbkligcfllakeaa
