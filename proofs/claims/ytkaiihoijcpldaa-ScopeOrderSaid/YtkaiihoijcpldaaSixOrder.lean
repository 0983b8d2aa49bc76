/-
  Of ScopeOrder: atoms of variables and values alone may stand ahead of all else, where nothing is set.
-/
import Derived.Test.YtkaiihoijcpldaaW11
import Derived.Test.YtkaiihoijcpldaaW15
namespace Go.Proofs.Ytkaiihoijcpldaa
open Go.RowKit

/-- An atom in which nothing is reckoned by an op. -/
def plainB (z : Li) : Bool := z.kind == 1 && z.args.all fun t => !(t.kind == 4)
/-- A body with such atoms ahead. -/
def ahead (l : List Li) : List Li := l.filter plainB ++ l.filter fun z => !plainB z
/-- What raw atoms' arguments are: variables, values, ops. -/
def Leafy (z : Li) : Prop := ∀ t ∈ z.args, t.kind ≠ 4 → varsM t = if t.kind = 1 then [t.name] else []
theorem argNames_mem {l : List Tm} (h : ∀ t ∈ l, varsM t = if t.kind = 1 then [t.name] else []) : varsL l = argNames l := by
  induction l with
  | nil => rfl
  | cons t l ih =>
    rw [varsL, h t (by simp), ih (fun x hx => h x (by simp [hx])), argNames, argNames, List.filter_cons]
    by_cases hk : t.kind = 1
    · rw [if_pos hk, if_pos (by simp [hk])]; rfl
    · rw [if_neg hk, if_neg (by simp [hk])]; rfl
theorem plain_kinds {z : Li} (h : plainB z = true) : z.kind = 1 ∧ ∀ t ∈ z.args, t.kind ≠ 4 := by
  rw [plainB] at h
  simp only [Bool.and_eq_true, beq_iff_eq, List.all_eq_true, Bool.not_eq_true', beq_eq_false_iff_ne] at h
  exact h
theorem goAll_plain : ∀ (b : List Li) (l : List ByteArray), (∀ z ∈ b, plainB z = true ∧ Leafy z) → (goAll l b).1 = 0 ∧ (∀ s ∈ l, s ∈ (goAll l b).2) ∧ ∀ z ∈ b, ∀ s ∈ argNames z.args, s ∈ (goAll l b).2
  | [], l, _ => ⟨rfl, fun _ h => h, fun _ h => by cases h⟩
  | z :: b, l, h => by
    obtain ⟨h1, h2⟩ := h z (by simp)
    obtain ⟨k1, k2⟩ := plain_kinds h1
    have hv : varsL z.args = argNames z.args := argNames_mem (fun t ht => h2 t ht (k2 t ht))
    have hga : goArgs l z = l ++ argNames z.args := by rw [goArgs, if_pos k1]
    have he : goErr l z = 0 := by
      rw [goErr, hga, hv, if_pos (List.all_eq_true.2 fun s hs => inB_iff.2 (List.mem_append_right _ hs)), if_neg (fun e => by have := e.1; omega)]
    have hgs : goSet l z = l ++ argNames z.args := by rw [goSet, if_neg (by omega), hga]
    rw [goAll, if_pos he, hgs]
    obtain ⟨i1, i2, i3⟩ := goAll_plain b (l ++ argNames z.args) (fun x hx => h x (by simp [hx]))
    refine ⟨i1, fun s hs => i2 s (List.mem_append_left _ hs), fun x hx s hs => ?_⟩
    rcases List.mem_cons.1 hx with rfl | hx
    · exact i2 s (List.mem_append_right _ hs)
    · exact i3 x hx s hs
theorem goAll_append : ∀ (a b : List Li) (l : List ByteArray), (goAll l a).1 = 0 → goAll l (a ++ b) = goAll (goAll l a).2 b
  | [], _, _, _ => rfl
  | z :: a, b, l, h => by
    rw [List.cons_append, goAll]
    rw [goAll] at h
    by_cases he : goErr l z = 0
    · rw [if_pos he] at h ⊢
      rw [goAll_append a b _ h, goAll, if_pos he]
    · rw [if_neg he] at h
      exact absurd h he
theorem go_zero {l : List ByteArray} {z : Li} (hk : z.kind ≠ 4) : goErr l z = 0 ↔ ∀ s ∈ varsL z.args, s ∈ goArgs l z := by
  rw [goErr, if_neg (c := z.kind = 4 ∧ inB (goArgs l z) z.name = true) (fun e => hk e.1)]
  by_cases h : (varsL z.args).all (inB (goArgs l z)) = true
  · rw [if_pos h]
    exact ⟨fun _ s hs => inB_iff.1 (List.all_eq_true.1 h s hs), fun _ => rfl⟩
  · rw [if_neg h]
    exact ⟨fun e => absurd e (by decide), fun e => absurd (List.all_eq_true.2 fun s hs => inB_iff.2 (e s hs)) h⟩
theorem goArgs_more {l l' : List ByteArray} (h : ∀ s ∈ l, s ∈ l') (z : Li) : ∀ s ∈ goArgs l z, s ∈ goArgs l' z := by
  intro s hs
  rw [goArgs] at hs ⊢
  split
  · rename_i hk
    rw [if_pos hk] at hs
    rcases List.mem_append.1 hs with hs | hs
    · exact List.mem_append_left _ (h s hs)
    · exact List.mem_append_right _ hs
  · rename_i hk
    rw [if_neg hk] at hs
    exact h s hs
theorem goAll_rest : ∀ (b : List Li) (l l' : List ByteArray), (∀ z ∈ b, z.kind ≠ 4) → (∀ s ∈ l, s ∈ l') → (∀ z ∈ b, plainB z = true → ∀ s ∈ argNames z.args, s ∈ l') → (goAll l b).1 = 0 →
    (goAll l' (b.filter fun z => !plainB z)).1 = 0 ∧ ∀ s ∈ (goAll l b).2, s ∈ (goAll l' (b.filter fun z => !plainB z)).2
  | [], l, l', _, hl, _, _ => ⟨rfl, hl⟩
  | z :: b, l, l', hk, hl, hp, h0 => by
    have hk4 := hk z (by simp)
    rw [goAll] at h0
    by_cases he : goErr l z = 0
    · rw [if_pos he] at h0
      have hgs : ∀ l, goSet l z = goArgs l z := fun l => by rw [goSet, if_neg hk4]
      rw [hgs] at h0
      rw [goAll, if_pos he, hgs, List.filter_cons]
      cases hpl : plainB z with
      | true =>
        rw [if_neg (by simp)]
        refine goAll_rest b _ _ (fun x hx => hk x (by simp [hx])) (fun s hs => ?_) (fun x hx => hp x (by simp [hx])) h0
        rw [goArgs, if_pos (plain_kinds hpl).1] at hs
        rcases List.mem_append.1 hs with hs | hs
        · exact hl s hs
        · exact hp z (by simp) hpl s hs
      | false =>
        rw [if_pos (by simp), goAll]
        have he' : goErr l' z = 0 := (go_zero hk4).2 fun s hs => goArgs_more hl z s ((go_zero hk4).1 he s hs)
        rw [if_pos he', hgs]
        exact goAll_rest b _ _ (fun x hx => hk x (by simp [hx])) (goArgs_more hl z) (fun x hx hx' s hs => by
          rw [goArgs]
          split
          · exact List.mem_append_left _ (hp x (by simp [hx]) hx' s hs)
          · exact hp x (by simp [hx]) hx' s hs) h0
    · rw [if_neg he] at h0
      exact absurd h0 he
theorem goAll_ahead {b : List Li} (hk : ∀ z ∈ b, z.kind ≠ 4) (hl : ∀ z ∈ b, plainB z = true → Leafy z) (h0 : (goAll [] b).1 = 0) :
    (goAll [] (ahead b)).1 = 0 ∧ ∀ s ∈ (goAll [] b).2, s ∈ (goAll [] (ahead b)).2 := by
  obtain ⟨p1, p2, p3⟩ := goAll_plain (b.filter plainB) [] (fun z hz => by
    obtain ⟨h1, h2⟩ := List.mem_filter.1 hz
    exact ⟨h2, hl z h1 h2⟩)
  rw [ahead, goAll_append _ _ _ p1]
  exact goAll_rest b [] _ hk (fun _ h => by cases h) (fun z hz hp s hs => p3 z (List.mem_filter.2 ⟨hz, hp⟩) s hs) h0
theorem ahead_mem {b : List Li} {z : Li} : z ∈ ahead b ↔ z ∈ b := by
  rw [ahead, List.mem_append, List.mem_filter, List.mem_filter]
  constructor
  · rintro (h | h) <;> exact h.1
  · intro h
    cases hp : plainB z
    · exact .inr ⟨h, by simp⟩
    · exact .inl ⟨h, rfl⟩
theorem ahead_length (b : List Li) : (ahead b).length = b.length := by
  rw [ahead, List.length_append]
  induction b with
  | nil => rfl
  | cons z b ih =>
    rw [List.filter_cons, List.filter_cons]
    cases plainB z <;> simp <;> omega
def aheadRu (r : Ru) : Ru := ⟨r.label, r.head, r.args, r.agg, r.at', ahead r.body⟩
theorem ruleErr_ahead (ds : List De) {r : Ru} (hk : ∀ z ∈ r.body, z.kind ≠ 4) (hl : ∀ z ∈ r.body, plainB z = true → Leafy z) (h : ruleErr ds r = 0) : ruleErr ds (aheadRu r) = 0 := by
  rw [ruleErr] at h ⊢
  by_cases hc : (arityL ds r.head == (r.args.length : Int)) = true ∧ r.body.all (bodyLiB ds) = true
  · rw [if_pos hc] at h
    have hc' : (arityL ds (aheadRu r).head == ((aheadRu r).args.length : Int)) = true ∧ (aheadRu r).body.all (bodyLiB ds) = true :=
      ⟨hc.1, List.all_eq_true.2 fun z hz => List.all_eq_true.1 hc.2 z (ahead_mem.1 hz)⟩
    rw [if_pos hc']
    by_cases h0 : (goAll [] r.body).1 = 0
    · rw [if_pos h0] at h
      obtain ⟨g1, g2⟩ := goAll_ahead hk hl h0
      by_cases hv : (varsL r.args).all (inB (goAll [] r.body).2) = true
      · have hv' : (varsL (aheadRu r).args).all (inB (goAll [] (aheadRu r).body).2) = true := List.all_eq_true.2 fun s hs => inB_iff.2 (g2 s (inB_iff.1 (List.all_eq_true.1 hv s hs)))
        rw [if_pos (show (goAll [] (aheadRu r).body).1 = 0 from g1), if_pos hv']
      · rw [if_neg hv] at h; cases h
    · rw [if_neg h0] at h; exact absurd h h0
  · rw [if_neg hc] at h; cases h
theorem ru_ahead {r : Ru} (h : ruB r = true) : ruB (aheadRu r) = true := by
  rw [ruB] at h ⊢
  simp only [Bool.and_eq_true] at h ⊢
  obtain ⟨h1, h2, h3, h4⟩ := h
  obtain ⟨b1, b2, b3⟩ := listB_bounds h4
  exact ⟨h1, h2, h3, listB_of (by rw [aheadRu, ahead_length]; exact b1) (by rw [aheadRu, ahead_length]; exact b2) (fun z hz => b3 z (ahead_mem.1 hz))⟩
theorem leafy_lit (x : Rw) : (litZ x).kind = 1 → Leafy (litZ x) := by
  have hv : ∀ c, varsM (vZ c) = if (vZ c).kind = 1 then [(vZ c).name] else [] := fun c => by
    rw [vZ, vTm, varsM, varsL, List.append_nil]; rfl
  have ha : ∀ c, (argZ c).kind ≠ 4 → varsM (argZ c) = if (argZ c).kind = 1 then [(argZ c).name] else [] := by
    intro c
    rw [argZ]
    split
    · intro _; rw [numZ, varsM, varsL]; rfl
    · split
      · intro _; rw [adrZ, varsM, varsL]; rfl
      · split
        · intro h; exact absurd rfl h
        · intro _; exact hv c
  have hat : ∀ t ∈ atomZ x, t.kind ≠ 4 → varsM t = if t.kind = 1 then [t.name] else [] := by
    intro t ht
    rw [atomZ, atomTo] at ht
    rcases List.mem_cons.1 ht with rfl | ht
    · intro _; exact hv _
    · obtain ⟨i, -, rfl⟩ := List.mem_map.1 ht
      exact ha _
  rw [litZ]
  split
  · intro _; exact hat
  · split
    · intro h; exact absurd (show (2 : Int) = 1 from h) (by decide)
    · split
      · intro h; exact absurd (show (3 : Int) = 1 from h) (by decide)
      · intro h; exact absurd (show (4 : Int) = 1 from h) (by decide)
theorem leafy_rule (l : List Rw) (n : Int) : ∀ z ∈ (ruleZ l n).body, plainB z = true → Leafy z := by
  have hb : (ruleZ l n).body = bodyZ l := by rw [ruleZ]; split <;> rfl
  rw [hb]
  intro z hz hp
  have hk := (plain_kinds hp).1
  rw [bodyZ] at hz
  split at hz
  · rw [List.mem_singleton.1 hz] at hk ⊢; exact leafy_lit _ hk
  · obtain ⟨x, -, rfl⟩ := List.mem_map.1 hz
    exact leafy_lit _ hk
/-- Of a program that is right, whose first rule sets nothing: with that rule's plain atoms ahead it is so. -/
theorem check_ahead {p : Pr} (hp : prB p = true) {r : Ru} {rest : List Ru} (hr : p.rules = r :: rest) (hk : ∀ z ∈ r.body, z.kind ≠ 4) (hl : ∀ z ∈ r.body, plainB z = true → Leafy z) (h : (checkZ p).1 = 0) :
    checkZ ⟨p.decls, p.facts, aheadRu r :: rest⟩ = (0, -1) := by
  have hq : prB ⟨p.decls, p.facts, aheadRu r :: rest⟩ = true := by
    rw [prB] at hp ⊢
    rw [hr] at hp
    simp only [Bool.and_eq_true] at hp ⊢
    obtain ⟨h1, h2, h3⟩ := hp
    obtain ⟨b1, b2, b3⟩ := listB_bounds h3
    refine ⟨h1, h2, listB_of (by simpa using b1) (by simpa using b2) (fun x hx => ?_)⟩
    rcases List.mem_cons.1 hx with rfl | hx
    · exact ru_ahead (b3 r (by simp))
    · exact b3 x (by simp [hx])
  rw [checkZ, if_pos hp] at h
  rw [checkZ, if_pos hq]
  by_cases hc : onceB [] p.decls = true ∧ p.facts.all (factB p.decls) = true
  · rw [if_pos hc] at h
    show (if onceB [] p.decls = true ∧ p.facts.all (factB p.decls) = true then rulesErr p.decls (aheadRu r :: rest) 0 else _) = _
    rw [if_pos hc]
    rw [hr, rulesErr] at h
    by_cases h0 : ruleErr p.decls r = 0
    · rw [if_pos h0] at h
      rw [rulesErr, if_pos (ruleErr_ahead _ hk hl h0)]
      have zero : ∀ (l : List Ru) (i : Nat), (rulesErr p.decls l i).1 = 0 → rulesErr p.decls l i = (0, -1) := by
        intro l
        induction l with
        | nil => intro i _; rfl
        | cons x l ih =>
          intro i h
          rw [rulesErr] at h ⊢
          by_cases hx : ruleErr p.decls x = 0
          · rw [if_pos hx] at h ⊢; exact ih _ h
          · rw [if_neg hx] at h; exact absurd h hx
      exact zero rest 1 h
    · rw [if_neg h0] at h; exact absurd h h0
  · rw [if_neg hc] at h; cases h

end Go.Proofs.Ytkaiihoijcpldaa
