/-
  Of ScopeNames: with other names for a program's variables Check answers the same.
-/
import Derived.Test.YtkaiihoijcpldaaW11
import Derived.Test.YtkaiihoijcpldaaW15
namespace Go.Proofs.Ytkaiihoijcpldaa
open Go.RowKit

/-- A name with a letter ahead. -/
def nPre (s : ByteArray) : ByteArray := ⟨#[78]⟩ ++ s
theorem nPre_data (s : ByteArray) : nPre s = ⟨#[78] ++ s.data⟩ := ByteArray.ext (by rw [nPre, ByteArray.data_append])
theorem nPre_inj {s t : ByteArray} (h : nPre s = nPre t) : s = t := by
  rw [nPre_data, nPre_data] at h
  have h1 : #[78] ++ s.data = #[78] ++ t.data := congrArg ByteArray.data h
  exact ByteArray.ext ((Array.append_right_inj _).1 h1)
theorem inB_n (l : List ByteArray) (s : ByteArray) : inB (l.map nPre) (nPre s) = inB l s := by
  rw [Bool.eq_iff_iff, inB_iff, inB_iff]
  refine ⟨fun h => ?_, fun h => List.mem_map_of_mem h⟩
  obtain ⟨x, hx, e⟩ := List.mem_map.1 h
  rwa [← nPre_inj e]
mutual
def turnM : Tm → Tm
  | .mk k s x l => if k = 1 then .mk 1 (nPre s) zV [] else .mk k s x (turnL l)
def turnL : List Tm → List Tm
  | [] => []
  | t :: l => turnM t :: turnL l
end
theorem turnM_eq (t : Tm) : turnM t = if t.kind = 1 then .mk 1 (nPre t.name) zV [] else .mk t.kind t.name t.val (turnL t.args) := by
  cases t with
  | mk k s x l => rw [turnM]; rfl
theorem turnL_map : ∀ l : List Tm, turnL l = l.map turnM
  | [] => by rw [turnL]; rfl
  | t :: l => by rw [turnL, turnL_map l]; rfl
theorem turn_kind (t : Tm) : (turnM t).kind = t.kind := by
  rw [turnM_eq]
  split
  · rename_i h; exact h.symm
  · rfl
def turnLi (z : Li) : Li := ⟨z.kind, if z.kind = 4 then nPre z.name else z.name, turnL z.args⟩
def turnRu (r : Ru) : Ru := ⟨r.label, r.head, turnL r.args, r.agg, r.at', r.body.map turnLi⟩
def turnPr (p : Pr) : Pr := ⟨p.decls, p.facts, p.rules.map turnRu⟩
theorem varsL_turn {l : List Tm} (h : ∀ t ∈ l, varsM (turnM t) = (varsM t).map nPre) : varsL (turnL l) = (varsL l).map nPre := by
  induction l with
  | nil => simp [turnL, varsL]
  | cons t l ih => rw [turnL, varsL, varsL, h t (by simp), ih (fun x hx => h x (by simp [hx])), List.map_append]
theorem varsM_turn : ∀ (d : Nat) (t : Tm), rightM d t = true → varsM (turnM t) = (varsM t).map nPre
  | 0, t, h => by rw [rightM] at h; cases h
  | d + 1, .mk k s x l, h => by
    rw [rightM] at h
    rw [turnM]
    by_cases h1 : k = 1
    · rw [if_pos h1] at h ⊢
      simp only [Bool.and_eq_true, List.isEmpty_iff] at h
      rw [h.2.2, varsM, varsM, if_pos h1]; simp [varsL]
    · rw [if_neg h1] at h ⊢
      rw [varsM, varsM, if_neg h1]
      have key : ∀ y ∈ l, varsM (turnM y) = (varsM y).map nPre := by
        intro y hy
        by_cases h2 : k = 2
        · rw [if_pos h2] at h
          simp only [Bool.and_eq_true, List.isEmpty_iff] at h
          rw [h.2.2] at hy; cases hy
        · rw [if_neg h2] at h
          by_cases h3 : k = 3
          · rw [if_pos h3] at h
            simp only [Bool.and_eq_true] at h
            exact varsM_turn d y ((listB_bounds h.2).2.2 y hy)
          · rw [if_neg h3] at h
            by_cases h4 : k = 4
            · rw [if_pos h4] at h
              simp only [Bool.and_eq_true] at h
              exact varsM_turn d y ((listB_bounds h.2.2).2.2 y hy)
            · rw [if_neg h4] at h; cases h
      simp [varsL_turn key]
/-- One of the names of the variables of raw programs. -/
def Few (s : ByteArray) : Prop := ∃ i : Nat, i < 6 ∧ s = vName i
theorem few_var {s : ByteArray} (h : Few s) : varB (nPre s) = true := by
  obtain ⟨i, hi, rfl⟩ := h
  rw [nPre_data]
  match i, hi with
  | 0, _ => decide
  | 1, _ => decide
  | 2, _ => decide
  | 3, _ => decide
  | 4, _ => decide
  | 5, _ => decide
theorem listB_turn {d : Nat} {a b : Int} {l : List Tm} (h : listB a b (rightM d) l = true) (hk : ∀ t ∈ l, rightM d (turnM t) = true) : listB a b (rightM d) (turnL l) = true := by
  obtain ⟨h1, h2, -⟩ := listB_bounds h
  rw [turnL_map]
  exact listB_of (by rw [List.length_map]; exact h1) (by rw [List.length_map]; exact h2) (fun y hy => by
    obtain ⟨x, hx, rfl⟩ := List.mem_map.1 hy
    exact hk x hx)
theorem varsL_mem {l : List Tm} {t : Tm} (h : t ∈ l) {s : ByteArray} (hs : s ∈ varsM t) : s ∈ varsL l := by
  induction l with
  | nil => cases h
  | cons x l ih =>
    rw [varsL, List.mem_append]
    rcases List.mem_cons.1 h with rfl | h
    · exact .inl hs
    · exact .inr (ih h)
theorem right_turn : ∀ (d : Nat) (t : Tm), rightM d t = true → (∀ s ∈ varsM t, Few s) → rightM d (turnM t) = true
  | 0, t, h, _ => by rw [rightM] at h; cases h
  | d + 1, .mk k s x l, h, hf => by
    rw [rightM] at h
    rw [varsM] at hf
    rw [turnM]
    by_cases h1 : k = 1
    · rw [if_pos h1] at h hf ⊢
      rw [rightM, if_pos rfl, few_var (hf s (by simp)), noneZ]; rfl
    · rw [if_neg h1] at h ⊢
      have hfl : ∀ y ∈ l, ∀ s ∈ varsM y, Few s := fun y hy s hs => hf s (List.mem_append_right _ (varsL_mem hy hs))
      rw [rightM, if_neg h1]
      by_cases h2 : k = 2
      · rw [if_pos h2] at h ⊢
        simp only [Bool.and_eq_true, List.isEmpty_iff] at h ⊢
        refine ⟨h.1, h.2.1, ?_⟩
        rw [h.2.2, turnL]
      · rw [if_neg h2] at h ⊢
        by_cases h3 : k = 3
        · rw [if_pos h3] at h ⊢
          simp only [Bool.and_eq_true] at h ⊢
          exact ⟨h.1, listB_turn h.2 (fun y hy => right_turn d y ((listB_bounds h.2).2.2 y hy) (hfl y hy))⟩
        · rw [if_neg h3] at h ⊢
          by_cases h4 : k = 4
          · rw [if_pos h4] at h ⊢
            simp only [Bool.and_eq_true] at h ⊢
            exact ⟨h.1, h.2.1, listB_turn h.2.2 (fun y hy => right_turn d y ((listB_bounds h.2.2).2.2 y hy) (hfl y hy))⟩
          · rw [if_neg h4] at h; cases h
theorem place_turn {t : Tm} (h : placeB t = true) : placeB (turnM t) = true := by
  rw [placeB, turn_kind]
  rw [placeB] at h
  rw [turnM_eq]
  split
  · rename_i h1; rw [h1]; rfl
  · exact h
theorem head_turn {l : List Tm} (h : headB l = true) : headB (turnL l) = true := by
  cases l with
  | nil => exact h
  | cons t l => rw [turnL]; exact place_turn h
theorem atom_turn {s : ByteArray} {l : List Tm} (h : atomB s l = true) (hf : ∀ v ∈ varsL l, Few v) : atomB s (turnL l) = true := by
  rw [atomB] at h ⊢
  simp only [Bool.and_eq_true] at h ⊢
  exact ⟨h.1, listB_turn h.2.1 (fun y hy => right_turn 8 y ((listB_bounds h.2.1).2.2 y hy) (fun s hs => hf s (varsL_mem hy hs))), head_turn h.2.2⟩
def FewLi (z : Li) : Prop := (∀ v ∈ varsL z.args, Few v) ∧ (z.kind = 4 → Few z.name)
def FewRu (r : Ru) : Prop := (∀ v ∈ varsL r.args, Few v) ∧ ∀ z ∈ r.body, FewLi z
theorem li_turn {z : Li} (h : liB z = true) (hf : FewLi z) : liB (turnLi z) = true := by
  rw [liB] at h
  rw [liB, turnLi]
  by_cases h1 : z.kind = 1
  · rw [if_pos h1] at h
    rw [if_pos h1]
    show atomB (if z.kind = 4 then _ else _) _ = true
    rw [if_neg (by omega)]
    exact atom_turn h hf.1
  · rw [if_neg h1] at h
    rw [if_neg h1]
    by_cases h2 : z.kind = 2
    · rw [if_pos h2] at h
      rw [if_pos h2]
      show atomB (if z.kind = 4 then _ else _) _ = true
      rw [if_neg (by omega)]
      exact atom_turn h hf.1
    · rw [if_neg h2] at h
      rw [if_neg h2]
      by_cases h3 : z.kind = 3
      · rw [if_pos h3] at h
        rw [if_pos h3]
        simp only [Bool.and_eq_true] at h ⊢
        refine ⟨?_, listB_turn h.2 (fun y hy => right_turn 8 y ((listB_bounds h.2).2.2 y hy) (fun s hs => hf.1 s (varsL_mem hy hs)))⟩
        rw [if_neg (by omega)]; exact h.1
      · rw [if_neg h3] at h
        rw [if_neg h3]
        by_cases h4 : z.kind = 4
        · rw [if_pos h4] at h
          rw [if_pos h4]
          simp only [Bool.and_eq_true] at h ⊢
          refine ⟨?_, listB_turn h.2 (fun y hy => right_turn 8 y ((listB_bounds h.2).2.2 y hy) (fun s hs => hf.1 s (varsL_mem hy hs)))⟩
          rw [if_pos h4]; exact few_var (hf.2 h4)
        · rw [if_neg h4] at h; cases h
theorem kindAt_turn (l : List Tm) (i : Int) : kindAt (turnL l) i = kindAt l i := by
  rw [kindAt, kindAt, turnL_map, List.getElem?_map]
  cases l[i.toNat]? with
  | none => rfl
  | some t => exact turn_kind t
theorem ru_turn {r : Ru} (h : ruB r = true) (hf : FewRu r) : ruB (turnRu r) = true := by
  rw [ruB] at h ⊢
  simp only [Bool.and_eq_true] at h ⊢
  obtain ⟨h1, h2, h3, h4⟩ := h
  obtain ⟨b1, b2, b3⟩ := listB_bounds h4
  refine ⟨h1, atom_turn h2 hf.1, ?_, listB_of (by rw [turnRu, List.length_map]; exact b1) (by rw [turnRu, List.length_map]; exact b2) (fun y hy => ?_)⟩
  · rw [aggB] at h3 ⊢
    have hl : (turnRu r).args.length = r.args.length := by rw [turnRu, turnL_map, List.length_map]
    rw [hl, show kindAt (turnRu r).args (turnRu r).at' = kindAt r.args r.at' from kindAt_turn _ _]
    exact h3
  · obtain ⟨z, hz, rfl⟩ := List.mem_map.1 hy
    exact li_turn (b3 z hz) (hf.2 z hz)
theorem pr_turn {p : Pr} (h : prB p = true) (hf : ∀ r ∈ p.rules, FewRu r) : prB (turnPr p) = true := by
  rw [prB] at h ⊢
  simp only [Bool.and_eq_true] at h ⊢
  obtain ⟨h1, h2, h3⟩ := h
  obtain ⟨b1, b2, b3⟩ := listB_bounds h3
  exact ⟨h1, h2, listB_of (by rw [turnPr, List.length_map]; exact b1) (by rw [turnPr, List.length_map]; exact b2) (fun y hy => by
    obtain ⟨z, hz, rfl⟩ := List.mem_map.1 hy
    exact ru_turn (b3 z hz) (hf z hz))⟩
theorem li_args {z : Li} (h : liB z = true) : ∀ x ∈ z.args, rightM 8 x = true := by
  rw [liB] at h
  split at h
  · rw [atomB] at h; simp only [Bool.and_eq_true] at h; exact (listB_bounds h.2.1).2.2
  · split at h
    · rw [atomB] at h; simp only [Bool.and_eq_true] at h; exact (listB_bounds h.2.1).2.2
    · split at h
      · simp only [Bool.and_eq_true] at h; exact (listB_bounds h.2).2.2
      · split at h
        · simp only [Bool.and_eq_true] at h; exact (listB_bounds h.2).2.2
        · cases h
theorem argNames_turn (l : List Tm) : argNames (turnL l) = (argNames l).map nPre := by
  induction l with
  | nil => simp [turnL, argNames]
  | cons t l ih =>
    rw [argNames] at ih ⊢
    rw [turnL, List.filter_cons, turn_kind, argNames, List.filter_cons]
    by_cases h : t.kind = 1
    · rw [if_pos (by simp [h]), if_pos (by simp [h]), List.map_cons, List.map_cons, List.map_cons, ih, turnM_eq, if_pos h]; rfl
    · rw [if_neg (by simp [h]), if_neg (by simp [h]), ih]; rfl
theorem goArgs_turn (l : List ByteArray) (z : Li) : goArgs (l.map nPre) (turnLi z) = (goArgs l z).map nPre := by
  rw [goArgs, goArgs]
  show (if z.kind = 1 then _ ++ argNames (turnL z.args) else _) = _
  split
  · rw [argNames_turn, List.map_append]
  · rfl
theorem all_turn (l m : List ByteArray) : (m.map nPre).all (inB (l.map nPre)) = m.all (inB l) := by
  rw [List.all_map]
  congr 1
  funext s
  exact inB_n l s
theorem goErr_turn (l : List ByteArray) {z : Li} (h : liB z = true) : goErr (l.map nPre) (turnLi z) = goErr l z := by
  have hv : varsL (turnLi z).args = (varsL z.args).map nPre := varsL_turn (fun t ht => varsM_turn 8 t (li_args h t ht))
  rw [goErr, goErr, hv, goArgs_turn, all_turn, show (turnLi z).kind = z.kind from rfl]
  by_cases h4 : z.kind = 4
  · rw [show (turnLi z).name = nPre z.name from if_pos h4, inB_n]
  · rw [if_neg (c := z.kind = 4 ∧ _) (fun e => h4 e.1), if_neg (c := z.kind = 4 ∧ _) (fun e => h4 e.1)]
theorem goSet_turn (l : List ByteArray) (z : Li) : goSet (l.map nPre) (turnLi z) = (goSet l z).map nPre := by
  rw [goSet, goSet, goArgs_turn, show (turnLi z).kind = z.kind from rfl]
  split
  · rename_i h4
    rw [show (turnLi z).name = nPre z.name from if_pos h4, List.map_append]; rfl
  · rfl
theorem goAll_turn : ∀ (b : List Li) (l : List ByteArray), (∀ z ∈ b, liB z = true) → goAll (l.map nPre) (b.map turnLi) = ((goAll l b).1, (goAll l b).2.map nPre)
  | [], l, _ => rfl
  | z :: b, l, h => by
    rw [List.map_cons, goAll, goAll, goErr_turn l (h z (by simp)), goSet_turn]
    split
    · exact goAll_turn b _ (fun x hx => h x (by simp [hx]))
    · rfl
theorem ruleErr_turn (ds : List De) {r : Ru} (h : ruB r = true) : ruleErr ds (turnRu r) = ruleErr ds r := by
  rw [ruB] at h
  simp only [Bool.and_eq_true] at h
  obtain ⟨-, h2, -, h4⟩ := h
  have hb := (listB_bounds h4).2.2
  rw [atomB] at h2
  simp only [Bool.and_eq_true] at h2
  have ha := (listB_bounds h2.2.1).2.2
  have hg := goAll_turn r.body [] hb
  rw [List.map_nil] at hg
  have hv : varsL (turnL r.args) = (varsL r.args).map nPre := varsL_turn (fun t ht => varsM_turn 8 t (ha t ht))
  have hbl : (r.body.map turnLi).all (bodyLiB ds) = r.body.all (bodyLiB ds) := by
    rw [List.all_map]
    congr 1
    funext z
    show bodyLiB ds (turnLi z) = bodyLiB ds z
    rw [bodyLiB, bodyLiB, show (turnLi z).kind = z.kind from rfl]
    split
    · rename_i h12
      rw [show (turnLi z).name = z.name from if_neg (by omega), show (turnLi z).args.length = z.args.length by rw [turnLi, turnL_map, List.length_map]]
    · rfl
  rw [ruleErr, ruleErr, show (turnRu r).body = r.body.map turnLi from rfl, show (turnRu r).head = r.head from rfl, show (turnRu r).args = turnL r.args from rfl, hbl, hg, hv, all_turn, show (turnL r.args).length = r.args.length by rw [turnL_map, List.length_map]]
theorem rulesErr_turn (ds : List De) : ∀ (l : List Ru) (i : Nat), (∀ r ∈ l, ruB r = true) → rulesErr ds (l.map turnRu) i = rulesErr ds l i
  | [], _, _ => rfl
  | r :: l, i, h => by
    rw [List.map_cons, rulesErr, rulesErr, ruleErr_turn ds (h r (by simp)), rulesErr_turn ds l (i + 1) (fun x hx => h x (by simp [hx]))]
theorem check_turn {p : Pr} (h : prB p = true) (hf : ∀ r ∈ p.rules, FewRu r) : checkZ (turnPr p) = checkZ p := by
  rw [checkZ, checkZ, if_pos h, if_pos (pr_turn h hf)]
  rw [prB] at h
  simp only [Bool.and_eq_true] at h
  show (if onceB [] p.decls = true ∧ p.facts.all (factB p.decls) = true then rulesErr p.decls (p.rules.map turnRu) 0 else _) = _
  rw [rulesErr_turn p.decls p.rules 0 (listB_bounds h.2.2).2.2]
-- raw programs
theorem few_v (c : Int) : ∀ s ∈ varsM (vZ c), Few s := by
  obtain ⟨i, hi, hn, hb⟩ := pick_nat c (n := 6) (by omega)
  intro s hs
  rw [vZ, hn, vTm, varsM, if_pos rfl, varsL, List.append_nil, List.mem_singleton] at hs
  exact ⟨i, by omega, hs⟩
theorem few_num (n : Int) : ∀ s ∈ varsM (numZ n), Few s := by
  intro s hs; rw [numZ, varsM, if_neg (by decide), varsL] at hs; cases hs
theorem few_sum {a b : Tm} {o : ByteArray} (ha : ∀ s ∈ varsM a, Few s) (hb : ∀ s ∈ varsM b, Few s) : ∀ s ∈ varsM (sumZ a b o), Few s := by
  intro s hs
  rw [sumZ, varsM, if_neg (by decide), varsL, varsL, varsL, List.nil_append, List.append_nil, List.mem_append] at hs
  rcases hs with hs | hs
  · exact ha s hs
  · exact hb s hs
theorem few_arg (c : Int) : ∀ s ∈ varsM (argZ c), Few s := by
  rw [argZ]
  split
  · exact few_num _
  · split
    · intro s hs; rw [adrZ, varsM, if_neg (by decide), varsL] at hs; cases hs
    · split
      · exact few_sum (few_v _) (few_num _)
      · exact few_v c
theorem few_list {l : List Tm} (h : ∀ t ∈ l, ∀ s ∈ varsM t, Few s) : ∀ s ∈ varsL l, Few s := by
  induction l with
  | nil => intro s hs; rw [varsL] at hs; cases hs
  | cons t l ih =>
    intro s hs
    rw [varsL, List.mem_append] at hs
    rcases hs with hs | hs
    · exact h t (by simp) s hs
    · exact ih (fun x hx => h x (by simp [hx])) s hs
theorem few_atom (x : Rw) : ∀ s ∈ varsL (atomZ x), Few s := few_list (fun t ht => by
  rw [atomZ, atomTo] at ht
  rcases List.mem_cons.1 ht with rfl | ht
  · exact few_v _
  · obtain ⟨i, -, rfl⟩ := List.mem_map.1 ht
    exact few_arg _)
theorem few_lit (x : Rw) : FewLi (litZ x) := by
  rw [litZ]
  split
  · exact ⟨few_atom x, fun h => by cases h⟩
  · split
    · exact ⟨few_atom x, fun h => by cases h⟩
    · split
      · refine ⟨few_list (fun t ht => ?_), fun h => by cases h⟩
        rcases List.mem_cons.1 ht with rfl | ht
        · exact few_v _
        · rw [List.mem_singleton.1 ht]
          split
          · exact few_num _
          · exact few_v _
      · refine ⟨few_list (fun t ht => ?_), fun _ => ?_⟩
        · rw [List.mem_singleton.1 ht]
          refine few_sum (few_v _) ?_
          split
          · exact few_num _
          · exact few_v _
        · obtain ⟨i, hi, hn, hb⟩ := pick_nat x.n0 (n := 6) (by omega)
          exact ⟨i, by omega, by show vName _ = _; rw [hn]⟩
theorem few_rule (l : List Rw) (n : Int) : FewRu (ruleZ l n) := by
  have hb : ∀ z ∈ bodyZ l, FewLi z := by
    intro z hz
    rw [bodyZ] at hz
    split at hz
    · rw [List.mem_singleton.1 hz]; exact few_lit _
    · obtain ⟨x, -, rfl⟩ := List.mem_map.1 hz
      exact few_lit _
  rw [ruleZ]
  split
  · exact ⟨few_atom _, hb⟩
  · exact ⟨few_atom _, hb⟩
theorem few_prog (rules : List (List Rw)) (facts : List Rw) : ∀ r ∈ (progZ rules facts).rules, FewRu r := by
  intro r hr
  change r ∈ rulesTo rules _ at hr
  rw [rulesTo] at hr
  obtain ⟨i, -, rfl⟩ := List.mem_map.1 hr
  exact few_rule _ _
theorem check_names (rules : List (List Rw)) (facts : List Rw) : checkZ (turnPr (progZ rules facts)) = checkZ (progZ rules facts) := check_turn (right_prog rules facts) (few_prog rules facts)

end Go.Proofs.Ytkaiihoijcpldaa
