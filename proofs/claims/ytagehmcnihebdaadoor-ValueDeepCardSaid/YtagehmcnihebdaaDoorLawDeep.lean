/-
  ValueDeep: for every two numbers the law returns true: lists stand four deep at most, sixteen elements are right, one more is not.
-/
import Derived.Test.YtagehmcnihebdaaDoorLaw
import Derived.Test.YtagehmcnihebdaaDoorPick
import Derived.Test.YtagehmcnihebdaaDoorOwn
namespace Go.Proofs.YtagehmcnihebdaaDoor.valueDeep
open Go.ChangeShapes Go.WideShapes Go.ChangeAt Go.RowKit

/-- Lists so deep within one another, one more than the number. -/
def nest : Nat → V
  | 0 => .mk 4 0 ⟨#[]⟩ []
  | k + 1 => .mk 4 0 ⟨#[]⟩ [nest k]
def nums : Nat → List V
  | 0 => []
  | k + 1 => nums k ++ [.mk 1 k ⟨#[]⟩ []]
theorem nums_length : ∀ k, (nums k).length = k
  | 0 => rfl
  | k + 1 => by simp [nums, nums_length k]
theorem empty_text : (⟨#[]⟩ : ByteArray).toList.isEmpty = true := by
  rw [isEmpty_size]; rfl
theorem right_nest : ∀ (d k : Nat), rightV d (nest k) = decide (k < d)
  | 0, 0 => by simp [nest, rightV, baseB]
  | 0, k + 1 => by simp [nest, rightV, baseB]
  | d + 1, 0 => by simp [nest, rightV, baseB]
  | d + 1, k + 1 => by
    simp only [nest, rightV, baseB, empty_text, List.all_cons, List.all_nil, right_nest d k]
    simp
theorem right_nums (n k : Nat) (hk : k ≤ n) (hn : n ≤ 1000) : ∀ x ∈ nums k, rightV 3 x = true := by
  induction k with
  | zero => intro x hx; simp [nums] at hx
  | succ k ih =>
    intro x hx
    rw [nums, List.mem_append] at hx
    rcases hx with hx | hx
    · exact ih (by omega) x hx
    · obtain rfl : x = .mk 1 k ⟨#[]⟩ [] := by simpa using hx
      simp only [rightV, baseB, empty_text]
      simp
      omega
theorem right_numlist (n : Nat) (hn : n ≤ 1000) : rightV 4 (.mk 4 0 ⟨#[]⟩ (nums n)) = decide (n ≤ 16) := by
  have h := List.all_eq_true.2 (right_nums n n (Nat.le_refl _) hn)
  simp only [rightV, baseB, empty_text, nums_length]
  rw [h]
  simp
theorem print_nest (k : Nat) : (printB (nest k) = []) ↔ ¬ k < 4 := by
  rw [printB, right_nest]
  by_cases h : k < 4
  · rw [if_pos (by simpa using h)]
    have := (prV_le 4 (nest k) (by rw [right_nest]; simpa using h)).2
    simp [h, this]
  · rw [if_neg (by simpa using h)]
    simp [h]

/-- The variable in block k holds a value whose rows lie elsewhere, below B. -/
def Holds (B : Nat) (w : World) (k : Nat) (x : V) : Prop := ∃ c0 c1 c2 c3, Boxed w k c0 c1 c2 c3 ∧ RepG (fun b => b < B ∧ b ≠ k) w x c0 c1 c2 c3
theorem Holds.on {B : Nat} {w w' : World} {k : Nat} {x : V} (h : Holds B w k x) (hk : k < B) (hb : ∀ b, b < B → w'.heap[b]? = w.heap[b]?) : Holds B w' k x := by
  obtain ⟨c0, c1, c2, c3, h1, h2⟩ := h
  exact ⟨c0, c1, c2, c3, (hb k hk).trans h1, h2.on (fun b hb => hb) (fun b hb' => hb b hb'.1)⟩

/-- Four stores into a variable of this kind. -/
theorem Holds.stored {w : World} {k : Nat} {x : V} {b0 b1 b2 b3 c0 c1 c2 c3 : Value} (h : Boxed w k b0 b1 b2 b3) (hx : RepG (fun b => b < w.heap.size ∧ b ≠ k) w x c0 c1 c2 c3) :
    Holds w.heap.size ((((w.setCell ⟨k, 0, none⟩ c0).setCell ⟨k, 1, none⟩ c1).setCell ⟨k, 2, none⟩ c2).setCell ⟨k, 3, none⟩ c3) k x := by
  refine ⟨c0, c1, c2, c3, heap_setCell_same _ _ _ _ _ _ (heap_setCell_same _ _ _ _ _ _ (heap_setCell_same _ _ _ _ _ _ (heap_setCell_same _ _ _ _ _ _ h))), ?_⟩
  refine hx.on (fun b hb => hb) (fun b hb => ?_)
  rw [Below.heap_setCell _ _ _ _ (by simpa using hb.2), Below.heap_setCell _ _ _ _ (by simpa using hb.2), Below.heap_setCell _ _ _ _ (by simpa using hb.2), Below.heap_setCell _ _ _ _ (by simpa using hb.2)]

theorem nest_rep (w : World) (S : Nat → Prop) (k : Nat) {r : Value} (h : RepLG S w [nest k] r) : RepG S w (nest (k + 1)) (.int .i64 4) (.int .i64 0) (.string ⟨#[]⟩) r :=
  repG_mk.2 ⟨rfl, rfl, rfl, ⟨by omega, by omega⟩, ⟨by omega, by omega⟩, by unfold maxLen; simp [ByteArray.size], h⟩

theorem one_row {S : Nat → Prop} {w : World} {x : V} {c0 c1 c2 c3 : Value} (hx : RepG S w x c0 c1 c2 c3) (hS : ∀ k, S k → k < w.heap.size) :
    RepL (w.heap.size + 1) (w.alloc (.cells #[c0, c1, c2, c3] 24)) [x] (.slice (some ⟨w.heap.size, 0, none⟩) 1 1) := by
  have hr : RepRow (fun b => b < w.heap.size + 1) (w.alloc (.cells #[c0, c1, c2, c3] 24)) [x] #[c0, c1, c2, c3] := by
    intro i hi
    obtain rfl : i = 0 := by simpa using hi
    exact ⟨c0, c1, c2, c3, rfl, rfl, rfl, rfl, hx.on (fun b hb => by have := hS b hb; omega) (fun b hb => Below.heap_alloc _ _ _ (hS b hb))⟩
  exact hr.slice (alloc_new _ _) (Nat.lt_succ_self _) (Nat.le_refl _) (by simp)

theorem num_rep (S : Nat → Prop) (w : World) (n : Nat) (h : n ≤ 1000) : RepG S w (.mk 1 n ⟨#[]⟩ []) (.int .i64 1) (.int .i64 n) (.string ⟨#[]⟩) (.slice none 0 0) :=
  repG_mk.2 ⟨rfl, rfl, rfl, ⟨by omega, by omega⟩, ⟨by omega, by omega⟩, by unfold maxLen; simp [ByteArray.size], none, 0, 0, 0, rfl, Nat.le_refl _, by simp, fun h => by omega, fun h => by simp at h, fun i hi => by simp at hi⟩

/-- Behind j rounds of the second loop. -/
def DeepInv (B0 vb k j : Nat) (v : Value) (w : World) : Prop := OwnL (fun _ => False) w B0 (nums j) v ∧ Holds B0 w vb (nest k) ∧ B0 ≤ w.heap.size
theorem loop_start {w : World} {vb k B : Nat} (h : Holds B w vb (nest k)) (hB : B ≤ w.heap.size) : DeepInv w.heap.size vb k 0 (.slice none 0 0) w := by
  obtain ⟨c0, c1, c2, c3, h1, h2⟩ := h
  exact ⟨OwnL.nil _ _ _, ⟨c0, c1, c2, c3, h1, h2.on (fun b hb => ⟨by omega, hb.2⟩) (fun _ _ => rfl)⟩, Nat.le_refl _⟩
theorem DeepInv.stands {B0 vb k j : Nat} {v : Value} {w w' : World} (h : DeepInv B0 vb k j v w) (hv : vb < B0) (hb : Below w.heap.size w w') : DeepInv B0 vb k j v w' :=
  ⟨h.1.stands (fun _ hk => hk.elim) hb, h.2.1.on hv (fun b hb' => hb.block b (Nat.lt_of_lt_of_le hb' h.2.2)), Nat.le_trans h.2.2 hb.size⟩
theorem ownBlock_ge {w : World} {base : Nat} {e : TypeId} {v : Value} {n : Nat} {xs : List Value} (h : w.ownsRow base e 4 v n xs) (k : Nat) (hk : v.ownBlock = some k) : base ≤ k := by
  rcases h.2 with ⟨rfl, _⟩ | ⟨g, cap, cur, rfl, hbg, _⟩
  · simp [Value.ownBlock] at hk
  · simp [Value.ownBlock] at hk; omega
theorem DeepInv.step {B0 vb k j : Nat} {v v' : Value} {w w1 w2 : World} {xs : List Value} (h : DeepInv B0 vb k j v w) (hv : vb < B0) (hj : j ≤ 1000) (hb : Below w.heap.size w w1) (hown : w1.ownsRow B0 24 4 v (nums j).length xs) (hr : RepRow (fun _ => False) w (nums j) xs.toArray)
    (hown' : w2.ownsRow B0 24 4 v' ((nums j).length + 1) (xs ++ [.int .i64 1, .int .i64 j, .string ⟨#[]⟩, .slice none 0 0])) (hg : w1.grownBy w2 v.ownBlock) : DeepInv B0 vb k (j + 1) v' w2 := by
  have h1 := h.stands hv hb
  refine ⟨OwnL.snoc (S := fun _ => False) (w := w1) (hr.on (fun k hk => hk) (fun k hk => hk.elim)) hown.1 (num_rep _ _ j hj) hown' hg (fun k hk => hk.elim), ?_, Nat.le_trans h1.2.2 hg.size⟩
  exact h1.2.1.on hv (fun b hb' => hg.block b (Nat.lt_of_lt_of_le hb' h1.2.2) (fun e => by have := ownBlock_ge hown b e.symm; omega))
theorem DeepInv.below {B0 vb k j : Nat} {v : Value} {W w : World} {xs : List Value} (h : DeepInv B0 vb k j v w) (hown : w.ownsRow B0 24 4 v (nums j).length xs) (hB : W.heap.size ≤ B0) {w2 : World} (hW : Below W.heap.size W w) (hg : w.grownBy w2 v.ownBlock) : Below W.heap.size W w2 :=
  hW.grown hg (Nat.le_trans hB h.2.2) (fun k hk => Nat.le_trans hB (ownBlock_ge hown k hk))

set_option maxHeartbeats 4000000 in
theorem walk (d m : Int) (W : World) (htab : TabOk W) (hd : I64 d) (hm : I64 m) :
    Calls Tryd.prog 9 #[.int .i64 d, .int .i64 m] W fun e W' => e = .returned (.bool true) ∧ Below W.heap.size W W' := by
  have HT := Lib.hid htab
  have hg := tab_lt htab
  clear htab
  obtain ⟨hd1, hd2⟩ := pickZ_bd d 7 (by omega)
  obtain ⟨hm1, hm2⟩ := pickZ_bd m 21 (by omega)
  go_enter Tryd.func9, Tryd.ntmps9
  go_wp2_with fail
  refine (awake_any _ hg HT.out).mono ?_
  rintro e w1 ⟨rfl, b1⟩
  have s1 := b1.size
  go_wp2_with fail
  refine (list_any [] w1.heap.size _ _ (Nat.le_refl _) ⟨none, 0, 0, 0, rfl, Nat.le_refl _, by simp, fun h => by omega, fun h => by simp at h, fun i hi => by simp at hi⟩).mono ?_
  rintro e w2 ⟨r, rfl, hrl, b2⟩
  obtain ⟨ra, rb, ro, rc, hr1, -⟩ := id hrl
  subst hr1
  have s2 := b2.size
  have B2 := Below.step b1 b2
  clear b1 b2
  have HR : Hid (RepG (fun b => b < w2.heap.size) w2 (nest 0) (.int .i64 4) (.int .i64 0) (.string ⟨#[]⟩) (.slice ra ([] : List V).length rc)) :=
    repG_mk.2 ⟨rfl, rfl, rfl, ⟨by omega, by omega⟩, ⟨by omega, by omega⟩, by unfold maxLen; simp [ByteArray.size], hrl.on (fun k hk => hk.2) (fun _ _ => rfl)⟩
  clear hrl
  go_wp2_with fail
  have h3 : Holds (w2.heap.size + 1) (w2.alloc (.cells #[.int .i64 4, .int .i64 0, .string ⟨#[]⟩, .slice ra ([] : List V).length rc] 24)) w2.heap.size (nest 0) :=
    ⟨_, _, _, _, boxed_new _ _ _ _ _, HR.out.on (fun b hb => ⟨by omega, by omega⟩) (fun b hb => Below.heap_alloc _ _ _ hb)⟩
  have B3 := Below.step B2 (stands_alloc w2 (.cells #[.int .i64 4, .int .i64 0, .string ⟨#[]⟩, .slice ra ([] : List V).length rc] 24))
  have s3 := World.size_alloc w2 (.cells #[.int .i64 4, .int .i64 0, .string ⟨#[]⟩, .slice ra ([] : List V).length rc] 24)
  generalize w2.alloc (.cells #[.int .i64 4, .int .i64 0, .string ⟨#[]⟩, .slice ra ([] : List V).length rc] 24) = w3 at *
  generalize hvb : w2.heap.size = vb at *
  have hvb1 : W.heap.size ≤ vb := by omega
  have hvb2 : vb < w3.heap.size := by omega
  clear hvb s3 HR B2
  refine (pick_any d 7 _ hd (by omega) (by omega)).mono ?_
  rintro e w4 ⟨rfl, rfl⟩
  generalize pickZ d 7 = dp at *
  obtain ⟨dn, rfl⟩ := Int.eq_ofNat_of_zero_le hd1
  have H3 := Lib.hid h3; clear h3
  go_wp2_with fail
  go_loopw [8] (fun i wr => ∃ k : Nat, k ≤ dn ∧ i = .int .i64 ((k : Int) + 1) ∧ (∃ B, B ≤ wr.heap.size ∧ Holds B wr vb (nest k)) ∧ Below W.heap.size W wr) (fun i _ => dn + 1 - (intOf i).toNat)
  case atStart => exact ⟨0, Nat.zero_le _, rfl, ⟨_, by omega, H3.out⟩, B3⟩
  case round =>
    obtain ⟨k, hk, rfl, hh, hbel⟩ := hrel
    have hs := hbel.size
    by_cases hlt : k < dn
    · obtain ⟨BQ, hBQ, c0, c1, c2, c3, hbx, hrep⟩ := hh
      obtain ⟨q0, q1, q2, q3⟩ := hbx.cells
      have hvl := hbx.lt
      obtain ⟨fa, fc, rfl, rfl, rfl, rfl⟩ := hrep.form
      have HREP := Lib.hid hrep; clear hrep
      have HBX := Lib.hid hbx; clear hbx
      go_wp2_with fail
      have hrow := one_row HREP.out (fun b hb => by have := hb.1; omega)
      have bA := stands_alloc wr (.cells #[.int .i64 (nest k).kind, .int .i64 (nest k).num, .string (nest k).text, .slice fa (nest k).list.length fc] 24)
      have bA2 := HBX.out.on bA
      have BA := Below.step hbel bA
      have sA := World.size_alloc wr (.cells #[.int .i64 (nest k).kind, .int .i64 (nest k).num, .string (nest k).text, .slice fa (nest k).list.length fc] 24)
      generalize wr.alloc (.cells #[.int .i64 (nest k).kind, .int .i64 (nest k).num, .string (nest k).text, .slice fa (nest k).list.length fc] 24) = wa at *
      refine (list_any [nest k] (wr.heap.size + 1) _ _ (by omega) hrow).mono ?_
      rintro e wb ⟨r, rfl, hrl, bb⟩
      obtain ⟨ra2, rb2, ro2, rc2, hr2, -⟩ := id hrl
      subst hr2
      have bb2 := bA2.on bb
      have BB := Below.step BA bb
      have sb := bb.size
      have hst := Lib.hid (Holds.stored bb2 (nest_rep wb _ k (hrl.on (fun b hb => ⟨hb.2, by have := hb.1; omega⟩) (fun _ _ => rfl))))
      obtain ⟨p0, p1, p2, p3⟩ := bb2.cells
      have z0 := frozen_of_row wb _ 0 _ _ bb2
      have z1 := frozen_of_row wb _ 1 _ _ bb2
      have z2 := frozen_of_row wb _ 2 _ _ bb2
      have z3 := frozen_of_row wb _ 3 _ _ bb2
      have BF := (((BB.setCell (p := ⟨vb, 0, none⟩) hvb1 (.int .i64 4)).setCell (p := ⟨vb, 1, none⟩) hvb1 (.int .i64 0)).setCell (p := ⟨vb, 2, none⟩) hvb1 (.string ⟨#[]⟩)).setCell (p := ⟨vb, 3, none⟩) hvb1 (.slice ra2 [nest k].length rc2)
      have HBF := Lib.hid BF; clear BF
      clear bb2 bA2 bA BA sA hrow q0 q1 q2 q3 hrl HREP HBX
      go_wp2_with fail
      go_roundw
      case rel => exact ⟨k + 1, by omega, by go_num, ⟨_, by simp [World.setCell], hst.out⟩, HBF.out⟩
      case measure => simp [intOf]; omega
    · have hke : k = dn := by omega
      subst hke
      have HH := Lib.hid hh; clear hh
      have hdec : decide ((k : Int) + 1 < 1 + (k : Int)) = false := by simp; omega
      go_wp2_with fail
      refine (pick_any m 21 _ hm (by omega) (by omega)).mono ?_
      rintro e w5 ⟨rfl, rfl⟩
      generalize pickZ m 21 = mp at *
      obtain ⟨mn, rfl⟩ := Int.eq_ofNat_of_zero_le hm1
      go_wp2_with fail
      obtain ⟨BQ, hBQ, hHQ⟩ := HH.out
      have hst := loop_start hHQ hBQ
      have hvB : vb < wr.heap.size := by obtain ⟨_, _, _, _, h, _⟩ := hHQ; exact h.lt
      clear HH hBQ hHQ
      obtain ⟨i0, hi, hz0, hz1, hz2⟩ := info_parts infoValue
      have HI := Lib.hid (And.intro hi (And.intro hz0 (And.intro hz1 hz2)))
      clear hi hz0 hz1 hz2
      generalize hB0 : wr.heap.size = B0 at *
      have hsB : W.heap.size ≤ B0 := hs
      clear hB0
      go_loopw [9, 11] (fun v i w' => ∃ j : Nat, j ≤ mn ∧ i = .int .i64 j ∧ DeepInv B0 vb k j v w' ∧ Below W.heap.size W w') (fun _ i _ => mn - (intOf i).toNat)
      case atStart => exact ⟨0, Nat.zero_le _, rfl, hst, hbel⟩
      case round =>
        obtain ⟨j, hj, rfl, hinv, hbel2⟩ := hrel
        clear hst hbel
        by_cases hjl : j < mn
        · have HINV := Lib.hid hinv; clear hinv
          go_wp2_with fail
          refine (number_any _ _).mono ?_
          rintro e wa ⟨rfl, ba⟩
          have ia := HINV.out.stands hvB ba
          have Ba := Below.step hbel2 ba
          obtain ⟨xs, hown, hrr⟩ := ia.1
          have IA := Lib.hid ia; clear ia
          have sB := IA.out.2.2
          have hnl : (nums j).length = j := nums_length j
          have HNL := Lib.hid hnl; clear hnl
          have hxi := HI.out
          go_wp2_with (at_builtin; refine wpList_append_own _ rfl _ _ 22 rfl B0 24 i0 (.agg #[.int .i64 0, .int .i64 0, .string ⟨#[]⟩, .slice none 0 0]) 4 56 Tryd.underlying22 hxi.1 hxi.2.1 hxi.2.2.1 hxi.2.2.2 rfl (by decide) _ _ _ rfl (hown.alloc _) ⟨wa.heap.size, 0, none⟩ 1 1 [.int .i64 1, .int .i64 j, .string ⟨#[]⟩, .slice none 0 0] rfl rfl ?c1 ?c2 ?c3 ?c4 ?c5 ?_)
          case c1 =>
            intro t u ht
            match t, ht with
            | 0, ht => simp at ht; subst ht; simp [Addr.add]
            | 1, ht => simp at ht; subst ht; simp [Addr.add]
            | 2, ht => simp at ht; subst ht; simp [Addr.add]
            | 3, ht => simp at ht; subst ht; simp [Addr.add]
          case c2 => intro u hu; simp at hu; rcases hu with rfl | rfl | rfl | rfl <;> rfl
          case c3 => rw [HNL.out]; unfold maxLen; omega
          case c4 => rw [HNL.out]; omega
          case c5 => simp; omega
          intro v' w2 hown' hgrow _
          have bal := stands_alloc wa (.cells #[.int .i64 1, .int .i64 j, .string ⟨#[]⟩, .slice none 0 0] 24)
          have hfin := Lib.hid (DeepInv.step IA.out hvB (by omega) bal (hown.alloc _) hrr hown' hgrow)
          have hfb := Lib.hid (DeepInv.below (IA.out.stands hvB bal) (hown.alloc _) hsB (Below.step Ba bal) hgrow)
          clear hown hown' hrr hgrow bal hxi
          go_wp2_with fail
          go_roundw
          case rel => exact ⟨j + 1, by omega, by go_num, hfin.out, hfb.out⟩
          case measure => simp [intOf]; omega
        · have hje : j = mn := by omega
          subst hje
          obtain ⟨⟨c0, c1, c2, c3, hbx, hrep⟩, hsz⟩ := hinv.2
          have hrL := hinv.1.rep (S' := fun b => b < wr.heap.size) (fun k hk => hk.elim) (fun g _ h => h) (by rw [nums_length]; omega)
          obtain ⟨la, lb, lo, lc, hlv, -⟩ := id hrL
          subst hlv
          have HRL := Lib.hid hrL
          obtain ⟨q0, q1, q2, q3⟩ := hbx.cells
          obtain ⟨fa, fc, rfl, rfl, rfl, rfl⟩ := hrep.form
          have hrV : RepV B0 wr (nest k) _ _ _ _ := hrep.on (fun b hb => hb.1) (fun _ _ => rfl)
          have HRV := Lib.hid hrV; have HBX := Lib.hid hbx
          clear hrL hrep hbx hrV hinv
          have hs2 := hbel2.size
          go_wp2_with fail
          refine (right_any (nest k) B0 _ _ _ _ _ hsz HRV.out).mono ?_
          rintro e wc ⟨rfl, bc⟩
          rw [right_nest]
          have sc := bc.size
          obtain ⟨p0, p1, p2, p3⟩ := (HBX.out.on bc).cells
          have HRC := Lib.hid (HRV.out.on bc hsz)
          have BC := Below.step hbel2 bc
          clear q0 q1 q2 q3
          cases hk4 : decide (k < 4) with
          | true =>
            have hk4' : k < 4 := of_decide_eq_true hk4
            have hdd : decide (1 + (k : Int) ≤ 4) = true := by simp; omega
            have hpr : printB (nest k) ≠ [] := fun e => (print_nest k).1 e hk4'
            clear hk4
            go_wp2_with fail
            refine (print_any (nest k) B0 _ _ _ _ _ (by omega) (by omega) (HT.out.below hg BC) HRC.out).mono ?_
            rintro e wd ⟨rfl, bd⟩
            have sd := bd.size
            have BD := Below.step BC bd
            generalize hsb : (⟨(printB (nest k)).toArray⟩ : ByteArray) = sb at *
            have hne : sb.toList.isEmpty = false := by rw [← hsb, Lib.toList_data]; simpa using hpr
            have hne2 : ¬ sb.toList = [] := by simpa using hne
            clear hsb hpr p0 p1 p2 p3
            go_wp2_with fail
            refine (list_any (nums j) wr.heap.size _ _ (by omega) (RepL.below (fun b hb => (Below.step bc bd).block b hb) HRL.out)).mono ?_
            rintro e we ⟨r, rfl, hrl, be⟩
            obtain ⟨ra2, rb2, ro2, rc2, hr2, -⟩ := id hrl
            subst hr2
            have HV : Hid (RepV we.heap.size we (.mk 4 0 ⟨#[]⟩ (nums j)) (.int .i64 4) (.int .i64 0) (.string ⟨#[]⟩) (.slice ra2 (nums j).length rc2)) :=
              repV_mk.2 ⟨rfl, rfl, rfl, ⟨by omega, by omega⟩, ⟨by omega, by omega⟩, by unfold maxLen; simp [ByteArray.size], hrl.on (fun b hb => hb.2) (fun _ _ => rfl)⟩
            have BE := Below.step BD be
            clear hrl be bd bc BC BD
            go_wp2_with fail
            refine (right_any _ we.heap.size _ _ _ _ _ (Nat.le_refl _) HV.out).mono ?_
            rintro e wf ⟨rfl, bf⟩
            rw [right_numlist j (by omega)]
            have BF := Below.step BE bf
            clear bf BE
            go_wp2_with fail
            all_goals
              go_ret
              refine ⟨ret_bool ?_, BF⟩
              simp
              try omega
          | false =>
            have hk4' : ¬ k < 4 := of_decide_eq_false hk4
            have hdd : decide (1 + (k : Int) ≤ 4) = false := by simp; omega
            have hpr : printB (nest k) = [] := (print_nest k).2 hk4'
            have HPR := Lib.hid hpr; clear hpr
            clear hk4
            go_wp2_with fail
            refine (print_any (nest k) B0 _ _ _ _ _ (by omega) (by omega) (HT.out.below hg BC) HRC.out).mono ?_
            rintro e wd ⟨rfl, bd⟩
            have hpr := HPR.out
            have sd := bd.size
            have BD := Below.step BC bd
            generalize hsb : (⟨(printB (nest k)).toArray⟩ : ByteArray) = sb at *
            have hne : sb.toList = [] := by rw [← hsb, Lib.toList_data, hpr]
            have hne2 : sb.toList.isEmpty = true := by simp [hne]
            clear hsb hpr p0 p1 p2 p3
            go_wp2_with fail
            refine (list_any (nums j) wr.heap.size _ _ (by omega) (RepL.below (fun b hb => (Below.step bc bd).block b hb) HRL.out)).mono ?_
            rintro e we ⟨r, rfl, hrl, be⟩
            obtain ⟨ra2, rb2, ro2, rc2, hr2, -⟩ := id hrl
            subst hr2
            have HV : Hid (RepV we.heap.size we (.mk 4 0 ⟨#[]⟩ (nums j)) (.int .i64 4) (.int .i64 0) (.string ⟨#[]⟩) (.slice ra2 (nums j).length rc2)) :=
              repV_mk.2 ⟨rfl, rfl, rfl, ⟨by omega, by omega⟩, ⟨by omega, by omega⟩, by unfold maxLen; simp [ByteArray.size], hrl.on (fun b hb => hb.2) (fun _ _ => rfl)⟩
            have BE := Below.step BD be
            clear hrl be bd bc BC BD
            go_wp2_with fail
            refine (right_any _ we.heap.size _ _ _ _ _ (Nat.le_refl _) HV.out).mono ?_
            rintro e wf ⟨rfl, bf⟩
            rw [right_numlist j (by omega)]
            have BF := Below.step BE bf
            clear bf BE
            go_wp2_with fail
            all_goals
              go_ret
              refine ⟨ret_bool ?_, BF⟩
              simp
              try omega

end Go.Proofs.YtagehmcnihebdaaDoor.valueDeep
