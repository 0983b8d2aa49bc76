/-
  lexer's reader of signs, and token, as contracts.
-/
import Derived.Test.YtgpgjaenbhbbgaaDoorLexTok2
import Derived.Deep.MidRow
namespace Go.Proofs.YtgpgjaenbhbbgaaDoor
open Go.RowKit

abbrev signCells : Array Value := #[.string ⟨#[58, 45]⟩, .string ⟨#[58, 61]⟩, .string ⟨#[61, 61]⟩, .string ⟨#[33, 61]⟩, .string ⟨#[60, 61]⟩, .string ⟨#[62, 61]⟩, .string ⟨#[60]⟩, .string ⟨#[62]⟩, .string ⟨#[40]⟩, .string ⟨#[41]⟩, .string ⟨#[91]⟩, .string ⟨#[93]⟩, .string ⟨#[44]⟩, .string ⟨#[46]⟩, .string ⟨#[64]⟩, .string ⟨#[33]⟩, .string ⟨#[43]⟩, .string ⟨#[45]⟩, .string ⟨#[42]⟩]
theorem sign_index_0 (w : World) : Sem.run Tryd.prog (Instr.index 100 (.agg signCells) (.int .i64 ((0 : Nat) : Int))) w = .ok (.string ⟨#[58, 45]⟩) w := by
  kernel_rfl
theorem sign_index_1 (w : World) : Sem.run Tryd.prog (Instr.index 100 (.agg signCells) (.int .i64 ((1 : Nat) : Int))) w = .ok (.string ⟨#[58, 61]⟩) w := by
  kernel_rfl
theorem sign_index_2 (w : World) : Sem.run Tryd.prog (Instr.index 100 (.agg signCells) (.int .i64 ((2 : Nat) : Int))) w = .ok (.string ⟨#[61, 61]⟩) w := by
  kernel_rfl
theorem sign_index_3 (w : World) : Sem.run Tryd.prog (Instr.index 100 (.agg signCells) (.int .i64 ((3 : Nat) : Int))) w = .ok (.string ⟨#[33, 61]⟩) w := by
  kernel_rfl
theorem sign_index_4 (w : World) : Sem.run Tryd.prog (Instr.index 100 (.agg signCells) (.int .i64 ((4 : Nat) : Int))) w = .ok (.string ⟨#[60, 61]⟩) w := by
  kernel_rfl
theorem sign_index_5 (w : World) : Sem.run Tryd.prog (Instr.index 100 (.agg signCells) (.int .i64 ((5 : Nat) : Int))) w = .ok (.string ⟨#[62, 61]⟩) w := by
  kernel_rfl
theorem sign_index_6 (w : World) : Sem.run Tryd.prog (Instr.index 100 (.agg signCells) (.int .i64 ((6 : Nat) : Int))) w = .ok (.string ⟨#[60]⟩) w := by
  kernel_rfl
theorem sign_index_7 (w : World) : Sem.run Tryd.prog (Instr.index 100 (.agg signCells) (.int .i64 ((7 : Nat) : Int))) w = .ok (.string ⟨#[62]⟩) w := by
  kernel_rfl
theorem sign_index_8 (w : World) : Sem.run Tryd.prog (Instr.index 100 (.agg signCells) (.int .i64 ((8 : Nat) : Int))) w = .ok (.string ⟨#[40]⟩) w := by
  kernel_rfl
theorem sign_index_9 (w : World) : Sem.run Tryd.prog (Instr.index 100 (.agg signCells) (.int .i64 ((9 : Nat) : Int))) w = .ok (.string ⟨#[41]⟩) w := by
  kernel_rfl
theorem sign_index_10 (w : World) : Sem.run Tryd.prog (Instr.index 100 (.agg signCells) (.int .i64 ((10 : Nat) : Int))) w = .ok (.string ⟨#[91]⟩) w := by
  kernel_rfl
theorem sign_index_11 (w : World) : Sem.run Tryd.prog (Instr.index 100 (.agg signCells) (.int .i64 ((11 : Nat) : Int))) w = .ok (.string ⟨#[93]⟩) w := by
  kernel_rfl
theorem sign_index_12 (w : World) : Sem.run Tryd.prog (Instr.index 100 (.agg signCells) (.int .i64 ((12 : Nat) : Int))) w = .ok (.string ⟨#[44]⟩) w := by
  kernel_rfl
theorem sign_index_13 (w : World) : Sem.run Tryd.prog (Instr.index 100 (.agg signCells) (.int .i64 ((13 : Nat) : Int))) w = .ok (.string ⟨#[46]⟩) w := by
  kernel_rfl
theorem sign_index_14 (w : World) : Sem.run Tryd.prog (Instr.index 100 (.agg signCells) (.int .i64 ((14 : Nat) : Int))) w = .ok (.string ⟨#[64]⟩) w := by
  kernel_rfl
theorem sign_index_15 (w : World) : Sem.run Tryd.prog (Instr.index 100 (.agg signCells) (.int .i64 ((15 : Nat) : Int))) w = .ok (.string ⟨#[33]⟩) w := by
  kernel_rfl
theorem sign_index_16 (w : World) : Sem.run Tryd.prog (Instr.index 100 (.agg signCells) (.int .i64 ((16 : Nat) : Int))) w = .ok (.string ⟨#[43]⟩) w := by
  kernel_rfl
theorem sign_index_17 (w : World) : Sem.run Tryd.prog (Instr.index 100 (.agg signCells) (.int .i64 ((17 : Nat) : Int))) w = .ok (.string ⟨#[45]⟩) w := by
  kernel_rfl
theorem sign_index_18 (w : World) : Sem.run Tryd.prog (Instr.index 100 (.agg signCells) (.int .i64 ((18 : Nat) : Int))) w = .ok (.string ⟨#[42]⟩) w := by
  kernel_rfl
theorem sign_index (k : Nat) (hk : k < 19) (x : List UInt8) (hx : signsL[k]? = some x) (w : World) : Sem.run Tryd.prog (Instr.index 100 (.agg signCells) (.int .i64 (k : Int))) w = .ok (.string ⟨x.toArray⟩) w := by
  match k, hk, hx with
  | 0, _, hx => cases hx; exact sign_index_0 w
  | 1, _, hx => cases hx; exact sign_index_1 w
  | 2, _, hx => cases hx; exact sign_index_2 w
  | 3, _, hx => cases hx; exact sign_index_3 w
  | 4, _, hx => cases hx; exact sign_index_4 w
  | 5, _, hx => cases hx; exact sign_index_5 w
  | 6, _, hx => cases hx; exact sign_index_6 w
  | 7, _, hx => cases hx; exact sign_index_7 w
  | 8, _, hx => cases hx; exact sign_index_8 w
  | 9, _, hx => cases hx; exact sign_index_9 w
  | 10, _, hx => cases hx; exact sign_index_10 w
  | 11, _, hx => cases hx; exact sign_index_11 w
  | 12, _, hx => cases hx; exact sign_index_12 w
  | 13, _, hx => cases hx; exact sign_index_13 w
  | 14, _, hx => cases hx; exact sign_index_14 w
  | 15, _, hx => cases hx; exact sign_index_15 w
  | 16, _, hx => cases hx; exact sign_index_16 w
  | 17, _, hx => cases hx; exact sign_index_17 w
  | 18, _, hx => cases hx; exact sign_index_18 w
theorem signIn_drop {k : Nat} {x : List UInt8} (hx : signsL[k]? = some x) (l : List UInt8) : signIn (signsL.drop k) l = if Lib.hasPrefix l x then some x else signIn (signsL.drop (k + 1)) l := by
  obtain ⟨hk, rfl⟩ := List.getElem?_eq_some_iff.1 hx
  rw [List.drop_eq_getElem_cons hk, signIn]

theorem infoSigns : (Tryd.prog.info? 100).map (·.size) = some 19 := by kernel_rfl
theorem signs_row {w : World} (h : SignsOk w) : ∃ t fr, w.heap[0]? = some (.cells signCells t fr) := by
  have h' : w.var? Tryd.prog "beaconry/lexer.signs" = some signCells := h
  unfold World.var? at h'
  rw [gSigns] at h'
  simp only [Option.bind_some] at h'
  split at h'
  · rename_i cs t fr hc
    cases h'
    exact ⟨t, fr, hc⟩
  · cases h'

set_option maxRecDepth 100000 in
set_option maxHeartbeats 4000000 in
theorem lsign_any (s : ByteArray) (w : World) (hg : 0 < w.heap.size) (hok : SignsOk w) :
    Calls Tryd.prog 83 #[.string s] w (ReadPost (signR s.data.toList) w) := by
  have HOK := Lib.hid hok
  clear hok
  go_enter Tryd.func83, Tryd.ntmps83
  have x1 := boxed5_new w (.int .i64 0) (.string ⟨#[]⟩) (.int .i64 0) (.int .i64 0) (.int .i64 0)
  have b1 := stands_alloc w (.cells #[.int .i64 0, .string ⟨#[]⟩, .int .i64 0, .int .i64 0, .int .i64 0] 71)
  have hok1 := HOK.out.below hg b1
  obtain ⟨tt, fr, hrow⟩ := signs_row hok1
  obtain ⟨cs, hcs⟩ : ∃ cs, cs = signCells := ⟨_, rfl⟩
  rw [← hcs] at hrow
  have HIX : Hid (∀ (k : Nat), k < 19 → ∀ (x : List UInt8), signsL[k]? = some x → ∀ w, Sem.run Tryd.prog (Instr.index 100 (.agg cs) (.int .i64 (k : Int))) w = .ok (.string ⟨x.toArray⟩) w) := by rw [hcs]; exact sign_index
  have HINF : Hid ((Tryd.prog.info? 100).map (·.size) = some cs.size) := by rw [hcs]; exact infoSigns
  have HROW := Lib.hid hrow
  clear hcs hok1 hrow
  go_wp2_with (refine wpList_load_row rfl 100 _ rfl 0 rfl tt _ fr _ HROW.out Tryd.underlying100 rfl HINF.out ?_)
  generalize w.alloc (.cells #[.int .i64 0, .string ⟨#[]⟩, .int .i64 0, .int .i64 0, .int .i64 0] 71) = w1 at *
  have X1 := Lib.hid x1; have B1 := Lib.hid b1
  clear x1 b1 HROW
  go_loopw [7] (fun i wr => ∃ k : Nat, k ≤ 19 ∧ i = .int .i64 k ∧ wr = w1 ∧ Hid (signIn signsL s.data.toList = signIn (signsL.drop k) s.data.toList)) (fun i _ => 19 - (intOf i).toNat)
  case atStart => exact ⟨0, Nat.zero_le _, rfl, rfl, rfl⟩
  case round =>
    obtain ⟨k, hk, rfl, rfl, hrec⟩ := hrel
    have X1o := X1.out
    obtain ⟨r0, r1, r2, r3, r4⟩ := X1o.cells
    have z0 := frozen_of_row _ _ 0 _ _ X1o
    have z1 := frozen_of_row _ _ 1 _ _ X1o
    have z2 := frozen_of_row _ _ 2 _ _ X1o
    have z3 := frozen_of_row _ _ 3 _ _ X1o
    have z4 := frozen_of_row _ _ 4 _ _ X1o
    clear X1o
    by_cases hlt : k < 19
    · obtain ⟨x, hx⟩ : ∃ x, signsL[k]? = some x := ⟨_, List.getElem?_eq_getElem (by exact hlt)⟩
      have hix := HIX.out k hlt x hx
      have HD := Lib.hid (signIn_drop hx s.data.toList)
      have hxl : (⟨x.toArray⟩ : ByteArray).size = x.length := size_mk x
      have hxl2 : x.length ≤ 2 := by
        have : ∀ y ∈ signsL, y.length ≤ 2 := by decide
        exact this x (List.mem_of_getElem? hx)
      clear hx
      go_wp2_with fail
      refine (Tryd.strings_HasPrefix s ⟨x.toArray⟩ _).mono ?_
      rintro e w' ⟨rfl, rfl⟩
      have hdl : (⟨x.toArray⟩ : ByteArray).data.toList = x := by simp
      rw [hdl]
      clear hdl
      cases hp : Lib.hasPrefix s.data.toList x with
      | true =>
        have HE : Hid (signR s.data.toList = some ⟨5, x, 0, x.length⟩) := by show _ = _; rw [signR, hrec.out, HD.out, hp]; rfl
        clear hp
        go_wp2_with fail
        refine bodyPost_ret (v := .tuple #[.agg #[.int .i64 5, .string ⟨x.toArray⟩, .int .i64 0, .int .i64 0, .int .i64 0], .int .i64 x.length]) (by simp [results, Tryd.results83, go_sem, r0, r1, r2, r3, r4]) rfl ?_
        rw [HE.out]
        exact ⟨rfl, stored5 B1.out _ (Nat.le_refl _) _ _ _ _ _⟩
      | false =>
        have HR : Hid (signIn signsL s.data.toList = signIn (signsL.drop (k + 1)) s.data.toList) := by show _ = _; rw [hrec.out, HD.out, hp]; rfl
        clear hp
        go_wp2_with fail
        go_roundw
        case rel => exact ⟨k + 1, by omega, by go_num, by trivial, HR⟩
        case measure => simp [intOf]; omega
    · have hke : k = 19 := by omega
      have HE : Hid (signR s.data.toList = none) := by show _ = _; rw [signR, hrec.out, hke]; rfl
      clear hke
      go_wp2_with fail
      refine bodyPost_ret (v := .tuple #[.agg #[.int .i64 0, .string ⟨#[]⟩, .int .i64 0, .int .i64 0, .int .i64 0], .int .i64 0]) (by simp [results, Tryd.results83, go_sem, r0, r1, r2, r3, r4]) rfl ?_
      rw [HE.out]
      exact ⟨rfl, stored5 B1.out _ (Nat.le_refl _) _ _ _ _ _⟩

end Go.Proofs.YtgpgjaenbhbbgaaDoor
