/-
  LocData, LocMap, LocSmall, LocLinks
-/
import Derived.Test.YtcmlojigcgihbaaGreatDoorKR14
import Derived.Test.YtcmlojigcgihbaaGreatDoorKR15
import Derived.Test.YtcmlojigcgihbaaGreatDoorKR03
import Derived.Test.YtcmlojigcgihbaaGreatDoorKR04
import Derived.Test.YtcmlojigcgihbaaGreatDoorKR06
import Derived.Test.YtcmlojigcgihbaaGreatDoorKR07
import Derived.DeepKeys4
import Derived.Deep.Cut
import Derived.Maps.AppendAt
namespace Go.Proofs.YtcmlojigcgihbaaGreatDoor
open Go.RowKit
def kind0 (l : List Tm) : Int := match l with
 | [] => 0
 | t :: _ => t.kind
def name0 (l : List Tm) : ByteArray := match l with
 | [] => ⟨#[]⟩
 | t :: _ => t.name
def hasPl (l : Li) : Bool := l.kind == 1 || l.kind == 2
def isAt (l : Li) : Bool := l.kind == 1
def linkS : ByteArray := ⟨#[108, 105, 110, 107]⟩
def isLk (l : Li) : Bool := isAt l && (eqS l.name linkS && (decide (1 < l.args.length) && kind0 (l.args.drop 1) == 1))
def atVarsL (body : List Li) : Bool := body.all fun l => !hasPl l || kind0 l.args == 1
def placesL : List ByteArray → List Li → List ByteArray
 | acc, [] => acc
 | acc, l :: t => if hasPl l = true ∧ inB acc (name0 l.args) = false then placesL (acc ++ [name0 l.args]) t else placesL acc t
def onWay (a b : ByteArray) (l : Li) : Bool := isLk l && (eqS (name0 l.args) a && eqS (name0 (l.args.drop 1)) b)
def firstWay (a b : ByteArray) : List Li → Nat → Option Nat
 | [], _ => none
 | l :: t, i => if onWay a b l = true then some i else firstWay a b t (i + 1)
def betweenZ (f : ByteArray → ByteArray → Option Nat) (a b : ByteArray) : ByteArray × ByteArray × Bool :=
 match f b a with
 | some k => match f a b with
  | some i => if k < i then (b, a, true) else (a, b, true)
  | none => (b, a, true)
 | none => (a, b, (f a b).isSome)
structure Pl where
 from' : ByteArray
 to' : ByteArray
 head : ByteArray
def placeFrom (h : ByteArray) (f : ByteArray → ByteArray → Option Nat) (at' : List ByteArray) : Pl × Bool :=
 match at' with
 | [a] => (⟨a, ⟨#[]⟩, h⟩, eqS h a || (f a h).isSome)
 | [a, b] => (⟨(betweenZ f a b).1, (betweenZ f a b).2.1, h⟩, (betweenZ f a b).2.2 && inB [a, b] h)
 | _ => (⟨⟨#[]⟩, ⟨#[]⟩, h⟩, false)
def bodyPlaceZ (r : Ru) : Pl × Bool :=
 if r.body.any isAt = true then placeFrom (name0 r.args) (fun a b => firstWay a b r.body 0) (placesL [] r.body) else (⟨⟨#[]⟩, ⟨#[]⟩, name0 r.args⟩, false)
def zPl : Pl := ⟨⟨#[]⟩, ⟨#[]⟩, ⟨#[]⟩⟩
def aggFits (r : Ru) (p : Pl) : Bool := r.agg.toList.isEmpty || (p.to'.toList.isEmpty && eqS p.head p.from')
def placeZ (r : Ru) : Pl × Bool :=
 if ruB r = true ∧ eqS r.head linkS = false ∧ atVarsL r.body = true ∧ kind0 r.args = 1 then
  (if (bodyPlaceZ r).2 = true ∧ aggFits r (bodyPlaceZ r).1 = true then ((bodyPlaceZ r).1, true) else (zPl, false))
 else (zPl, false)
def placesErr : List Ru → Nat → Int × Int
 | [], _ => (0, -1)
 | r :: l, i => if (placeZ r).2 = true then placesErr l (i + 1) else (70, i)
theorem firstWay_snoc (a b : ByteArray) (x : Li) : ∀ (l : List Li) (i : Nat), firstWay a b (l ++ [x]) i = match firstWay a b l i with
  | some k => some k
  | none => if onWay a b x = true then some (i + l.length) else none
 | [], i => by simp only [List.nil_append, firstWay, List.length_nil, Nat.add_zero]
 | y :: l, i => by
  rw [List.cons_append, firstWay, firstWay]
  split
  ·rfl
  ·rw [firstWay_snoc a b x l (i + 1)]
   cases firstWay a b l (i + 1) with
   | none => simp only [List.length_cons]; rw [show i + 1 + l.length = i + (l.length + 1) by omega]
   | some k => rfl
theorem placesL_snoc (x : Li) : ∀ (l : List Li) (acc : List ByteArray), placesL acc (l ++ [x]) = if hasPl x = true ∧ inB (placesL acc l) (name0 x.args) = false then placesL acc l ++ [name0 x.args] else placesL acc l
 | [], acc => by rw [List.nil_append]; rfl
 | y :: l, acc => by
  rw [List.cons_append, placesL, placesL]
  split
  ·exact placesL_snoc x l _
  ·exact placesL_snoc x l _
theorem placesL_len : ∀ (l : List Li) (acc : List ByteArray), (placesL acc l).length ≤ acc.length + l.length
 | [], acc => by simp [placesL]
 | y :: l, acc => by
  rw [placesL]
  split
  ·have := placesL_len l (acc ++ [name0 y.args]); simp at this ⊢; omega
  ·have := placesL_len l acc; simp at this ⊢; omega
end Go.Proofs.YtcmlojigcgihbaaGreatDoor
namespace Go.Proofs.YtcmlojigcgihbaaGreatDoor
open Go.RowKit Go.Maps
theorem locLaid : laidOutB Tryz.prog = true := by kernel_rfl
theorem keyWay : Keyed Tryz.prog 114 := Keyed.of_law (deep_law_laid locLaid (m := 2) (by omega) (of_decide_eq_true (by kernel_rfl)) (by kernel_rfl) (by kernel_rfl))
def wayV (a b : ByteArray) : Value := .agg #[.string a, .string b]
theorem types_succ : ∃ m, Tryz.prog.types.size = m + 1 := by
 have h : 1 ≤ Tryz.prog.types.size := of_decide_eq_true (by kernel_rfl);exact ⟨_, (Nat.sub_add_cancel h).symm⟩
theorem key_way {a b : ByteArray} (ha : a.size ≤ maxLen) (hb : b.size ≤ maxLen) : ∃ l, keyOf Tryz.prog 114 (wayV a b) = some l := by
 obtain ⟨m, hm⟩ := types_succ;have h1 : Tryz.prog.keyType 114 = true := by kernel_rfl
 have h2 : (wayV a b).formed Tryz.prog 114 = true := by
  have hc : Tryz.prog.cellsOf 114 = 2 := by kernel_rfl
  simp [wayV, Value.formed, Tryz.underlying114, hc]
 have h3 : Tryz.prog.cellsOf 114 = 2 := by kernel_rfl
 have h4 : Tryz.prog.cellsOf 9 = 1 := by kernel_rfl
 have h5 : Tryz.prog.keyLits (Tryz.prog.types.size + 1) 114 (wayV a b).cells.toList = some [.string a.data.toList, .string b.data.toList] := by
  rw [hm];simp [Program.keyLits, Tryz.underlying114, Tryz.underlying9, wayV, Value.cells, h3, h4, ha, hb]
 refine ⟨.string (keyBytes [.string a.data.toList, .string b.data.toList]), ?_⟩;unfold keyOf;simp only [Tryz.underlying114]
 rw [if_pos (by rw [h1, h2]; rfl), h5];rfl
theorem zeroInt (w : World) : (zeroValue 3).run Tryz.prog w = .ok (.int .i64 0) w := by kernel_rfl
def LinksAt (w : World) (b n : Nat) (f : ByteArray → ByteArray → Option Nat) : Prop :=
 ∃ D : DataW Unit, w.ownsMap Tryz.prog 114 (plainElem Tryz.prog 3) b n D ∧ ∀ x y l, keyOf Tryz.prog 114 (wayV x y) = some l → Maps.has D l = (f x y).isSome ∧ ∀ i, f x y = some i → D.atKey l (.lit (.int .i64 0)) = .lit (.int .i64 (i : Int))
theorem LinksAt.lt {w : World} {b n : Nat} {f : ByteArray → ByteArray → Option Nat} (h : LinksAt w b n f) : b < w.heap.size := by
 obtain ⟨D, h, -⟩ := h;exact h.lt
theorem LinksAt.grown {w w' : World} {b n : Nat} {f : ByteArray → ByteArray → Option Nat} (h : LinksAt w b n f) {row : Option Nat} (hg : w.grownBy w' row) (hne : some b ≠ row) : LinksAt w' b n f := by
 obtain ⟨D, h, k⟩ := h;exact ⟨D, h.kept hg hne, k⟩
theorem LinksAt.on {w w' : World} {b n : Nat} {f : ByteArray → ByteArray → Option Nat} (h : LinksAt w b n f) (hg : Below w.heap.size w w') : LinksAt w' b n f := h.grown (grown_of_below hg) (by simp)
theorem linksAt_new (w : World) : LinksAt (w.alloc (.map #[] 0)) w.heap.size 0 (fun _ _ => none) :=
 ⟨_, World.ownsMap_made _ _ _ _, fun x y l _ => ⟨by simp [Maps.has], fun i h => by cases h⟩⟩
theorem LinksAt.congr {w : World} {b n : Nat} {f g : ByteArray → ByteArray → Option Nat} (h : LinksAt w b n f) (e : ∀ x y, f x y = g x y) : LinksAt w b n g := by
 rwa [show g = f from funext fun x => funext fun y => (e x y).symm]
theorem links_put {w : World} {D : DataW Unit} {b n : Nat} {f : ByteArray → ByteArray → Option Nat} {a c : ByteArray} {l : Lit} {i : Nat}
  (hown : w.ownsMap Tryz.prog 114 (plainElem Tryz.prog 3) b n (D.put l (.lit (.int .i64 (i : Int))))) (hD : IsMap D) (hl : keyOf Tryz.prog 114 (wayV a c) = some l)
  (hf : ∀ x y l, keyOf Tryz.prog 114 (wayV x y) = some l → Maps.has D l = (f x y).isSome ∧ ∀ i, f x y = some i → D.atKey l (.lit (.int .i64 0)) = .lit (.int .i64 (i : Int))) :
  LinksAt w b n (fun x y => if x = a ∧ y = c then some i else f x y) := by
 refine ⟨_, hown, fun x y l' hl' => ?_⟩
 by_cases hxy : x = a ∧ y = c
 ·obtain ⟨rfl, rfl⟩ := hxy
  obtain rfl : l' = l := by rw [hl] at hl'; exact (Option.some.inj hl').symm
  simp only [and_self, if_true]
  refine ⟨by rw [has_put_same hD (keyWay.key hl)]; rfl, fun j hj => ?_⟩
  cases hj
  exact atKey_put_same hD (keyWay.key hl) _ _
 ·have hne : l' ≠ l := by
   intro e;have h := keyWay.inj (e ▸ hl') hl;simp only [wayV, Value.agg.injEq] at h
   apply hxy
   have h0 := congrArg Array.toList h
   simpa using h0
  simp only [if_neg hxy]
  obtain ⟨h1, h2⟩ := hf x y l' hl';exact ⟨by rw [has_put_other hne]; exact h1, fun j hj => by rw [atKey_put_other hne]; exact h2 j hj⟩
end Go.Proofs.YtcmlojigcgihbaaGreatDoor
namespace Go.Proofs.YtcmlojigcgihbaaGreatDoor
open Go.RowKit Go.Maps
set_option maxRecDepth 100000 in
set_option maxHeartbeats 1000000 in
theorem isAtom_any (x : Li) (ga : Option Addr) (gc : Nat) (w : World) :
  Calls Tryz.prog 68 #[.agg #[.int .i64 x.kind, .string x.name, .slice ga x.args.length gc]] w fun e w' => e = .returned (.bool (isAt x)) ∧ Below w.heap.size w w' := by
 go_enter Tryz.func68, Tryz.ntmps68
 go_upto_region 1 with fail
 have x1 := boxLi_new w (.int .i64 x.kind) (.string x.name) (.slice ga x.args.length gc);have b1 := below_alloc w (.cells #[.int .i64 x.kind, .string x.name, .slice ga x.args.length gc] 61);generalize w.alloc (.cells #[.int .i64 x.kind, .string x.name, .slice ga x.args.length gc] 61) = w1 at *;have HB := Lib.hid b1;obtain ⟨p0, p1, p2⟩ := x1.cells;clear b1 x1;go_wp2_with fail
 go_ret
 exact ⟨rfl, HB.out⟩
set_option maxRecDepth 100000 in
set_option maxHeartbeats 1000000 in
theorem hasPlace_any (x : Li) (ga : Option Addr) (gc : Nat) (w : World) :
  Calls Tryz.prog 66 #[.agg #[.int .i64 x.kind, .string x.name, .slice ga x.args.length gc]] w fun e w' => e = .returned (.bool (hasPl x)) ∧ Below w.heap.size w w' := by
 go_enter Tryz.func66, Tryz.ntmps66
 go_upto_region 1 with fail
 have x1 := boxLi_new w (.int .i64 x.kind) (.string x.name) (.slice ga x.args.length gc);have b1 := below_alloc w (.cells #[.int .i64 x.kind, .string x.name, .slice ga x.args.length gc] 61);generalize w.alloc (.cells #[.int .i64 x.kind, .string x.name, .slice ga x.args.length gc] 61) = w1 at *;have HB := Lib.hid b1;obtain ⟨p0, p1, p2⟩ := x1.cells;clear b1 x1
 cases h1 : (x.kind == 1) with
 | true =>
  have HF : Hid (hasPl x = true) := by show _ = _; rw [hasPl, h1]; rfl
  go_wp2_with fail
  go_ret
  exact ⟨ret_bool HF.out.symm, HB.out⟩
 | false =>
  have HF : Hid (hasPl x = (x.kind == 2)) := by show _ = _; rw [hasPl, h1]; rfl
  go_wp2_with fail
  go_ret
  exact ⟨ret_bool HF.out.symm, HB.out⟩
theorem eqS_link (s : ByteArray) : eqS s linkS = (s.toList == [108, 105, 110, 107]) := by rw [eqS, Lib.toList_data linkS]; rfl
theorem kind0_at {l : List Tm} (h : 0 < l.length) : kind0 l = l[0].kind ∧ name0 l = l[0].name := by
 cases l with
 | nil => simp at h
 | cons t m => exact ⟨rfl, rfl⟩
theorem kind1_at {l : List Tm} (h : 1 < l.length) : kind0 (l.drop 1) = l[1].kind ∧ name0 (l.drop 1) = l[1].name := by
 cases l with
 | nil => simp at h
 | cons t m => cases m with
  | nil => simp at h
  | cons u m => exact ⟨rfl, rfl⟩
set_option maxRecDepth 100000 in
set_option maxHeartbeats 1000000 in
theorem isLink_any (x : Li) (S : Nat → Prop) (ga : Option Addr) (gc : Nat) (w : World) (hS : ∀ k, S k → k < w.heap.size) (hx : RepMs S w x.args (.slice ga x.args.length gc)) :
  Calls Tryz.prog 117 #[.agg #[.int .i64 x.kind, .string x.name, .slice ga x.args.length gc]] w fun e w' => e = .returned (.bool (isLk x)) ∧ Below w.heap.size w w' := by
 have HX := Lib.hid hx; have HS := Lib.hid hS
 clear hx hS;go_enter Tryz.func117, Tryz.ntmps117
 go_upto_region 1 with fail
 have x1 := boxLi_new w (.int .i64 x.kind) (.string x.name) (.slice ga x.args.length gc);have b1 := below_alloc w (.cells #[.int .i64 x.kind, .string x.name, .slice ga x.args.length gc] 61);generalize w.alloc (.cells #[.int .i64 x.kind, .string x.name, .slice ga x.args.length gc] 61) = w1 at *;have X1 := Lib.hid x1; have B1 := Lib.hid b1
 obtain ⟨p0, p1, p2⟩ := x1.cells;clear b1 x1;go_wp2_with fail
 refine (isAtom_any x ga gc w1).mono ?_;rintro e w2 ⟨rfl, hb⟩;have B2 := Lib.hid (Below.step B1.out hb);have X2 := Lib.hid (X1.out.on hb);clear hb p0 p1 p2 X1 B1;obtain ⟨p0, p1, p2⟩ := X2.out.cells
 cases h1 : isAt x with
 | false =>
  have HF : Hid (isLk x = false) := by show _ = _; rw [isLk, h1]; rfl
  clear h1;go_wp2_with fail
  go_ret
  exact ⟨ret_bool HF.out.symm, B2.out⟩
 | true =>
  have HF : Hid (isLk x = (eqS x.name linkS && (decide (1 < x.args.length) && kind0 (x.args.drop 1) == 1))) := by show _ = _; rw [isLk, h1]; rfl
  clear h1
  cases h2 : (x.name.toList == [108, 105, 110, 107]) with
  | false =>
   have HF2 : Hid (isLk x = false) := by show _ = _; rw [HF.out, show eqS x.name linkS = false by rw [eqS_link]; exact h2]; rfl
   go_wp2_with fail
   go_ret
   exact ⟨ret_bool HF2.out.symm, B2.out⟩
  | true =>
   have HF2 : Hid (isLk x = (decide (1 < x.args.length) && kind0 (x.args.drop 1) == 1)) := by show _ = _; rw [HF.out, show eqS x.name linkS = true by rw [eqS_link]; exact h2]; rfl
   by_cases h3 : 1 < x.args.length
   ·have i1 : decide ((1 : Int) < (x.args.length : Int)) = true := decide_eq_true (by omega)
    have i2 : (1 : Int) < (x.args.length : Int) := by omega
    have hA := RepMs.on (fun _ h => h) (fun j hj => B2.out.block j (HS.out j hj)) HX.out;obtain ⟨-, -, b, o, fa', fc', xa', xc', rfl, -, g0, g1, g2, g3, g4, g5, g6, -⟩ := RepMs.at hA 1 h3;have HF3 : Hid (isLk x = (x.args[1].kind == 1)) := by show _ = _; rw [HF2.out, (kind1_at h3).1, decide_eq_true h3]; rfl
    clear hA;generalize x.args[1] = z at *;go_wp2_with fail
    go_ret
    exact ⟨ret_bool HF3.out.symm, B2.out⟩
   ·have i1 : decide ((1 : Int) < (x.args.length : Int)) = false := decide_eq_false (by omega)
    have HF3 : Hid (isLk x = false) := by show _ = _; rw [HF2.out, decide_eq_false h3]; rfl
    go_wp2_with fail
    go_ret
    exact ⟨ret_bool HF3.out.symm, B2.out⟩
set_option maxRecDepth 100000 in
set_option maxHeartbeats 1000000 in
theorem linksHas_any (b n : Nat) (f : ByteArray → ByteArray → Option Nat) (x y : ByteArray) (w : World) (hx : x.size ≤ maxLen) (hy : y.size ≤ maxLen) (h : LinksAt w b n f) :
  Calls Tryz.prog 71 #[.map (some b), .string x, .string y] w fun e w' => e = .returned (.bool (f x y).isSome) ∧ Below w.heap.size w w' := by
 obtain ⟨D, hown, hf⟩ := h;obtain ⟨l, hkey⟩ := key_way hx hy;have HH := Lib.hid (hf x y l hkey).1;rw [wayV] at hkey;clear hf hx hy;go_enter Tryz.func71, Tryz.ntmps71
 go_wp2_with (first
  | (at_lookup; refine wpList_lookup_own_ok_int _ rfl _ _ 109 rfl 114 3 .i64 keyWay Tryz.underlying109 Tryz.underlying3 (zeroInt _) b n _ rfl hown _ _ rfl hkey ?_; intro c hat hwc; rw [HH.out])
  | fail)
 go_ret
 exact ⟨rfl, Below.refl _ _⟩
end Go.Proofs.YtcmlojigcgihbaaGreatDoor
namespace Go.Proofs.YtcmlojigcgihbaaGreatDoor
open Go.RowKit Go.Maps
theorem onWay_not {l : Li} (h : isLk l = false) (a b : ByteArray) : onWay a b l = false := by rw [onWay, h]; rfl
theorem firstWay_take (a b : ByteArray) (l : List Li) {k : Nat} (h : k < l.length) : firstWay a b (l.take (k + 1)) 0 = match firstWay a b (l.take k) 0 with
  | some j => some j
  | none => if onWay a b l[k] = true then some k else none := by
 rw [List.take_succ_eq_append_getElem h, firstWay_snoc]
 cases firstWay a b (l.take k) 0 with
 | some j => rfl
 | none => simp only [List.length_take, Nat.zero_add, Nat.min_eq_left (Nat.le_of_lt h)]
theorem isLk_len {l : Li} (h : isLk l = true) : 1 < l.args.length := by
 rw [isLk] at h;simp only [Bool.and_eq_true, decide_eq_true_eq] at h
 exact h.2.2.1
theorem LinksAt.set {w : World} {b n : Nat} {f : ByteArray → ByteArray → Option Nat} (h : LinksAt w b n f) {a : Addr} (ha : b ≠ a.block) (u : Value) : LinksAt (w.setCell a u) b n f := by
 obtain ⟨D, h, k⟩ := h;exact ⟨D, h.setCell ha u, k⟩
theorem boxWay_set {w : World} {q : Nat} {c0 c1 : Value} (h : w.heap[q]? = some (.cells #[c0, c1] 114 (0, 0))) (d0 d1 : Value) : ((w.setCell ⟨q, 0, none⟩ d0).setCell ⟨q, 1, none⟩ d1).heap[q]? = some (.cells #[d0, d1] 114 (0, 0)) :=
 heap_setCell_same _ _ _ _ _ _ (heap_setCell_same _ _ _ _ _ _ h)
set_option maxRecDepth 100000 in
set_option maxHeartbeats 2000000 in
theorem linked_any (l : List Li) (S : Nat → Prop) (w : World) (v : Value) (hS : ∀ k, S k → k < w.heap.size) (hl : RepLis S w l v) (hlen : l.length ≤ 1000) :
  Calls Tryz.prog 69 #[v] w fun e w' => ∃ b, e = .returned (.map (some b)) ∧ w.heap.size ≤ b ∧ LinksAt w' b l.length (fun x y => firstWay x y l 0) ∧ Below w.heap.size w w' := by
 have HL := Lib.hid hl; have HS := Lib.hid hS; have HN := Lib.hid hlen
 obtain ⟨fa, fc, rfl⟩ := SlG.form hl;clear hl hS;have hmm := @run_makeMap Tryz.prog;go_enter Tryz.func69, Tryz.ntmps69
 go_wp2_with fail
 have x0 := Lib.hid (linksAt_new w);have d0 := Lib.hid ((Below.refl w.heap.size w).alloc (Nat.le_refl _) (.map #[] 0));generalize w.alloc (.map #[] 0) = w1 at *;clear hmm;go_loopw [12] (fun i wr => ∃ k : Nat, k ≤ l.length ∧ i = .int .i64 k ∧ Hid (LinksAt wr w.heap.size k (fun x y => firstWay x y (l.take k) 0)) ∧ Below w.heap.size w wr) (fun i _ => l.length - (intOf i).toNat)
 case atStart => exact ⟨0, Nat.zero_le _, rfl, x0.out.congr (fun _ _ => rfl), d0.out⟩
 case round =>
  obtain ⟨k, hk, rfl, hlk, hbel⟩ := hrel
  by_cases hl : k < l.length
  ·have hA := (SlG.on (fun _ h => h) (fun j hj => hbel.block j (HS.out j hj)) (fun x _ c hx => RepLi.on (fun _ h => h) (fun j hj => hbel.block j (HS.out j hj)) hx) HL.out : RepLis S wr l (.slice fa l.length fc))
   obtain ⟨-, -, b, o, ga, gc, rfl, hSb, g0, g1, g2, g⟩ := RepLis.at hA k hl;have HF := Lib.hid (fun a b => firstWay_take a b l hl);have G := Lib.hid g;clear g hSb hA;generalize l[k] = z at *;have hba := below_alloc wr (.cells #[.int .i64 z.kind, .string z.name, .slice ga z.args.length gc] 61);have hbx := boxLi_new wr (.int .i64 z.kind) (.string z.name) (.slice ga z.args.length gc);have HB := Lib.hid (Below.step hbel hba);have HLK := Lib.hid (hlk.out.on hba);have G1 := Lib.hid (RepLi.on (fun _ h => h) (fun j hj => hba.block j (Nat.lt_of_lt_of_le (HS.out j hj) hbel.size)) G.out);obtain ⟨e0, e1, e2⟩ := hbx.cells;have HX := Lib.hid hbx;clear hba hbx hlk hbel G;go_wp2_with fail
   clear g0 g1 g2;obtain ⟨bx, hbx⟩ : ∃ bx, wr.heap.size = bx := ⟨_, rfl⟩;rw [hbx] at HX ⊢;clear hbx;generalize wr.alloc (.cells #[.int .i64 z.kind, .string z.name, .slice ga z.args.length gc] 61) = wa at *;refine (isLink_any z S ga gc wa (fun j hj => Nat.lt_of_lt_of_le (HS.out j hj) HB.out.size) G1.out.2.2.2.2).mono ?_;rintro e w3 ⟨rfl, hb3⟩;have X3 := Lib.hid (HX.out.on hb3); have B3 := Lib.hid (Below.step HB.out hb3); have K3 := Lib.hid (HLK.out.on hb3)
   have G3 := Lib.hid (RepMs.on (fun _ h => h) (fun j hj => hb3.block j (Nat.lt_of_lt_of_le (HS.out j hj) HB.out.size)) G1.out.2.2.2.2);clear hb3 e0 e1 e2 HX HB HLK G1
   cases hc : isLk z with
   | false =>
    have HK : Hid (LinksAt w3 w.heap.size (k + 1) (fun x y => firstWay x y (l.take (k + 1)) 0)) := by
     obtain ⟨D, ho, hf⟩ := K3.out.congr (g := fun x y => firstWay x y (l.take (k + 1)) 0) (fun a b => by
      rw [HF.out a b, onWay_not hc]
      cases firstWay a b (l.take k) 0 <;> rfl)
     exact ⟨D, ho.mono (Nat.le_succ _), hf⟩
    clear hc;go_wp2_with fail
    go_roundw
    case rel => exact ⟨k + 1, hl, by go_num, HK, B3.out⟩
    case measure => simp [intOf]; omega
   | true =>
    have h1 := isLk_len hc;obtain ⟨-, -, ab, ao, fa0, fc0, xa0, xc0, hga, hab, -, m0, -, -, -, -, -, t0⟩ := RepMs.at G3.out 0 (by omega);obtain ⟨-, -, ab', ao', fa1, fc1, xa1, xc1, hga', -, -, m1, -, -, -, -, -, t1⟩ := RepMs.at G3.out 1 h1;rw [hga] at hga';obtain ⟨rfl, rfl⟩ : ab = ab' ∧ ao = ao' := by simpa using hga'
    have T0 : Hid (z.args[0].name.size ≤ maxLen) := (RepM.bounds t0).2;have T1 : Hid (z.args[1].name.size ≤ maxLen) := (RepM.bounds t1).2;have HW : Hid (∀ a b, onWay a b z = (eqS z.args[0].name a && eqS z.args[1].name b)) := fun a b => by rw [onWay, hc, (kind0_at (show 0 < z.args.length by omega)).2, (kind1_at h1).2]; rfl
    have M0 : Hid (w3.cell? ⟨ab, ao + 1, none⟩ = some (.string z.args[0].name)) := by show _ = _; rw [← m0]
    have M1 : Hid (w3.cell? ⟨ab, ao + 7 + 1, none⟩ = some (.string z.args[1].name)) := by show _ = _; rw [← m1]
    have AB : Hid (ab < w3.heap.size) := Nat.lt_of_lt_of_le (HS.out ab hab) B3.out.size;have i0 : (0 : Int) < (z.args.length : Int) := by omega
    have i1 : (1 : Int) < (z.args.length : Int) := by omega
    have j0 : 0 < z.args.length := by omega
    clear m0 m1 t0 t1 hga' hab G3 hc;subst hga;generalize z.args[0].name = n0 at *;generalize z.args[1].name = n1 at *;go_wp2_with fail
    refine wp_region_factsL (by rfl) 44 (by rfl) (by kernel_rfl) (FA [.e (.pointer (some ⟨bx, 2, none⟩)), .e (.slice (some ⟨ab, ao, none⟩) z.args.length gc), .e (.pointer (some ⟨ab, ao, none⟩)), .e (.pointer (some ⟨ab, ao + 1, none⟩)), .e (.string n0), .e (.pointer (some ⟨bx, 2, none⟩)), .e (.slice (some ⟨ab, ao, none⟩) z.args.length gc), .e (.pointer (some ⟨ab, ao + 7, none⟩)), .e (.pointer (some ⟨ab, ao + 7 + 1, none⟩)), .e (.string n1), .e (.agg #[.string n0, .string n1]), .p (fun wz vz => ∃ q, vz = .pointer (some ⟨q, 0, none⟩) ∧ w3.heap.size ≤ q ∧ wz.heap[q]? = some (.cells #[.string ⟨#[]⟩, .string ⟨#[]⟩] 114 (0, 0)))]) (fun w' => Below w3.heap.size w3 w') (Below.drew (Below.refl _ _)) ⟨?s0, ?s1, ?s2, ?s3, ?s4, ?s5, ?s6, ?s7, ?s8, ?s9, ?s10, ?s11, trivial⟩ (by rfl) ?last (by decide)
    case s0 =>
     intro a w' hoff hg hdep K hK;have h5 := off_at hoff 5 (v := .pointer (some ⟨bx, 0, none⟩)) (by kernel_rfl) rfl;rw [if_pos (by rfl)];go_simp;exact hK.out _ _ hg rfl (fun _ _ h => h)
    case s1 =>
     intro a w' hoff hg hdep K hK;obtain ⟨_, e0, rfl⟩ := hdep 0 _ 20 (by kernel_rfl) rfl rfl;rw [if_pos (by rfl)];obtain ⟨p0, p1, p2⟩ := (X3.out.on hg).cells;go_simp;exact hK.out _ _ hg rfl (fun _ _ h => h)
    case s2 =>
     intro a w' hoff hg hdep K hK;obtain ⟨_, e1, rfl⟩ := hdep 1 _ 21 (by kernel_rfl) rfl rfl;rw [if_pos (by rfl)];go_simp;exact hK.out _ _ hg rfl (fun _ _ h => h)
    case s3 =>
     intro a w' hoff hg hdep K hK;obtain ⟨_, e2, rfl⟩ := hdep 2 _ 22 (by kernel_rfl) rfl rfl;rw [if_pos (by rfl)];go_simp;exact hK.out _ _ hg rfl (fun _ _ h => h)
    case s4 =>
     intro a w' hoff hg hdep K hK;obtain ⟨_, e3, rfl⟩ := hdep 3 _ 23 (by kernel_rfl) rfl rfl;rw [if_pos (by rfl)];have q0 := (hg.cell (p := ⟨ab, ao + 1, none⟩) AB.out).trans M0.out; have q1 := (hg.cell (p := ⟨ab, ao + 7 + 1, none⟩) AB.out).trans M1.out
     go_simp;exact hK.out _ _ hg rfl (fun _ _ h => h)
    case s5 =>
     intro a w' hoff hg hdep K hK;have h5 := off_at hoff 5 (v := .pointer (some ⟨bx, 0, none⟩)) (by kernel_rfl) rfl;rw [if_pos (by rfl)];go_simp;exact hK.out _ _ hg rfl (fun _ _ h => h)
    case s6 =>
     intro a w' hoff hg hdep K hK;obtain ⟨_, e5, rfl⟩ := hdep 5 _ 25 (by kernel_rfl) rfl rfl;rw [if_pos (by rfl)];obtain ⟨p0, p1, p2⟩ := (X3.out.on hg).cells;go_simp;exact hK.out _ _ hg rfl (fun _ _ h => h)
    case s7 =>
     intro a w' hoff hg hdep K hK;obtain ⟨_, e6, rfl⟩ := hdep 6 _ 26 (by kernel_rfl) rfl rfl;rw [if_pos (by rfl)];go_simp;exact hK.out _ _ hg rfl (fun _ _ h => h)
    case s8 =>
     intro a w' hoff hg hdep K hK;obtain ⟨_, e7, rfl⟩ := hdep 7 _ 27 (by kernel_rfl) rfl rfl;rw [if_pos (by rfl)];go_simp;exact hK.out _ _ hg rfl (fun _ _ h => h)
    case s9 =>
     intro a w' hoff hg hdep K hK;obtain ⟨_, e8, rfl⟩ := hdep 8 _ 28 (by kernel_rfl) rfl rfl;rw [if_pos (by rfl)];have q0 := (hg.cell (p := ⟨ab, ao + 1, none⟩) AB.out).trans M0.out; have q1 := (hg.cell (p := ⟨ab, ao + 7 + 1, none⟩) AB.out).trans M1.out
     go_simp;exact hK.out _ _ hg rfl (fun _ _ h => h)
    case s10 =>
     intro a w' hoff hg hdep K hK;obtain ⟨_, e4, rfl⟩ := hdep 4 _ 24 (by kernel_rfl) rfl rfl;obtain ⟨_, e9, rfl⟩ := hdep 9 _ 29 (by kernel_rfl) rfl rfl;rw [if_pos (by rfl)];go_simp;exact hK.out _ _ hg rfl (fun _ _ h => h)
    case s11 =>
     intro a w' hoff hg hdep K hK;rw [if_pos (by rfl)];go_simp;have hb := below_alloc w' (.cells #[.string ⟨#[]⟩, .string ⟨#[]⟩] 114);exact hK.out _ _ (Below.step hg hb) ⟨_, rfl, hg.size, alloc_new' w' _⟩ (fSt ⟨fun _ h => let ⟨q, e, h1, h2⟩ := h; ⟨q, e, h1, (hb.block q (Array.getElem?_eq_some_iff.1 h2).1).trans h2⟩, trivial⟩)
    case last =>
     intro a w' hoff hg hf;obtain ⟨_, e0, rfl⟩ := hf 0 _ 20 (by decide) rfl rfl;obtain ⟨_, e1, rfl⟩ := hf 1 _ 21 (by decide) rfl rfl;obtain ⟨_, e2, rfl⟩ := hf 2 _ 22 (by decide) rfl rfl;obtain ⟨_, e3, rfl⟩ := hf 3 _ 23 (by decide) rfl rfl;obtain ⟨_, e4, rfl⟩ := hf 4 _ 24 (by decide) rfl rfl;obtain ⟨_, e5, rfl⟩ := hf 5 _ 25 (by decide) rfl rfl;obtain ⟨_, e6, rfl⟩ := hf 6 _ 26 (by decide) rfl rfl;obtain ⟨_, e7, rfl⟩ := hf 7 _ 27 (by decide) rfl rfl;obtain ⟨_, e8, rfl⟩ := hf 8 _ 28 (by decide) rfl rfl;obtain ⟨_, e9, rfl⟩ := hf 9 _ 29 (by decide) rfl rfl;obtain ⟨_, e10, rfl⟩ := hf 10 _ 30 (by decide) rfl rfl;obtain ⟨v11, e11, (g11 : ∃ q, v11 = .pointer (some ⟨q, 0, none⟩) ∧ w3.heap.size ≤ q ∧ w'.heap[q]? = some (.cells #[.string ⟨#[]⟩, .string ⟨#[]⟩] 114 (0, 0)))⟩ := hf 11 _ 6 (by decide) rfl rfl;obtain ⟨q, rfl, hq1, hq2⟩ := g11;have z0 := frozen_of_row w' q 0 _ _ hq2; have z1 := frozen_of_row w' q 1 _ _ hq2
     have c0 : w'.cell? ⟨q, 0, none⟩ = some (.string ⟨#[]⟩) := cell_of_block' hq2 _ rfl;have c1 : w'.cell? ⟨q, 1, none⟩ = some (.string ⟨#[]⟩) := cell_of_block' hq2 _ rfl;rw [if_pos (by rfl)];rw [hoff.sets [(20, .pointer (some ⟨bx, 2, none⟩)), (21, .slice (some ⟨ab, ao, none⟩) z.args.length gc), (22, .pointer (some ⟨ab, ao, none⟩)), (23, .pointer (some ⟨ab, ao + 1, none⟩)), (24, .string n0), (25, .pointer (some ⟨bx, 2, none⟩)), (26, .slice (some ⟨ab, ao, none⟩) z.args.length gc), (27, .pointer (some ⟨ab, ao + 7, none⟩)), (28, .pointer (some ⟨ab, ao + 7 + 1, none⟩)), (29, .string n1), (30, .agg #[.string n0, .string n1]), (6, .pointer (some ⟨q, 0, none⟩))] (by kernel_rfl) (by intro p hp; simp only [List.mem_cons, List.not_mem_nil, or_false] at hp; rcases hp with rfl | rfl | rfl | rfl | rfl | rfl | rfl | rfl | rfl | rfl | rfl | rfl <;> assumption)];clear hoff hf e0 e1 e2 e3 e4 e5 e6 e7 e8 e9 e10 e11;simp only [List.foldl_cons, List.foldl_nil, List.setIfInBounds_toArray, List.set_cons_zero, List.set_cons_succ]
     go_simp;have hnq : (w.heap.size : Nat) ≠ q := by have h1 := K3.out.lt; intro e; rw [e] at h1; omega
     have B9 := Lib.hid (((Below.step B3.out hg).setCell (p := ⟨q, 0, none⟩) (Nat.le_trans B3.out.size hq1) (.string n0)).setCell (p := ⟨q, 1, none⟩) (Nat.le_trans B3.out.size hq1) (.string n1));have K9 := Lib.hid (((K3.out.on hg).set (a := ⟨q, 0, none⟩) hnq (.string n0)).set (a := ⟨q, 1, none⟩) hnq (.string n1));have Y9 := Lib.hid (boxWay_set hq2 (.string n0) (.string n1));clear hnq hq1 hq2 hg z0 z1 c0 c1;generalize (w'.setCell ⟨q, 0, none⟩ (.string n0)).setCell ⟨q, 1, none⟩ (.string n1) = w9 at *;obtain ⟨D, hown, hf⟩ := K9.out;obtain ⟨lt, hkey⟩ := key_way T0.out T1.out;have HH : Hid (Maps.has D lt = (firstWay n0 n1 (l.take k) 0).isSome) := (hf n0 n1 lt hkey).1;have HK2 := Lib.hid hf; have HKY := Lib.hid hkey; have HOW := Lib.hid hown
     have y0 : w9.cell? ⟨q, 0, none⟩ = some (.string n0) := cell_of_block' Y9.out _ rfl;have y1 : w9.cell? ⟨q, 1, none⟩ = some (.string n1) := cell_of_block' Y9.out _ rfl;rw [wayV] at hkey;clear hf
     cases hfw : firstWay n0 n1 (l.take k) 0 with
     | some j =>
      have HH2 : Hid (Maps.has D lt = true) := by show _ = _; rw [HH.out, hfw]; rfl
      have HK : Hid (LinksAt w9 w.heap.size (k + 1) (fun x y => firstWay x y (l.take (k + 1)) 0)) := by
       obtain ⟨D, ho, hf⟩ := K9.out.congr (g := fun x y => firstWay x y (l.take (k + 1)) 0) (fun a b => by
        rw [HF.out a b]
        cases ha : firstWay a b (l.take k) 0 with
        | some j => rfl
        | none =>
         rw [HW.out]
         by_cases hab : n0 = a ∧ n1 = b
         ·obtain ⟨rfl, rfl⟩ := hab; rw [hfw] at ha; cases ha
         ·have : (eqS n0 a && eqS n1 b) = false := by
           rw [Bool.eq_false_iff]; intro h; rw [Bool.and_eq_true, eqS_iff, eqS_iff] at h; exact hab h
          rw [this]; rfl)
       exact ⟨D, ho.mono (Nat.le_succ _), hf⟩
      clear hfw
      go_wp2_with (first
       | (at_lookup; refine wpList_lookup_own_ok_int _ rfl _ _ 109 rfl 114 3 .i64 keyWay Tryz.underlying109 Tryz.underlying3 (zeroInt _) w.heap.size k _ rfl hown _ _ rfl hkey ?_; intro c hat hwc; rw [HH2.out])
       | fail)
      go_roundw
      case rel => exact ⟨k + 1, hl, by go_num, HK, B9.out⟩
      case measure => simp [intOf]; omega
     | none =>
      have HH2 : Hid (Maps.has D lt = false) := by show _ = _; rw [HH.out, hfw]; rfl
      have HPU : Hid (∀ w10 : World, w10.ownsMap Tryz.prog 114 (plainElem Tryz.prog 3) w.heap.size (k + 1) (D.put lt (.lit (.int .i64 (k : Int)))) → LinksAt w10 w.heap.size (k + 1) (fun x y => firstWay x y (l.take (k + 1)) 0)) := by
       intro w10 ho;refine (links_put ho HOW.out.isMap HKY.out HK2.out).congr fun a b => ?_
       rw [HF.out a b, HW.out]
       by_cases hab : a = n0 ∧ b = n1
       ·obtain ⟨rfl, rfl⟩ := hab
        have : (eqS a a && eqS b b) = true := by rw [Bool.and_eq_true, eqS_iff, eqS_iff]; exact ⟨rfl, rfl⟩
        rw [hfw, this]; simp
       ·have : (eqS n0 a && eqS n1 b) = false := by
         rw [Bool.eq_false_iff]; intro h; rw [Bool.and_eq_true, eqS_iff, eqS_iff] at h; exact hab ⟨h.1.symm, h.2.symm⟩
        rw [this, if_neg hab]
        cases firstWay a b (l.take k) 0 <;> rfl
      have hwf : plainElem (H := Unit) Tryz.prog 3 (.int .i64 (k : Int)) = some (.lit (.int .i64 (k : Int)), []) := plainElem_int Tryz.underlying3 (by
       have h1 := HN.out; have h2 := hl
       have e1 : IntKind.i64.min = -9223372036854775808 := by decide
       have e2 : IntKind.i64.max = 9223372036854775807 := by decide
       simp only [Lit.wf, e1, e2, Bool.and_eq_true, decide_eq_true_eq]; omega)
      have hkm : k < maxLen := by have := HN.out; unfold maxLen; omega
      clear hfw
      go_wp2_with (first
       | (at_lookup; refine wpList_lookup_own_ok_int _ rfl _ _ 109 rfl 114 3 .i64 keyWay Tryz.underlying109 Tryz.underlying3 (zeroInt _) w.heap.size k _ rfl hown _ _ rfl hkey ?_; intro c hat hwc; rw [HH2.out])
       | (at_mapUpdate; refine wpList_mapUpdate_own _ rfl _ _ _ 109 rfl 114 3 keyWay Tryz.underlying109 (plainElem Tryz.prog 3) w.heap.size k _ rfl hown hkm _ _ _ rfl rfl hkey _ [] hwf ?_; intro w10 hown1 hgrow1)
       | fail)
      have HKN := Lib.hid (HPU.out w10 hown1);have B10 := Lib.hid (B9.out.grown hgrow1 B9.out.size (fun j e => by cases e; exact Nat.le_refl _));clear hown1 hgrow1;go_wp2_with fail
      go_roundw
      case rel => exact ⟨k + 1, hl, by go_num, HKN, B10.out⟩
      case measure => simp [intOf]; omega
  ·have HE : Hid (LinksAt wr w.heap.size l.length (fun x y => firstWay x y l 0)) := by
    have hkl : k = l.length := by omega
    subst hkl;exact hlk.out.congr (fun _ _ => by rw [List.take_length])
   go_wp2_with fail
   go_ret
   exact ⟨_, rfl, Nat.le_refl _, HE.out, hbel⟩
end Go.Proofs.YtcmlojigcgihbaaGreatDoor
