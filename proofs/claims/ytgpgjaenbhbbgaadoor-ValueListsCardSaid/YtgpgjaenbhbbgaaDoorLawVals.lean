/-
  ValueLists: for every two lists and two values the law returns true: a list comes ahead of one that goes on behind it; else their first unlike elements tell.
-/
import Derived.Test.YtgpgjaenbhbbgaaDoorLawValsA
import Derived.Test.YtgpgjaenbhbbgaaDoorLawValsB
namespace Go.Proofs.YtgpgjaenbhbbgaaDoor.valueLists
open Go.ChangeShapes Go.WideShapes Go.ChangeAt Go.RowKit

theorem walk (l : List V) (a b : V) (more : List V) (W : World) (v c0 c1 c2 c3 d0 d1 d2 d3 u : Value) (htab : TabOk W) (hl : RepL W.heap.size W l v) (hln : l.length * 56 ≤ 140737488351232) (ha : RepV W.heap.size W a c0 c1 c2 c3) (hb : RepV W.heap.size W b d0 d1 d2 d3) (hm : RepL W.heap.size W more u) (hmn : more.length * 56 ≤ 140737488351232) :
    Calls Tryd.prog 3 #[v, .agg #[c0, c1, c2, c3], .agg #[d0, d1, d2, d3], u] W fun e W' => e = .returned (.bool true) ∧ Below W.heap.size W W' := by
  by_cases h : l.length ≤ 15
  · exact walk_short l a b more W v c0 c1 c2 c3 d0 d1 d2 d3 u htab hl hln ha hb hm hmn h
  · exact walk_long l a b more W v c0 c1 c2 c3 d0 d1 d2 d3 u htab hl hln ha hb hm hmn (by omega)

end Go.Proofs.YtgpgjaenbhbbgaaDoor.valueLists
