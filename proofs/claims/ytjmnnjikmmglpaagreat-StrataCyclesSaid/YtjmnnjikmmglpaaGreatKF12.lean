/-
  LgSlg
-/
import Derived.Test.YtjmnnjikmmglpaaGreatKF04
namespace Go.Proofs.YtjmnnjikmmglpaaGreat
open Go.RowKit
theorem lg_of_slg {S : Nat → Prop} {w : World} {l : List V} {v : Value} (h : SlG S w 4 56 (fun x c => RepG S w x (c 0) (c 1) (c 2) (c 3)) l v) : RepLG S w l v := by
 obtain ⟨a, b, o, cap, e, h1, h2, h3, h4, h5⟩ := h
 exact ⟨a, b, o, cap, e, h1, h2, h3, h4, fun i hi => by
  obtain ⟨c, hc, hr⟩ := h5 i hi
  exact ⟨c 0, c 1, c 2, c 3, hc 0 (by omega), hc 1 (by omega), hc 2 (by omega), hc 3 (by omega), hr⟩⟩
end Go.Proofs.YtjmnnjikmmglpaaGreat
