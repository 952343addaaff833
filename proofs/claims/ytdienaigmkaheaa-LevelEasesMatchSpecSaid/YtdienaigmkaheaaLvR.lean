/- The reference's LevelAt, At and Reach, where its Way is known. -/
import Derived.Test.YtdienaigmkaheaaFirR
import Derived.Test.YtdienaigmkaheaaWayR
import Derived.Test.YtdienaigmkaheaaMixF
namespace Go.Proofs.Ytdienaigmkaheaa
open Go.RowKit

theorem mix_good (a b : Int) (v : Value) (N D : Int) (w : World) (hg : GoodFr w v N D) (hD : 0 < D) (a0 : 0 ≤ a) (a1 : a ≤ 65535) (b0 : 0 ≤ b) (b1 : b ≤ 65535) :
    Calls Try.prog 26 #[.int .i64 a, .int .i64 b, v] w fun e w' => e = .returned (.int .i64 (btw N D a b)) ∧ Bl w w' := by
  obtain ⟨P, Q, hf, p0, p1, q1, he⟩ := hg
  have q0 : 0 < Q := by obtain ⟨_, _, _, _, _, _, _, _, _, _, h, _⟩ := hf; exact h
  have := mix_ref a b v P Q w hf a0 a1 b0 b1 p0 p1 q1
  rwa [mix_btw q0 hD he] at this

end Go.Proofs.Ytdienaigmkaheaa
