/- slices.Equal of rows of pairs: Point. -/
import Derived.Test.YtfeeolfekfkdiaaDoorBox
namespace Go.Proofs.YtfeeolfekfkdiaaDoor
open Go.RowKit

theorem eqPt_nil (o1 o2 : Option Addr) (c1 c2 : Nat) (w : World) :
    Calls Tryd.prog 62 #[.slice o1 0 c1, .slice o2 0 c2] w fun e w' => e = .returned (.bool true) ∧ Bl w w' := by
  go_enter Tryd.func62, Tryd.ntmps62
  go_wp2
  refine wp_loop_rounds 1 ?_
  rw [rounds_succ]
  go_wp2
  go_ret
  exact ⟨rfl, Bl.refl _⟩
set_option maxHeartbeats 1600000 in
theorem eqPt_pts (b1 off1 c1 b2 off2 c2 : Nat) (l : List (Int × Int)) (w : World) (h1 : Pts w b1 off1 l) (h2 : Pts w b2 off2 l) (hm : l.length ≤ 9223372036854775807) :
    Calls Tryd.prog 62 #[.slice (some ⟨b1, off1, none⟩) l.length c1, .slice (some ⟨b2, off2, none⟩) l.length c2] w fun e w' => e = .returned (.bool true) ∧ Bl w w' := by
  have H1 := Lib.hid h1
  have H2 := Lib.hid h2
  clear h1 h2
  go_enter Tryd.func62, Tryd.ntmps62
  go_wp2
  go_loopw [13] (fun v3 wr => ∃ k : Nat, k ≤ l.length ∧ v3 = .int .i64 k ∧ Bl w wr) (fun v3 _ => l.length - (intOf v3).toNat)
  case atStart => exact ⟨0, Nat.zero_le _, rfl, Bl.refl _⟩
  case round =>
    obtain ⟨k, hk, rfl, hb⟩ := hrel
    by_cases hlt : k < l.length
    · obtain ⟨t, v, ep⟩ : ∃ t v, l[k]?.getD (0, 0) = (t, v) := ⟨_, _, rfl⟩
      obtain ⟨a1, a2⟩ := (H1.out.bl hb) k hlt
      obtain ⟨a3, a4⟩ := (H2.out.bl hb) k hlt
      rw [ep] at a1 a2 a3 a4
      simp only at a1 a2 a3 a4
      have b1 : (0 : Int) ≤ (k : Int) := by omega
      have b2 : (k : Int) < (l.length : Int) := by omega
      clear ep
      go_wp2_with fail
      go_quiet (fail)
      go_wp2
      go_roundw
      case rel => exact ⟨k + 1, by omega, by go_num, hb.drewN _⟩
      case measure => simp [intOf]; omega
    · obtain rfl : k = l.length := by omega
      go_wp2
      go_returns
      exact ⟨rfl, hb⟩
theorem eqPt (v1 v2 : Value) (l : List (Int × Int)) (w : World) (h1 : PtsAny w v1 l) (h2 : PtsAny w v2 l) :
    Calls Tryd.prog 62 #[v1, v2] w fun e w' => e = .returned (.bool true) ∧ Bl w w' := by
  rcases h1 with ⟨o1, c1, rfl, rfl⟩ | ⟨b1, off1, c1, rfl, h1, hm⟩
  · rcases h2 with ⟨o2, c2, rfl, _⟩ | ⟨b2, off2, c2, rfl, h2, _⟩
    · exact eqPt_nil o1 o2 c1 c2 w
    · exact eqPt_nil o1 _ c1 c2 w
  · rcases h2 with ⟨o2, c2, rfl, rfl⟩ | ⟨b2, off2, c2, rfl, h2, _⟩
    · exact eqPt_nil _ o2 c1 c2 w
    · exact eqPt_pts b1 off1 c1 b2 off2 c2 l w h1 h2 hm
end Go.Proofs.YtfeeolfekfkdiaaDoor
