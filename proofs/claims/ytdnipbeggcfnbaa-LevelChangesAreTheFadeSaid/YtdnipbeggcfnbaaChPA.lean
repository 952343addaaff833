/- Changes of the program, for any fade. -/
import Derived.Test.YtdnipbeggcfnbaaChP
namespace Go.Proofs.Ytdnipbeggcfnbaa
open Go.RowKit

set_option maxHeartbeats 1600000 in
theorem changes_prog (F T S Dl Tm k : Int) (sv : Value) (l : List (Int × Int)) (w : World) (h : PtsAny w sv l) :
    Calls Try.prog 38 #[.agg #[.int .i64 F, .int .i64 T, .int .i64 S, .int .i64 Dl, .int .i64 Tm, .int .i64 k, sv]] w fun e w' => ∃ v, e = .returned (.tuple #[v, .int .i64 (csX F T S Dl Tm k l)]) ∧ PtsAny w' v (csL F T S Dl Tm k l) ∧ Bl w w' := by
  by_cases hc : ckFade F T S Dl Tm k l = 0
  · exact changes_ok F T S Dl Tm k sv l w h hc
  · have HC := fun w1 (g : Bl w w1) => checkFade_any F T S Dl Tm k sv l w1 (h.bl g)
    have e := Lib.hid (cs_ck hc)
    obtain ⟨o, ln, cap, hsv⟩ : ∃ o n cap, sv = .slice o n cap := by
      rcases h with ⟨o, cap, rfl, rfl⟩ | ⟨b, off, cap, rfl, h2, h3⟩
      · exact ⟨_, _, _, rfl⟩
      · exact ⟨_, _, _, rfl⟩
    generalize hcc : ckFade F T S Dl Tm k l = cc at *
    have hb : (cc != 0) = true := by simpa using hc
    have HC := Lib.hid HC
    clear h hc hcc
    subst hsv
    go_enter Try.func38, Try.ntmps38
    go_wp2_with fail
    refine (HC.out _ ((Bl.refl w).alloc _)).mono ?_
    rintro e' w1 ⟨rfl, g1⟩
    go_wp2_with fail
    go_returns
    exact ⟨.slice none 0 0, by rw [e.out.2]; rfl, by rw [e.out.1]; exact Or.inl ⟨_, _, rfl, rfl⟩, ((Bl.refl w).alloc _).trans g1.bl⟩
end Go.Proofs.Ytdnipbeggcfnbaa
