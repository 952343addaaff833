/- The reference's LevelAt, At, Reach and search. -/
import Derived.Test.YtdnipbeggcfnbaaWay6
import Derived.Test.YtdnipbeggcfnbaaLvR
namespace Go.Proofs.Ytdnipbeggcfnbaa
open Go.RowKit

theorem levelAt_ref (F T S Dl Tm k t : Int) (sv : Value) (l : List (Int × Int)) (w : World) (h : PtsAny w sv l) (hc : ckFade F T S Dl Tm k l = 0) (t0 : 0 ≤ t) (t1 : t ≤ 36000000) :
    Calls Try.prog 63 #[.agg #[.int .i64 F, .int .i64 T, .int .i64 S, .int .i64 Dl, .int .i64 Tm, .int .i64 k, sv], .int .i64 t] w fun e w' => e = .returned (.int .i64 (fadeAt F T S Dl Tm k l t)) ∧ Bl w w' :=
  levelAt_ref0 F T S Dl Tm k t sv l w h hc (fun w' v p q g hv p0 p1 q0 q1 => way_any k sv l v p q w' (h.bl g) (okFade_of hc).2 hv p0 p1 q0 q1) t0 t1
theorem at_ref (F T S Dl Tm k t : Int) (sv : Value) (l : List (Int × Int)) (w : World) (h : PtsAny w sv l) :
    Calls Try.prog 31 #[.agg #[.int .i64 F, .int .i64 T, .int .i64 S, .int .i64 Dl, .int .i64 Tm, .int .i64 k, sv], .int .i64 t] w fun e w' => e = .returned (.tuple #[.int .i64 (atA F T S Dl Tm k l t), .int .i64 (atX F T S Dl Tm k l t)]) ∧ Bl w w' :=
  at_ref0 F T S Dl Tm k t sv l w h (fun hc w' t g t0 t1 => levelAt_ref F T S Dl Tm k t sv l w' (h.bl g) hc t0 t1)
theorem first_ref (F T S Dl Tm k lo hi n : Int) (sv : Value) (l : List (Int × Int)) (w : World) (h : PtsAny w sv l) (hc : ckFade F T S Dl Tm k l = 0) (lo0 : 0 ≤ lo) (hlh : lo ≤ hi) (hi1 : hi ≤ 36000000) :
    Calls Try.prog 68 #[.agg #[.int .i64 F, .int .i64 T, .int .i64 S, .int .i64 Dl, .int .i64 Tm, .int .i64 k, sv], .int .i64 lo, .int .i64 hi, .int .i64 n] w fun e w' => e = .returned (.int .i64 (fstP (fun t => rchB F T n (fadeAt F T S Dl Tm k l t)) lo hi)) ∧ Bl w w' :=
  first_ref0 F T S Dl Tm k lo hi n sv l w h hc (fun w' t g t0 t1 => levelAt_ref F T S Dl Tm k t sv l w' (h.bl g) hc t0 t1) lo0 hlh hi1
theorem reach_ref (F T S Dl Tm k n : Int) (sv : Value) (l : List (Int × Int)) (w : World) (h : PtsAny w sv l) :
    Calls Try.prog 37 #[.agg #[.int .i64 F, .int .i64 T, .int .i64 S, .int .i64 Dl, .int .i64 Tm, .int .i64 k, sv], .int .i64 n] w fun e w' => e = .returned (.tuple #[.int .i64 (reV F T S Dl Tm k l n), .bool (reB F T S Dl Tm k l n), .int .i64 (reX F T S Dl Tm k l n)]) ∧ Bl w w' :=
  reach_ref0 F T S Dl Tm k n sv l w h (fun hc w' t g t0 t1 => levelAt_ref F T S Dl Tm k t sv l w' (h.bl g) hc t0 t1)
end Go.Proofs.Ytdnipbeggcfnbaa
