/- The reference's fades: IsTime, CheckFade, Ends. -/
import Derived.Test.YtdnipbeggcfnbaaRefC
import Derived.Test.YtdnipbeggcfnbaaFadeM
import Derived.Test.YtdnipbeggcfnbaaAt
namespace Go.Proofs.Ytdnipbeggcfnbaa
open Go.RowKit

set_option maxHeartbeats 400000 in
theorem isTime_ref (n : Int) (w : World) :
    Calls Try.prog 62 #[.int .i64 n] w fun e w' => e = .returned (.bool (isTm n)) ∧ w = w' := by
  go_enter Try.func62, Try.ntmps62
  go_wp2_with fail
  refine (within_any n 0 36000000 _).mono ?_
  rintro e w' ⟨rfl, rfl⟩
  go_wp2_with fail
  go_returns
  exact ⟨rfl, rfl⟩

theorem own7b {W W' : World} {n : Nat} {a b c d x y z : Value} {t : TypeId} (hn : n = W.heap.size) (h : Bl (W.alloc (.cells #[a, b, c, d, x, y, z] t)) W') :
    W'.cell? ⟨n, 0, none⟩ = some a ∧ W'.cell? ⟨n, 1, none⟩ = some b ∧ W'.cell? ⟨n, 2, none⟩ = some c ∧ W'.cell? ⟨n, 3, none⟩ = some d ∧ W'.cell? ⟨n, 4, none⟩ = some x ∧ W'.cell? ⟨n, 5, none⟩ = some y ∧ W'.cell? ⟨n, 6, none⟩ = some z := by
  subst hn
  exact ⟨h.cell (by simp), h.cell (by simp), h.cell (by simp), h.cell (by simp), h.cell (by simp), h.cell (by simp), h.cell (by simp)⟩

set_option maxRecDepth 100000 in
set_option maxHeartbeats 3200000 in
theorem checkFade_ref (F T S Dl Tm k : Int) (sv : Value) (l : List (Int × Int)) (w : World) (h : PtsAny w sv l) :
    Calls Try.prog 33 #[.agg #[.int .i64 F, .int .i64 T, .int .i64 S, .int .i64 Dl, .int .i64 Tm, .int .i64 k, sv]] w (PCk (ckFade F T S Dl Tm k l) w) := by
  obtain ⟨o, n, cap, hsv⟩ : ∃ o n cap, sv = .slice o n cap := by
    rcases h with ⟨o, cap, rfl, rfl⟩ | ⟨b, off, cap, rfl, h2, h3⟩
    · exact ⟨_, _, _, rfl⟩
    · exact ⟨_, _, _, rfl⟩
  have HC := Lib.hid (fun w' (g : Bl w w') => checkCurve_ref k sv l w' (h.bl g))
  clear h
  subst hsv
  have cF := fun w => isLevel_ref F w
  cases hF : isLev F with
  | false =>
    have e : Hid (ckFade F T S Dl Tm k l = 1) := by show ckFade F T S Dl Tm k l = 1; unfold ckFade; rw [if_pos (by rw [hF]; rfl)]
    rw [hF] at cF
    have HF := Lib.hid cF
    clear cF hF
    go_enter Try.func33, Try.ntmps33
    go_wp2_with fail
    refine (HF.out _).mono ?_
    rintro e' w1 ⟨rfl, rfl⟩
    go_wp2_with fail
    go_returns
    exact ⟨ret_int e.out.symm, (Bl.refl w).alloc _⟩
  | true =>
  rw [hF] at cF
  have HF := Lib.hid cF
  have eF := Lib.hid hF
  clear cF hF
  have cT := fun w => isLevel_ref T w
  cases hT : isLev T with
  | false =>
    have e : Hid (ckFade F T S Dl Tm k l = 1) := by show ckFade F T S Dl Tm k l = 1; unfold ckFade; rw [if_pos (by rw [eF.out, hT]; rfl)]
    rw [hT] at cT
    have HT := Lib.hid cT
    clear cT hT
    go_enter Try.func33, Try.ntmps33
    go_wp2_with fail
    refine (HF.out _).mono ?_
    rintro e' w1 ⟨rfl, rfl⟩
    go_wp2_with fail
    refine (HT.out _).mono ?_
    rintro e' w1 ⟨rfl, rfl⟩
    go_wp2_with fail
    go_returns
    exact ⟨ret_int e.out.symm, (Bl.refl w).alloc _⟩
  | true =>
  rw [hT] at cT
  have HT := Lib.hid cT
  have eT := Lib.hid hT
  clear cT hT
  have cS := fun w => isTime_ref S w
  cases hS : isTm S with
  | false =>
    have e : Hid (ckFade F T S Dl Tm k l = 1) := by show ckFade F T S Dl Tm k l = 1; unfold ckFade; rw [if_neg (by rw [eF.out, eT.out]; decide), if_pos (by rw [hS]; simp)]
    rw [hS] at cS
    have HS := Lib.hid cS
    clear cS hS
    go_enter Try.func33, Try.ntmps33
    go_wp2_with fail
    refine (HF.out _).mono ?_
    rintro e' w1 ⟨rfl, rfl⟩
    go_wp2_with fail
    refine (HT.out _).mono ?_
    rintro e' w1 ⟨rfl, rfl⟩
    go_wp2_with fail
    refine (HS.out _).mono ?_
    rintro e' w1 ⟨rfl, rfl⟩
    go_wp2_with fail
    go_returns
    exact ⟨ret_int e.out.symm, (Bl.refl w).alloc _⟩
  | true =>
  rw [hS] at cS
  have HS := Lib.hid cS
  have eS := Lib.hid hS
  obtain ⟨bS0, bS1⟩ := isTm_iff.1 hS
  clear cS hS
  have cDl := fun w => isTime_ref Dl w
  cases hDl : isTm Dl with
  | false =>
    have e : Hid (ckFade F T S Dl Tm k l = 1) := by show ckFade F T S Dl Tm k l = 1; unfold ckFade; rw [if_neg (by rw [eF.out, eT.out]; decide), if_pos (by rw [eS.out, hDl]; simp)]
    rw [hDl] at cDl
    have HDl := Lib.hid cDl
    clear cDl hDl
    go_enter Try.func33, Try.ntmps33
    go_wp2_with fail
    refine (HF.out _).mono ?_
    rintro e' w1 ⟨rfl, rfl⟩
    go_wp2_with fail
    refine (HT.out _).mono ?_
    rintro e' w1 ⟨rfl, rfl⟩
    go_wp2_with fail
    refine (HS.out _).mono ?_
    rintro e' w1 ⟨rfl, rfl⟩
    go_wp2_with fail
    refine (HDl.out _).mono ?_
    rintro e' w1 ⟨rfl, rfl⟩
    go_wp2_with fail
    go_returns
    exact ⟨ret_int e.out.symm, (Bl.refl w).alloc _⟩
  | true =>
  rw [hDl] at cDl
  have HDl := Lib.hid cDl
  have eDl := Lib.hid hDl
  obtain ⟨bDl0, bDl1⟩ := isTm_iff.1 hDl
  clear cDl hDl
  have cTm := fun w => isTime_ref Tm w
  cases hTm : isTm Tm with
  | false =>
    have e : Hid (ckFade F T S Dl Tm k l = 1) := by show ckFade F T S Dl Tm k l = 1; unfold ckFade; rw [if_neg (by rw [eF.out, eT.out]; decide), if_pos (by rw [eS.out, eDl.out, hTm]; simp)]
    rw [hTm] at cTm
    have HTm := Lib.hid cTm
    clear cTm hTm
    go_enter Try.func33, Try.ntmps33
    go_wp2_with fail
    refine (HF.out _).mono ?_
    rintro e' w1 ⟨rfl, rfl⟩
    go_wp2_with fail
    refine (HT.out _).mono ?_
    rintro e' w1 ⟨rfl, rfl⟩
    go_wp2_with fail
    refine (HS.out _).mono ?_
    rintro e' w1 ⟨rfl, rfl⟩
    go_wp2_with fail
    refine (HDl.out _).mono ?_
    rintro e' w1 ⟨rfl, rfl⟩
    go_wp2_with fail
    refine (HTm.out _).mono ?_
    rintro e' w1 ⟨rfl, rfl⟩
    go_wp2_with fail
    go_returns
    exact ⟨ret_int e.out.symm, (Bl.refl w).alloc _⟩
  | true =>
  rw [hTm] at cTm
  have HTm := Lib.hid cTm
  have eTm := Lib.hid hTm
  obtain ⟨bTm0, bTm1⟩ := isTm_iff.1 hTm
  clear cTm hTm
  have cE := fun w => isTime_ref (S + Dl + Tm) w
  cases hE : isTm (S + Dl + Tm) with
  | false =>
    have e : Hid (ckFade F T S Dl Tm k l = 1) := by show ckFade F T S Dl Tm k l = 1; unfold ckFade; rw [if_neg (by rw [eF.out, eT.out]; decide), if_pos (by rw [eS.out, eDl.out, eTm.out, hE]; simp)]
    rw [hE] at cE
    have HE := Lib.hid cE
    clear cE hE
    go_enter Try.func33, Try.ntmps33
    go_wp2_with fail
    refine (HF.out _).mono ?_
    rintro e' w1 ⟨rfl, rfl⟩
    go_wp2_with fail
    refine (HT.out _).mono ?_
    rintro e' w1 ⟨rfl, rfl⟩
    go_wp2_with fail
    refine (HS.out _).mono ?_
    rintro e' w1 ⟨rfl, rfl⟩
    go_wp2_with fail
    refine (HDl.out _).mono ?_
    rintro e' w1 ⟨rfl, rfl⟩
    go_wp2_with fail
    refine (HTm.out _).mono ?_
    rintro e' w1 ⟨rfl, rfl⟩
    go_wp2_with fail
    refine (HE.out _).mono ?_
    rintro e' w1 ⟨rfl, rfl⟩
    go_wp2_with fail
    go_returns
    exact ⟨ret_int e.out.symm, (Bl.refl w).alloc _⟩
  | true =>
  rw [hE] at cE
  have HE := Lib.hid cE
  have eE := Lib.hid hE
  clear cE hE
  have e : Hid (ckFade F T S Dl Tm k l = ckCurve k l) := by show _ = _; unfold ckFade; rw [if_neg (by rw [eF.out, eT.out]; decide), if_neg (by rw [eS.out, eDl.out, eTm.out, eE.out]; decide)]
  go_enter Try.func33, Try.ntmps33
  go_wp2_with fail
  refine (HF.out _).mono ?_
  rintro e' w1 ⟨rfl, rfl⟩
  go_wp2_with fail
  refine (HT.out _).mono ?_
  rintro e' w1 ⟨rfl, rfl⟩
  go_wp2_with fail
  refine (HS.out _).mono ?_
  rintro e' w1 ⟨rfl, rfl⟩
  go_wp2_with fail
  refine (HDl.out _).mono ?_
  rintro e' w1 ⟨rfl, rfl⟩
  go_wp2_with fail
  refine (HTm.out _).mono ?_
  rintro e' w1 ⟨rfl, rfl⟩
  go_wp2_with fail
  refine (HE.out _).mono ?_
  rintro e' w1 ⟨rfl, rfl⟩
  go_wp2_with fail
  refine (HC.out _ ((Bl.refl w).alloc _)).mono ?_
  rintro e' w1 ⟨rfl, g1⟩
  go_wp2_with fail
  go_returns
  exact ⟨ret_int e.out.symm, ((Bl.refl w).alloc _).trans g1⟩


/-- What Ends says. -/
def enV (F T S Dl Tm k : Int) (l : List (Int × Int)) : Int := if ckFade F T S Dl Tm k l ≠ 0 then 0 else S + Dl + Tm

set_option maxHeartbeats 1600000 in
theorem ends_ref (F T S Dl Tm k : Int) (sv : Value) (l : List (Int × Int)) (w : World) (h : PtsAny w sv l) :
    Calls Try.prog 35 #[.agg #[.int .i64 F, .int .i64 T, .int .i64 S, .int .i64 Dl, .int .i64 Tm, .int .i64 k, sv]] w fun e w' => e = .returned (.tuple #[.int .i64 (enV F T S Dl Tm k l), .int .i64 (ckFade F T S Dl Tm k l)]) ∧ Bl w w' := by
  have HC := fun w1 (g : Bl w w1) => checkFade_ref F T S Dl Tm k sv l w1 (h.bl g)
  unfold PCk at HC
  obtain ⟨o, ln, cap, hsv⟩ : ∃ o n cap, sv = .slice o n cap := by
    rcases h with ⟨o, cap, rfl, rfl⟩ | ⟨b, off, cap, rfl, h2, h3⟩
    · exact ⟨_, _, _, rfl⟩
    · exact ⟨_, _, _, rfl⟩
  by_cases hc : ckFade F T S Dl Tm k l = 0
  · rw [hc] at HC
    have HC := Lib.hid HC
    have e := Lib.hid (And.intro (show enV F T S Dl Tm k l = S + Dl + Tm by unfold enV; rw [if_neg (by simpa using hc)]) hc)
    obtain ⟨⟨_, _, _, _, s0, s1, d0, d1, m0, m1, _, _⟩, _⟩ := okFade_of hc
    clear h hc
    subst hsv
    go_enter Try.func35, Try.ntmps35
    go_wp2_with fail
    refine (HC.out _ ((Bl.refl w).alloc _)).mono ?_
    rintro e' w1 ⟨rfl, g1⟩
    obtain ⟨k0, k1, k2, k3, k4, k5, k6⟩ := own7b rfl g1
    go_wp2_with fail
    go_returns
    exact ⟨by rw [e.out.1, e.out.2]; rfl, ((Bl.refl w).alloc _).trans g1⟩
  · have e : Hid (enV F T S Dl Tm k l = 0) := by show _ = _; unfold enV; rw [if_pos hc]
    generalize hcc : ckFade F T S Dl Tm k l = cc at *
    have hb : (cc != 0) = true := by simpa using hc
    have HC := Lib.hid HC
    clear h hc hcc
    subst hsv
    go_enter Try.func35, Try.ntmps35
    go_wp2_with fail
    refine (HC.out _ ((Bl.refl w).alloc _)).mono ?_
    rintro e' w1 ⟨rfl, g1⟩
    go_wp2_with fail
    go_returns
    exact ⟨by rw [e.out]; rfl, ((Bl.refl w).alloc _).trans g1⟩

set_option maxHeartbeats 1600000 in
theorem ends_prog (F T S Dl Tm k : Int) (sv : Value) (l : List (Int × Int)) (w : World) (h : PtsAny w sv l) :
    Calls Try.prog 34 #[.agg #[.int .i64 F, .int .i64 T, .int .i64 S, .int .i64 Dl, .int .i64 Tm, .int .i64 k, sv]] w fun e w' => e = .returned (.tuple #[.int .i64 (enV F T S Dl Tm k l), .int .i64 (ckFade F T S Dl Tm k l)]) ∧ Bl w w' := by
  have HC := fun w1 (g : Bl w w1) => checkFade_any F T S Dl Tm k sv l w1 (h.bl g)
  obtain ⟨o, ln, cap, hsv⟩ : ∃ o n cap, sv = .slice o n cap := by
    rcases h with ⟨o, cap, rfl, rfl⟩ | ⟨b, off, cap, rfl, h2, h3⟩
    · exact ⟨_, _, _, rfl⟩
    · exact ⟨_, _, _, rfl⟩
  by_cases hc : ckFade F T S Dl Tm k l = 0
  · rw [hc] at HC
    have HC := Lib.hid HC
    have e := Lib.hid (And.intro (show enV F T S Dl Tm k l = S + Dl + Tm by unfold enV; rw [if_neg (by simpa using hc)]) hc)
    obtain ⟨⟨_, _, _, _, s0, s1, d0, d1, m0, m1, _, _⟩, _⟩ := okFade_of hc
    have HE := Lib.hid (fun w1 => end_any F T S Dl Tm k sv w1 s0 s1 d0 d1 m0 m1)
    clear h hc
    subst hsv
    go_enter Try.func34, Try.ntmps34
    go_wp2_with fail
    refine (HC.out _ ((Bl.refl w).alloc _)).mono ?_
    rintro e' w1 ⟨rfl, g1⟩
    obtain ⟨k0, k1, k2, k3, k4, k5, k6⟩ := own7b rfl g1.bl
    go_wp2_with fail
    refine (HE.out _).mono ?_
    rintro e' w2 ⟨rfl, rfl⟩
    go_wp2_with fail
    go_returns
    exact ⟨by rw [e.out.1, e.out.2]; rfl, (((Bl.refl w).alloc _).trans g1.bl).alloc _⟩
  · have e : Hid (enV F T S Dl Tm k l = 0) := by show _ = _; unfold enV; rw [if_pos hc]
    generalize hcc : ckFade F T S Dl Tm k l = cc at *
    have hb : (cc != 0) = true := by simpa using hc
    have HC := Lib.hid HC
    clear h hc hcc
    subst hsv
    go_enter Try.func34, Try.ntmps34
    go_wp2_with fail
    refine (HC.out _ ((Bl.refl w).alloc _)).mono ?_
    rintro e' w1 ⟨rfl, g1⟩
    go_wp2_with fail
    go_returns
    exact ⟨by rw [e.out]; rfl, ((Bl.refl w).alloc _).trans g1.bl⟩

set_option maxHeartbeats 800000 in
theorem reached_ref (F T S Dl Tm k a n : Int) (sv : Value) (o : Option Addr) (ln cap : Nat) (hsv : sv = .slice o ln cap) (w : World) :
    Calls Try.prog 67 #[.agg #[.int .i64 F, .int .i64 T, .int .i64 S, .int .i64 Dl, .int .i64 Tm, .int .i64 k, sv], .int .i64 a, .int .i64 n] w fun e w' => e = .returned (.bool (rchB F T n a)) ∧ Bl w w' := by
  subst hsv
  by_cases h1 : F < T
  · have e : Hid (rchB F T n a = decide (n ≤ a)) := by show _ = _; unfold rchB; rw [if_pos h1]
    go_enter Try.func67, Try.ntmps67
    go_wp2
    go_returns
    exact ⟨ret_bool e.out.symm, (Bl.refl w).alloc _⟩
  by_cases h2 : T < F
  · have e : Hid (rchB F T n a = decide (a ≤ n)) := by show _ = _; unfold rchB; rw [if_neg h1, if_pos h2]
    go_enter Try.func67, Try.ntmps67
    go_wp2
    go_returns
    exact ⟨ret_bool e.out.symm, (Bl.refl w).alloc _⟩
  · have e : Hid (rchB F T n a = (a == n)) := by show _ = _; unfold rchB; rw [if_neg h1, if_neg h2]; rfl
    go_enter Try.func67, Try.ntmps67
    go_wp2
    go_returns
    exact ⟨ret_bool e.out.symm, (Bl.refl w).alloc _⟩

end Go.Proofs.Ytdnipbeggcfnbaa
