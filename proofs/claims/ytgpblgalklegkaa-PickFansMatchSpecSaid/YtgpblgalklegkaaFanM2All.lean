/- PickFansMatchSpec is proved: CheckFan and Levels answer as the reference does, for all fans and numbers of units, with no condition. -/
import Derived.Test.YtgpblgalklegkaaRefC
import Derived.Test.YtgpblgalklegkaaRefL
import Derived.Test.YtgpblgalklegkaaFadeM
import Derived.Test.YtgpblgalklegkaaAt
import Derived.Test.YtgpblgalklegkaaEnds
import Derived.Test.YtgpblgalklegkaaCurves
import Derived.Test.YtgpblgalklegkaaMixF
import Derived.Test.YtgpblgalklegkaaSprP
import Derived.Deep.AppendLies
import Derived.Test.YtgpblgalklegkaaCkFanR
import Derived.Test.YtgpblgalklegkaaFanL
import Derived.Test.YtgpblgalklegkaaBl
import Derived.Test.YtgpblgalklegkaaShelf
import Derived.Deep.QuietTactic
import Derived.Test.YtgpblgalklegkaaGr
import Derived.ProofKit
import Derived.OpenShut
import Derived.Handy
import Derived.Deep.Slices
/- The reference's fades: IsTime, CheckFade, Ends. -/
namespace Go.Proofs.Ytgpblgalklegkaa
open Go.RowKit

/-- What Ends says. -/
def enV (F T S Dl Tm k : Int) (l : List (Int × Int)) : Int := if ckFade F T S Dl Tm k l ≠ 0 then 0 else S + Dl + Tm

end Go.Proofs.Ytgpblgalklegkaa

/- The search of the reference, for a level that is known to be given. -/
namespace Go.Proofs.Ytgpblgalklegkaa
open Go.RowKit

/-- What holds in the search. -/
structure FirRel (p : Int → Bool) (lo hi x y : Int) : Prop where
  a : lo ≤ x
  b : x ≤ y
  c : y ≤ hi
  d : y < hi → p y = true
  e : ∀ z, lo ≤ z → z < x → p z = false
def FirR (W : World) (p : Int → Bool) (lo hi : Int) (v1 v2 : Value) (wr : World) : Prop := ∃ x y : Int, v1 = .int .i64 x ∧ v2 = .int .i64 y ∧ FirRel p lo hi x y ∧ Bl W wr

end Go.Proofs.Ytgpblgalklegkaa

/- The reference's Way: of the curves without points. -/
namespace Go.Proofs.Ytgpblgalklegkaa
open Go.RowKit

/-- A part of the way, exactly. -/
def GoodFr (w : World) (v : Value) (N D : Int) : Prop := ∃ P Q, Fr w v P Q ∧ 0 ≤ P ∧ P ≤ Q ∧ Q < pw 4 ∧ P * D = N * Q
def PGood (N D : Int) (w : World) (e : Ending) (w' : World) : Prop := ∃ v, e = .returned v ∧ GoodFr w' v N D ∧ Bl w w'
theorem GoodFr.bl {w w' : World} {v : Value} {N D : Int} (h : GoodFr w v N D) (g : Bl w w') : GoodFr w' v N D := by
  obtain ⟨P, Q, h1, h2⟩ := h; exact ⟨P, Q, h1.bl g, h2⟩

/-- A curve and a fraction, by value, and a result. -/
theorem own25 (w : World) (tc t : TypeId) (k s a b c : Value) {W' : World} (h : Bl ((w.alloc (.cells #[k, s] tc)).alloc (.cells #[a, b, c] t)) W') :
    (W'.cell? ⟨w.heap.size, 0, none⟩ = some k ∧ W'.cell? ⟨w.heap.size, 1, none⟩ = some s) ∧ W'.cell? ⟨w.heap.size + 1, 0, none⟩ = some a ∧ W'.cell? ⟨w.heap.size + 1, 1, none⟩ = some b ∧ W'.cell? ⟨w.heap.size + 1, 2, none⟩ = some c :=
  ⟨box2 rfl (((Bl.refl _).alloc _).trans h), own3 (n := w.heap.size + 1) (by simp) h⟩

theorem q_bd {q : Int} (q0 : 1 ≤ q) (q1 : q ≤ 36000000) : 1 ≤ q * q ∧ q * q ≤ 1296000000000000 ∧ 1 ≤ q * q * (q * q) ∧ q * q * (q * q) ≤ 1679616000000000000000000000000 := by
  have h1 : 1 * 1 ≤ q * q := Int.mul_le_mul q0 q0 (by omega) (by omega)
  have h2 := sq_bd (q := q) (by omega) q1
  have h3 : 1 * 1 ≤ q * q * (q * q) := Int.mul_le_mul (by omega) (by omega) (by omega) (by omega)
  have h4 : q * q * (q * q) ≤ 1296000000000000 * 1296000000000000 := Int.mul_le_mul h2 h2 (by omega) (by omega)
  omega
theorem lt4 {N : Int} (h : N ≤ 100000000000000000000000000000000) : N < pw 4 ∧ N < pw 5 ∧ N < pw 6 := by
  have e : (100000000000000000000000000000000 : Int) < pw 4 ∧ pw 5 = 1000000000 * pw 4 ∧ pw 6 = 1000000000 * pw 5 := ⟨by decide, by rw [← pw_succ], by rw [← pw_succ]⟩
  omega

theorem good_done {w0 W W' : World} {n : Nat} {b : Bool} {t : TypeId} (hn : n = W.heap.size) (h : Bl (W.alloc (.cells #[.bool b, .slice none 0 0, .slice none 0 0] t)) W') (h0 : Bl w0 W) {neg : Bool} {o1 : Option Addr} {l1 c1 : Nat} {o2 : Option Addr} {l2 c2 : Nat} {N D : Int}
    (hg : GoodFr W' (.agg #[.bool neg, .slice o1 l1 c1, .slice o2 l2 c2]) N D) : PGood N D w0 (.returned (.agg #[.bool neg, .slice o1 l1 c1, .slice o2 l2 c2])) (set3 W' n (.bool neg) (.slice o1 l1 c1) (.slice o2 l2 c2)) := by
  obtain ⟨P, Q, ⟨ng, a1, a2, a3, a4, a5, a6, he, h1, h2, h3, h4⟩, hr⟩ := hg
  simp only [Value.agg.injEq, Array.mk.injEq, List.cons.injEq, Value.bool.injEq, Value.slice.injEq, and_true] at he
  obtain ⟨rfl, ⟨rfl, rfl, rfl⟩, ⟨rfl, rfl, rfl⟩⟩ := he
  exact ⟨_, rfl, ⟨P, Q, ⟨_, _, _, _, _, _, _, rfl, nat_set3 hn h h1 _ _ _, nat_set3 hn h h2 _ _ _, h3, h4⟩, hr⟩, set3_bl hn h h0 _ _ _⟩
theorem PGood.alloc {N D : Int} {w0 W : World} {e : Ending} (h : PGood N D w0 e W) (o : Obj) : PGood N D w0 e (W.alloc o) := by
  obtain ⟨v, he, hg, hb⟩ := h
  exact ⟨v, he, hg.bl ((Bl.refl W).alloc o), hb.alloc o⟩
theorem GoodFr.form {w : World} {v : Value} {N D : Int} (h : GoodFr w v N D) : ∃ (neg : Bool) (o1 : Option Addr) (l1 c1 : Nat) (o2 : Option Addr) (l2 c2 : Nat), v = .agg #[.bool neg, .slice o1 l1 c1, .slice o2 l2 c2] := by
  obtain ⟨P, Q, ⟨ng, a1, a2, a3, a4, a5, a6, he, _⟩, _⟩ := h; exact ⟨ng, a1, a2, a3, a4, a5, a6, he⟩
theorem Fr.form {w : World} {v : Value} {p q : Int} (h : Fr w v p q) : ∃ (neg : Bool) (o1 : Option Addr) (l1 c1 : Nat) (o2 : Option Addr) (l2 c2 : Nat), v = .agg #[.bool neg, .slice o1 l1 c1, .slice o2 l2 c2] := by
  obtain ⟨ng, a1, a2, a3, a4, a5, a6, he, _⟩ := h; exact ⟨ng, a1, a2, a3, a4, a5, a6, he⟩

end Go.Proofs.Ytgpblgalklegkaa

/- The reference's LevelAt, At and Reach, where its Way is known. -/
namespace Go.Proofs.Ytgpblgalklegkaa
open Go.RowKit

theorem mix_good (a b : Int) (v : Value) (N D : Int) (w : World) (hg : GoodFr w v N D) (hD : 0 < D) (a0 : 0 ≤ a) (a1 : a ≤ 65535) (b0 : 0 ≤ b) (b1 : b ≤ 65535) :
    Calls Try.prog 29 #[.int .i64 a, .int .i64 b, v] w fun e w' => e = .returned (.int .i64 (btw N D a b)) ∧ Bl w w' := by
  obtain ⟨P, Q, hf, p0, p1, q1, he⟩ := hg
  have q0 : 0 < Q := by obtain ⟨_, _, _, _, _, _, _, _, _, _, h, _⟩ := hf; exact h
  have := mix_ref a b v P Q w hf a0 a1 b0 b1 p0 p1 q1
  rwa [mix_btw q0 hD he] at this

end Go.Proofs.Ytgpblgalklegkaa

/- Spread of the reference. -/
namespace Go.Proofs.Ytgpblgalklegkaa
open Go.RowKit

/-- The first levels of a spread. -/
def spPre (l : List Int) (n : Int) (i : Nat) : List Int := (List.range i).map fun (j : Nat) => spAt l n (j : Int)
theorem spPre_next (l : List Int) (n : Int) (i : Nat) : spPre l n (i + 1) = spPre l n i ++ [spAt l n (i : Int)] := by unfold spPre; rw [List.range_succ, List.map_append]; rfl
theorem spPre_end (l : List Int) (n : Nat) : spPre l n n = spL l n := by unfold spPre spL; rw [Int.toNat_natCast]
theorem sp_at0 {l : List Int} {n i : Int} (h : i * ((l.length : Int) - 1) = 0) : spAt l n i = l[0]?.getD 0 := by
  unfold spAt
  have := spG_pos n
  rw [h, Int.zero_emod, Int.zero_ediv, btw_zero (by omega)]; rfl
def SqRel (W : World) (l : List Int) (N : Nat) (v8 v34 : Value) (wr : World) : Prop := ∃ i : Nat, v34 = .int .i64 i ∧ i ≤ N ∧ wr.ownsRow W.heap.size 3 1 v8 i ((spPre l N i).map (Value.int .i64)) ∧ Bl W wr
set_option maxRecDepth 100000 in
set_option maxHeartbeats 3200000 in
theorem spread_rok (b off cap : Nat) (l : List Int) (N : Nat) (w : World) (hcell : ∀ i, i < l.length → w.cell? ⟨b, off + i, none⟩ = some (.int .i64 (l[i]?.getD 0))) (h1 : l.length ≤ 2000) (h2 : l.all isLev = true) (h3 : 1 ≤ l.length) (h5 : N ≤ 2000) :
    Calls Try.prog 25 #[.slice (some ⟨b, off, none⟩) l.length cap, .int .i64 N] w (PSpr l N w) := by
  have e := Lib.hid (sp_good (n := (N : Int)) h1 h2 h3 (by omega) (by omega))
  have HC := Lib.hid hcell
  have HLV := Lib.hid (all_allLev h2)
  have HI := Lib.hid (fun i (hi : i < l.length) w' => show Calls Try.prog 20 #[.int .i64 (l[i]?.getD 0)] w' fun e w'' => e = .returned (.bool true) ∧ w' = w'' from by
    have := isLevel_ref (l[i]?.getD 0) w'
    rwa [all_allLev h2 i hi] at this)
  have HW := Lib.hid (fun w' => show Calls Try.prog 16 #[.int .i64 N, .int .i64 0, .int .i64 2000] w' fun e w'' => e = .returned (.bool true) ∧ w' = w'' from by
    have := within_any N 0 2000 w'
    rwa [show (decide ((0 : Int) ≤ (N : Int)) && decide ((N : Int) ≤ 2000)) = true by simp; omega] at this)
  have hl0 : ((l.length : Int) == 0) = false := beq_eq_false_iff_ne.2 (by omega)
  clear h2 hcell
  unfold PSpr
  go_enter Try.func25, Try.ntmps25
  go_wp2_with fail
  go_loopw [22] (fun v22 wr => ∃ k : Nat, k ≤ l.length ∧ v22 = .int .i64 k ∧ Bl w wr) (fun v22 _ => l.length - (intOf v22).toNat)
  case atStart => exact ⟨0, Nat.zero_le _, rfl, Bl.refl _⟩
  case round =>
    obtain ⟨k, hk, rfl, hb⟩ := hrel
    by_cases hlt : k < l.length
    · have hcell := hb.cell (HC.out k hlt)
      have HI2 := Lib.hid (HI.out k hlt)
      generalize hx : l[k]?.getD 0 = x at *
      clear hx
      have b1 : (0 : Int) ≤ (k : Int) := by omega
      have b2 : (k : Int) < (l.length : Int) := by omega
      go_wp2_with fail
      refine (HI2.out _).mono ?_
      rintro e' w1 ⟨rfl, rfl⟩
      go_wp2_with fail
      go_roundw
      case rel => exact ⟨k + 1, by omega, by go_num, hb⟩
      case measure => simp [intOf]; omega
    · obtain rfl : k = l.length := by omega
      go_wp2_with fail
      refine (HW.out _).mono ?_
      rintro e' w1 ⟨rfl, rfl⟩
      go_wp2_with fail
      go_loopw [8, 34] (fun v8 v34 wr => SqRel w l N v8 v34 wr) (fun _ v34 _ => N - (intOf v34).toNat)
      case atStart => exact ⟨0, rfl, Nat.zero_le _, World.ownsRow_nil _ _ _ _, hb⟩
      case round =>
        obtain ⟨i, rfl, hi, hrow, hbr⟩ := hrel
        by_cases hlt : i < N
        · have HROW := Lib.hid hrow
          have HN := Lib.hid (spPre_next l N i)
          have hbd := sp_bd (n := (N : Int)) (i := (i : Int)) (m := l.length) (by omega) (by omega) (by omega) h3 h1
          clear hrow
          by_cases hN1 : N = 1
          · have HA : Hid (spAt l N i = l[0]?.getD 0) := sp_at0 (by have : i = 0 := by omega
                                                                    subst this; simp)
            have c0 : wr.cell? ⟨b, off, none⟩ = some (.int .i64 (l[0]?.getD 0)) := by have := hbr.cell (HC.out 0 (by omega)); rwa [Nat.add_zero] at this
            have hb1 : ((N : Int) == 1) = true := by simp; omega
            obtain ⟨x0, hx0⟩ : ∃ x0, l[0]?.getD 0 = x0 := ⟨_, rfl⟩
            rw [hx0] at c0 HA
            clear hx0 hbd hN1
            go_wp2_with (at_builtin; refine app_int Try.underlying22 info_i rfl _ _ rfl w _ _ i _ x0 HROW.out rfl rfl (by omega) hbr ?_; intro v' w8 hrow8 hbl8; have HR8 := Lib.hid hrow8; clear hrow8)
            go_roundw
            case rel => exact ⟨i + 1, by go_num, by omega, by rw [HN.out, HA.out]; exact HR8.out, hbl8⟩
            case measure => simp [intOf]; omega
          · have hb1 : ((N : Int) == 1) = false := by simp; omega
            by_cases hL1 : l.length = 1
            · have HA : Hid (spAt l N i = l[0]?.getD 0) := sp_at0 (by rw [hL1]; simp)
              have c0 : wr.cell? ⟨b, off, none⟩ = some (.int .i64 (l[0]?.getD 0)) := by have := hbr.cell (HC.out 0 (by omega)); rwa [Nat.add_zero] at this
              have hb2 : ((l.length : Int) == 1) = true := by simp; omega
              obtain ⟨x0, hx0⟩ : ∃ x0, l[0]?.getD 0 = x0 := ⟨_, rfl⟩
              rw [hx0] at c0 HA
              clear hx0 hbd hN1 hL1
              go_wp2_with (at_builtin; refine app_int Try.underlying22 info_i rfl _ _ rfl w _ _ i _ x0 HROW.out rfl rfl (by omega) hbr ?_; intro v' w8 hrow8 hbl8; have HR8 := Lib.hid hrow8; clear hrow8)
              go_roundw
              case rel => exact ⟨i + 1, by go_num, by omega, by rw [HN.out, HA.out]; exact HR8.out, hbl8⟩
              case measure => simp [intOf]; omega
            · have hb2 : ((l.length : Int) == 1) = false := by simp; omega
              have hG : spG (N : Int) = (N : Int) - 1 := by unfold spG; rw [if_neg (by omega)]
              rw [hG] at hbd
              have g1 : (1 : Int) ≤ (N : Int) - 1 := by omega
              obtain ⟨⟨q0, q1⟩, ⟨k0, k1⟩, ⟨r0, r1⟩, kr⟩ := hbd
              obtain ⟨c, hc⟩ : ∃ c : Nat, (i : Int) * ((l.length : Int) - 1) / ((N : Int) - 1) = c := ⟨((i : Int) * ((l.length : Int) - 1) / ((N : Int) - 1)).toNat, by omega⟩
              obtain ⟨r, hr⟩ : ∃ r, (i : Int) * ((l.length : Int) - 1) % ((N : Int) - 1) = r := ⟨_, rfl⟩
              have HS : Hid (spAt l N i = btw r ((N : Int) - 1) (l[c]?.getD 0) (l[c + 1]?.getD 0)) := by
                show _ = _
                unfold spAt
                rw [hG, hc, hr, Int.toNat_natCast]
              rw [hc] at k0 k1 kr
              rw [hr] at r0 r1 kr
              have hcl : c < l.length := by omega
              obtain ⟨x0, hx0⟩ : ∃ x0, l[c]?.getD 0 = x0 := ⟨_, rfl⟩
              have c0 := hbr.cell (HC.out c hcl)
              have v0 := isLev_iff.1 (HLV.out c hcl)
              rw [hx0] at c0 v0 HS
              obtain ⟨v00, v01⟩ := v0
              have z3 : (0 : Int) ≤ (c : Int) := by omega
              have z4 : (c : Int) < (l.length : Int) := by omega
              clear hG hN1 hL1
              by_cases hk : (c : Int) = (l.length : Int) - 1
              · have hr0 : r = 0 := by
                  by_cases hr0 : 0 < r
                  · have := kr hr0; omega
                  · omega
                have HA : Hid (spAt l N i = x0) := by show _ = x0; rw [HS.out, hr0, btw_zero (by omega)]
                have hkb : ((c : Int) == (l.length : Int) - 1) = true := by simpa using hk
                clear hx0 kr hr0 hk HS
                go_wp2_with (first | (rw [hc]) | (at_builtin; refine app_int Try.underlying22 info_i rfl _ _ rfl w _ _ i _ x0 HROW.out rfl rfl (by omega) hbr ?_; intro v' w8 hrow8 hbl8; have HR8 := Lib.hid hrow8; clear hrow8))
                go_roundw
                case rel => exact ⟨i + 1, by go_num, by omega, by rw [HN.out, HA.out]; exact HR8.out, hbl8⟩
                case measure => simp [intOf]; omega
              · have hkb : ((c : Int) == (l.length : Int) - 1) = false := by simpa using hk
                have hcl1 : c + 1 < l.length := by omega
                obtain ⟨x1, hx1⟩ : ∃ x1, l[c + 1]?.getD 0 = x1 := ⟨_, rfl⟩
                have c1 := hbr.cell (HC.out (c + 1) hcl1)
                have v1 := isLev_iff.1 (HLV.out (c + 1) hcl1)
                rw [hx1] at c1 v1 HS
                obtain ⟨v10, v11⟩ := v1
                have cw0 : w.cell? ⟨b, off + c, none⟩ = some (.int .i64 x0) := by rw [← hx0]; exact HC.out c hcl
                have cw1 : w.cell? ⟨b, off + (c + 1), none⟩ = some (.int .i64 x1) := by rw [← hx1]; exact HC.out (c + 1) hcl1
                clear hx0 hx1 kr hk
                have TP := Lib.hid (fun w' => part_any r ((N : Int) - 1) w' r0 (by omega) (by omega) (by omega))
                have TM := Lib.hid (fun w' v (hv : Fr w' v r ((N : Int) - 1)) => show Calls Try.prog 29 #[.int .i64 x0, .int .i64 x1, v] w' fun e w'' => e = .returned (.int .i64 (btw r ((N : Int) - 1) x0 x1)) ∧ Bl w' w'' from by
                  have := mix_ref x0 x1 v r ((N : Int) - 1) w' hv v00 v01 v10 v11 r0 (by omega) (lt5 (by omega))
                  rwa [mix_btw (N := r) (D := (N : Int) - 1) (by omega) (by omega) rfl] at this)
                go_wp2_with fail
                have z5 : (0 : Int) ≤ (c : Int) + 1 := by omega
                have z6 : IntKind.i64.wrap ((c : Int) + 1) = (c : Int) + 1 := IntWalk.i64_in _ (by omega)
                have z7 : ((c : Int) + 1).toNat = c + 1 := by omega
                have z8 : IntKind.i64.wrap ((N : Int) - 1) = (N : Int) - 1 := IntWalk.i64_in _ (by omega)
                have z9 : (c : Int) + 1 < (l.length : Int) := by omega
                have zt : ((i : Int) * ((l.length : Int) - 1)).tmod ((N : Int) - 1) = r := by rw [IntWalk.rem_in _ _ q0, hr]
                have zw : IntKind.i64.wrap r = r := IntWalk.i64_in _ (by omega)
                have zn : ¬ ((N : Int) - 1 = 0) := by omega
                have znb : ((N : Int) - 1 == 0) = false := beq_eq_false_iff_ne.2 zn
                rw [hc]
                obtain ⟨i0, hi0, hz0, hz1, hz2⟩ := info_parts info_i
                go_region_held3 (fun w' => w'.cell? ⟨b, off + c, none⟩ = some (.int .i64 x0) ∧ w'.cell? ⟨b, off + (c + 1), none⟩ = some (.int .i64 x1))
                  (refine ⟨Bl.cell (w := w) ?_ cw0, Bl.cell (w := w) ?_ cw1⟩ <;> ((repeat (first | with_reducible exact Bl.refl _ | with_reducible assumption | with_reducible refine Bl.drew ?_ | with_reducible refine Bl.alloc ?_ _ | with_reducible refine Bl.trans ?_ (by assumption))); done))
                  (first
                    | (go_at_call 30; refine (TP.out _).mono ?_; rintro e' w6 ⟨v1, rfl, h6, g6⟩; have H6 := Lib.hid h6; clear h6)
                    | (go_at_call 29; refine (TM.out _ _ (H6.out.bl (by ((repeat (first | with_reducible exact Bl.refl _ | with_reducible assumption | with_reducible refine Bl.drew ?_ | with_reducible refine Bl.alloc ?_ _ | with_reducible refine Bl.trans ?_ (by assumption))); done)))).mono ?_; rintro e' w7 ⟨rfl, g7⟩)
                    | (refine step_append_lies _ (by rfl) _ _ _ (by rfl) w.heap.size _ i0 (.int .i64 0) 1 8 Try.underlying22 hi0 hz0 hz1 hz2 (by rfl) (by omega) _ i ((spPre l N i).map (Value.int .i64)) (by rfl) (ownsRow_bl HROW.out (by ((repeat (first | with_reducible exact Bl.refl _ | with_reducible assumption | with_reducible refine Bl.drew ?_ | with_reducible refine Bl.alloc ?_ _ | with_reducible refine Bl.trans ?_ (by assumption))); done))) _ 1 1 [.int .i64 (btw r ((N : Int) - 1) x0 x1)] (by rfl) (by rfl) (by exact World.news_of_block (cs := #[.int .i64 (btw r ((N : Int) - 1) x0 x1)]) (heap_alloc_new _ _)) (fun u hu => by simp at hu; subst hu; rfl) (by omega) (by unfold maxLen; omega) (by omega) (Bl.size (by ((repeat (first | with_reducible exact Bl.refl _ | with_reducible assumption | with_reducible refine Bl.drew ?_ | with_reducible refine Bl.alloc ?_ _ | with_reducible refine Bl.trans ?_ (by assumption))); done))) _ rfl ?_; intro g9 cap9 w9 hown9 hg9 _ _; have hb9 : Bl w w9 := Bl.grown (by ((repeat (first | with_reducible exact Bl.refl _ | with_reducible assumption | with_reducible refine Bl.drew ?_ | with_reducible refine Bl.alloc ?_ _ | with_reducible refine Bl.trans ?_ (by assumption))); done)) hg9 (fun k hk => (World.ownsRow.lt HROW.out k hk).1); have HR9 := Lib.hid hown9; clear hown9 hg9))
                go_wp2
                go_roundw
                case rel => exact ⟨i + 1, by go_num, by omega, by rw [HN.out, List.map_append, HS.out]; exact HR9.out, hb9⟩
                case measure => simp [intOf]; omega
        · obtain rfl : i = N := by omega
          have HSL := Lib.hid (slc_own hrow)
          rw [spPre_end] at HSL
          clear hrow
          go_wp2_with fail
          go_returns
          exact ⟨_, by rw [e.out.1]; rfl, by rw [e.out.2]; exact HSL.out, hbr⟩

set_option maxRecDepth 100000 in
set_option maxHeartbeats 3200000 in
theorem spread_ref (v : Value) (l : List Int) (n : Int) (w : World) (h : Slc w v l) :
    Calls Try.prog 25 #[v, .int .i64 n] w (PSpr l n w) := by
  obtain ⟨o, cap, hv, ⟨hc1, hc2⟩, hcell⟩ := h
  by_cases h1 : 2000 < l.length
  · have e := Lib.hid (sp_bad (l := l) (n := n) (c := 2) (by unfold spX; rw [if_pos h1]) (by decide))
    clear hcell
    unfold PSpr
    subst hv
    go_enter Try.func25, Try.ntmps25
    go_wp2_with fail
    go_returns
    exact ⟨_, by rw [e.out.1]; rfl, by rw [e.out.2]; exact slc_nil _ _ _ (by omega), Bl.refl _⟩
  by_cases h3 : l.length = 0
  · have h2 : l.all isLev = true := by rw [List.eq_nil_of_length_eq_zero h3]; rfl
    have e := Lib.hid (sp_bad (l := l) (n := n) (c := 8) (by unfold spX; rw [if_neg h1, if_neg (by rw [h2]; decide), if_pos h3]) (by decide))
    have hv' : v = .slice o 0 cap := by rw [hv, h3]
    unfold PSpr
    clear hcell h2 hv h3 h1 hc1
    subst hv'
    go_enter Try.func25, Try.ntmps25
    go_wp2_with fail
    go_returns
    exact ⟨_, by rw [e.out.1]; rfl, by rw [e.out.2]; exact slc_nil _ _ _ (by omega), Bl.refl _⟩
  obtain ⟨b, off, rfl, _⟩ := hcell 0 (by omega)
  have hcell' : ∀ i, i < l.length → w.cell? ⟨b, off + i, none⟩ = some (.int .i64 (l[i]?.getD 0)) := fun i hi => by
    obtain ⟨b', off', e', hc⟩ := hcell i hi
    cases e'
    exact hc
  by_cases hgood : l.all isLev = true ∧ 0 ≤ n ∧ n ≤ 2000
  · obtain ⟨h2, h4, h5⟩ := hgood
    obtain ⟨N, hN⟩ : ∃ N : Nat, n = N := ⟨n.toNat, by omega⟩
    subst hN hv
    exact spread_rok b off cap l N w hcell' (by omega) h2 (by omega) (by omega)
  have HC := Lib.hid hcell'
  have HI := Lib.hid (fun n w' => isLevel_ref n w')
  have e : Hid (spX l n = 1 ∧ spR l n = []) := by
    refine sp_bad ?_ (by decide)
    unfold spX
    rw [if_neg h1]
    by_cases h2 : l.all isLev = false
    · rw [if_pos h2]
    · rw [if_neg h2, if_neg h3, if_pos (by
        by_cases hh : 0 ≤ n ∧ n ≤ 2000
        · exact absurd ⟨by simpa using h2, hh⟩ hgood
        · omega)]
  have HW : Hid (l.all isLev = true → ∀ w', Calls Try.prog 16 #[.int .i64 n, .int .i64 0, .int .i64 2000] w' fun e w'' => e = .returned (.bool false) ∧ w' = w'') := by
    intro h2 w'
    have := within_any n 0 2000 w'
    rwa [show (decide ((0 : Int) ≤ n) && decide (n ≤ 2000)) = false by
      rw [Bool.eq_false_iff]
      intro hh
      simp only [Bool.and_eq_true, decide_eq_true_eq] at hh
      exact hgood ⟨h2, hh⟩] at this
  have hl0 : ((l.length : Int) == 0) = false := beq_eq_false_iff_ne.2 (by omega)
  clear hcell hcell' hgood h3
  unfold PSpr
  subst hv
  go_enter Try.func25, Try.ntmps25
  go_wp2_with fail
  go_loopw [22] (fun v22 wr => ∃ k : Nat, k ≤ l.length ∧ v22 = .int .i64 k ∧ Hid (allLev l k) ∧ Bl w wr) (fun v22 _ => l.length - (intOf v22).toNat)
  case atStart => exact ⟨0, Nat.zero_le _, rfl, Lib.hid (fun i hi => absurd hi (Nat.not_lt_zero _)), Bl.refl _⟩
  case round =>
    obtain ⟨k, hk, rfl, HL, hb⟩ := hrel
    by_cases hlt : k < l.length
    · have hcell := hb.cell (HC.out k hlt)
      have b1 : (0 : Int) ≤ (k : Int) := by omega
      have b2 : (k : Int) < (l.length : Int) := by omega
      cases hz : isLev (l[k]?.getD 0) with
      | true =>
        have HI1 := fun w' => HI.out (l[k]?.getD 0) w'
        rw [hz] at HI1
        have HI2 := Lib.hid HI1
        have HZ := Lib.hid hz
        clear hz HI1
        have HN : Hid (allLev l (k + 1)) := fun i hi => by
          by_cases h : i < k
          · exact HL.out i h
          · obtain rfl : i = k := by omega
            exact HZ.out
        clear HZ
        generalize hx : l[k]?.getD 0 = x at *
        clear hx
        go_wp2_with fail
        refine (HI2.out _).mono ?_
        rintro e' w1 ⟨rfl, rfl⟩
        go_wp2_with fail
        go_roundw
        case rel => exact ⟨k + 1, by omega, by go_num, HN, hb⟩
        case measure => simp [intOf]; omega
      | false =>
        have HI1 := fun w' => HI.out (l[k]?.getD 0) w'
        rw [hz] at HI1
        have HI2 := Lib.hid HI1
        clear hz HI1
        generalize hx : l[k]?.getD 0 = x at *
        clear hx
        go_wp2_with fail
        refine (HI2.out _).mono ?_
        rintro e' w1 ⟨rfl, rfl⟩
        go_wp2_with fail
        go_returns
        exact ⟨_, by rw [e.out.1]; rfl, by rw [e.out.2]; exact slc_nil _ _ _ (by omega), hb⟩
    · obtain rfl : k = l.length := by omega
      have HW2 := Lib.hid (HW.out (allLev_all HL.out))
      go_wp2_with fail
      refine (HW2.out _).mono ?_
      rintro e' w1 ⟨rfl, rfl⟩
      go_wp2_with fail
      go_returns
      exact ⟨_, by rw [e.out.1]; rfl, by rw [e.out.2]; exact slc_nil _ _ _ (by omega), hb⟩
end Go.Proofs.Ytgpblgalklegkaa

/- levels of the reference: the levels of n units along a fan. -/
namespace Go.Proofs.Ytgpblgalklegkaa
open Go.RowKit Go.Sort

def fanPre (l : List Int) (B Wn n : Int) (i : Nat) : List Int := (List.range i).map fun (j : Nat) => fanAt l B Wn n (j : Int)
theorem fanPre_next (l : List Int) (B Wn n : Int) (i : Nat) : fanPre l B Wn n (i + 1) = fanPre l B Wn n i ++ [fanAt l B Wn n (i : Int)] := by unfold fanPre; rw [List.range_succ, List.map_append]; rfl
theorem fanPre_end (l : List Int) (B Wn : Int) (n : Nat) : fanPre l B Wn n n = fanL l B Wn n := by unfold fanPre fanL; rw [Int.toNat_natCast]
def FqRel (W : World) (l : List Int) (B Wn : Int) (N : Nat) (v8 v34 : Value) (wr : World) : Prop := ∃ i : Nat, v34 = .int .i64 i ∧ i ≤ N ∧ wr.ownsRow W.heap.size 3 1 v8 i ((fanPre l B Wn N i).map (Value.int .i64)) ∧ Bl W wr

set_option maxRecDepth 100000 in
set_option maxHeartbeats 3200000 in
theorem fan_levelsR (sv : Value) (l : List Int) (B Wn : Int) (N : Nat) (w : World) (h : Slc w sv l) (hg : fanX l B Wn = 0) (hN : N ≤ 400) :
    Calls Try.prog 17 #[.agg #[sv, .int .i64 B, .int .i64 Wn], .int .i64 N] w fun e w' => ∃ v, e = .returned v ∧ Slc w' v (fanL l B Wn N) ∧ Bl w w' := by
  obtain ⟨⟨hl1, hl2, hall⟩, ⟨hB1, hB2⟩, hW1, hW2⟩ := fan_good hg
  obtain ⟨u0, u1, _⟩ := up_bd (a := (N : Int)) (by omega) hB1
  obtain ⟨s0, s1, s2⟩ := fanS_bd (n := (N : Int)) hB1 hW1 (by omega)
  obtain ⟨M, hM⟩ : ∃ M, M = ((N : Int) + B - 1) / B := ⟨_, rfl⟩
  have hMu : upq N B = M := by rw [hM]; rfl
  obtain ⟨S, hS⟩ : ∃ S : Nat, fanS B Wn N = S := ⟨(fanS B Wn N).toNat, by omega⟩
  have hS' : (M + Wn - 1) / Wn = (S : Int) := by rw [← hS, ← hMu]; rfl
  rw [hMu] at u0 u1
  rw [hS] at s0 s1 s2
  have q1 : IntKind.i64.wrap (((N : Int) + B - 1).tdiv B) = M := by rw [hM]; exact IntWalk.i64_quo _ _ (by omega)
  have q2 : IntKind.i64.wrap ((M + Wn - 1).tdiv Wn) = S := by rw [← hS']; exact IntWalk.i64_quo _ _ (by omega)
  have zB : ¬ B = 0 := by omega
  have zW : ¬ Wn = 0 := by omega
  have HSp := Lib.hid (fun w' (m : Bl w w') => spread_ref sv l S w' (h.bl m))
  have eS := Lib.hid (sp_good (l := l) (n := (S : Int)) (by omega) hall hl1 (by omega) (by omega))
  have HF := Lib.hid (fun (i : Nat) => show fanAt l B Wn N i = spAt l S (fanK B S i) from by unfold fanAt; rw [hS])
  have HBD := Lib.hid (fun (i : Nat) (hs : 1 ≤ (S : Int)) => fanK_bd (B := B) (s := (S : Int)) (i := (i : Int)) hB1 hs (by omega))
  unfold PSpr at HSp
  have HS := Lib.hid h
  clear hg hall hS hS' h hM hMu
  obtain ⟨o, cap, rfl, _⟩ := HS.out
  obtain ⟨W0, hW0⟩ : ∃ W0, W0 = w.alloc (.cells #[.slice o l.length cap, .int .i64 B, .int .i64 Wn] 24) := ⟨_, rfl⟩
  have bW : Bl w W0 := by rw [hW0]; exact (Bl.refl w).alloc _
  have KK := Lib.hid (fun w' (m : Bl W0 w') => show w'.cell? ⟨w.heap.size, 1, none⟩ = some (.int .i64 B) from m.cell (by rw [hW0]; simp))
  go_enter Try.func17, Try.ntmps17
  go_wp2_with fail
  rw [← hW0]
  clear hW0
  refine (HSp.out _ bW).mono ?_
  rintro e' w2 ⟨va, rfl, hva, m2⟩
  rw [eS.out.2] at hva
  have bw2 : Bl w w2 := bW.trans m2
  have HVA := Lib.hid hva
  clear hva HSp
  go_wp2_with fail
  go_loopw [9, 37] (fun v9 v37 wr => FqRel w2 l B Wn N v9 v37 wr) (fun _ v37 _ => N - (intOf v37).toNat)
  case atStart => exact ⟨0, rfl, Nat.zero_le _, World.ownsRow_nil _ _ _ _, Bl.refl _⟩
  case round =>
    obtain ⟨i, rfl, hi, hrow, hb⟩ := hrel
    by_cases hlt : i < N
    · have hS1 : 1 ≤ (S : Int) := s2 (by omega)
      obtain ⟨⟨p0, p1⟩, ⟨pp0, pp1⟩, ⟨r0, r1⟩, hpar, f0, f1⟩ := HBD.out i hS1
      have HROW := Lib.hid hrow
      have HN := Lib.hid (fanPre_next l B Wn N i)
      clear hrow
      have k1 := KK.out _ (m2.trans hb)
      have zS : ¬ (S : Int) = 0 := by omega
      obtain ⟨o2, cap2, hva, ⟨hv1, hv2⟩, hvc⟩ := HVA.out
      have hSl : (spL l (S : Int)).length = S := by rw [spL_len]; exact Int.toNat_natCast S
      rw [hSl] at hv1 hvc hva
      subst hva
      obtain ⟨b2, off2, rfl, _⟩ := hvc 0 (by omega)
      obtain ⟨c, hc⟩ : ∃ c : Nat, fanK B S i = c := ⟨(fanK B S i).toNat, by omega⟩
      obtain ⟨x, hx⟩ : ∃ x, (spL l (S : Int))[c]?.getD 0 = x := ⟨_, rfl⟩
      have cx : w2.cell? ⟨b2, off2 + c, none⟩ = some (.int .i64 x) := by
        obtain ⟨b', off', e', h'⟩ := hvc c (by omega)
        cases e'
        rw [h', hx]
      have HXA : Hid (fanAt l B Wn N i = x) := by
        show _ = _
        rw [HF.out, hc, ← spL_get l S c (by omega), hx]
      have cx := hb.cell cx
      obtain ⟨q, hq⟩ : ∃ q, (i : Int) / B = q := ⟨_, rfl⟩
      have y1 : IntKind.i64.wrap ((i : Int).tdiv B) = q := by rw [← hq]; exact IntWalk.i64_quo _ _ (by omega)
      have y1' : IntKind.i64.wrap ((i : Int) / B) = q := by rw [hq]; exact IntWalk.i64_in _ (by omega)
      rw [hq] at p0 p1 pp0 pp1 r0 r1 hpar
      obtain ⟨r, hr⟩ : ∃ r : Nat, q % S = r := ⟨(q % S).toNat, by omega⟩
      obtain ⟨t, ht⟩ : ∃ t, q / (S : Int) = t := ⟨_, rfl⟩
      have y2 : IntKind.i64.wrap (q.tdiv S) = t := by rw [← ht]; exact IntWalk.i64_quo _ _ (by omega)
      have y3 : q.tmod S = r := by rw [IntWalk.rem_in _ _ p0, hr]
      rw [hr] at r0 r1
      rw [ht] at pp0 pp1 hpar
      have y4 : IntKind.i64.wrap (r : Int) = r := IntWalk.i64_in _ (by omega)
      have y5 : t.tmod 2 = t % 2 := IntWalk.rem_in _ _ pp0
      have hcS : (c : Int) < S := by omega
      have hcS' : c < S := by omega
      unfold fanK at hc
      rw [hq, hr, ht] at hc
      clear hvc hx hSl hq hr ht
      rcases hpar with hp | hp
      · have hrc : r = c := by rw [if_neg (by omega)] at hc; omega
        subst hrc
        have t5 : (t % 2 == 1) = false := by rw [hp]; decide
        clear hp hc f0 f1
        go_wp2_with (at_builtin; refine app_int Try.underlying22 info_i rfl _ _ rfl w2 _ _ i _ x HROW.out rfl rfl (by omega) hb ?_; intro v' w8 hrow8 hbl8; have HR8 := Lib.hid hrow8; clear hrow8)
        go_roundw
        case rel => exact ⟨i + 1, by go_num, by omega, by rw [HN.out, HXA.out]; exact HR8.out, hbl8⟩
        case measure => simp [intOf]; omega
      · have hrc : (S : Int) - 1 - r = c := by rw [if_pos hp] at hc; exact hc
        have t5 : (t % 2 == 1) = true := by rw [hp]; decide
        have zc : IntKind.i64.wrap ((S : Int) - 1 - (r : Int)) = (c : Int) := by rw [hrc]; exact IntWalk.i64_in _ (by omega)
        clear hp hc f0 f1 hrc
        go_wp2_with (at_builtin; refine app_int Try.underlying22 info_i rfl _ _ rfl w2 _ _ i _ x HROW.out rfl rfl (by omega) hb ?_; intro v' w8 hrow8 hbl8; have HR8 := Lib.hid hrow8; clear hrow8)
        go_roundw
        case rel => exact ⟨i + 1, by go_num, by omega, by rw [HN.out, HXA.out]; exact HR8.out, hbl8⟩
        case measure => simp [intOf]; omega
    · obtain rfl : i = N := by omega
      have HSL := Lib.hid (slc_own hrow)
      rw [fanPre_end] at HSL
      clear hrow
      go_wp2_with fail
      go_returns
      exact ⟨_, rfl, HSL.out, bw2.trans hb⟩
end Go.Proofs.Ytgpblgalklegkaa

/- Levels of the reference. -/
namespace Go.Proofs.Ytgpblgalklegkaa
open Go.RowKit Go.Sort

set_option maxRecDepth 100000 in
set_option maxHeartbeats 1600000 in
theorem levels_ref (sv : Value) (l : List Int) (B Wn n : Int) (w : World) (h : Slc w sv l) :
    Calls Try.prog 7 #[.agg #[sv, .int .i64 B, .int .i64 Wn], .int .i64 n] w (PLv l B Wn n w) := by
  have HC := Lib.hid (fun w' (m : Bl w w') => checkFan_ref sv l B Wn w' (h.bl m))
  have HL := Lib.hid (fun (hg : fanX l B Wn = 0) (N : Nat) (hN : N ≤ 400) w' (m : Bl w w') => fan_levelsR sv l B Wn N w' (h.bl m) hg hN)
  obtain ⟨o, cap, rfl, _⟩ := h
  obtain ⟨W0, hW0⟩ : ∃ W0, W0 = w.alloc (.cells #[.slice o l.length cap, .int .i64 B, .int .i64 Wn] 24) := ⟨_, rfl⟩
  have bW : Bl w W0 := by rw [hW0]; exact (Bl.refl w).alloc _
  have KK := Lib.hid (fun w' (m : Bl W0 w') => show w'.cell? ⟨w.heap.size, 0, none⟩ = some (.slice o l.length cap) ∧ w'.cell? ⟨w.heap.size, 1, none⟩ = some (.int .i64 B) ∧ w'.cell? ⟨w.heap.size, 2, none⟩ = some (.int .i64 Wn) from ⟨m.cell (by rw [hW0]; simp), m.cell (by rw [hW0]; simp), m.cell (by rw [hW0]; simp)⟩)
  obtain ⟨k0, k1, k2⟩ := KK.out _ (Bl.refl _)
  unfold PLv
  by_cases hX : fanX l B Wn = 0
  · have HL := Lib.hid (HL.out hX)
    by_cases hn : 0 ≤ n ∧ n ≤ 400
    · have e : Hid (lvX l B Wn n = 0 ∧ lvR l B Wn n = fanL l B Wn n) := by
        have e : lvX l B Wn n = 0 := by unfold lvX; rw [if_neg (fun h => h hX), if_pos hn]
        exact ⟨e, by unfold lvR; rw [if_pos e]⟩
      rw [hX] at HC
      obtain ⟨N, hN⟩ : ∃ N : Nat, n = N := ⟨n.toNat, by omega⟩
      subst hN
      have HL := Lib.hid (HL.out N (by omega))
      obtain ⟨n0, n1⟩ := hn
      have HW := Lib.hid (fun w' => show Calls Try.prog 16 #[.int .i64 N, .int .i64 0, .int .i64 400] w' fun e w'' => e = .returned (.bool true) ∧ w' = w'' from by
        have := within_any N 0 400 w'
        rwa [show (decide ((0 : Int) ≤ (N : Int)) && decide ((N : Int) ≤ 400)) = true by simp; omega] at this)
      go_enter Try.func7, Try.ntmps7
      go_wp2_with fail
      rw [← hW0]
      clear hW0
      refine (HC.out _ bW).mono ?_
      rintro e' w1 ⟨rfl, m1⟩
      clear k0 k1 k2
      obtain ⟨k0, k1, k2⟩ := KK.out _ m1
      go_wp2_with fail
      refine (HW.out _).mono ?_
      rintro e' w2 ⟨rfl, rfl⟩
      go_wp2_with fail
      refine (HL.out _ (bW.trans m1)).mono ?_
      rintro e' w3 ⟨v, rfl, hs, m3⟩
      have HS := Lib.hid hs
      clear hs
      go_wp2_with fail
      go_returns
      exact ⟨v, by rw [e.out.1]; rfl, by rw [e.out.2]; exact HS.out, (bW.trans m1).trans m3⟩
    · have e : Hid (lvX l B Wn n = 1 ∧ lvR l B Wn n = []) := by
        have e : lvX l B Wn n = 1 := by unfold lvX; rw [if_neg (fun h => h hX), if_neg hn]
        exact ⟨e, by unfold lvR; rw [if_neg (by omega)]⟩
      rw [hX] at HC
      clear HL
      have HW := Lib.hid (fun w' => show Calls Try.prog 16 #[.int .i64 n, .int .i64 0, .int .i64 400] w' fun e w'' => e = .returned (.bool false) ∧ w' = w'' from by
        have := within_any n 0 400 w'
        rwa [show (decide ((0 : Int) ≤ n) && decide (n ≤ 400)) = false by
          rw [Bool.eq_false_iff]; intro hh; simp only [Bool.and_eq_true, decide_eq_true_eq] at hh; exact hn hh] at this)
      clear hn
      all_goals
        go_enter Try.func7, Try.ntmps7
        go_wp2_with fail
        rw [← hW0]
        clear hW0
        refine (HC.out _ bW).mono ?_
        rintro e' w1 ⟨rfl, m1⟩
        go_wp2_with fail
        refine (HW.out _).mono ?_
        rintro e' w2 ⟨rfl, rfl⟩
        go_wp2_with fail
        go_returns
        exact ⟨_, by rw [e.out.1]; rfl, by rw [e.out.2]; exact slc_nil _ _ _ (by omega), bW.trans m1⟩
  · have e : Hid (lvX l B Wn n = fanX l B Wn ∧ lvR l B Wn n = []) := by
      have e : lvX l B Wn n = fanX l B Wn := by unfold lvX; rw [if_pos hX]
      exact ⟨e, by unfold lvR; rw [if_neg (by omega)]⟩
    have t1 : (fanX l B Wn != 0) = true := by simpa using hX
    generalize fanX l B Wn = X at *
    clear HL hX
    go_enter Try.func7, Try.ntmps7
    go_wp2_with fail
    rw [← hW0]
    clear hW0
    refine (HC.out _ bW).mono ?_
    rintro e' w1 ⟨rfl, m1⟩
    go_wp2_with fail
    go_returns
    exact ⟨_, by rw [e.out.1]; rfl, by rw [e.out.2]; exact slc_nil _ _ _ (by omega), bW.trans m1⟩
end Go.Proofs.Ytgpblgalklegkaa

/- Equal of two slices of the same ints. -/
namespace Go.Proofs.Ytgpblgalklegkaa
open Go.RowKit Go.Sort

set_option maxRecDepth 100000 in
set_option maxHeartbeats 3200000 in
/-- Equal of two slices of the same ints. -/
theorem equal_ints (va vb : Value) (xs : List Int) (w : World) (ha : Slc w va xs) (hb : Slc w vb xs) :
    Calls Try.prog 10 #[va, vb] w fun e w' => e = .returned (.bool true) ∧ Bl w w' := by
  obtain ⟨oa, ca, rfl, ⟨la, la'⟩, ha⟩ := ha
  obtain ⟨ob, cb, rfl, ⟨lb, lb'⟩, hb⟩ := hb
  have HA := Lib.hid ha
  have HB := Lib.hid hb
  have t1 : ((xs.length : Int) != (xs.length : Int)) = false := by simp
  have mixed : Try.prog.follows .mixedOrders = true := by kernel_rfl
  clear ha hb
  go_enter Try.func10, Try.ntmps10
  go_wp2
  go_loopw [13] (fun i wr => ∃ k : Nat, k ≤ xs.length ∧ i = .int .i64 k ∧ Bl w wr) (fun i _ => xs.length - (intOf i).toNat)
  case atStart => exact ⟨0, Nat.zero_le _, rfl, Bl.refl w⟩
  case round =>
    obtain ⟨k, hk, rfl, hg⟩ := hrel
    by_cases hlt : k < xs.length
    · obtain ⟨b1, o1, rfl, h1⟩ := HA.out k hlt
      obtain ⟨b2, o2, rfl, h2⟩ := HB.out k hlt
      have c1 := hg.cell h1
      have c2 := hg.cell h2
      generalize xs[k]?.getD 0 = x at *
      have t2 : (x != x) = false := by simp
      clear h1 h2
      go_wp2
      go_quiet (fail)
      go_wp2
      go_roundw
      case rel => exact ⟨k + 1, by omega, by go_num, hg.drewN _⟩
      case measure => simp [intOf]; omega
    · go_wp2
      go_returns
      exact ⟨rfl, hg⟩

theorem equal_none (o1 o2 : Option Addr) (c1 c2 : Nat) (w : World) :
    Calls Try.prog 10 #[.slice o1 0 c1, .slice o2 0 c2] w fun e w' => e = .returned (.bool true) ∧ w' = w := by
  go_enter Try.func10, Try.ntmps10
  go_wp2
  refine wp_loop_rounds 1 ?_
  rw [rounds_succ]
  go_wp2
  go_returns
  exact ⟨rfl, rfl⟩
end Go.Proofs.Ytgpblgalklegkaa

/- The row's last step, where it is known that nothing below the heap's size has turned. -/
namespace Go.Proofs.Ytgpblgalklegkaa
open Go.RowKit Go.ChangeShapes Go.WideShapes Go.ChangeAt
section
variable {H : Type} {enc : TypeId × Value → H} {P : Program}
/-- 'post' of a call that has changed nothing that was there, read again. -/
theorem post_of_old {f : Func} {s : ChangeSpec} {apart fresh handsOn again : Bool} {W W' : World} {args : Array Value} {v : Value} {ds gs : List (DataW H)} {before pa pv : List MemPlace}
    (hW : DataW.Whole enc P f.params.toList s.vars apart W args.toList ds gs before)
    (hres : ∀ (b : Nat) (sp : Nat → Bool) (hd : Bool), DataW.TrodAll enc P W' b sp hd f.resultTypes.toList (v.resultList f.resultTypes.size) (s.fn H (ds ++ gs)).results [])
    (hargs : ∀ sp : Nat → Bool, (∀ p ∈ before, sp p.block = true) → DataW.TrodAll enc P W' 0 sp true f.params.toList args.toList (s.fn H (ds ++ gs)).args pa)
    (hvars : ∀ sp : Nat → Bool, (∀ p ∈ before, sp p.block = true) → DataW.TrodVars enc P W' sp s.vars (s.fn H (ds ++ gs)).vars pv)
    (hps : before = pa ++ pv) (hg : Below W.heap.size W W')
    (hok : ∀ (j : Nat) (t : TypeId) (r : Value), f.resultTypes[j]? = some t → (v.resultList f.resultTypes.size)[j]? = some r → Value.okWide P W' .any 0 t r) :
    s.post enc P f apart fresh handsOn again W args v W' := by
  have old : ∀ p ∈ before, p.block < W.heap.size := fun p hp => hW.lt p hp
  have allowed : ∀ p ∈ before, (fun b => decide (b < W.heap.size)) p.block = true := fun p hp => by simpa using old p hp
  refine ⟨ds, gs, before, [], pa, pv, hW, hres _ _ _, hargs _ allowed, hvars _ allowed, World.keptBut_mono (fun p hp => ⟨hp, ?_⟩) (hg.frame (· ∈ before)), fun _ => ?_⟩
  · rw [hps, List.mem_append] at hp; exact Or.inr hp
  · obtain ⟨_, _, _, _, _, hz, hn⟩ := hW
    refine ⟨hok, _, _, ([] ++ pa) ++ pv, ⟨[] ++ pa, pv, trodAll_append (hargs _ (fun _ _ => rfl)) (hres _ _ _), hvars _ (fun _ _ => rfl), rfl, ?_, ?_⟩, ?_⟩
    · intro b off hp
      have hin : MemPlace.cell b off ∈ before := by rw [hps]; simpa using hp
      rw [hg.frozen (old _ hin)]
      exact hz b off hin
    · intro ha
      have := hn ha
      rw [hps] at this
      simpa using this
    · intro p hp _
      rw [hps]
      simpa using hp
theorem post_of_gr {f : Func} {s : ChangeSpec} {apart fresh handsOn again : Bool} {W W' : World} {args : Array Value} {v : Value} {ds gs : List (DataW H)} {before pa pv : List MemPlace}
    (hW : DataW.Whole enc P f.params.toList s.vars apart W args.toList ds gs before)
    (hres : ∀ (b : Nat) (sp : Nat → Bool) (hd : Bool), DataW.TrodAll enc P W' b sp hd f.resultTypes.toList (v.resultList f.resultTypes.size) (s.fn H (ds ++ gs)).results [])
    (hargs : ∀ sp : Nat → Bool, (∀ p ∈ before, sp p.block = true) → DataW.TrodAll enc P W' 0 sp true f.params.toList args.toList (s.fn H (ds ++ gs)).args pa)
    (hvars : ∀ sp : Nat → Bool, (∀ p ∈ before, sp p.block = true) → DataW.TrodVars enc P W' sp s.vars (s.fn H (ds ++ gs)).vars pv)
    (hps : before = pa ++ pv) (hg : Gr W W')
    (hok : ∀ (j : Nat) (t : TypeId) (r : Value), f.resultTypes[j]? = some t → (v.resultList f.resultTypes.size)[j]? = some r → Value.okWide P W' .any 0 t r) :
    s.post enc P f apart fresh handsOn again W args v W' := post_of_old hW hres hargs hvars hps hg.1 hok
end
end Go.Proofs.Ytgpblgalklegkaa

/- What all laws' proofs share: the row's last step, for a law that leaves what was there. -/
namespace Go.Proofs.Ytgpblgalklegkaa
open Go.RowKit Go.ChangeShapes Go.WideShapes Go.ChangeAt Go.Deep
section
variable {H : Type} {enc : TypeId × Value → H} {P : Program}

theorem trodAll_stays (hl : laidOutB P = true) {W W' : World} {sp : Nat → Bool} (hb : Below W.heap.size W W') : ∀ (ts : List TypeId) (vs : List Value) (ds : List (DataW H)) (p : List MemPlace),
    (∀ t ∈ ts, P.readableRec t = true ∧ t < P.types.size) → DataW.TrodAll enc P W 0 (fun _ => true) true ts vs ds p → (∀ x ∈ p, x.block < W.heap.size) → (∀ x ∈ p, sp x.block = true) →
    DataW.TrodAll enc P W' 0 sp true ts vs ds p
  | [], [], [], _, _, h, _, _ => h
  | t :: ts, v :: vs, d :: ds, p, hr, h, hlt, hs => by
    obtain ⟨p1, q1, h1, h2, rfl⟩ := h
    exact ⟨p1, q1, WideElems.Trod_stays hl (hr t (by simp)).1 (hr t (by simp)).2 h1 (fun x hx => hb.same (hlt x (by simp [hx]))) (fun x hx => hs x (by simp [hx])),
      trodAll_stays hl hb ts vs ds q1 (fun t ht => hr t (by simp [ht])) h2 (fun x hx => hlt x (by simp [hx])) (fun x hx => hs x (by simp [hx])), rfl⟩
  | [], [], _ :: _, _, _, h, _, _ => h.elim
  | [], _ :: _, _, _, _, h, _, _ => h.elim
  | _ :: _, [], _, _, _, h, _, _ => h.elim
  | _ :: _, _ :: _, [], _, _, h, _, _ => h.elim

/-- 'post' of a law that has answered true and has changed nothing that was there. -/
theorem law_old {f : Func} {s : ChangeSpec} {apart fresh handsOn again : Bool} {W W' : World} {args : Array Value} {ds gs : List (DataW H)} {before : List MemPlace} {tb : TypeId}
    (hW : DataW.Whole enc P f.params.toList s.vars apart W args.toList ds gs before) (hv : s.vars = []) (hs : s.fn H (ds ++ gs) = { results := [.lit (.bool true)], args := ds })
    (hr : f.resultTypes = #[tb]) (htb : P.underlying tb = some .bool) (hl : laidOutB P = true) (hp : (f.params.toList.all fun t => P.readableRec t && decide (t < P.types.size)) = true) (hg : Below W.heap.size W W') :
    s.post enc P f apart fresh handsOn again W args (.bool true) W' := by
  have hW0 := hW
  obtain ⟨p, q, hA, hV, hbef, _, _⟩ := hW0
  rw [hv] at hV
  obtain ⟨_, rfl⟩ := trodVars_none hV
  obtain rfl : before = p := by simpa using hbef
  refine post_of_old (pa := before) (pv := []) hW (fun b sp hd => ?_) (fun sp hsp => ?_) (fun sp hsp => ?_) (by simp) hg (ok_one hr rfl (okWide_bool_mk htb _))
  · rw [hs, hr]
    exact trodAll_cons_mk (shut_bool htb _) trodAll_mk0
  · rw [hs]
    exact trodAll_stays hl hg _ _ _ _ (fun t ht => by simpa using List.all_eq_true.1 hp t ht) hA (fun x hx => hW.lt x hx) hsp
  · rw [hs, hv]
    rfl
theorem law_post {f : Func} {s : ChangeSpec} {apart fresh handsOn again : Bool} {W W' : World} {args : Array Value} {ds gs : List (DataW H)} {before : List MemPlace} {tb : TypeId}
    (hW : DataW.Whole enc P f.params.toList s.vars apart W args.toList ds gs before) (hv : s.vars = []) (hs : s.fn H (ds ++ gs) = { results := [.lit (.bool true)], args := ds })
    (hr : f.resultTypes = #[tb]) (htb : P.underlying tb = some .bool) (hl : laidOutB P = true) (hp : (f.params.toList.all fun t => P.readableRec t && decide (t < P.types.size)) = true) (hg : Gr W W') :
    s.post enc P f apart fresh handsOn again W args (.bool true) W' := law_old hW hv hs hr htb hl hp hg.1
end
end Go.Proofs.Ytgpblgalklegkaa

/- Fans that come in, opened. -/
namespace Go.Proofs.Ytgpblgalklegkaa
open Go.RowKit Go.ChangeShapes Go.WideShapes Go.ChangeAt Go.Deep
section
variable {H : Type} {enc : TypeId × Value → H} {w : World} {base : Nat} {spare : Nat → Bool} {held : Bool}
theorem cellsF3 : Try.prog.cellsOf 24 = 3 := by kernel_rfl
theorem cellsFI : Try.prog.cellsOf 3 = 1 := by kernel_rfl
theorem cellsFL : Try.prog.cellsOf 22 = 1 := by kernel_rfl

set_option maxRecDepth 100000 in
theorem open_slv {n : Nat} {v : Value} {y : DataW H × List MemPlace} (h : DataW.trod enc Try.prog w base spare held n 22 [v] = some y) : ∃ xs, Slc w v xs := by
  rcases open_ints Try.underlying22 Try.underlying3 cellsFI h with ⟨hv, _⟩ | ⟨a, len, cap, zs, hcs, _, hl, hm, hz, _, hi, _⟩
  · obtain rfl : v = .slice none 0 0 := by simpa using hv
    exact ⟨[], slc_nil w _ _ (by omega)⟩
  · obtain rfl : v = .slice (some a) len cap := by simpa using hcs
    unfold maxLen at hm
    have hle : len ≤ zs.length := by rw [hz]; split <;> omega
    have hlt : (zs.take len).length = len := by rw [List.length_take]; omega
    rcases Nat.eq_zero_or_pos len with h0 | h0
    · subst h0
      exact ⟨[], slc_nil w _ _ (by omega)⟩
    · obtain ⟨b, off, spot⟩ := a
      have h1 := hi 0 (by omega)
      have hspot : spot = none := by simpa [Addr.add] using World.cell?_spot h1
      subst hspot
      refine ⟨zs.take len, ?_⟩
      have := Slc.mk (w := w) (b := b) (off := off) (cap := cap) (xs := zs.take len) (by omega) (by omega) (fun i hi' => by
        rw [hlt] at hi'
        have := hi i (by omega)
        rw [add_plain] at this
        rw [this, List.getElem?_take, if_pos hi', List.getD_eq_getElem?_getD])
      rwa [hlt] at this

set_option maxRecDepth 100000 in
theorem open_fan {r : Reach} {b0 : Nat} {v : Value} {d : DataW H} {p : List MemPlace} (hv : Value.okWide Try.prog w r b0 24 v) (h : DataW.Trod enc Try.prog w base spare held 24 v d p) :
    ∃ (sv : Value) (B W : Int) (xs : List Int), v = .agg #[sv, .int .i64 B, .int .i64 W] ∧ Slc w sv xs := by
  obtain ⟨cs, rfl, _⟩ := okWide_struct Try.underlying24 hv
  obtain ⟨n, h⟩ := h
  obtain ⟨cl⟩ := cs
  simp only [Value.cells] at h
  obtain ⟨ys, n2, _, _, hcl, hyl, hf⟩ := DataW.trod_struct Try.underlying24 h
  rw [cellsF3] at hcl
  match cl, hcl with
  | [c0, c1, c2], _ =>
    have f0 : DataW.trod enc Try.prog w base spare held n2 22 (([c0, c1, c2].drop 0).take (Try.prog.cellsOf 22)) = ys[0]? := hf 0 _ rfl
    have f1 : DataW.trod enc Try.prog w base spare held n2 3 (([c0, c1, c2].drop 1).take (Try.prog.cellsOf 3)) = ys[1]? := hf 1 _ rfl
    have f2 : DataW.trod enc Try.prog w base spare held n2 3 (([c0, c1, c2].drop 2).take (Try.prog.cellsOf 3)) = ys[2]? := hf 2 _ rfl
    simp only [cellsFI, cellsFL, List.drop_zero, List.take_succ_cons, List.take_zero, List.drop_succ_cons] at f0 f1 f2
    have hyl2 : ys.length = 3 := hyl
    rw [List.getElem?_eq_getElem (by omega)] at f0 f1 f2
    obtain ⟨xs, hx⟩ := open_slv f0
    obtain ⟨z1, e1, _, _⟩ := DataW.trod_int Try.underlying3 f1
    obtain ⟨z2, e2, _, _⟩ := DataW.trod_int Try.underlying3 f2
    simp only [List.cons.injEq, and_true] at e1 e2
    subst e1 e2
    exact ⟨c0, z1, z2, xs, rfl, hx⟩
end
end Go.Proofs.Ytgpblgalklegkaa

namespace Go.Proofs.Ytgpblgalklegkaa.fans
open Go.ChangeShapes Go.WideShapes Go.ChangeAt Go.RowKit Go.Sort

set_option maxRecDepth 100000 in
set_option maxHeartbeats 3200000 in
theorem walk (sv : Value) (l : List Int) (B Wn n : Int) (w : World) (hv : Slc w sv l) :
    Calls Try.prog 3 #[.agg #[sv, .int .i64 B, .int .i64 Wn], .int .i64 n] w fun e w' => e = .returned (.bool true) ∧ Bl w w' := by
  have h1 := Lib.hid (fun w' (m : Bl w w') => levels_prog sv l B Wn n w' (hv.bl m))
  have h2 := Lib.hid (fun w' (m : Bl w w') => levels_ref sv l B Wn n w' (hv.bl m))
  have h3 := Lib.hid (fun w' (m : Bl w w') => checkFan_prog sv l B Wn w' (hv.bl m))
  have h4 := Lib.hid (fun w' (m : Bl w w') => checkFan_ref sv l B Wn w' (hv.bl m))
  unfold PLv at h1 h2
  generalize lvX l B Wn n = X at h1 h2
  generalize lvR l B Wn n = R at h1 h2
  generalize fanX l B Wn = Y at h3 h4
  obtain ⟨o, c, rfl, _⟩ := hv
  obtain ⟨W0, hW0⟩ : ∃ W0, W0 = w.alloc (.cells #[.slice o l.length c, .int .i64 B, .int .i64 Wn] 24) := ⟨_, rfl⟩
  have bW : Bl w W0 := by rw [hW0]; exact (Bl.refl w).alloc _
  have KK := Lib.hid (fun w' (m : Bl W0 w') => show w'.cell? ⟨w.heap.size, 0, none⟩ = some (.slice o l.length c) ∧ w'.cell? ⟨w.heap.size, 1, none⟩ = some (.int .i64 B) ∧ w'.cell? ⟨w.heap.size, 2, none⟩ = some (.int .i64 Wn) from ⟨m.cell (by rw [hW0]; simp), m.cell (by rw [hW0]; simp), m.cell (by rw [hW0]; simp)⟩)
  have t1 : (Y == Y) = true := by simp
  have t2 : (X == X) = true := by simp
  go_enter Try.func3, Try.ntmps3
  go_wp2_with fail
  rw [← hW0]
  clear hW0
  refine (h1.out _ bW).mono ?_
  rintro e w1 ⟨v1, rfl, s1, m1⟩
  have S1 := Lib.hid s1
  clear s1
  obtain ⟨k0, k1, k2⟩ := KK.out _ m1
  go_wp2_with fail
  refine (h2.out _ (bW.trans m1)).mono ?_
  rintro e w2 ⟨v2, rfl, s2, m2⟩
  have S2 := Lib.hid s2
  clear s2 k0 k1 k2
  obtain ⟨k0, k1, k2⟩ := KK.out _ (m1.trans m2)
  have cw0 := k0
  have cw1 := k1
  have cw2 := k2
  have b2 : Bl w w2 := bW.trans (m1.trans m2)
  go_wp2_with fail
  go_region_held3 (fun w' => w'.cell? ⟨w.heap.size, 0, none⟩ = some (.slice o l.length c) ∧ w'.cell? ⟨w.heap.size, 1, none⟩ = some (.int .i64 B) ∧ w'.cell? ⟨w.heap.size, 2, none⟩ = some (.int .i64 Wn))
    (refine ⟨Bl.cell (w := w2) ?_ cw0, Bl.cell (w := w2) ?_ cw1, Bl.cell (w := w2) ?_ cw2⟩ <;> ((repeat (first | with_reducible exact Bl.refl _ | with_reducible assumption | with_reducible refine Bl.drew ?_ | with_reducible refine Bl.alloc ?_ _ | with_reducible refine Bl.trans ?_ (by assumption))); done))
    (first
      | (go_at_call 8; (with_reducible refine (h3.out _ (b2.trans (by ((repeat (first | with_reducible exact Bl.refl _ | with_reducible assumption | with_reducible refine Bl.drew ?_ | with_reducible refine Bl.alloc ?_ _ | with_reducible refine Bl.trans ?_ (by assumption))); done)))).mono ?_); rintro e' w6 ⟨rfl, m6⟩)
      | (go_at_call 9; (with_reducible refine (h4.out _ (b2.trans (by ((repeat (first | with_reducible exact Bl.refl _ | with_reducible assumption | with_reducible refine Bl.drew ?_ | with_reducible refine Bl.alloc ?_ _ | with_reducible refine Bl.trans ?_ (by assumption))); done)))).mono ?_); rintro e' w7 ⟨rfl, m7⟩)
      | (go_at_call 10; (with_reducible refine (equal_ints _ _ R _ (S1.out.bl (m2.trans (by ((repeat (first | with_reducible exact Bl.refl _ | with_reducible assumption | with_reducible refine Bl.drew ?_ | with_reducible refine Bl.alloc ?_ _ | with_reducible refine Bl.trans ?_ (by assumption))); done)))) (S2.out.bl (by ((repeat (first | with_reducible exact Bl.refl _ | with_reducible assumption | with_reducible refine Bl.drew ?_ | with_reducible refine Bl.alloc ?_ _ | with_reducible refine Bl.trans ?_ (by assumption))); done)))).mono ?_); rintro e' w8 ⟨rfl, m8⟩))
  go_wp2_with fail
  go_returns
  exact ⟨rfl, b2.trans (by ((repeat (first | with_reducible exact Bl.refl _ | with_reducible assumption | with_reducible refine Bl.drew ?_ | with_reducible refine Bl.alloc ?_ _ | with_reducible refine Bl.trans ?_ (by assumption))); done))⟩

theorem own : ownKnob Try.prog.godebug = none := by kernel_rfl
theorem laid : laidOutB Try.prog = true := by kernel_rfl

set_option maxRecDepth 100000 in
theorem lifted (os : Os) (started : os.Started) (H : Type) (enc : TypeId × Value → H) :
    ReturnsInHanded {} Try.checked os 3 .any (Rows.pickFansMatchSpecSpec.pre6 enc Try.prog Try.f3 Rows.pickFansMatchSpecRow.domain false) (Rows.pickFansMatchSpecSpec.post enc Try.prog Try.f3 false true false false) := by
  refine returnsInHanded_of_change (C := Try.checked) own started (by kernel_rfl) Try.func3
    (ChangeSpec.witness6 (enc := enc) (C := Try.checked) false ⟨#[], #[.agg #[.slice none 0 0, .int .i64 0, .int .i64 0], .int .i64 0], []⟩ 8 (by kernel_rfl) (by kernel_rfl) (by kernel_rfl) (by kernel_rfl)) ?_
  intro W base args ds gs before hval0 hW hcnd _
  have hval : ∀ (j : Nat) t v, Try.f3.params[j]? = some t → args[j]? = some v → Value.okWide Try.prog W .any base t v := hval0
  have hW' := hW
  obtain ⟨p, q, hA0, hV, rfl, hfz, hnd⟩ := hW
  have hA : DataW.TrodAll enc Try.prog W 0 (fun _ => true) true Try.f3.params.toList args.toList ds p := hA0
  rw [Try.params3] at hA hval
  obtain ⟨v0, vs0, d0, ds0, p0, q0, hargs, rfl, rfl, h0, r0⟩ := trodAll_cons hA
  obtain ⟨v1, vs1, d1, ds1, p1, q1, rfl, rfl, rfl, h1, r1⟩ := trodAll_cons r0
  obtain ⟨rfl, rfl, rfl⟩ := trodAll_nil r1
  obtain rfl : args = #[v0, v1] := by cases args; simp_all
  obtain ⟨rfl, rfl⟩ := trodVars_none hV
  obtain ⟨sv0, B0, W0, xs0, rfl, hx0⟩ := open_fan (hval 0 24 v0 rfl rfl) h0
  obtain ⟨a1, rfl, rfl, rfl, w1⟩ := open_int Try.underlying3 (hval 1 3 v1 rfl rfl) h1
  clear hA0 hval0
  refine (walk sv0 xs0 B0 W0 a1 W hx0).mono fun e W' ⟨he, hg⟩ => ?_
  subst he
  exact ⟨_, rfl, law_old hW' rfl rfl (by kernel_rfl) Try.underlying4 laid (by kernel_rfl) hg⟩

theorem over : Rows.pickFansMatchSpecRow.holds Try.pinned (OpenSpec.ofChange Rows.pickFansMatchSpecSpec) :=
  OpenClaim.holds_of_wide 3 Try.f3 rfl rfl rfl rfl rfl rfl rfl ⟨rfl, rfl, rfl, rfl, rfl⟩ rfl rfl rfl rfl rfl (by kernel_rfl) Try.func3 (by kernel_rfl)
    (of_decide_eq_true (by kernel_rfl)) (by unfold Func.isWrapper; first | (rw [if_pos (by decide +kernel)]; kernel_rfl) | (rw [if_neg (by decide +kernel)]; exact ⟨rfl, rfl⟩))
    (fun os started H enc _ => lifted os started H enc)

/-- The statement. -/
theorem proved : Rows.PickFansMatchSpecSaid :=
  over
end Go.Proofs.Ytgpblgalklegkaa.fans

