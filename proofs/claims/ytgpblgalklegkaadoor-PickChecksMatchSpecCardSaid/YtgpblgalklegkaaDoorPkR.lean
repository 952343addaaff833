/- parts of the reference: how many parts a selection has, and its greatest level. -/
import Derived.Test.YtgpblgalklegkaaDoorPkM
namespace Go.Proofs.YtgpblgalklegkaaDoor
open Go.RowKit Go.Sort

theorem foldl_at {α β : Type} (f : β → α → β) (b : β) (l : List α) (k : Nat) (hk : k < l.length) : (l.drop k).foldl f b = (l.drop (k + 1)).foldl f (f b l[k]) := by
  rw [List.drop_eq_getElem_cons hk]; rfl
theorem foldl_le (c : Pk → Nat) : ∀ (l : List Pk) (n : Nat), n ≤ 201 → l.foldl (fun n a => min (n + c a) 201) n ≤ 201
  | [], _, h => h
  | _ :: r, _, _ => foldl_le c r _ (Nat.min_le_right _ _)
theorem cntD_le : ∀ (d : Nat) (p : Pk), cntD d p ≤ 201
  | 0, _ => by unfold cntD; omega
  | d + 1, p => foldl_le (cntD d) p.args 1 (by omega)
theorem foldl_le2 (c : Pk → Nat) (hc : ∀ a, c a ≤ 13) : ∀ (l : List Pk) (n : Nat), n ≤ 13 → l.foldl (fun n a => max n (c a)) n ≤ 13
  | [], _, h => h
  | x :: r, n, h => foldl_le2 c hc r _ (by have := hc x; show max n (c x) ≤ 13; omega)
theorem depD_le : ∀ (d : Nat) (p : Pk), depD d p ≤ 13
  | 0, _ => by unfold depD; omega
  | d + 1, p => foldl_le2 (depD d) (depD_le d) p.args _ (by omega)

set_option maxRecDepth 100000 in
set_option maxHeartbeats 3200000 in
theorem parts_ref : ∀ (d : Nat) (_ : d ≤ 12) (p : Pk) (sv : Value) (w : World) (_ : PkV w sv p.args),
    Calls Tryd.prog 33 #[.agg #[.int .i64 p.kind, .int .i64 p.frm, .int .i64 p.to, sv], .int .i64 (13 - (d : Int))] w fun e w' => e = .returned (.tuple #[.int .i64 (cntD d p), .int .i64 (depD d p)]) ∧ Bl w w' := by
  intro d
  induction d with
  | zero =>
    intro hd p sv w hsv
    obtain ⟨o, cap, rfl, _⟩ := hsv.form
    clear hsv
    go_enter Tryd.func33, Tryd.ntmps33
    go_wp2_with fail
    go_returns
    exact ⟨rfl, (Bl.refl w).alloc _⟩
  | succ d ih =>
    intro hd p sv w hsv
    obtain ⟨o, cap, rfl, hm⟩ := hsv.form
    have IH := Lib.hid (ih (by omega))
    have HS := Lib.hid hsv
    have t0 : ¬ (12 : Int) < 13 - ((d : Int) + 1) := by omega
    obtain ⟨X, hX⟩ : ∃ X, cntD (d + 1) p = X := ⟨_, rfl⟩
    obtain ⟨Y, hY⟩ : ∃ Y, depD (d + 1) p = Y := ⟨_, rfl⟩
    have HX : Hid (X = p.args.foldl (fun n a => min (n + cntD d a) 201) 1) := hX.symm
    have HY : Hid (Y = p.args.foldl (fun n a => max n (depD d a)) (12 - d)) := hY.symm
    rw [hX, hY]
    clear hX hY ih hsv
    go_enter Tryd.func33, Tryd.ntmps33
    go_wp2_with fail
    go_loopw [6, 7, 20] (fun v6 v7 v20 wr => ∃ (j n m : Nat), j ≤ p.args.length ∧ v20 = .int .i64 j ∧ v6 = .int .i64 n ∧ v7 = .int .i64 m ∧ Hid (X = (p.args.drop j).foldl (fun n a => min (n + cntD d a) 201) n) ∧ Hid (Y = (p.args.drop j).foldl (fun n a => max n (depD d a)) m) ∧ n ≤ 201 ∧ m ≤ 13 ∧ Bl w wr) (fun _ _ v20 _ => p.args.length - (intOf v20).toNat)
    case atStart => exact ⟨0, 1, 12 - d, Nat.zero_le _, rfl, rfl, congrArg (Value.int .i64) (by omega), HX, HY, by omega, by omega, (Bl.refl w).alloc _⟩
    case round =>
      obtain ⟨j, n, m, hj, rfl, rfl, rfl, hx, hy, hn, hm2, hb⟩ := hrel
      by_cases hlt : j < p.args.length
      · obtain ⟨b, off, sv, rfl, ⟨c0, c1, c2, c3⟩, hsv⟩ := HS.out.at j hlt
        have c0 := hb.cell c0
        have c1 := hb.cell c1
        have c2 := hb.cell c2
        have c3 := hb.cell c3
        obtain ⟨o4, cap4, hsv4, hm4⟩ := hsv.form
        have st1 := Lib.hid (foldl_at (fun n a => min (n + cntD d a) 201) n p.args j hlt)
        have st2 := Lib.hid (foldl_at (fun n a => max n (depD d a)) m p.args j hlt)
        obtain ⟨a, ha⟩ : ∃ a, a = p.args[j] := ⟨_, rfl⟩
        rw [← ha] at c0 c1 c2 hsv st1 st2 hsv4 hm4
        subst hsv4
        have HC := Lib.hid (IH.out a _ _ (hsv.bl (hb.alloc (.cells #[.int .i64 a.kind, .int .i64 a.frm, .int .i64 a.to, .slice o4 a.args.length cap4] 24))))
        have k1 := cntD_le d a
        have k2 := depD_le d a
        have hnx : Hid (X = (p.args.drop (j + 1)).foldl (fun n a => min (n + cntD d a) 201) (min (n + cntD d a) 201)) := by show _ = _; rw [hx.out, st1.out]
        have hny : Hid (Y = (p.args.drop (j + 1)).foldl (fun n a => max n (depD d a)) (max m (depD d a))) := by show _ = _; rw [hy.out, st2.out]
        have hlev : IntKind.i64.wrap (13 - ((d : Int) + 1) + 1) = 13 - (d : Int) := by rw [IntWalk.i64_in _ (by omega)]; omega
        generalize cntD d a = q1 at *
        generalize depD d a = q2 at *
        clear ha hsv st1 st2
        go_wp2_with fail
        refine HC.out.mono ?_
        rintro e1 w1 ⟨rfl, b1⟩
        go_wp2_with fail
        go_roundw
        case rel => exact ⟨j + 1, min (n + q1) 201, max m q2, by omega, by go_num, by go_num, by go_num, hnx, hny, by omega, by omega, (hb.alloc _).trans b1⟩
        case measure => simp [intOf]; omega
      · obtain rfl : j = p.args.length := by omega
        have e1 : X = n := by rw [hx.out, List.drop_length]; rfl
        have e2 : Y = m := by rw [hy.out, List.drop_length]; rfl
        subst e1 e2
        go_wp2_with fail
        go_returns
        exact ⟨rfl, hb⟩
end Go.Proofs.YtgpblgalklegkaaDoor
