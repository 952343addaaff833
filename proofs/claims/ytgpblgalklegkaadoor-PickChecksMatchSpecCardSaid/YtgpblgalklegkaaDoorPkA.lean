/- partsOf of the program: the parts of a selection. -/
import Derived.Test.YtgpblgalklegkaaDoorPkM
namespace Go.Proofs.YtgpblgalklegkaaDoor
open Go.RowKit Go.Sort

/-- What partsOf gives. -/
def PPar (W : World) (M : Option (List Pk)) (e : Ending) (w' : World) : Prop := Bl W w' ∧
  match M with
  | none => e = .returned (.tuple #[.slice none 0 0, .bool false])
  | some L => ∃ (v : Value) (ys : List (Pk × Value)), e = .returned (.tuple #[v, .bool true]) ∧ ys.map Prod.fst = L ∧ (∀ y ∈ ys, PkV W y.2 y.1.args) ∧ RowP W.heap.size w' v ys ∧ ys.length ≤ 200
/-- Where the loop stands. -/
def ParRel (W : World) (M : Option (List Pk)) (d : Nat) (A : List Pk) (v0 v25 : Value) (wr : World) : Prop := ∃ (j : Nat) (xs : List (Pk × Value)), j ≤ A.length ∧ v25 = .int .i64 j ∧ M = (A.drop j).foldlM (partsM d) (xs.map Prod.fst) ∧
  (∀ y ∈ xs, PkV W y.2 y.1.args) ∧ RowP W.heap.size wr v0 xs ∧ xs.length ≤ 200 ∧ Bl W wr

set_option maxRecDepth 100000 in
set_option maxHeartbeats 3200000 in
theorem parts_any (W : World) : ∀ (d : Nat) (_ : d ≤ 12) (w : World) (_ : Bl W w) (v : Value) (xs : List (Pk × Value)) (_ : ∀ y ∈ xs, PkV W y.2 y.1.args) (_ : RowP W.heap.size w v xs) (_ : xs.length ≤ 200) (p : Pk) (sv : Value) (_ : PkV W sv p.args),
    Calls Tryd.prog 31 #[v, .agg #[.int .i64 p.kind, .int .i64 p.frm, .int .i64 p.to, sv], .int .i64 (13 - (d : Int))] w (PPar W (partsM d (xs.map Prod.fst) p)) := by
  intro d
  induction d with
  | zero =>
    intro hd w bW v xs hx hrow hlen p sv hsv
    obtain ⟨o, cap, rfl⟩ := hrow.form
    obtain ⟨o2, cap2, rfl, _⟩ := hsv.form
    unfold PPar
    show Calls _ _ _ _ fun e w' => _ ∧ e = _
    clear hx hrow
    go_enter Tryd.func31, Tryd.ntmps31
    go_wp2_with fail
    go_returns
    exact ⟨bW.alloc _, rfl⟩
  | succ d ih =>
    intro hd w bW v xs hx hrow hlen p sv hsv
    obtain ⟨o, cap, rfl⟩ := hrow.form
    obtain ⟨o2, cap2, rfl, hm2⟩ := hsv.form
    have t0 : ¬ (12 : Int) < 13 - ((d : Int) + 1) := by omega
    have hB := bW.alloc (.cells #[.int .i64 p.kind, .int .i64 p.frm, .int .i64 p.to, .slice o2 p.args.length cap2] 24)
    have HB := Lib.hid hB
    by_cases h2 : xs.length = 200
    · have t1 : ((xs.length : Int) == 200) = true := by rw [beq_iff_eq]; omega
      have e : Hid (partsM (d + 1) (xs.map Prod.fst) p = none) := by
        show (if _ then _ else _) = _
        rw [if_pos (by rw [List.length_map]; exact h2)]
      unfold PPar
      rw [e.out]
      show Calls _ _ _ _ fun e w' => _ ∧ e = _
      clear hx hrow h2 hB ih hsv
      go_enter Tryd.func31, Tryd.ntmps31
      go_wp2_with fail
      go_returns
      exact ⟨HB.out, rfl⟩
    · have t1 : ((xs.length : Int) == 200) = false := by rw [beq_eq_false_iff_ne]; omega
      have e : Hid (partsM (d + 1) (xs.map Prod.fst) p = p.args.foldlM (partsM d) (xs.map Prod.fst ++ [p])) := by
        show (if _ then _ else _) = _
        rw [if_neg (by rw [List.length_map]; exact h2)]
      have IH := Lib.hid (ih (by omega))
      have HX := Lib.hid hx
      have HR := Lib.hid hrow
      have HS := Lib.hid hsv
      have hlz : xs.length ≤ 199 := by omega
      clear hx hrow hB ih hsv h2
      obtain ⟨M, hM⟩ : ∃ M, partsM (d + 1) (xs.map Prod.fst) p = M := ⟨_, rfl⟩
      rw [hM] at e
      rw [hM]
      clear hM
      go_enter Tryd.func31, Tryd.ntmps31
      go_wp2_with (at_builtin; refine app_pk rfl _ _ rfl W.heap.size _ _ xs p o2 p.args.length cap2 (RowP.bl HR.out ((Bl.refl w).alloc _)) rfl _ rfl (by simp) (by omega) (HB.out.size) ?_; intro v' w' hrow' hbl' hgr'; have c3 := RowP.box (j := 3) (x := .slice o2 p.args.length cap2) HR.out hgr' (by simp); have HR1 := Lib.hid hrow'; have HB1 := Lib.hid (hbl' W HB.out (Nat.le_refl _)); clear hrow' hbl' hgr')
      have HM : Hid (∀ y ∈ xs ++ [(p, Value.slice o2 p.args.length cap2)], PkV W y.2 y.1.args) := fun y hy => by
        rcases List.mem_append.1 hy with h | h
        · exact HX.out y h
        · cases List.mem_singleton.1 h; exact HS.out
      have hfst : Hid ((xs ++ [(p, Value.slice o2 p.args.length cap2)]).map Prod.fst = xs.map Prod.fst ++ [p]) := by show _ = _; simp
      go_loopw [0, 25] (fun v0 v25 wr => ParRel W M d p.args v0 v25 wr) (fun _ v25 _ => p.args.length - (intOf v25).toNat)
      case atStart => exact ⟨0, _, Nat.zero_le _, rfl, by rw [hfst.out, List.drop_zero]; exact e.out, HM.out, HR1.out, by simp; omega, HB1.out⟩
      case round =>
        obtain ⟨j, ys, hj, rfl, hm, hy, hr, hl, hb⟩ := hrel
        have HRy := Lib.hid hr
        have HY := Lib.hid hy
        have HMy := Lib.hid hm
        clear hm hy hr
        by_cases hlt : j < p.args.length
        · obtain ⟨b, off, sv, rfl, ⟨c0, c1, c2, c3⟩, hsv⟩ := HS.out.at j hlt
          have c0 := hb.cell c0
          have c1 := hb.cell c1
          have c2 := hb.cell c2
          have c3 := hb.cell c3
          obtain ⟨o4, cap4, hsv4, hm4⟩ := hsv.form
          have HSV := Lib.hid hsv
          have hstep := Lib.hid (foldlM_at (partsM d) (ys.map Prod.fst) p.args j hlt)
          obtain ⟨a, ha⟩ : ∃ a, a = p.args[j] := ⟨_, rfl⟩
          rw [← ha] at c0 c1 c2 HSV hstep hsv4 hm4
          subst hsv4
          clear ha hsv
          have hB2 := hb.alloc (.cells #[.int .i64 a.kind, .int .i64 a.frm, .int .i64 a.to, .slice o4 a.args.length cap4] 24)
          have HC := Lib.hid (IH.out _ hB2 _ ys HY.out (HRy.out.bl ((Bl.refl wr).alloc _)) hl a _ HSV.out)
          have hlev : IntKind.i64.wrap (13 - ((d : Int) + 1) + 1) = 13 - (d : Int) := by rw [IntWalk.i64_in _ (by omega)]; omega
          clear hB2
          go_wp2_with fail
          refine HC.out.mono ?_
          rintro e1 w1 hp
          unfold PPar at hp
          cases hq : partsM d (ys.map Prod.fst) a with
          | none =>
            rw [hq] at hp
            obtain ⟨b1, rfl⟩ := hp
            have hM : Hid (M = none) := by show _ = _; rw [HMy.out, hstep.out, hq]; rfl
            clear hq
            go_wp2_with fail
            go_returns
            unfold PPar
            rw [hM.out]
            exact ⟨b1, rfl⟩
          | some L =>
            rw [hq] at hp
            obtain ⟨b1, v5, zs, rfl, hz1, hz2, hz3, hz4⟩ := hp
            have hM : Hid (M = (p.args.drop (j + 1)).foldlM (partsM d) (zs.map Prod.fst)) := by show _ = _; rw [HMy.out, hstep.out, hq, hz1]; rfl
            have HZ2 := Lib.hid hz2
            have HZ3 := Lib.hid hz3
            clear hq hz1 hz2 hz3
            go_wp2_with fail
            go_roundw
            case rel => exact ⟨j + 1, zs, by omega, by go_num, hM.out, HZ2.out, HZ3.out, hz4, b1⟩
            case measure => simp [intOf]; omega
        · obtain rfl : j = p.args.length := by omega
          have hM : Hid (M = some (ys.map Prod.fst)) := by show _ = _; rw [HMy.out, List.drop_length]; rfl
          go_wp2_with fail
          go_returns
          unfold PPar
          rw [hM.out]
          exact ⟨hb, _, ys, rfl, rfl, HY.out, HRy.out, hl⟩
end Go.Proofs.YtgpblgalklegkaaDoor
