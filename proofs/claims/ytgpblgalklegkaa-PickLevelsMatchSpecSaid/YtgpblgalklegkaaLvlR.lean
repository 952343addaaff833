/- Level of the reference: the level that a value is for a key. -/
import Derived.Test.YtgpblgalklegkaaFindR
import Derived.Test.YtgpblgalklegkaaRefL
namespace Go.Proofs.Ytgpblgalklegkaa
open Go.RowKit Go.Sort

theorem isLevel_hasR (n : Int) (v : Bool) (h : isLev n = v) (w : World) :
    Calls Try.prog 20 #[.int .i64 n] w fun e w' => e = .returned (.bool v) ∧ w = w' := by
  subst h; exact isLevel_ref n w

set_option maxRecDepth 100000 in
set_option maxHeartbeats 3200000 in
theorem level_plainR (v : Value) (u : Int) (p : ByteArray) (lev pre : Int) (X : Int × Int) (w : World) (h1 : lev ≠ 0 ∨ pre = 0) (hX : (if lev ≠ 0 ∧ pre ≠ 0 then (0, 3) else if isLev lev = false then (0, 1) else (lev, 0)) = X) :
    Calls Try.prog 14 #[v, .agg #[.int .i64 u, .string p], .agg #[.int .i64 lev, .int .i64 pre]] w fun e w' => e = .returned (.tuple #[.int .i64 X.1, .int .i64 X.2]) ∧ Bl w w' := by
  have hB : Bl w ((w.alloc (.cells #[.int .i64 u, .string p] 35)).alloc (.cells #[.int .i64 lev, .int .i64 pre] 37)) := ((Bl.refl w).alloc _).alloc _
  have HB := Lib.hid hB
  clear hB
  by_cases h2 : pre = 0
  · have s2 : (pre != 0) = false := by simpa using h2
    have s3 : (pre == 0) = true := by simpa using h2
    rw [if_neg (fun h => h.2 h2)] at hX
    have key : (lev != 0) = true ∨ (lev != 0) = false := by cases lev != 0 <;> simp
    cases hi : isLev lev with
    | false =>
      rw [if_pos hi] at hX
      subst hX
      have HI := Lib.hid (isLevel_hasR lev _ hi)
      clear hi h1 h2
      rcases key with s1 | s1
      all_goals
        go_enter Try.func14, Try.ntmps14
        go_wp2_with fail
        refine (HI.out _).mono ?_
        rintro e w1 ⟨rfl, rfl⟩
        go_wp2_with fail
        go_returns
        exact ⟨rfl, HB.out⟩
    | true =>
      rw [if_neg (by rw [hi]; decide)] at hX
      subst hX
      have HI := Lib.hid (isLevel_hasR lev _ hi)
      clear hi h1 h2
      rcases key with s1 | s1
      all_goals
        go_enter Try.func14, Try.ntmps14
        go_wp2_with fail
        refine (HI.out _).mono ?_
        rintro e w1 ⟨rfl, rfl⟩
        go_wp2_with fail
        go_returns
        exact ⟨rfl, HB.out⟩
  · have h3 : lev ≠ 0 := h1.resolve_right h2
    have s1 : (lev != 0) = true := by simpa using h3
    have s2 : (pre != 0) = true := by simpa using h2
    rw [if_pos ⟨h3, h2⟩] at hX
    subst hX
    clear h1 h2 h3
    go_enter Try.func14, Try.ntmps14
    go_wp2_with fail
    go_returns
    exact ⟨rfl, HB.out⟩

set_option maxRecDepth 100000 in
set_option maxHeartbeats 3200000 in
theorem level_foundR (v : Value) (L : List Pr) (u : Int) (p : ByteArray) (pre : Int) (X : Int × Int) (w : World) (hv : PrVal w v L) (hpre : pre ≠ 0)
    (hX : (match prFind L pre with | none => ((0 : Int), (8 : Int)) | some q => match stFind q.sets u p with | none => (0, 8) | some x => (x, 0)) = X) :
    Calls Try.prog 14 #[v, .agg #[.int .i64 u, .string p], .agg #[.int .i64 0, .int .i64 pre]] w fun e w' => e = .returned (.tuple #[.int .i64 X.1, .int .i64 X.2]) ∧ Bl w w' := by
  obtain ⟨W, hW⟩ : ∃ W, W = (w.alloc (.cells #[.int .i64 u, .string p] 35)).alloc (.cells #[.int .i64 0, .int .i64 pre] 37) := ⟨_, rfl⟩
  have bW : Bl w W := by rw [hW]; exact ((Bl.refl w).alloc _).alloc _
  have HF := Lib.hid (find_ref v L pre W (hv.bl bW))
  have HI := Lib.hid (isLevel_hasR 0 true (by decide))
  have K := Lib.hid (fun w' (m : Bl W w') => show w'.cell? ⟨w.heap.size, 0, none⟩ = some (.int .i64 u) ∧ w'.cell? ⟨w.heap.size, 1, none⟩ = some (.string p) from ⟨m.cell (by rw [hW]; simp), m.cell (by rw [hW]; simp)⟩)
  have hz : W.heap.size = w.heap.size + 2 := by rw [hW]; simp
  have s1 : (pre == 0) = false := by simpa using hpre
  have i1 : W.cell? ⟨w.heap.size + 1, 0, none⟩ = some (.int .i64 0) := by rw [hW]; simp
  have i2 : W.cell? ⟨w.heap.size + 1, 1, none⟩ = some (.int .i64 pre) := by rw [hW]; simp
  unfold PFind at HF
  have HV := Lib.hid hv
  clear hv hpre
  obtain ⟨o0, n0, c0, rfl⟩ : ∃ o n c, v = .slice o n c := by obtain ⟨o, c, h, _⟩ := HV.out; exact ⟨o, _, c, h⟩
  go_enter Try.func14, Try.ntmps14
  go_wp2_with fail
  rw [← hW]
  clear hW
  refine (HI.out _).mono ?_
  rintro e w1 ⟨rfl, rfl⟩
  go_wp2_with fail
  refine HF.out.mono ?_
  rintro e w1 ⟨a, t, sv, rfl, ⟨o, l, c, hsv⟩, hq, m1⟩
  subst hsv
  cases hfd : prFind L pre with
  | none =>
    rw [hfd] at hX
    subst hX
    clear hq
    go_wp2_with fail
    go_returns
    exact ⟨rfl, (bW.trans m1).alloc _⟩
  | some q =>
    obtain ⟨rfl, rfl, hsv⟩ := hq q hfd
    rw [hfd] at hX
    have hX : (match stFind q.sets u p with | none => ((0 : Int), (8 : Int)) | some x => (x, 0)) = X := hX
    clear hq hfd
    have HS := Lib.hid hsv
    obtain ⟨o', c', he, hl, hat⟩ := hsv
    cases he
    have HT := Lib.hid hat
    clear hat
    have bw1 : Bl w w1 := bW.trans m1
    have HA := Lib.hid (fun k (hk : k < q.sets.length) => stFind_at q.sets u p k hk)
    have HX := Lib.hid hX
    clear hX hz i1 i2 s1
    go_wp2_with fail
    obtain ⟨w2, hw2⟩ : ∃ w2, w2 = w1.alloc (.cells #[.int .i64 q.num, .string q.title, .slice o q.sets.length c] 47) := ⟨_, rfl⟩
    have m2 : Bl w1 w2 := by rw [hw2]; exact (Bl.refl _).alloc _
    rw [← hw2]
    clear hw2
    go_loopw [44] (fun i wr => ∃ k : Nat, k ≤ q.sets.length ∧ i = .int .i64 k ∧ Hid (stFind q.sets u p = stFind (q.sets.drop k) u p) ∧ Bl w2 wr) (fun i _ => q.sets.length - (intOf i).toNat)
    case atStart => exact ⟨0, Nat.zero_le _, rfl, Lib.hid rfl, Bl.refl w2⟩
    case round =>
      obtain ⟨k, hk, rfl, hf, hb⟩ := hrel
      obtain ⟨k0, k1⟩ := K.out _ (m1.trans (m2.trans hb))
      by_cases hlt : k < q.sets.length
      · obtain ⟨b, off, rfl, hat⟩ := HT.out (by omega)
        obtain ⟨c0, c1, c2⟩ := (hat.bl (m2.trans hb)) k hlt
        have hstep := Lib.hid (HA.out k hlt)
        obtain ⟨s, hs⟩ : ∃ s, s = q.sets[k] := ⟨_, rfl⟩
        rw [← hs] at c0 c1 c2 hstep
        clear hs hat
        have hzw : w.heap.size < wr.heap.size := World.block_lt_of_cell? _ _ k0
        by_cases hu : s.unit = u
        · by_cases hpp : s.param.toList = p.toList
          · have hr : Hid (stFind q.sets u p = some s.lev) := by show _ = _; rw [hf.out, hstep.out, if_pos ⟨hu, hpp⟩]
            have hX : X = (s.lev, 0) := by rw [← HX.out, hr.out]
            subst hX
            go_wp2_with fail
            go_returns
            exact ⟨rfl, (bw1.trans (m2.trans hb)).alloc _⟩
          · have hr : Hid (stFind q.sets u p = stFind (q.sets.drop (k + 1)) u p) := by show _ = _; rw [hf.out, hstep.out, if_neg (fun h => hpp h.2)]
            go_wp2_with fail
            go_roundw
            case rel => exact ⟨k + 1, by omega, by go_num, hr, hb.alloc _⟩
            case measure => simp [intOf]; omega
        · have hr : Hid (stFind q.sets u p = stFind (q.sets.drop (k + 1)) u p) := by show _ = _; rw [hf.out, hstep.out, if_neg (fun h => hu h.1)]
          go_wp2_with fail
          go_roundw
          case rel => exact ⟨k + 1, by omega, by go_num, hr, hb.alloc _⟩
          case measure => simp [intOf]; omega
      · obtain rfl : k = q.sets.length := by omega
        have hr : Hid (stFind q.sets u p = none) := by show _ = _; rw [hf.out, List.drop_length]; rfl
        have hX : X = (0, 8) := by rw [← HX.out, hr.out]
        subst hX
        go_wp2_with fail
        go_returns
        exact ⟨rfl, bw1.trans (m2.trans hb)⟩

/-- What Level says, for all presets, keys and values. -/
theorem level_ref (v : Value) (L : List Pr) (u : Int) (p : ByteArray) (lev pre : Int) (w : World) (hv : PrVal w v L) :
    Calls Try.prog 14 #[v, .agg #[.int .i64 u, .string p], .agg #[.int .i64 lev, .int .i64 pre]] w fun e w' => e = .returned (.tuple #[.int .i64 (valX (isLev lev) L u p lev pre).1, .int .i64 (valX (isLev lev) L u p lev pre).2]) ∧ Bl w w' := by
  by_cases h1 : lev ≠ 0 ∨ pre = 0
  · refine level_plainR v u p lev pre _ w h1 ?_
    unfold valX
    by_cases h2 : pre = 0
    · rw [if_neg (show ¬(lev ≠ 0 ∧ pre ≠ 0) from fun h => h.2 h2), if_pos h2, if_neg (show ¬(lev ≠ 0 ∧ pre ≠ 0) from fun h => h.2 h2)]
    · rw [if_pos ⟨h1.resolve_right h2, h2⟩, if_pos ⟨h1.resolve_right h2, h2⟩]
  · obtain rfl : lev = 0 := by omega
    have h2 : pre ≠ 0 := fun h => h1 (Or.inr h)
    refine level_foundR v L u p pre _ w hv h2 ?_
    unfold valX
    rw [if_neg (show ¬((0 : Int) ≠ 0 ∧ pre ≠ 0) from fun h => h.1 rfl), if_neg (by decide), if_neg h2]
    rfl
end Go.Proofs.Ytgpblgalklegkaa
