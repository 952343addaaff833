/- Tones of the program: hueOf, toneOf. -/
import Derived.Test.YtdmpdcggepfaiaaCol
import Derived.Test.YtdmpdcggepfaiaaOwnG
import Derived.Deep.QuietTactic
import Derived.BigQuiet
namespace Go.Proofs.Ytdmpdcggepfaiaa
open Go.RowKit Go.Sort

theorem run_mx3 (ts : Array TypeId) (t : TypeId) (x y z : Int) (w : World) : (Builtin.max_ ts t #[.int .i64 x, .int .i64 y, .int .i64 z]).run Try.prog w = .ok (.int .i64 (mx3 x y z)) w := by
  have e : (if z > (if y > x then y else x) then z else (if y > x then y else x)) = mx3 x y z := by
    unfold mx3; rw [Int.max_def, Int.max_def]; repeat' split
    all_goals omega
  rw [← e]; simp [Builtin.max_, Builtin.max2]
theorem run_mn3 (ts : Array TypeId) (t : TypeId) (x y z : Int) (w : World) : (Builtin.min_ ts t #[.int .i64 x, .int .i64 y, .int .i64 z]).run Try.prog w = .ok (.int .i64 (mn3 x y z)) w := by
  have e : (if z < (if y < x then y else x) then z else (if y < x then y else x)) = mn3 x y z := by
    unfold mn3; rw [Int.min_def, Int.min_def]; repeat' split
    all_goals omega
  rw [← e]; simp [Builtin.min_, Builtin.min2]

theorem hue_bd {d x : Int} (hd : 0 < d) (hd1 : d ≤ 65535) (h1 : -d ≤ x) (h2 : x ≤ d) (k : Int) (k1 : 1 ≤ k) (k2 : k ≤ 6) :
    IntKind.i64.wrap (k * d) = k * d ∧ 0 ≤ k * d + x ∧ k * d + x ≤ 458745 := by
  have a1 := Int.mul_le_mul_of_nonneg_right k1 (Int.le_of_lt hd)
  have a2 := Int.mul_le_mul_of_nonneg_right k2 (Int.le_of_lt hd)
  exact ⟨IntWalk.i64_in _ (by omega), by omega, by omega⟩

set_option maxHeartbeats 1600000 in
theorem hueOf_any (r g b M d : Int) (w : World) (hr : 0 ≤ r ∧ r ≤ 65535) (hg : 0 ≤ g ∧ g ≤ 65535) (hb : 0 ≤ b ∧ b ≤ 65535) (hd : 0 < d) (hd1 : d ≤ 65535) (x1 : -d ≤ g - b ∧ g - b ≤ d) (x2 : -d ≤ b - r ∧ b - r ≤ d) (x3 : -d ≤ r - g ∧ r - g ≤ d) :
    Calls Try.prog 41 #[.agg #[.int .i64 r, .int .i64 g, .int .i64 b], .int .i64 M, .int .i64 d] w fun e w' => e = .returned (.int .i64 (hueC r g b M d)) ∧ Gr w w' := by
  by_cases e1 : M = r
  · have e : Hid (hueC r g b M d = rdv ((6 * d + (g - b)) * 65535) d % 393210) := by show _ = _; unfold hueC; rw [if_pos e1]
    have t1 : (M == r) = true := by simpa using e1
    have hR := Lib.hid (fun w => rounded_any ((6 * d + (g - b)) * 65535) d w (by omega) (by omega) hd (by omega))
    have hn := rdv_near (n := (6 * d + (g - b)) * 65535) hd
    have h0 : 0 ≤ rdv ((6 * d + (g - b)) * 65535) d := le_rdv hd (by omega)
    clear e1 hn x2 x3
    go_enter Try.func41, Try.ntmps41
    go_wp2
    go_quiet (fail)
    go_wp2_with ((with_reducible refine (hR.out _).mono ?_); rintro e w' ⟨rfl, rfl⟩)
    go_returns
    exact ⟨ret_int e.out.symm, ((Gr.refl w).alloc _).drewN _⟩
  · have t1 : (M == r) = false := by simpa using e1
    by_cases e2 : M = g
    · have e : Hid (hueC r g b M d = rdv ((2 * d + (b - r)) * 65535) d % 393210) := by show _ = _; unfold hueC; rw [if_neg e1, if_pos e2]
      have t2 : (M == g) = true := by simpa using e2
      have hR := Lib.hid (fun w => rounded_any ((2 * d + (b - r)) * 65535) d w (by omega) (by omega) hd (by omega))
      have h0 : 0 ≤ rdv ((2 * d + (b - r)) * 65535) d := le_rdv hd (by omega)
      clear e1 e2 x1 x3
      go_enter Try.func41, Try.ntmps41
      go_wp2
      go_quiet (fail)
      go_wp2_with ((with_reducible refine (hR.out _).mono ?_); rintro e w' ⟨rfl, rfl⟩)
      go_returns
      exact ⟨ret_int e.out.symm, ((Gr.refl w).alloc _).drewN _⟩
    · have e : Hid (hueC r g b M d = rdv ((4 * d + (r - g)) * 65535) d % 393210) := by show _ = _; unfold hueC; rw [if_neg e1, if_neg e2]
      have t2 : (M == g) = false := by simpa using e2
      have hR := Lib.hid (fun w => rounded_any ((4 * d + (r - g)) * 65535) d w (by omega) (by omega) hd (by omega))
      have h0 : 0 ≤ rdv ((4 * d + (r - g)) * 65535) d := le_rdv hd (by omega)
      clear e1 e2 x1 x2
      go_enter Try.func41, Try.ntmps41
      go_wp2
      go_quiet (fail)
      go_wp2_with ((with_reducible refine (hR.out _).mono ?_); rintro e w' ⟨rfl, rfl⟩)
      go_returns
      exact ⟨ret_int e.out.symm, ((Gr.refl w).alloc _).drewN _⟩

/-- A tone, as a value. -/
def tonV (t : Int × Int × Int) : Value := .agg #[.int .i64 t.1, .int .i64 t.2.1, .int .i64 t.2.2]

set_option maxHeartbeats 1600000 in
theorem toneOf_any (r g b : Int) (w : World) (hr : 0 ≤ r ∧ r ≤ 65535) (hg : 0 ≤ g ∧ g ≤ 65535) (hb : 0 ≤ b ∧ b ≤ 65535) :
    Calls Try.prog 18 #[.agg #[.int .i64 r, .int .i64 g, .int .i64 b]] w fun e w' => e = .returned (.agg #[.int .i64 (toneC r g b).1, .int .i64 (toneC r g b).2.1, .int .i64 (toneC r g b).2.2]) ∧ Gr w w' := by
  obtain ⟨m1, m2, m3, m4⟩ : mn3 r g b ≤ r ∧ mn3 r g b ≤ g ∧ mn3 r g b ≤ b ∧ (mn3 r g b = r ∨ mn3 r g b = g ∨ mn3 r g b = b) := by unfold mn3; omega
  obtain ⟨x1, x2, x3, x4⟩ : r ≤ mx3 r g b ∧ g ≤ mx3 r g b ∧ b ≤ mx3 r g b ∧ (mx3 r g b = r ∨ mx3 r g b = g ∨ mx3 r g b = b) := by unfold mx3; omega
  have hmx := fun w ts t => run_mx3 ts t r g b w
  have hmn := fun w ts t => run_mn3 ts t r g b w
  have e : toneC r g b = if mx3 r g b = mn3 r g b then (0, 0, mx3 r g b) else (hueC r g b (mx3 r g b) (mx3 r g b - mn3 r g b), rdv ((mx3 r g b - mn3 r g b) * 65535) (mx3 r g b), mx3 r g b) := rfl
  have E := Lib.hid e
  clear e
  generalize toneC r g b = T at *
  generalize mx3 r g b = M at *
  generalize mn3 r g b = m at *
  by_cases h : M = m
  · have he : Hid (T = (0, 0, M)) := by show _ = _; rw [E.out, if_pos h]
    have t1 : (M == m) = true := by simpa using h
    clear E h m4 x4
    go_enter Try.func18, Try.ntmps18
    go_wp2
    go_quiet (fail)
    go_wp2
    refine bodyPost_ret (v := .agg #[.int .i64 T.1, .int .i64 T.2.1, .int .i64 T.2.2]) ?_ rfl ⟨rfl, ?_⟩
    · rw [he.out]; simp [results, Try.results18, go_sem]
    · exact set3g (by simp) ((((Gr.refl w).alloc _).alloc _).drewN _) _ _ _
  · have hS : 0 ≤ rdv ((M - m) * 65535) M := le_rdv (by omega) (by omega)
    have hR := Lib.hid (fun w => rounded_any ((M - m) * 65535) M w (by omega) (by omega) (by omega) (by omega))
    have hH := Lib.hid (fun w => hueOf_any r g b M (M - m) w hr hg hb (by omega) (by omega) (by omega) (by omega) (by omega))
    have he : Hid (T = (hueC r g b M (M - m), rdv ((M - m) * 65535) M, M)) := by show _ = _; rw [E.out, if_neg h]
    have t1 : (M == m) = false := by simpa using h
    have b1 : 0 ≤ M := by omega
    have b2 : M ≤ 65535 := by omega
    have b3 : 0 ≤ m := by omega
    have b4 : m ≤ 65535 := by omega
    have b5 : 0 ≤ M - m := by omega
    have b6 : M - m ≤ 65535 := by omega
    clear E h m4 x4 m1 m2 m3 x1 x2 x3
    go_enter Try.func18, Try.ntmps18
    go_wp2
    go_quiet (fail)
    go_wp2_with (first | (go_at_call 41; ((with_reducible refine (hH.out _).mono ?_); rintro e w' ⟨rfl, g1⟩; obtain ⟨⟨k0, k1, k2⟩, f0, f1, f2⟩ := own3g (n := w.heap.size + 1) (by simp) (((Gr.refl ((w.alloc (.cells #[.int .i64 r, .int .i64 g, .int .i64 b] 23)).alloc (.cells #[.int .i64 0, .int .i64 0, .int .i64 0] 25))).drewN nq).trans g1))) | (go_at_call 42; ((with_reducible refine (hR.out _).mono ?_); rintro e w' ⟨rfl, rfl⟩)))
    refine bodyPost_ret (v := .agg #[.int .i64 T.1, .int .i64 T.2.1, .int .i64 T.2.2]) ?_ rfl ⟨rfl, ?_⟩
    · rw [he.out]; simp [results, Try.results18, go_sem, k0, k1, k2]
    · exact set3g (by simp) (((((Gr.refl w).alloc _).alloc _).drewN nq).trans g1) _ _ _
end Go.Proofs.Ytdmpdcggepfaiaa
