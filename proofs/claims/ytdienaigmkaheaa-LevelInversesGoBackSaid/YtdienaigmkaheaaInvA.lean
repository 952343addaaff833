/- The program's Inverse, for all curves. -/
import Derived.Test.YtdienaigmkaheaaInvP
namespace Go.Proofs.Ytdienaigmkaheaa
open Go.RowKit Go.Shelf Go.Sort

def ivX (k : Int) (l : List (Int × Int)) : Int := if ckCurve k l ≠ 0 then ckCurve k l else if k = 5 then 3 else 0
def ivK (k : Int) (l : List (Int × Int)) : Int := if ivX k l ≠ 0 then 0 else invK k
def ivL (k : Int) (l : List (Int × Int)) : List (Int × Int) := if ivX k l ≠ 0 then [] else if k = 6 then invL l else []
theorem iv_ck {k : Int} {l : List (Int × Int)} (h : ckCurve k l ≠ 0) : ivX k l = ckCurve k l ∧ ivK k l = 0 ∧ ivL k l = [] := by
  have e : ivX k l = ckCurve k l := if_pos h
  refine ⟨e, ?_, ?_⟩
  · unfold ivK; rw [e, if_pos h]
  · unfold ivL; rw [e, if_pos h]
theorem iv_five {l : List (Int × Int)} (h : ckCurve 5 l = 0) : ivX 5 l = 3 ∧ ivK 5 l = 0 ∧ ivL 5 l = [] := by
  have e : ivX 5 l = 3 := by unfold ivX; rw [if_neg (fun hh => hh h), if_pos rfl]
  refine ⟨e, ?_, ?_⟩
  · unfold ivK; rw [e]; rfl
  · unfold ivL; rw [e]; rfl
theorem iv_ok {k : Int} {l : List (Int × Int)} (h : ckCurve k l = 0) (h5 : k ≠ 5) : ivX k l = 0 ∧ ivK k l = invK k ∧ ivL k l = if k = 6 then invL l else [] := by
  have e : ivX k l = 0 := by unfold ivX; rw [if_neg (fun hh => hh h), if_neg h5]
  refine ⟨e, ?_, ?_⟩
  · unfold ivK; rw [e, if_neg (by decide)]
  · unfold ivL; rw [e, if_neg (by decide)]
theorem ck_kind {k : Int} {l : List (Int × Int)} (h : ckCurve k l = 0) : 1 ≤ k ∧ k ≤ 6 := by
  unfold ckCurve at h
  by_cases a : k < 1 ∨ 6 < k
  · rw [if_pos a] at h; cases h
  · omega
theorem ck_tab {l : List (Int × Int)} (h : ckCurve 6 l = 0) : OkTab l := by
  unfold ckCurve at h
  rw [if_neg (by decide), if_pos rfl] at h
  exact okTab_of l h
theorem ck_empty {k : Int} {l : List (Int × Int)} (h : ckCurve k l = 0) (h6 : k ≠ 6) : l = [] := by
  have := ck_kind h
  unfold ckCurve at h
  rw [if_neg (by omega), if_neg h6] at h
  by_cases a : 0 < l.length
  · rw [if_pos a] at h; cases h
  · exact List.eq_nil_of_length_eq_zero (by omega)
def IvPost (k : Int) (l : List (Int × Int)) (w : World) (e : Ending) (w' : World) : Prop := ∃ v, e = .returned (.tuple #[.agg #[.int .i64 (ivK k l), v], .int .i64 (ivX k l)]) ∧ PtsAny w' v (ivL k l) ∧ Bl w w'
theorem st2 {W : World} {rb : Nat} {a b : Value} (u v : Value) (h0 : W.cell? ⟨rb, 0, none⟩ = some a) (h1 : W.cell? ⟨rb, 1, none⟩ = some b) :
    ((W.setCell ⟨rb, 0, none⟩ u).setCell ⟨rb, 1, none⟩ v).cell? ⟨rb, 0, none⟩ = some u ∧ ((W.setCell ⟨rb, 0, none⟩ u).setCell ⟨rb, 1, none⟩ v).cell? ⟨rb, 1, none⟩ = some v :=
  ⟨(World.cell?_setCell_other _ ⟨rb, 1, none⟩ ⟨rb, 0, none⟩ _ (by intro e; cases e)).trans (World.cell?_setCell_same _ _ _ h0),
   World.cell?_setCell_same _ _ _ ((World.cell?_setCell_other _ ⟨rb, 0, none⟩ ⟨rb, 1, none⟩ _ (by intro e; cases e)).trans h1)⟩
set_option maxRecDepth 100000 in
set_option maxHeartbeats 1600000 in
theorem inverse_any (k : Int) (sv : Value) (l : List (Int × Int)) (w : World) (h : PtsAny w sv l) :
    Calls Try.prog 16 #[.agg #[.int .i64 k, sv]] w (IvPost k l w) := by
  have HC := Lib.hid (fun w' (g : Bl w w') => (checkCurve_any k sv l w' (h.bl g)).mono fun e w'' ⟨h1, h2⟩ => (⟨h1, h2.bl⟩ : _ ∧ Bl w' w''))
  by_cases hck : ckCurve k l = 0
  · obtain ⟨k1, k6⟩ := ck_kind hck
    by_cases h6 : k = 6
    · subst h6
      have hT := ck_tab hck
      obtain ⟨e1, e2, e3⟩ := iv_ok hck (by decide)
      rcases h with ⟨o, cap, _, rfl⟩ | ⟨b, off, cap, rfl, hP, _⟩
      · exact absurd hT.two (by simp)
      · refine (callsIn_wide.1 (inverse_tab Fence.wide rfl 5 (Nat.le_refl _) b off cap l w hT hP hck)).mono ?_
        rintro e w' ⟨v, rfl, hp, hb⟩
        exact ⟨v, by rw [e1, e2]; rfl, by rw [e3, if_pos rfl]; exact hp, hb⟩
    · have hl := ck_empty hck h6
      subst hl
      obtain ⟨o, cap, hsv⟩ : ∃ o cap, sv = .slice o 0 cap := by
        rcases h with ⟨o, cap, rfl, _⟩ | ⟨b, off, cap, rfl, _⟩
        · exact ⟨_, _, rfl⟩
        · exact ⟨_, _, rfl⟩
      subst hsv
      rw [hck] at HC
      by_cases h5 : k = 5
      · subst h5
        obtain ⟨e1, e2, e3⟩ := iv_five hck
        have HE := Lib.hid e1
        have HK := Lib.hid e2
        have HL := Lib.hid e3
        clear hck h6 e1 e2 e3 h
        go_enter Try.func16, Try.ntmps16
        go_wp2_with fail
        refine (HC.out _ (((Bl.refl w).alloc _).alloc _)).mono ?_
        rintro e w1 ⟨rfl, g1⟩
        have hs1 : w.heap.size + 1 < w1.heap.size := by have := g1.size; simp at this; omega
        have hs0 : w.heap.size < w1.heap.size := by omega
        have k0 := g1.cell (p := ⟨w.heap.size, 0, none⟩) (v := .int .i64 5) (by simp)
        have k1 := g1.cell (p := ⟨w.heap.size, 1, none⟩) (v := .slice o 0 cap) (by simp)
        have k2 := g1.cell (p := ⟨w.heap.size + 1, 0, none⟩) (v := .int .i64 0) (by simp)
        have k3 := g1.cell (p := ⟨w.heap.size + 1, 1, none⟩) (v := .slice none 0 0) (by simp)
        have f2 := g1.frozen (p := ⟨w.heap.size + 1, 0, none⟩) (by simp)
        have f3 := g1.frozen (p := ⟨w.heap.size + 1, 1, none⟩) (by simp)
        have hbl1 : Bl w w1 := (((Bl.refl w).alloc _).alloc _).trans g1
        obtain ⟨z0, z1⟩ := st2 (.int .i64 0) (.slice none 0 0) k2 k3
        have y0 := (((Bl.refl _).alloc (Obj.cells #[Value.int .i64 5, Value.slice none 0 0] 32))).cell z0
        have y1 := (((Bl.refl _).alloc (Obj.cells #[Value.int .i64 5, Value.slice none 0 0] 32))).cell z1
        have hb5 : Bl w (((w1.setCell ⟨w.heap.size + 1, 0, none⟩ (.int .i64 0)).setCell ⟨w.heap.size + 1, 1, none⟩ (.slice none 0 0)).alloc (.cells #[.int .i64 5, .slice none 0 0] 32)) := ((hbl1.setCell (p := ⟨w.heap.size + 1, 0, none⟩) (Nat.le_succ _) _).setCell (p := ⟨w.heap.size + 1, 1, none⟩) (Nat.le_succ _) _).alloc _
        clear z0 z1 hbl1
        have Y0 := Lib.hid y0
        have Y1 := Lib.hid y1
        have B5 := Lib.hid hb5
        clear y0 y1 hb5
        go_wp2_with fail
        refine bodyPost_ret (v := .tuple #[.agg #[.int .i64 0, .slice none 0 0], .int .i64 3]) (by simp [results, Try.results16, go_sem, Y0.out, Y1.out]) rfl ⟨.slice none 0 0, by rw [HE.out, HK.out], by rw [HL.out]; exact Or.inl ⟨_, _, rfl, rfl⟩, B5.out⟩
      · obtain ⟨e1, e2, e3⟩ := iv_ok hck h5
        rw [if_neg h6] at e3
        have HE := Lib.hid e1
        have HK := Lib.hid e2
        have HL := Lib.hid e3
        have hk : k = 1 ∨ k = 2 ∨ k = 3 ∨ k = 4 := by omega
        clear hck h6 h5 e1 e2 e3 h k1 k6
        rcases hk with rfl | rfl | rfl | rfl
        · go_enter Try.func16, Try.ntmps16
          go_wp2_with fail
          refine (HC.out _ (((Bl.refl w).alloc _).alloc _)).mono ?_
          rintro e w1 ⟨rfl, g1⟩
          have hs1 : w.heap.size + 1 < w1.heap.size := by have := g1.size; simp at this; omega
          have hs0 : w.heap.size < w1.heap.size := by omega
          have k0 := g1.cell (p := ⟨w.heap.size, 0, none⟩) (v := .int .i64 1) (by simp)
          have k1 := g1.cell (p := ⟨w.heap.size, 1, none⟩) (v := .slice o 0 cap) (by simp)
          have k2 := g1.cell (p := ⟨w.heap.size + 1, 0, none⟩) (v := .int .i64 0) (by simp)
          have k3 := g1.cell (p := ⟨w.heap.size + 1, 1, none⟩) (v := .slice none 0 0) (by simp)
          have f2 := g1.frozen (p := ⟨w.heap.size + 1, 0, none⟩) (by simp)
          have f3 := g1.frozen (p := ⟨w.heap.size + 1, 1, none⟩) (by simp)
          have hbl1 : Bl w w1 := (((Bl.refl w).alloc _).alloc _).trans g1
          obtain ⟨z0, z1⟩ := st2 (.int .i64 1) (.slice none 0 0) k2 k3
          have y0 := (((Bl.refl _).alloc (Obj.cells #[Value.int .i64 1, Value.slice none 0 0] 32))).cell z0
          have y1 := (((Bl.refl _).alloc (Obj.cells #[Value.int .i64 1, Value.slice none 0 0] 32))).cell z1
          have hb5 : Bl w (((w1.setCell ⟨w.heap.size + 1, 0, none⟩ (.int .i64 1)).setCell ⟨w.heap.size + 1, 1, none⟩ (.slice none 0 0)).alloc (.cells #[.int .i64 1, .slice none 0 0] 32)) := ((hbl1.setCell (p := ⟨w.heap.size + 1, 0, none⟩) (Nat.le_succ _) _).setCell (p := ⟨w.heap.size + 1, 1, none⟩) (Nat.le_succ _) _).alloc _
          clear z0 z1 hbl1
          have Y0 := Lib.hid y0
          have Y1 := Lib.hid y1
          have B5 := Lib.hid hb5
          clear y0 y1 hb5
          go_wp2_with fail
          refine bodyPost_ret (v := .tuple #[.agg #[.int .i64 1, .slice none 0 0], .int .i64 0]) (by simp [results, Try.results16, go_sem, Y0.out, Y1.out]) rfl ⟨.slice none 0 0, by rw [HE.out, HK.out]; rfl, by rw [HL.out]; exact Or.inl ⟨_, _, rfl, rfl⟩, B5.out⟩
        · go_enter Try.func16, Try.ntmps16
          go_wp2_with fail
          refine (HC.out _ (((Bl.refl w).alloc _).alloc _)).mono ?_
          rintro e w1 ⟨rfl, g1⟩
          have hs1 : w.heap.size + 1 < w1.heap.size := by have := g1.size; simp at this; omega
          have hs0 : w.heap.size < w1.heap.size := by omega
          have k0 := g1.cell (p := ⟨w.heap.size, 0, none⟩) (v := .int .i64 2) (by simp)
          have k1 := g1.cell (p := ⟨w.heap.size, 1, none⟩) (v := .slice o 0 cap) (by simp)
          have k2 := g1.cell (p := ⟨w.heap.size + 1, 0, none⟩) (v := .int .i64 0) (by simp)
          have k3 := g1.cell (p := ⟨w.heap.size + 1, 1, none⟩) (v := .slice none 0 0) (by simp)
          have f2 := g1.frozen (p := ⟨w.heap.size + 1, 0, none⟩) (by simp)
          have f3 := g1.frozen (p := ⟨w.heap.size + 1, 1, none⟩) (by simp)
          have hbl1 : Bl w w1 := (((Bl.refl w).alloc _).alloc _).trans g1
          obtain ⟨z0, z1⟩ := st2 (.int .i64 3) (.slice none 0 0) k2 k3
          have y0 := (((Bl.refl _).alloc (Obj.cells #[Value.int .i64 3, Value.slice none 0 0] 32))).cell z0
          have y1 := (((Bl.refl _).alloc (Obj.cells #[Value.int .i64 3, Value.slice none 0 0] 32))).cell z1
          have hb5 : Bl w (((w1.setCell ⟨w.heap.size + 1, 0, none⟩ (.int .i64 3)).setCell ⟨w.heap.size + 1, 1, none⟩ (.slice none 0 0)).alloc (.cells #[.int .i64 3, .slice none 0 0] 32)) := ((hbl1.setCell (p := ⟨w.heap.size + 1, 0, none⟩) (Nat.le_succ _) _).setCell (p := ⟨w.heap.size + 1, 1, none⟩) (Nat.le_succ _) _).alloc _
          clear z0 z1 hbl1
          have Y0 := Lib.hid y0
          have Y1 := Lib.hid y1
          have B5 := Lib.hid hb5
          clear y0 y1 hb5
          go_wp2_with fail
          refine bodyPost_ret (v := .tuple #[.agg #[.int .i64 3, .slice none 0 0], .int .i64 0]) (by simp [results, Try.results16, go_sem, Y0.out, Y1.out]) rfl ⟨.slice none 0 0, by rw [HE.out, HK.out]; rfl, by rw [HL.out]; exact Or.inl ⟨_, _, rfl, rfl⟩, B5.out⟩
        · go_enter Try.func16, Try.ntmps16
          go_wp2_with fail
          refine (HC.out _ (((Bl.refl w).alloc _).alloc _)).mono ?_
          rintro e w1 ⟨rfl, g1⟩
          have hs1 : w.heap.size + 1 < w1.heap.size := by have := g1.size; simp at this; omega
          have hs0 : w.heap.size < w1.heap.size := by omega
          have k0 := g1.cell (p := ⟨w.heap.size, 0, none⟩) (v := .int .i64 3) (by simp)
          have k1 := g1.cell (p := ⟨w.heap.size, 1, none⟩) (v := .slice o 0 cap) (by simp)
          have k2 := g1.cell (p := ⟨w.heap.size + 1, 0, none⟩) (v := .int .i64 0) (by simp)
          have k3 := g1.cell (p := ⟨w.heap.size + 1, 1, none⟩) (v := .slice none 0 0) (by simp)
          have f2 := g1.frozen (p := ⟨w.heap.size + 1, 0, none⟩) (by simp)
          have f3 := g1.frozen (p := ⟨w.heap.size + 1, 1, none⟩) (by simp)
          have hbl1 : Bl w w1 := (((Bl.refl w).alloc _).alloc _).trans g1
          obtain ⟨z0, z1⟩ := st2 (.int .i64 2) (.slice none 0 0) k2 k3
          have y0 := (((Bl.refl _).alloc (Obj.cells #[Value.int .i64 2, Value.slice none 0 0] 32))).cell z0
          have y1 := (((Bl.refl _).alloc (Obj.cells #[Value.int .i64 2, Value.slice none 0 0] 32))).cell z1
          have hb5 : Bl w (((w1.setCell ⟨w.heap.size + 1, 0, none⟩ (.int .i64 2)).setCell ⟨w.heap.size + 1, 1, none⟩ (.slice none 0 0)).alloc (.cells #[.int .i64 2, .slice none 0 0] 32)) := ((hbl1.setCell (p := ⟨w.heap.size + 1, 0, none⟩) (Nat.le_succ _) _).setCell (p := ⟨w.heap.size + 1, 1, none⟩) (Nat.le_succ _) _).alloc _
          clear z0 z1 hbl1
          have Y0 := Lib.hid y0
          have Y1 := Lib.hid y1
          have B5 := Lib.hid hb5
          clear y0 y1 hb5
          go_wp2_with fail
          refine bodyPost_ret (v := .tuple #[.agg #[.int .i64 2, .slice none 0 0], .int .i64 0]) (by simp [results, Try.results16, go_sem, Y0.out, Y1.out]) rfl ⟨.slice none 0 0, by rw [HE.out, HK.out]; rfl, by rw [HL.out]; exact Or.inl ⟨_, _, rfl, rfl⟩, B5.out⟩
        · go_enter Try.func16, Try.ntmps16
          go_wp2_with fail
          refine (HC.out _ (((Bl.refl w).alloc _).alloc _)).mono ?_
          rintro e w1 ⟨rfl, g1⟩
          have hs1 : w.heap.size + 1 < w1.heap.size := by have := g1.size; simp at this; omega
          have hs0 : w.heap.size < w1.heap.size := by omega
          have k0 := g1.cell (p := ⟨w.heap.size, 0, none⟩) (v := .int .i64 4) (by simp)
          have k1 := g1.cell (p := ⟨w.heap.size, 1, none⟩) (v := .slice o 0 cap) (by simp)
          have k2 := g1.cell (p := ⟨w.heap.size + 1, 0, none⟩) (v := .int .i64 0) (by simp)
          have k3 := g1.cell (p := ⟨w.heap.size + 1, 1, none⟩) (v := .slice none 0 0) (by simp)
          have f2 := g1.frozen (p := ⟨w.heap.size + 1, 0, none⟩) (by simp)
          have f3 := g1.frozen (p := ⟨w.heap.size + 1, 1, none⟩) (by simp)
          have hbl1 : Bl w w1 := (((Bl.refl w).alloc _).alloc _).trans g1
          obtain ⟨z0, z1⟩ := st2 (.int .i64 4) (.slice none 0 0) k2 k3
          have y0 := (((Bl.refl _).alloc (Obj.cells #[Value.int .i64 4, Value.slice none 0 0] 32))).cell z0
          have y1 := (((Bl.refl _).alloc (Obj.cells #[Value.int .i64 4, Value.slice none 0 0] 32))).cell z1
          have hb5 : Bl w (((w1.setCell ⟨w.heap.size + 1, 0, none⟩ (.int .i64 4)).setCell ⟨w.heap.size + 1, 1, none⟩ (.slice none 0 0)).alloc (.cells #[.int .i64 4, .slice none 0 0] 32)) := ((hbl1.setCell (p := ⟨w.heap.size + 1, 0, none⟩) (Nat.le_succ _) _).setCell (p := ⟨w.heap.size + 1, 1, none⟩) (Nat.le_succ _) _).alloc _
          clear z0 z1 hbl1
          have Y0 := Lib.hid y0
          have Y1 := Lib.hid y1
          have B5 := Lib.hid hb5
          clear y0 y1 hb5
          go_wp2_with fail
          refine bodyPost_ret (v := .tuple #[.agg #[.int .i64 4, .slice none 0 0], .int .i64 0]) (by simp [results, Try.results16, go_sem, Y0.out, Y1.out]) rfl ⟨.slice none 0 0, by rw [HE.out, HK.out]; rfl, by rw [HL.out]; exact Or.inl ⟨_, _, rfl, rfl⟩, B5.out⟩
  · obtain ⟨e1, e2, e3⟩ := iv_ck hck
    obtain ⟨o, ln, cap, hsv⟩ : ∃ o ln cap, sv = .slice o ln cap := by
      rcases h with ⟨o, cap, rfl, _⟩ | ⟨b, off, cap, rfl, _⟩
      · exact ⟨_, _, _, rfl⟩
      · exact ⟨_, _, _, rfl⟩
    subst hsv
    have HE := Lib.hid e1
    have HK := Lib.hid e2
    have HL := Lib.hid e3
    have hne : (ckCurve k l != 0) = true := by simpa using hck
    clear hck e1 e2 e3 h
    generalize ckCurve k l = cc at *
    go_enter Try.func16, Try.ntmps16
    go_wp2_with fail
    refine (HC.out _ (((Bl.refl w).alloc _).alloc _)).mono ?_
    rintro e w1 ⟨rfl, g1⟩
    have hs1 : w.heap.size + 1 < w1.heap.size := by have := g1.size; simp at this; omega
    have hs0 : w.heap.size < w1.heap.size := by omega
    have k2 := g1.cell (p := ⟨w.heap.size + 1, 0, none⟩) (v := .int .i64 0) (by simp)
    have k3 := g1.cell (p := ⟨w.heap.size + 1, 1, none⟩) (v := .slice none 0 0) (by simp)
    have f2 := g1.frozen (p := ⟨w.heap.size + 1, 0, none⟩) (by simp)
    have f3 := g1.frozen (p := ⟨w.heap.size + 1, 1, none⟩) (by simp)
    have hbl1 : Bl w w1 := (((Bl.refl w).alloc _).alloc _).trans g1
    obtain ⟨z0, z1⟩ := st2 (.int .i64 0) (.slice none 0 0) k2 k3
    have hb5 : Bl w ((w1.setCell ⟨w.heap.size + 1, 0, none⟩ (.int .i64 0)).setCell ⟨w.heap.size + 1, 1, none⟩ (.slice none 0 0)) := (hbl1.setCell (p := ⟨w.heap.size + 1, 0, none⟩) (Nat.le_succ _) _).setCell (p := ⟨w.heap.size + 1, 1, none⟩) (Nat.le_succ _) _
    have Y0 := Lib.hid z0
    have Y1 := Lib.hid z1
    have B5 := Lib.hid hb5
    clear z0 z1 hb5 hbl1
    go_wp2_with fail
    refine bodyPost_ret (v := .tuple #[.agg #[.int .i64 0, .slice none 0 0], .int .i64 cc]) (by simp [results, Try.results16, go_sem, Y0.out, Y1.out]) rfl ⟨.slice none 0 0, by rw [HE.out, HK.out], by rw [HL.out]; exact Or.inl ⟨_, _, rfl, rfl⟩, B5.out⟩
end Go.Proofs.Ytdienaigmkaheaa
