/- find of the program: the first preset with a number. -/
import Derived.Test.YtgpblgalklegkaaPrsM
import Derived.Test.YtgpblgalklegkaaShelf
import Derived.Deep.QuietTactic
namespace Go.Proofs.Ytgpblgalklegkaa
open Go.RowKit Go.Sort

/-- What find gives. -/
def PFind (L : List Pr) (n : Int) (w : World) (e : Ending) (w' : World) : Prop := ∃ (a : Int) (t : ByteArray) (sv : Value), e = .returned (.tuple #[.agg #[.int .i64 a, .string t, sv], .bool (prFind L n).isSome]) ∧
  (∃ o l c, sv = .slice o l c) ∧ (∀ q, prFind L n = some q → a = q.num ∧ t = q.title ∧ StVal w' sv q.sets) ∧ Bl w w'

/-- The cells of a local of three cells, behind calls. -/
theorem own3c {W W' : World} {n : Nat} {a b c : Value} {t : TypeId} (hn : n = W.heap.size) (h : Bl (W.alloc (.cells #[a, b, c] t)) W') :
    (W'.cell? ⟨n, 0, none⟩ = some a ∧ W'.cell? ⟨n, 1, none⟩ = some b ∧ W'.cell? ⟨n, 2, none⟩ = some c) ∧ W'.frozen? ⟨n, 0, none⟩ = false ∧ W'.frozen? ⟨n, 1, none⟩ = false ∧ W'.frozen? ⟨n, 2, none⟩ = false := by
  subst hn
  exact ⟨⟨h.cell (by simp), h.cell (by simp), h.cell (by simp)⟩, by rw [h.frozen (by simp)]; simp, by rw [h.frozen (by simp)]; simp, by rw [h.frozen (by simp)]; simp⟩
theorem set3c {w0 W' : World} {n : Nat} (hn : w0.heap.size ≤ n) (h : Bl w0 W') (x y z : Value) : Bl w0 (((W'.setCell ⟨n, 0, none⟩ x).setCell ⟨n, 1, none⟩ y).setCell ⟨n, 2, none⟩ z) :=
  ((h.setCell (p := ⟨n, 0, none⟩) hn x).setCell (p := ⟨n, 1, none⟩) hn y).setCell (p := ⟨n, 2, none⟩) hn z

set_option maxRecDepth 100000 in
set_option maxHeartbeats 1600000 in
theorem find_prog (v : Value) (L : List Pr) (n : Int) (w : World) (hv : PrVal w v L) :
    Calls Try.prog 21 #[v, .int .i64 n] w (PFind L n w) := by
  obtain ⟨o, cap, rfl, hl, hp⟩ := hv
  have HP := Lib.hid hp
  have HA := Lib.hid (fun k (hk : k < L.length) => prFind_at L n k hk)
  obtain ⟨W, hW⟩ : ∃ W, W = w.alloc (.cells #[.int .i64 0, .string ⟨#[]⟩, .slice none 0 0] 47) := ⟨_, rfl⟩
  have bW : Bl w W := by rw [hW]; exact (Bl.refl w).alloc _
  have HO := Lib.hid (fun w' (m : Bl W w') => own3c (n := w.heap.size) rfl (hW ▸ m))
  have hz : W.heap.size = w.heap.size + 1 := by rw [hW]; simp
  clear hp
  unfold PFind
  go_enter Try.func21, Try.ntmps21
  go_wp2
  rw [← hW]
  clear hW
  go_loopw [10] (fun i wr => ∃ k : Nat, k ≤ L.length ∧ i = .int .i64 k ∧ Hid (prFind L n = prFind (L.drop k) n) ∧ Bl W wr) (fun i _ => L.length - (intOf i).toNat)
  case atStart => exact ⟨0, Nat.zero_le _, rfl, Lib.hid rfl, Bl.refl W⟩
  case round =>
    obtain ⟨k, hk, rfl, hf, hb⟩ := hrel
    obtain ⟨⟨k0, k1, k2⟩, f0, f1, f2⟩ := HO.out _ hb
    by_cases hlt : k < L.length
    · obtain ⟨b, off, rfl, hat⟩ := HP.out (by omega)
      obtain ⟨c0', c1', sv, c2', hs⟩ := hat k hlt
      have c0 := (bW.trans hb).cell c0'
      have c1 := (bW.trans hb).cell c1'
      have c2 := (bW.trans hb).cell c2'
      clear c0' c1' c2'
      have hstep := Lib.hid (HA.out k hlt)
      obtain ⟨o2, cap2, hsv, hsr⟩ := id hs
      have HS := Lib.hid hs
      obtain ⟨e, he⟩ : ∃ e, e = L[k] := ⟨_, rfl⟩
      rw [← he] at c0 c1 hstep HS hsv
      subst hsv
      have hzw : w.heap.size < wr.heap.size := by have := hb.size; omega
      clear he hat hs hsr
      by_cases hn : e.num = n
      · have hr : Hid (prFind L n = some e) := by show _ = _; rw [hf.out, hstep.out, if_pos hn]
        have t1 : (e.num == n) = true := by simpa using hn
        clear hn
        have hB := (set3c (w0 := w) (Nat.le_refl _) (bW.trans hb) (.int .i64 e.num) (.string e.title) (.slice o2 e.sets.length cap2)).alloc (.cells #[.int .i64 e.num, .string e.title, .slice o2 e.sets.length cap2] 47)
        have HB := Lib.hid hB
        clear hB
        go_wp2
        refine bodyPost_ret (v := .tuple #[.agg #[.int .i64 e.num, .string e.title, .slice o2 e.sets.length cap2], .bool true]) ?_ rfl ⟨_, _, _, by rw [hr.out]; rfl, ⟨_, _, _, rfl⟩, fun q hq => ?_, HB.out⟩
        · simp [results, Try.results21, go_sem, k0, k1, k2, hzw]
        · rw [hr.out] at hq
          cases hq
          exact ⟨rfl, rfl, HS.out.bl HB.out⟩
      · have t1 : (e.num == n) = false := by simpa using hn
        have hr : Hid (prFind L n = prFind (L.drop (k + 1)) n) := by show _ = _; rw [hf.out, hstep.out, if_neg hn]
        clear hn
        go_wp2
        go_roundw
        case rel => exact ⟨k + 1, by omega, by go_num, hr, hb.alloc _⟩
        case measure => simp [intOf]; omega
    · obtain rfl : k = L.length := by omega
      have hr : Hid (prFind L n = none) := by show _ = _; rw [hf.out, List.drop_length]; rfl
      have HB := Lib.hid (set3c (w0 := w) (Nat.le_refl _) (bW.trans hb) (.int .i64 0) (.string ⟨#[]⟩) (.slice none 0 0))
      go_wp2
      refine bodyPost_ret (v := .tuple #[.agg #[.int .i64 0, .string ⟨#[]⟩, .slice none 0 0], .bool false]) ?_ rfl ⟨_, _, _, by rw [hr.out]; rfl, ⟨_, _, _, rfl⟩, fun q hq => ?_, HB.out⟩
      · simp [results, Try.results21, go_sem, k0, k1, k2]
      · rw [hr.out] at hq
        cases hq
end Go.Proofs.Ytgpblgalklegkaa
