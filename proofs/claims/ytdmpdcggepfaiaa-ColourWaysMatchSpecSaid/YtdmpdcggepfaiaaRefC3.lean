/- The reference of chapter 3: signed, modulo, Check, both. -/
import Derived.Test.YtdmpdcggepfaiaaCol
import Derived.Test.YtdmpdcggepfaiaaSumF
namespace Go.Proofs.Ytdmpdcggepfaiaa
open Go.RowKit

theorem rd_eq (a b : Int) : rdF a b = rdv a b := by
  unfold rdF rdv
  rw [show a * 2 + 1 * b = 2 * a + b by omega, show b * 2 = 2 * b by omega]
theorem rdv_add {n d k : Int} (hd : 0 < d) : rdv (n + k * d) d = rdv n d + k := by
  unfold rdv
  rw [show 2 * (n + k * d) + d = 2 * n + d + k * (2 * d) by grind, Int.add_mul_ediv_right _ _ (by omega)]

set_option maxRecDepth 100000 in
set_option maxHeartbeats 1600000 in
theorem signed_ref (a b : Int) (w : World) (a0 : -1000000000000000 ≤ a) (a1 : a ≤ 1000000000000000) (b0 : 0 < b) (b1 : b ≤ 1000000000000) :
    Calls Try.prog 43 #[.int .i64 a, .int .i64 b] w fun e w' => e = .returned (.int .i64 (rdv a b)) ∧ Bl w w' := by
  have HA := Lib.hid (fun w => whole_any a w (by omega) (by omega))
  have HB := Lib.hid (fun w => whole_any b w (by omega) (by omega))
  have HO := Lib.hid (fun w va vb (ha : Fr w va a 1) (hb : Fr w vb b 1) => over_fr va vb a 1 b 1 w ha hb (lt55 (by omega)) (lt55 (by omega)) (lt55 (by omega)) (lt55 (by omega)) b0 (lt55 (by omega)) (lt6 (by omega)))
  rw [Int.mul_one, Int.one_mul] at HO
  have HR := Lib.hid (fun w va (ha : Fr w va a b) => round_fr va a b w ha (lt55 (by omega)) (lt55 (by omega)) (lt55 (by omega)) (lt6 (by omega)) (by
    have : (((a * 2 + 1 * b).natAbs : Int) / (b * 2)) ≤ ((a * 2 + 1 * b).natAbs : Int) := Int.ediv_le_self _ (by omega)
    omega))
  have e := Lib.hid (rd_eq a b)
  clear a0 a1 b0 b1
  go_enter Try.func43, Try.ntmps43
  go_wp2_with fail
  refine (HA.out _).mono ?_
  rintro e' w1 ⟨v1, rfl, h1, g1⟩
  have H1 := Lib.hid h1
  clear h1
  go_wp2_with fail
  refine (HB.out _).mono ?_
  rintro e' w2 ⟨v2, rfl, h2, g2⟩
  have H2 := Lib.hid h2
  clear h2
  go_wp2_with fail
  refine (HO.out _ _ _ (H1.out.bl g2) H2.out).mono ?_
  rintro e' w3 ⟨v3, rfl, h3, g3⟩
  have H3 := Lib.hid h3
  clear h3
  go_wp2_with fail
  refine (HR.out _ _ H3.out).mono ?_
  rintro e' w4 ⟨rfl, g4⟩
  go_wp2_with fail
  go_returns
  exact ⟨ret_int e.out, ((g1.trans g2).trans g3).trans g4⟩

theorem tmod_bd {a : Int} (n0 : a < 0) : -393210 < a.tmod 393210 ∧ a.tmod 393210 ≤ 0 ∧ (a.tmod 393210 + 393210) % 393210 = a % 393210 := by
  obtain ⟨k, rfl⟩ : ∃ k, a = -k := ⟨-a, by omega⟩
  rw [Int.neg_tmod, Int.tmod_eq_emod_of_nonneg (by omega)]
  omega
set_option maxHeartbeats 400000 in
theorem modulo_ref (a : Int) (w : World) (a0 : -1000000000000000 ≤ a) (a1 : a ≤ 1000000000000000) :
    Calls Try.prog 40 #[.int .i64 a, .int .i64 393210] w fun e w' => e = .returned (.int .i64 (a % 393210)) ∧ w = w' := by
  by_cases h : 0 ≤ a
  · have e : Hid ((a % 393210 + 393210) % 393210 = a % 393210) := by show _ = _; omega
    have b0 : 0 ≤ a % 393210 := by omega
    have b1 : a % 393210 ≤ 393210 := by omega
    go_enter Try.func40, Try.ntmps40
    go_wp2
    go_returns
    exact ⟨ret_int (by have := e.out; omega), rfl⟩
  · obtain ⟨b0, b1, e0⟩ := tmod_bd (a := a) (by omega)
    have e := Lib.hid e0
    have b2 : 0 ≤ a.tmod 393210 + 393210 := by omega
    clear e0 h
    go_enter Try.func40, Try.ntmps40
    go_wp2
    go_returns
    exact ⟨ret_int e.out, rfl⟩
end Go.Proofs.Ytdmpdcggepfaiaa
