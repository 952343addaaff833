/- Print, of the program and of the reference. -/
import Derived.Test.YtgpblgalklegkaaDoorTxrL
import Derived.Test.YtgpblgalklegkaaDoorPkK
import Derived.Test.YtgpblgalklegkaaDoorPkT
namespace Go.Proofs.YtgpblgalklegkaaDoor
open Go.RowKit Go.Lib Go.Sort

/-- What Print says and gives. -/
def prX (p : Pk) : Int := if ckP p ≠ 0 then ckP p else if 4000 < (txt 12 p).length then 2 else 0
def prT (p : Pk) : List UInt8 := if prX p = 0 then txt 12 p else []
theorem good_of {p : Pk} (h : ckP p = 0) : Good 12 p := by
  unfold ckP at h
  cases hs : smallP p with
  | false => rw [hs, if_neg (by decide)] at h; cases h
  | true =>
    rw [hs, if_pos rfl] at h
    unfold smallP at hs
    rw [Bool.and_eq_true, decide_eq_true_eq] at hs
    exact ⟨hs.1, h, hs.2⟩
set_option maxHeartbeats 800000 in
theorem limited_over (L : List UInt8) (h : 4000 < L.length) (w : World) :
    Calls Tryd.prog 28 #[.string (bs L), .int .i64 4000] w fun e w' => e = .returned (.tuple #[.string (bs []), .int .i64 2]) ∧ w' = w := by
  have z1 : (4000 : Int) < ((bs L).size : Int) := by rw [bs_size]; omega
  generalize bs L = s at *
  clear h
  go_enter Tryd.func28, Tryd.ntmps28
  go_wp2_with fail
  go_returns
  exact ⟨rfl, rfl⟩
set_option maxHeartbeats 800000 in
theorem limited_fits (L : List UInt8) (h : ¬ 4000 < L.length) (w : World) :
    Calls Tryd.prog 28 #[.string (bs L), .int .i64 4000] w fun e w' => e = .returned (.tuple #[.string (bs L), .int .i64 0]) ∧ w' = w := by
  have z1 : ¬ (4000 : Int) < ((bs L).size : Int) := by rw [bs_size]; omega
  generalize bs L = s at *
  clear h
  go_enter Tryd.func28, Tryd.ntmps28
  go_wp2_with fail
  go_returns
  exact ⟨rfl, rfl⟩

set_option maxRecDepth 100000 in
set_option maxHeartbeats 3200000 in
theorem print_any (p : Pk) (sv : Value) (w : World) (hsv : PkV w sv p.args) (hpw : PowAt w) (hkw : KwAt w) (hsh : ShAt w) :
    Calls Tryd.prog 8 #[.agg #[.int .i64 p.kind, .int .i64 p.frm, .int .i64 p.to, sv]] w fun e w' => e = .returned (.tuple #[.string (bs (prT p)), .int .i64 (prX p)]) ∧ Bl w w' := by
  obtain ⟨o, cap, rfl, hm, hcap⟩ := hsv.form
  obtain ⟨W, hW⟩ : ∃ W, W = w.alloc (.cells #[.int .i64 p.kind, .int .i64 p.frm, .int .i64 p.to, .slice o p.args.length cap] 24) := ⟨_, rfl⟩
  have bW : Bl w W := by rw [hW]; exact (Bl.refl w).alloc _
  have KK := Lib.hid (fun w' (m : Bl W w') => show w'.cell? ⟨w.heap.size, 0, none⟩ = some (.int .i64 p.kind) ∧ w'.cell? ⟨w.heap.size, 1, none⟩ = some (.int .i64 p.frm) ∧ w'.cell? ⟨w.heap.size, 2, none⟩ = some (.int .i64 p.to) ∧ w'.cell? ⟨w.heap.size, 3, none⟩ = some (.slice o p.args.length cap) from ⟨m.cell (by rw [hW]; simp), m.cell (by rw [hW]; simp), m.cell (by rw [hW]; simp), m.cell (by rw [hW]; simp)⟩)
  obtain ⟨k0, k1, k2, k3⟩ := KK.out _ (Bl.refl _)
  have HC := Lib.hid (fun w' (m : Bl w w') => check_pick p (.slice o p.args.length cap) w' (hsv.bl m) (hsh.bl m))
  have HT := Lib.hid (fun (hg : Good 12 p) w' (m : Bl w w') => showOk 12 p (.slice o p.args.length cap) w' hg (hsv.bl m) (hpw.bl m) (hkw.bl m))
  clear hsv hpw hkw hsh
  by_cases hc : ckP p = 0
  · have hg := good_of hc
    have HT := Lib.hid (HT.out hg)
    have hl := txt_le hg
    rw [hc] at HC
    have hx : prX p = if 4000 < (txt 12 p).length then 2 else 0 := by unfold prX; rw [if_neg (fun h => h hc)]
    have ht : prT p = if 4000 < (txt 12 p).length then [] else txt 12 p := by
      unfold prT
      rw [hx]
      by_cases h4 : 4000 < (txt 12 p).length
      · rw [if_pos h4, if_pos h4, if_neg (by decide)]
      · rw [if_neg h4, if_neg h4, if_pos rfl]
    rw [hx, ht]
    clear hx ht hg hc
    obtain ⟨L, hL⟩ : ∃ L, txt 12 p = L := ⟨_, rfl⟩
    rw [hL] at HT hl ⊢
    clear hL
    have hsz : (bs L).size = L.length := bs_size L
    by_cases h4 : 4000 < L.length
    · rw [if_pos h4, if_pos h4]
      have HL := Lib.hid (fun w' => limited_over L h4 w')
      clear h4 hsz
      generalize p.kind = k at *
      generalize p.frm = f at *
      generalize p.to = t at *
      go_enter Tryd.func8, Tryd.ntmps8
      go_wp2_with fail
      rw [← hW]
      clear hW
      refine (HC.out _ bW).mono ?_
      rintro e1 w1 ⟨rfl, b1⟩
      clear k0 k1 k2 k3
      obtain ⟨k0, k1, k2, k3⟩ := KK.out _ b1
      go_wp2_with fail
      refine (HT.out _ (bW.trans b1)).mono ?_
      rintro e1 w2 ⟨rfl, b2⟩
      go_wp2_with fail
      refine (HL.out _).mono ?_
      rintro e1 w3 ⟨rfl, rfl⟩
      go_wp2_with fail
      go_returns
      exact ⟨rfl, bW.trans (b1.trans b2)⟩
    · rw [if_neg h4, if_neg h4]
      have HL := Lib.hid (fun w' => limited_fits L h4 w')
      clear h4 hsz
      generalize p.kind = k at *
      generalize p.frm = f at *
      generalize p.to = t at *
      go_enter Tryd.func8, Tryd.ntmps8
      go_wp2_with fail
      rw [← hW]
      clear hW
      refine (HC.out _ bW).mono ?_
      rintro e1 w1 ⟨rfl, b1⟩
      clear k0 k1 k2 k3
      obtain ⟨k0, k1, k2, k3⟩ := KK.out _ b1
      go_wp2_with fail
      refine (HT.out _ (bW.trans b1)).mono ?_
      rintro e1 w2 ⟨rfl, b2⟩
      go_wp2_with fail
      refine (HL.out _).mono ?_
      rintro e1 w3 ⟨rfl, rfl⟩
      go_wp2_with fail
      go_returns
      exact ⟨rfl, bW.trans (b1.trans b2)⟩
  · have hx : prX p = ckP p := by unfold prX; rw [if_pos hc]
    have ht : prT p = [] := by unfold prT; rw [hx, if_neg hc]
    have t1 : (ckP p != 0) = true := by simpa using hc
    rw [hx, ht]
    generalize ckP p = X at *
    clear hx ht hc HT
    generalize p.kind = k at *
    generalize p.frm = f at *
    generalize p.to = t at *
    go_enter Tryd.func8, Tryd.ntmps8
    go_wp2_with fail
    rw [← hW]
    clear hW
    refine (HC.out _ bW).mono ?_
    rintro e1 w1 ⟨rfl, b1⟩
    go_wp2_with fail
    go_returns
    exact ⟨rfl, bW.trans b1⟩

set_option maxRecDepth 100000 in
set_option maxHeartbeats 3200000 in
theorem print_ref (p : Pk) (sv : Value) (w : World) (hsv : PkV w sv p.args) (hpw : PowAt w) :
    Calls Tryd.prog 9 #[.agg #[.int .i64 p.kind, .int .i64 p.frm, .int .i64 p.to, sv]] w fun e w' => e = .returned (.tuple #[.string (bs (prT p)), .int .i64 (prX p)]) ∧ Bl w w' := by
  obtain ⟨o, cap, rfl, hm, hcap⟩ := hsv.form
  obtain ⟨W, hW⟩ : ∃ W, W = w.alloc (.cells #[.int .i64 p.kind, .int .i64 p.frm, .int .i64 p.to, .slice o p.args.length cap] 24) := ⟨_, rfl⟩
  have bW : Bl w W := by rw [hW]; exact (Bl.refl w).alloc _
  have KK := Lib.hid (fun w' (m : Bl W w') => show w'.cell? ⟨w.heap.size, 0, none⟩ = some (.int .i64 p.kind) ∧ w'.cell? ⟨w.heap.size, 1, none⟩ = some (.int .i64 p.frm) ∧ w'.cell? ⟨w.heap.size, 2, none⟩ = some (.int .i64 p.to) ∧ w'.cell? ⟨w.heap.size, 3, none⟩ = some (.slice o p.args.length cap) from ⟨m.cell (by rw [hW]; simp), m.cell (by rw [hW]; simp), m.cell (by rw [hW]; simp), m.cell (by rw [hW]; simp)⟩)
  obtain ⟨k0, k1, k2, k3⟩ := KK.out _ (Bl.refl _)
  have HC := Lib.hid (fun w' (m : Bl w w') => check_pref p (.slice o p.args.length cap) w' (hsv.bl m))
  have HT := Lib.hid (fun (hg : Good 12 p) w' (m : Bl w w') => textOk 12 p (.slice o p.args.length cap) w' hg (hsv.bl m) (hpw.bl m))
  clear hsv hpw
  by_cases hc : ckP p = 0
  · have hg := good_of hc
    have HT := Lib.hid (HT.out hg)
    have hl := txt_le hg
    rw [hc] at HC
    have hx : prX p = if 4000 < (txt 12 p).length then 2 else 0 := by unfold prX; rw [if_neg (fun h => h hc)]
    have ht : prT p = if 4000 < (txt 12 p).length then [] else txt 12 p := by
      unfold prT
      rw [hx]
      by_cases h4 : 4000 < (txt 12 p).length
      · rw [if_pos h4, if_pos h4, if_neg (by decide)]
      · rw [if_neg h4, if_neg h4, if_pos rfl]
    rw [hx, ht]
    clear hx ht hg hc
    obtain ⟨L, hL⟩ : ∃ L, txt 12 p = L := ⟨_, rfl⟩
    rw [hL] at HT hl ⊢
    clear hL
    have hsz : (bs L).size = L.length := bs_size L
    by_cases h4 : 4000 < L.length
    · rw [if_pos h4, if_pos h4]
      have z1 : (4000 : Int) < ((bs L).size : Int) := by omega
      clear h4 hsz
      generalize p.kind = k at *
      generalize p.frm = f at *
      generalize p.to = t at *
      go_enter Tryd.func9, Tryd.ntmps9
      go_wp2_with fail
      rw [← hW]
      clear hW
      refine (HC.out _ bW).mono ?_
      rintro e1 w1 ⟨rfl, b1⟩
      clear k0 k1 k2 k3
      obtain ⟨k0, k1, k2, k3⟩ := KK.out _ b1
      go_wp2_with fail
      refine (HT.out _ (bW.trans b1)).mono ?_
      rintro e1 w2 ⟨rfl, b2⟩
      go_wp2_with fail
      go_returns
      exact ⟨rfl, bW.trans (b1.trans b2)⟩
    · rw [if_neg h4, if_neg h4]
      have z1 : ¬ (4000 : Int) < ((bs L).size : Int) := by omega
      clear h4 hsz
      generalize p.kind = k at *
      generalize p.frm = f at *
      generalize p.to = t at *
      go_enter Tryd.func9, Tryd.ntmps9
      go_wp2_with fail
      rw [← hW]
      clear hW
      refine (HC.out _ bW).mono ?_
      rintro e1 w1 ⟨rfl, b1⟩
      clear k0 k1 k2 k3
      obtain ⟨k0, k1, k2, k3⟩ := KK.out _ b1
      go_wp2_with fail
      refine (HT.out _ (bW.trans b1)).mono ?_
      rintro e1 w2 ⟨rfl, b2⟩
      go_wp2_with fail
      go_returns
      exact ⟨rfl, bW.trans (b1.trans b2)⟩
  · have hx : prX p = ckP p := by unfold prX; rw [if_pos hc]
    have ht : prT p = [] := by unfold prT; rw [hx, if_neg hc]
    have t1 : (ckP p != 0) = true := by simpa using hc
    rw [hx, ht]
    generalize ckP p = X at *
    clear hx ht hc HT
    generalize p.kind = k at *
    generalize p.frm = f at *
    generalize p.to = t at *
    go_enter Tryd.func9, Tryd.ntmps9
    go_wp2_with fail
    rw [← hW]
    clear hW
    refine (HC.out _ bW).mono ?_
    rintro e1 w1 ⟨rfl, b1⟩
    go_wp2_with fail
    go_returns
    exact ⟨rfl, bW.trans b1⟩
end Go.Proofs.YtgpblgalklegkaaDoor
