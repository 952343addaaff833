/- Text of a library, as the program writes it. -/
import Derived.Test.YtcidldomnifdeaaDoorFxTp
import Derived.Test.YtcidldomnifdeaaDoorBld
namespace Go.Proofs.YtcidldomnifdeaaDoor
open Go.RowKit Go.Sort Go.Lib

/-- What Text gives. -/
def fxR (L : List Prof) : List UInt8 := if ckLib L = 0 then (if 200000 < (fxTxt L).length then [] else fxTxt L) else []
def fxX (L : List Prof) : Int := if ckLib L = 0 then (if 200000 < (fxTxt L).length then 2 else 0) else ckLib L
theorem len_take {α : Type} (g : α → List UInt8) (c n : Nat) (L : List α) (k : Nat) (h : ∀ x ∈ L, (g x).length ≤ c) (hn : L.length ≤ n) : ((L.take k).flatMap g).length ≤ c * n := by
  have h1 := flat_len g c (L.take k) (fun x hx => h x (List.mem_of_mem_take hx))
  have h2 : (L.take k).length ≤ n := by rw [List.length_take]; omega
  exact Nat.le_trans h1 (Nat.mul_le_mul_left c h2)
theorem wr_len {l : List UInt8} {s : ByteArray} (h : l.length ≤ 100000000) (hs : s.size ≤ 10000000) : l.length + s.size ≤ 140737488355328 := by omega

set_option maxHeartbeats 800000 in
theorem limited_any (s : ByteArray) (m : Int) (w : World) :
    Calls Tryd.prog 30 #[.string s, .int .i64 m] w fun e w' => e = .returned (.tuple #[.string (if m < (s.size : Int) then ⟨#[]⟩ else s), .int .i64 (if m < (s.size : Int) then 2 else 0)]) ∧ w = w' := by
  by_cases h : m < (s.size : Int)
  · rw [if_pos h, if_pos h]
    go_enter Tryd.func30, Tryd.ntmps30
    go_wp2_with fail
    go_returns
    exact ⟨rfl, rfl⟩
  · rw [if_neg h, if_neg h]
    have h' : (s.size : Int) ≤ m := by omega
    clear h
    go_enter Tryd.func30, Tryd.ntmps30
    go_wp2_with fail
    go_returns
    exact ⟨rfl, rfl⟩

set_option maxRecDepth 100000 in
set_option maxHeartbeats 12800000 in
theorem text_loop (v : Value) (L : List Prof) (w : World) (hv : ProfVal w v L) (hok : ∀ f ∈ L, ProfOk f) (h0 : ckLib L = 0) (hpw : PowAt w) (hgw : GwAt w) :
    Calls Tryd.prog 6 #[v] w fun e w' => e = .returned (.tuple #[.string (bs (fxR L)), .int .i64 (fxX L)]) ∧ Bl w w' := by
  have HCk := Lib.hid (checkLibrary_any v L w hv hok)
  rw [h0] at HCk
  obtain ⟨hl60, hgood⟩ := ckLib_good h0
  have HV := Lib.hid hv
  have HG := Lib.hid hgood
  have HPW := Lib.hid (fun w' (m : Bl w w') => hpw.bl m)
  have HGW := Lib.hid (fun w' (m : Bl w w') => hgw.bl m)
  obtain ⟨o, cap, rfl, _, _⟩ := hv
  have t60 : (L.length : Int) ≤ 60 := by omega
  clear hgood hpw hgw hok
  go_enter Tryd.func6, Tryd.ntmps6
  go_wp2_with (go_at_call 8; refine HCk.out.mono ?_; rintro e w1 ⟨rfl, m1⟩)
  have M1 := Lib.hid m1
  have z1 : w.heap.size ≤ w1.heap.size := m1.size
  clear m1
  go_loopw [19] (fun vi wr => ∃ (k : Nat) (p v : Value), k ≤ L.length ∧ vi = .int .i64 k ∧ Hid (BldV w1.heap.size w1.heap.size p v ((L.take k).flatMap fxProf) wr) ∧ Hid (Bl w wr)) (fun vi _ => L.length - (intOf vi).toNat)
  case atStart => exact ⟨0, _, _, Nat.zero_le _, rfl, BldV.new w1, M1.out.alloc _⟩
  case round =>
    obtain ⟨k, p, v, hk, rfl, HBD, HB⟩ := hrel
    rename World => wr
    by_cases hlt : k < L.length
    · obtain ⟨o', c', ev, _, hp'⟩ := HV.out
      obtain ⟨rfl, rfl⟩ : o = o' ∧ cap = c' := by cases ev; exact ⟨rfl, rfl⟩
      clear ev
      obtain ⟨b, off, rfl, hL⟩ := hp' (by omega)
      clear hp'
      obtain ⟨vp, hcel, hpv⟩ := hL k hlt
      obtain ⟨c0, c1, c2⟩ := hcel.bl HB.out
      clear hcel
      have htk := Lib.hid (flat_take fxProf L k hlt)
      have hgf := HG.out L[k] (List.getElem_mem hlt)
      have hl1 := len_take fxProf 90000 60 L k (fun f hf => fxProf_len (HG.out f hf)) (by omega)
      obtain ⟨x, hx⟩ : ∃ x, x = L[k] := ⟨_, rfl⟩
      rw [← hx] at htk c0 c1 hgf hpv
      clear hx hL
      obtain ⟨op, cp, evp⟩ : ∃ o c, vp = .slice o x.ps.length c := by obtain ⟨o, c, e, _⟩ := hpv; exact ⟨o, c, e⟩
      subst evp
      have HPV := Lib.hid hpv
      clear hpv
      have k1 : (k : Int) < (L.length : Int) := by omega
      have hps40 := hgf.2.2.1.2
      have hhd := fxHead_len hgf
      have hpl : ∀ p ∈ x.ps, (fxPar p).length ≤ 2000 := fun p hp => fxPar_len (hgf.2.2.2 p hp) hgf.2.1.2
      have hpl2 := fun j => len_take fxPar 2000 40 x.ps j hpl hps40
      have HPL := Lib.hid hpl2
      have HGP := Lib.hid hgf.2.2.2
      have h512 := hgf.2.1.2
      have hn20 : x.name.size ≤ 20 := by rw [← lst_len]; exact isNm_len hgf.1
      have hD5 : (bs (decDigits x.size.toNat)).size ≤ 5 := by rw [bs_size]; exact dd5 (by have := hgf.2.1.1; omega) (by omega)
      have HI := Lib.hid (fun w' (m : Bl w w') => itoa_bl x.size w' (by have := hgf.2.1.1; omega) (by omega) (HPW.out w' m))
      clear hgf hpl hpl2
      obtain ⟨l1, hl1e⟩ : ∃ l, l = (L.take k).flatMap fxProf := ⟨_, rfl⟩
      rw [← hl1e] at HBD htk hl1
      clear hl1e
      obtain ⟨D, hD⟩ : ∃ D, D = bs (decDigits x.size.toNat) := ⟨_, rfl⟩
      rw [← hD] at hD5 HI
      obtain ⟨R1, q1⟩ := sum_ok (a := ⟨#[112, 114, 111, 102, 105, 108, 101, 32]⟩) (m := 8) (b := x.name) (Nat.le_refl 8) hn20 (by decide)
      obtain ⟨R2, q2⟩ := sum_ok (b := ⟨#[32]⟩) (n := 1) q1 (Nat.le_refl 1) (by decide)
      obtain ⟨R3, q3⟩ := sum_ok (b := D) q2 hD5 (by decide)
      obtain ⟨R4, q4⟩ := sum_ok (b := ⟨#[10]⟩) (n := 1) q3 (Nat.le_refl 1) (by decide)
      have hline : (⟨#[112, 114, 111, 102, 105, 108, 101, 32]⟩ ++ x.name ++ ⟨#[32]⟩ ++ D ++ ⟨#[10]⟩ : ByteArray).data.toList = fxHead x := by
        rw [app_list, app_list, app_list, app_list, hD, bs_list]; rfl
      have HW := Lib.hid (fun w' (m : Bl wr w') => write_any w1.heap.size w1.heap.size p v l1 (⟨#[112, 114, 111, 102, 105, 108, 101, 32]⟩ ++ x.name ++ ⟨#[32]⟩ ++ D ++ ⟨#[10]⟩) w' (HBD.out.bl m) (wr_len (by omega) (by omega)) (Nat.le_trans (Nat.le_of_lt HBD.out.lt) m.size))
      rw [hline] at HW
      have hwlt := HBD.out.lt
      have hvlt := Lib.hid (fun q (h : v.ownBlock = some q) => (HBD.out.row_lt q h).2)
      clear hD hline HBD
      go_wp2_with fail
      obtain ⟨W0, hW0⟩ : ∃ W0, W0 = wr.alloc (.cells #[.string x.name, .int .i64 x.size, .slice op x.ps.length cp] 29) := ⟨_, rfl⟩
      have b0 : Bl wr W0 := by rw [hW0]; exact (Bl.refl wr).alloc _
      have hsz0 : wr.heap.size < W0.heap.size := by rw [hW0]; simp
      have e0 : W0.cell? ⟨wr.heap.size, 0, none⟩ = some (.string x.name) := by rw [hW0]; simp
      have e1 : W0.cell? ⟨wr.heap.size, 1, none⟩ = some (.int .i64 x.size) := by rw [hW0]; simp
      have e2 : W0.cell? ⟨wr.heap.size, 2, none⟩ = some (.slice op x.ps.length cp) := by rw [hW0]; simp
      rw [← hW0]
      clear hW0 c0 c1 c2
      have hnb : wr.heap.size ≠ w1.heap.size := by omega
      have hnv : v.ownBlock ≠ some wr.heap.size := fun h => Nat.lt_irrefl _ (hvlt.out _ h)
      have f0 := e0
      have f1 := e1
      have f2 := e2
      have hB0 : Bl w W0 := HB.out.trans b0
      go_region_held3 (fun w' => w'.cell? ⟨wr.heap.size, 0, none⟩ = some (.string x.name) ∧ w'.cell? ⟨wr.heap.size, 1, none⟩ = some (.int .i64 x.size) ∧ w'.cell? ⟨wr.heap.size, 2, none⟩ = some (.slice op x.ps.length cp))
        (first
          | (refine ⟨Bl.cell (w := W0) ?_ f0, Bl.cell (w := W0) ?_ f1, Bl.cell (w := W0) ?_ f2⟩ <;> (((repeat (first | with_reducible exact Bl.refl _ | with_reducible assumption | with_reducible refine Bl.drew ?_ | with_reducible refine Bl.alloc ?_ _ | with_reducible refine Bl.trans ?_ (by assumption))); done); done))
          | (refine ⟨Bl.cell (w := w8) ?_ x0, Bl.cell (w := w8) ?_ x1, Bl.cell (w := w8) ?_ x2⟩ <;> (((repeat (first | with_reducible exact Bl.refl _ | with_reducible assumption | with_reducible refine Bl.drew ?_ | with_reducible refine Bl.alloc ?_ _ | with_reducible refine Bl.trans ?_ (by assumption))); done); done)))
        (first
          | (go_at_call 27; (with_reducible refine (HI.out _ (hB0.trans ?_)).mono ?_); (focus ((repeat (first | with_reducible exact Bl.refl _ | with_reducible assumption | with_reducible refine Bl.drew ?_ | with_reducible refine Bl.alloc ?_ _ | with_reducible refine Bl.trans ?_ (by assumption))); done)); rintro e' w6 ⟨rfl, m6⟩)
          | (go_at_call 26; (with_reducible refine (HW.out _ (b0.trans ?_)).mono ?_); (focus ((repeat (first | with_reducible exact Bl.refl _ | with_reducible assumption | with_reducible refine Bl.drew ?_ | with_reducible refine Bl.alloc ?_ _ | with_reducible refine Bl.trans ?_ (by assumption))); done)); rintro e' w8 ⟨rfl, h8⟩; have x0 := h8.cel (by ((repeat (first | with_reducible exact Bl.refl _ | with_reducible assumption | with_reducible refine Bl.drew ?_ | with_reducible refine Bl.alloc ?_ _ | with_reducible refine Bl.trans ?_ (by assumption))); done)) hsz0 hnb hnv f0; have x1 := h8.cel (by ((repeat (first | with_reducible exact Bl.refl _ | with_reducible assumption | with_reducible refine Bl.drew ?_ | with_reducible refine Bl.alloc ?_ _ | with_reducible refine Bl.trans ?_ (by assumption))); done)) hsz0 hnb hnv f1; have x2 := h8.cel (by ((repeat (first | with_reducible exact Bl.refl _ | with_reducible assumption | with_reducible refine Bl.drew ?_ | with_reducible refine Bl.alloc ?_ _ | with_reducible refine Bl.trans ?_ (by assumption))); done)) hsz0 hnb hnv f2; have hB8 : Bl w w8 := h8.bl (hB0.trans (by ((repeat (first | with_reducible exact Bl.refl _ | with_reducible assumption | with_reducible refine Bl.drew ?_ | with_reducible refine Bl.alloc ?_ _ | with_reducible refine Bl.trans ?_ (by assumption))); done))) z1; obtain ⟨v8, hv8⟩ := h8.1; clear h8))
      have hl2 : (l1 ++ fxHead x).length ≤ 5500000 := by rw [List.length_append]; omega
      obtain ⟨l2, hl2e⟩ : ∃ l, l = l1 ++ fxHead x := ⟨_, rfl⟩
      rw [← hl2e] at hv8 hl2
      have HL2E := Lib.hid hl2e
      have HB8 := Lib.hid hB8
      have HV8 := Lib.hid hv8
      clear hl2e hB8 hv8 e0 e1 e2 f0 f1 f2 R1 R2 R3 R4 q1 q2 q3 q4 HI HW hB0 b0 x0 x1 hn20 hD5 hnb hnv hsz0 hvlt hwlt hhd hl1
      go_wp2
      clear x2
      go_loopw [36] (fun vj wi => ∃ (j : Nat) (p v : Value), j ≤ x.ps.length ∧ vj = .int .i64 j ∧ Hid (BldV w1.heap.size w1.heap.size p v (l2 ++ (x.ps.take j).flatMap fxPar) wi) ∧ Hid (Bl w wi)) (fun vj _ => x.ps.length - (intOf vj).toNat)
      case atStart => exact ⟨0, _, v8, Nat.zero_le _, rfl, (by show BldV _ _ _ _ _ _; simpa using HV8.out), HB8.out⟩
      case round =>
        obtain ⟨j, pj, vj, hj, rfl, HBD, HBi⟩ := hrel
        rename World => wi
        by_cases hjl : j < x.ps.length
        · obtain ⟨o', c', ev, _, hp'⟩ := HPV.out
          obtain ⟨rfl, rfl⟩ : op = o' ∧ cp = c' := by cases ev; exact ⟨rfl, rfl⟩
          clear ev
          obtain ⟨bp, offp, rfl, hLp⟩ := hp' (by omega)
          clear hp'
          obtain ⟨vr, hcel, hrv⟩ := hLp j hjl
          obtain ⟨c0, c1, c2, c3, c4, c5, c6⟩ := hcel.bl HBi.out
          clear hcel
          have htj := Lib.hid (flat_take fxPar x.ps j hjl)
          have hgy := HGP.out x.ps[j] (List.getElem_mem hjl)
          have hl3 : (l2 ++ (x.ps.take j).flatMap fxPar).length ≤ 5600000 := by have := HPL.out j; rw [List.length_append]; omega
          obtain ⟨y, hy⟩ : ∃ y, y = x.ps[j] := ⟨_, rfl⟩
          rw [← hy] at htj c0 c1 c2 c3 c4 c5 hrv hgy
          clear hy hLp
          obtain ⟨orr, cr, evr⟩ : ∃ o c, vr = .slice o y.rs.length c := by obtain ⟨o, c, e, _⟩ := hrv; exact ⟨o, c, e⟩
          subst evr
          have HRV := Lib.hid hrv
          clear hrv
          have j1 : (j : Int) < (x.ps.length : Int) := by omega
          have hrs30 := hgy.2.2.2.2.2.1
          have HGR := Lib.hid hgy.2.2.2.2.2.2
          have HRL := Lib.hid (fun i => len_take fxRng 60 30 y.rs i (fun r hr => fxRng_len (hgy.2.2.2.2.2.2 r hr)) hrs30)
          have hw90 := fxWords_len hgy h512
          have HPT := Lib.hid (fun w' (m : Bl w w') => paramText_any y (.slice orr y.rs.length cr) x.size w' ⟨_, _, rfl⟩ hgy h512 (HPW.out w' m) (HGW.out w' m))
          clear hgy
          obtain ⟨l3, hl3e⟩ : ∃ l, l = l2 ++ (x.ps.take j).flatMap fxPar := ⟨_, rfl⟩
          rw [← hl3e] at HBD hl3
          have HL3E := Lib.hid hl3e
          clear hl3e
          have hS90 : (bs (fxWords y)).size ≤ 90 := by rw [bs_size]; exact hw90
          obtain ⟨S, hS⟩ : ∃ S, S = bs (fxWords y) := ⟨_, rfl⟩
          rw [← hS] at HPT hS90
          obtain ⟨Q1, y1⟩ := sum_ok (a := ⟨#[32, 32]⟩) (m := 2) (b := S) (Nat.le_refl 2) hS90 (by decide)
          obtain ⟨Q2, y2⟩ := sum_ok (b := ⟨#[10]⟩) (n := 1) y1 (Nat.le_refl 1) (by decide)
          have hline : (⟨#[32, 32]⟩ ++ S ++ ⟨#[10]⟩ : ByteArray).data.toList = [32, 32] ++ fxWords y ++ [10] := by
            rw [app_list, app_list, hS, bs_list]
          have HW := Lib.hid (fun w' (m : Bl wi w') => write_any w1.heap.size w1.heap.size pj vj l3 (⟨#[32, 32]⟩ ++ S ++ ⟨#[10]⟩) w' (HBD.out.bl m) (wr_len (by omega) (by omega)) (Nat.le_trans (Nat.le_of_lt HBD.out.lt) m.size))
          rw [hline] at HW
          have hwlt := HBD.out.lt
          have hvlt := Lib.hid (fun q (h : vj.ownBlock = some q) => (HBD.out.row_lt q h).2)
          have hnb : wi.heap.size ≠ w1.heap.size := by omega
          have hnv : vj.ownBlock ≠ some wi.heap.size := fun h => Nat.lt_irrefl _ (hvlt.out _ h)
          have HW90 := Lib.hid hw90
          clear hS hline HBD hw90
          obtain ⟨Wy, hWy⟩ : ∃ Wy, wi.alloc (.cells #[.string y.name, .int .i64 y.grp, .int .i64 y.slot, .int .i64 y.fine, .int .i64 y.dflt, .bool y.snap, .slice orr y.rs.length cr] 46) = Wy := ⟨_, rfl⟩
          have b0 : Bl wi Wy := by rw [← hWy]; exact (Bl.refl wi).alloc _
          have hsz0 : wi.heap.size < Wy.heap.size := by rw [← hWy]; simp
          have HCy := Lib.hid (show CelP Wy wi.heap.size 0 y (.slice orr y.rs.length cr) by rw [← hWy]; exact CelP.new _ _ _ _)
          obtain ⟨e0, e1, e2, e3, e4, e5, e6⟩ := HCy.out
          simp only [Nat.zero_add] at e1 e2 e3 e4 e5 e6
          have f6 := Lib.hid e6
          have bwy := HBi.out.trans b0
          have BWy := Lib.hid bwy
          have B0 := Lib.hid b0
          clear bwy b0
          go_wp2_with (first
            | (go_at_call 28; refine (HPT.out _ BWy.out).mono ?_; rintro e' w6 ⟨rfl, m6⟩)
            | (go_at_call 26; refine (HW.out _ (B0.out.trans m6)).mono ?_; rintro e' w7 ⟨rfl, h7⟩; clear e0 e1 e2 e3 e4 e5 e6; have x6 := h7.cel m6 hsz0 hnb hnv f6.out; have HB7 := Lib.hid (h7.bl (BWy.out.trans m6) z1); obtain ⟨v7, hv7⟩ := h7.1; have HV7 := Lib.hid hv7; clear h7 hv7 m6))
          have hl4 : (l3 ++ ([32, 32] ++ fxWords y ++ [10])).length ≤ 5700000 := by
            have := HW90.out
            simp only [List.length_append, List.length_cons, List.length_nil] at this ⊢; omega
          obtain ⟨l4, hl4e⟩ : ∃ l, l = l3 ++ ([32, 32] ++ fxWords y ++ [10]) := ⟨_, rfl⟩
          rw [← hl4e] at HV7 hl4
          have HL4E := Lib.hid hl4e
          clear hl4e x6 Q1 Q2 y1 y2 HW hsz0 hnb hnv hvlt hwlt HCy f6 hl3 hS90 HPT HW90
          go_loopw [48] (fun vq wq => ∃ (i : Nat) (p v : Value), i ≤ y.rs.length ∧ vq = .int .i64 i ∧ Hid (BldV w1.heap.size w1.heap.size p v (l4 ++ (y.rs.take i).flatMap fxRng) wq) ∧ Hid (Bl w wq)) (fun vq _ => y.rs.length - (intOf vq).toNat)
          case atStart => exact ⟨0, _, v7, Nat.zero_le _, rfl, (by show BldV _ _ _ _ _ _; simpa using HV7.out), HB7.out⟩
          case round =>
            obtain ⟨i, pi, vi, hi, rfl, HBD, HBq⟩ := hrel
            rename World => wq
            by_cases hil : i < y.rs.length
            · obtain ⟨o', c', ev, _, hp'⟩ := HRV.out
              obtain ⟨rfl, rfl⟩ : orr = o' ∧ cr = c' := by cases ev; exact ⟨rfl, rfl⟩
              clear ev
              obtain ⟨br, offr, rfl, hLr⟩ := hp' (by omega)
              clear hp'
              obtain ⟨c0, c1, c2⟩ := (hLr i hil).bl HBq.out
              have hti := Lib.hid (flat_take fxRng y.rs i hil)
              have hgr := HGR.out y.rs[i] (List.getElem_mem hil)
              have hl5 : (l4 ++ (y.rs.take i).flatMap fxRng).length ≤ 5800000 := by have := HRL.out i; rw [List.length_append]; omega
              obtain ⟨r, hr⟩ : ∃ r, r = y.rs[i] := ⟨_, rfl⟩
              rw [← hr] at hti c0 c1 c2 hgr
              clear hr hLr
              obtain ⟨⟨r0, r1, r2⟩, rn⟩ := hgr
              have i1 : (i : Int) < (y.rs.length : Int) := by omega
              have hn20 : r.name.size ≤ 20 := by rw [← lst_len]; exact isNm_len rn
              have hA10 : (bs (lvShow r.lo)).size ≤ 10 := by rw [bs_size]; exact lvShow_l10 r0 (by omega)
              have hC10 : (bs (lvShow r.hi)).size ≤ 10 := by rw [bs_size]; exact lvShow_l10 (by omega) r2
              have HS1 := Lib.hid (fun w' (m : Bl w w') => show_fx r.lo w' r0 (by omega) (HPW.out w' m))
              have HS2 := Lib.hid (fun w' (m : Bl w w') => show_fx r.hi w' (by omega) r2 (HPW.out w' m))
              obtain ⟨A, hA⟩ : ∃ D, D = bs (lvShow r.lo) := ⟨_, rfl⟩
              obtain ⟨C, hC⟩ : ∃ D, D = bs (lvShow r.hi) := ⟨_, rfl⟩
              rw [← hA] at hA10 HS1
              rw [← hC] at hC10 HS2
              obtain ⟨l5, hl5e⟩ : ∃ l, l = l4 ++ (y.rs.take i).flatMap fxRng := ⟨_, rfl⟩
              rw [← hl5e] at HBD hl5
              have HL5E := Lib.hid hl5e
              clear hl5e
              obtain ⟨Q1, y1⟩ := sum_ok (a := ⟨#[32, 32, 32, 32]⟩) (m := 4) (b := A) (Nat.le_refl 4) hA10 (by decide)
              obtain ⟨Q2, y2⟩ := sum_ok (b := ⟨#[32]⟩) (n := 1) y1 (Nat.le_refl 1) (by decide)
              obtain ⟨Q3, y3⟩ := sum_ok (b := C) y2 hC10 (by decide)
              obtain ⟨Q4, y4⟩ := sum_ok (b := ⟨#[32]⟩) (n := 1) y3 (Nat.le_refl 1) (by decide)
              obtain ⟨Q5, y5⟩ := sum_ok (b := r.name) y4 hn20 (by decide)
              obtain ⟨Q6, y6⟩ := sum_ok (b := ⟨#[10]⟩) (n := 1) y5 (Nat.le_refl 1) (by decide)
              have hline : (⟨#[32, 32, 32, 32]⟩ ++ A ++ ⟨#[32]⟩ ++ C ++ ⟨#[32]⟩ ++ r.name ++ ⟨#[10]⟩ : ByteArray).data.toList = fxRng r := by
                rw [app_list, app_list, app_list, app_list, app_list, app_list, hA, hC, bs_list, bs_list]; rfl
              have HW := Lib.hid (fun w' (m : Bl wq w') => write_any w1.heap.size w1.heap.size pi vi l5 (⟨#[32, 32, 32, 32]⟩ ++ A ++ ⟨#[32]⟩ ++ C ++ ⟨#[32]⟩ ++ r.name ++ ⟨#[10]⟩) w' (HBD.out.bl m) (wr_len (by omega) (by omega)) (Nat.le_trans (Nat.le_of_lt HBD.out.lt) m.size))
              rw [hline] at HW
              have hwlt := HBD.out.lt
              have hvlt := Lib.hid (fun q (h : vi.ownBlock = some q) => (HBD.out.row_lt q h).2)
              clear hA hC hline HBD
              go_wp2_with fail
              obtain ⟨W0, hW0⟩ : ∃ W0, W0 = wq.alloc (.cells #[.int .i64 r.lo, .int .i64 r.hi, .string r.name] 67) := ⟨_, rfl⟩
              have b0 : Bl wq W0 := by rw [hW0]; exact (Bl.refl wq).alloc _
              have hsz0 : wq.heap.size < W0.heap.size := by rw [hW0]; simp
              have e0 : W0.cell? ⟨wq.heap.size, 0, none⟩ = some (.int .i64 r.lo) := by rw [hW0]; simp
              have e1 : W0.cell? ⟨wq.heap.size, 1, none⟩ = some (.int .i64 r.hi) := by rw [hW0]; simp
              have e2 : W0.cell? ⟨wq.heap.size, 2, none⟩ = some (.string r.name) := by rw [hW0]; simp
              rw [← hW0]
              clear hW0 c0 c1 c2
              have hnb : wq.heap.size ≠ w1.heap.size := by omega
              have hnv : vi.ownBlock ≠ some wq.heap.size := fun h => Nat.lt_irrefl _ (hvlt.out _ h)
              have f0 := e0
              have f1 := e1
              have f2 := e2
              have hB0 : Bl w W0 := HBq.out.trans b0
              go_region_held3 (fun w' => w'.cell? ⟨wq.heap.size, 0, none⟩ = some (.int .i64 r.lo) ∧ w'.cell? ⟨wq.heap.size, 1, none⟩ = some (.int .i64 r.hi) ∧ w'.cell? ⟨wq.heap.size, 2, none⟩ = some (.string r.name))
                (first
                  | (refine ⟨Bl.cell (w := W0) ?_ f0, Bl.cell (w := W0) ?_ f1, Bl.cell (w := W0) ?_ f2⟩ <;> (((repeat (first | with_reducible exact Bl.refl _ | with_reducible assumption | with_reducible refine Bl.drew ?_ | with_reducible refine Bl.alloc ?_ _ | with_reducible refine Bl.trans ?_ (by assumption))); done); done))
                  | (refine ⟨Bl.cell (w := w8) ?_ x0, Bl.cell (w := w8) ?_ x1, Bl.cell (w := w8) ?_ x2⟩ <;> (((repeat (first | with_reducible exact Bl.refl _ | with_reducible assumption | with_reducible refine Bl.drew ?_ | with_reducible refine Bl.alloc ?_ _ | with_reducible refine Bl.trans ?_ (by assumption))); done); done)))
                (first
                  | (go_at_call 29; (with_reducible refine (HS1.out _ (hB0.trans ?_)).mono ?_); (focus ((repeat (first | with_reducible exact Bl.refl _ | with_reducible assumption | with_reducible refine Bl.drew ?_ | with_reducible refine Bl.alloc ?_ _ | with_reducible refine Bl.trans ?_ (by assumption))); done)); rintro e' w6 ⟨rfl, m6⟩)
                  | (go_at_call 29; (with_reducible refine (HS2.out _ (hB0.trans ?_)).mono ?_); (focus ((repeat (first | with_reducible exact Bl.refl _ | with_reducible assumption | with_reducible refine Bl.drew ?_ | with_reducible refine Bl.alloc ?_ _ | with_reducible refine Bl.trans ?_ (by assumption))); done)); rintro e' w7 ⟨rfl, m7⟩)
                  | (go_at_call 26; (with_reducible refine (HW.out _ (b0.trans ?_)).mono ?_); (focus ((repeat (first | with_reducible exact Bl.refl _ | with_reducible assumption | with_reducible refine Bl.drew ?_ | with_reducible refine Bl.alloc ?_ _ | with_reducible refine Bl.trans ?_ (by assumption))); done)); rintro e' w8 ⟨rfl, h8⟩; have x0 := h8.cel (by ((repeat (first | with_reducible exact Bl.refl _ | with_reducible assumption | with_reducible refine Bl.drew ?_ | with_reducible refine Bl.alloc ?_ _ | with_reducible refine Bl.trans ?_ (by assumption))); done)) hsz0 hnb hnv f0; have x1 := h8.cel (by ((repeat (first | with_reducible exact Bl.refl _ | with_reducible assumption | with_reducible refine Bl.drew ?_ | with_reducible refine Bl.alloc ?_ _ | with_reducible refine Bl.trans ?_ (by assumption))); done)) hsz0 hnb hnv f1; have x2 := h8.cel (by ((repeat (first | with_reducible exact Bl.refl _ | with_reducible assumption | with_reducible refine Bl.drew ?_ | with_reducible refine Bl.alloc ?_ _ | with_reducible refine Bl.trans ?_ (by assumption))); done)) hsz0 hnb hnv f2; have hB8 : Bl w w8 := h8.bl (hB0.trans (by ((repeat (first | with_reducible exact Bl.refl _ | with_reducible assumption | with_reducible refine Bl.drew ?_ | with_reducible refine Bl.alloc ?_ _ | with_reducible refine Bl.trans ?_ (by assumption))); done))) z1; obtain ⟨v8, hv8⟩ := h8.1; clear h8))
              all_goals
                have hnx : Hid (l5 ++ fxRng r = l4 ++ (y.rs.take (i + 1)).flatMap fxRng) := by
                  show _ = _; rw [hti.out, HL5E.out, List.append_assoc]
                rw [hnx.out] at hv8
                have HV8' := Lib.hid hv8
                have HB8' := Lib.hid hB8
                clear hv8 hB8 hti HL5E hnx
                go_wp2
                go_roundw
                case rel => exact ⟨i + 1, _, _, by omega, by go_num, HV8'.out, HB8'.out⟩
                case measure => simp [intOf]; omega
            · obtain rfl : i = y.rs.length := by omega
              have hfin : Hid (l4 ++ (y.rs.take y.rs.length).flatMap fxRng = l2 ++ (x.ps.take (j + 1)).flatMap fxPar) := by
                show _ = _; rw [List.take_length, htj.out, HL4E.out, HL3E.out]; unfold fxPar; simp only [List.append_assoc]
              clear htj HL4E HL3E
              go_wp2
              go_roundw
              case rel => exact ⟨j + 1, _, _, by omega, by go_num, (by show BldV _ _ _ _ _ _; rw [← hfin.out]; exact HBD.out), HBq.out⟩
              case measure => simp [intOf]; omega
        · obtain rfl : j = x.ps.length := by omega
          have hfin : Hid (l2 ++ (x.ps.take x.ps.length).flatMap fxPar = (L.take (k + 1)).flatMap fxProf) := by
            show _ = _; rw [List.take_length, htk.out, HL2E.out]; unfold fxProf; rw [List.append_assoc]
          clear htk HL2E
          go_wp2
          go_roundw
          case rel => exact ⟨k + 1, _, _, by omega, by go_num, (by show BldV _ _ _ _ _ _; rw [← hfin.out]; exact HBD.out), HBi.out⟩
          case measure => simp [intOf]; omega
    · obtain rfl : k = L.length := by omega
      have hall : Hid ((L.take L.length).flatMap fxProf = fxTxt L) := by show _ = _; rw [List.take_length]; rfl
      rw [hall.out] at HBD
      have HSt := Lib.hid (Tryd.Builder_String_any w1.heap.size w1.heap.size (fxTxt L) wr HBD.out.is (Nat.le_of_lt HBD.out.lt))
      have HLm := Lib.hid (fun w => limited_any (bs (fxTxt L)) 200000 w)
      rw [show (⟨(fxTxt L).toArray⟩ : ByteArray) = bs (fxTxt L) from rfl] at HSt
      rw [bs_size] at HLm
      have hR : Hid (Ending.returned (.tuple #[.string (if (200000 : Int) < ((fxTxt L).length : Int) then ⟨#[]⟩ else bs (fxTxt L)), .int .i64 (if (200000 : Int) < ((fxTxt L).length : Int) then 2 else 0)]) = .returned (.tuple #[.string (bs (fxR L)), .int .i64 (fxX L)])) := by
        show _ = _
        unfold fxR fxX
        rw [if_pos h0, if_pos h0]
        by_cases h2 : 200000 < (fxTxt L).length
        · rw [if_pos h2, if_pos h2, if_pos (by omega), if_pos (by omega)]; rfl
        · rw [if_neg h2, if_neg h2, if_neg (by omega), if_neg (by omega)]
      clear hall HBD h0 HG HV HPW HGW HCk
      generalize bs (fxTxt L) = S at *
      generalize (fxTxt L).length = n at *
      generalize (if (200000 : Int) < (n : Int) then (⟨#[]⟩ : ByteArray) else S) = S2 at *
      generalize (if (200000 : Int) < (n : Int) then (2 : Int) else 0) = X2 at *
      go_wp2_with (first
        | (go_at_call 31; refine HSt.out.mono ?_; rintro e w2 ⟨rfl, m2⟩)
        | (go_at_call 30; refine (HLm.out _).mono ?_; rintro e w3 ⟨rfl, rfl⟩))
      have hfin := Below.trans HB.out (Below.mono m2 z1)
      go_ret2
      exact ⟨by rw [← hR.out]; rfl, hfin⟩

theorem text_any (v : Value) (L : List Prof) (w : World) (hv : ProfVal w v L) (hok : ∀ f ∈ L, ProfOk f) (hpw : PowAt w) (hgw : GwAt w) :
    Calls Tryd.prog 6 #[v] w fun e w' => e = .returned (.tuple #[.string (bs (fxR L)), .int .i64 (fxX L)]) ∧ Bl w w' := by
  by_cases h0 : ckLib L = 0
  · exact text_loop v L w hv hok h0 hpw hgw
  · have HCk := Lib.hid (checkLibrary_any v L w hv hok)
    have e1 : Hid (fxR L = []) := by show _ = _; unfold fxR; rw [if_neg h0]
    have e2 : Hid (fxX L = ckLib L) := by show _ = _; unfold fxX; rw [if_neg h0]
    have hb : (ckLib L != 0) = true := by simpa using h0
    obtain ⟨o, cap, rfl, _, _⟩ := hv
    clear h0 hok hpw hgw
    generalize ckLib L = X at *
    go_enter Tryd.func6, Tryd.ntmps6
    go_wp2_with (go_at_call 8; refine HCk.out.mono ?_; rintro e w1 ⟨rfl, m1⟩)
    go_returns
    exact ⟨by rw [e1.out, e2.out]; rfl, m1⟩
end Go.Proofs.YtcidldomnifdeaaDoor
