/- BookText of the program. -/
import Derived.Test.YtfamnaekelmkpaaGreatDoorBkC
import Derived.Test.YtfamnaekelmkpaaGreatDoorBld
import Derived.Test.YtfamnaekelmkpaaGreatDoorHexS
import Derived.Test.YtfamnaekelmkpaaGreatDoorTabB
namespace Go.Proofs.YtfamnaekelmkpaaGreatDoor
open Go.RowKit Go.Sort Go.Lib

def PowAt (w : World) : Prop := TabIs Tryz.prog w "internal/strconv.uint64pow10" .u64 pow10Tab
theorem PowAt.bl {w w' : World} (h : PowAt w) (g : Bl w w') : PowAt w' := tab_bl h g
theorem itoa_bk (n : Int) (w : World) (h0 : 0 ≤ n) (h1 : n ≤ 9999) (ht : PowAt w) :
    Calls Tryz.prog 12 #[.int .i64 n] w fun e w' => e = .returned (.string (bs (decDigits n.toNat))) ∧ Bl w w' := by
  refine (Tryz.strconv_Itoa n (by omega) (by omega) w ht).mono ?_
  rintro e w' ⟨rfl, hw⟩
  exact ⟨by unfold Lib.itoa; rw [if_neg (by omega)]; rfl, (Gr.of_grow hw).bl⟩
/-- The line of a gel. -/
def bkLine (e : Gel) : List UInt8 := decDigits e.n.toNat ++ 32 :: (shC e.r.toNat e.g.toNat e.b.toNat ++ 32 :: (e.name.data.toList ++ [10]))
def bkTxt (L : List Gel) : List UInt8 := L.flatMap bkLine
theorem bkTxt_take (L : List Gel) (k : Nat) (h : k < L.length) : bkTxt (L.take (k + 1)) = bkTxt (L.take k) ++ bkLine L[k] := by
  unfold bkTxt
  rw [List.take_succ_eq_append_getElem h, List.flatMap_append]
  simp
theorem dd4 {n : Int} (h0 : 1 ≤ n) (h1 : n ≤ 9999) : (decDigits n.toNat).length ≤ 4 := by rw [decDigits_length]; exact nDigits_lt (by decide) (show n.toNat < 10 ^ 4 by omega)
theorem bkLine_len {e : Gel} (h : GelOk e) : (bkLine e).length ≤ 80 := by
  have h1 := dd4 h.1.1 h.1.2
  have h2 := shC_len e.r.toNat e.g.toNat e.b.toNat
  have h3 := (isTtl_len h.2.1).1
  unfold bkLine
  simp only [List.length_append, List.length_cons, List.length_nil]
  omega
theorem bkTxt_len : ∀ (L : List Gel), (∀ e ∈ L, GelOk e) → (bkTxt L).length ≤ 80 * L.length
  | [], _ => by simp [bkTxt]
  | e :: t, h => by
    have h1 := bkLine_len (h e List.mem_cons_self)
    have h2 := bkTxt_len t (fun x hx => h x (List.mem_cons_of_mem _ hx))
    have : bkTxt (e :: t) = bkLine e ++ bkTxt t := rfl
    rw [this, List.length_append, List.length_cons]
    omega
theorem sum_bs (a b : List UInt8) (x : Nat) (ha : a.length ≤ x) (hb : b.length ≤ 100) (hx : x ≤ 1000) (w : World) : (Op.stringOp .add (bs a) (bs b)).run Tryz.prog w = .ok (.string (bs a ++ bs b)) w :=
  run_string_add_sum w _ _ (by rw [bs_size, bs_size]; omega)
set_option maxHeartbeats 800000 in
theorem limited_bk (l : List UInt8) (h : l.length ≤ 60000) (w : World) :
    Calls Tryz.prog 14 #[.string (bs l), .int .i64 60000] w fun e w' => e = .returned (.tuple #[.string (bs l), .int .i64 0]) ∧ w' = w := by
  have z1 : ((bs l).size : Int) ≤ 60000 := by rw [bs_size]; omega
  generalize bs l = s at *
  clear h
  go_enter Tryz.func14, Tryz.ntmps14
  go_wp2_with fail
  go_returns
  exact ⟨rfl, rfl⟩
set_option maxRecDepth 100000 in
set_option maxHeartbeats 3200000 in
theorem bookText_ok (v : Value) (L : List Gel) (w : World) (hv : GelVal w v L) (hok : GelsOk L) (h0 : ckBook L = 0) (hpw : PowAt w) (hdb : DbAt w) :
    Calls Tryz.prog 4 #[v] w fun e w' => e = .returned (.tuple #[.string (bs (bkTxt L)), .int .i64 0]) ∧ Bl w w' := by
  have HCK := Lib.hid (checkBook_any v L w hv hok)
  rw [h0] at HCK
  obtain ⟨hl, hgo⟩ := ckBook_ok h0
  obtain ⟨o, cap, rfl, hm, hp⟩ := hv
  have HP := Lib.hid hp
  have HO := Lib.hid hgo
  have HPW := Lib.hid (fun w' (m : Bl w w') => hpw.bl m)
  have HDB := Lib.hid (fun w' (m : Bl w w') => hdb.bl m)
  have HTL := Lib.hid (bkTxt_len L hgo)
  clear hp hgo hpw hdb hok h0
  go_enter Tryz.func4, Tryz.ntmps4
  go_wp2_with (go_at_call 6; refine HCK.out.mono ?_; rintro e w1 ⟨rfl, m1⟩)
  have M1 := Lib.hid m1
  have z1 : w.heap.size ≤ w1.heap.size := m1.size
  clear m1
  go_loopw [15] (fun vi wr => ∃ (k : Nat) (p v : Value), k ≤ L.length ∧ vi = .int .i64 k ∧ Hid (BldV w1.heap.size w1.heap.size p v (bkTxt (L.take k)) wr) ∧ Hid (Bl w wr)) (fun vi _ => L.length - (intOf vi).toNat)
  case atStart => exact ⟨0, _, _, Nat.zero_le _, rfl, BldV.new w1, M1.out.alloc _⟩
  case round =>
    obtain ⟨k, p, v, hk, rfl, HBD, HB⟩ := hrel
    rename World => wr
    by_cases hlt : k < L.length
    · obtain ⟨b, off, rfl, hL⟩ := HP.out (by omega)
      obtain ⟨c0, c1, c2, c3, c4⟩ := (hL.bl HB.out) k hlt
      have hgo := HO.out L[k] (List.getElem_mem hlt)
      have htk := Lib.hid (bkTxt_take L k hlt)
      obtain ⟨x, hx⟩ : ∃ x, x = L[k] := ⟨_, rfl⟩
      rw [← hx] at htk c0 c1 c2 c3 c4 hgo
      have hbl := Lib.hid (bkTxt_len (L.take k) (fun e he => HO.out e (List.mem_of_mem_take he)))
      clear hx hL
      have k1 : (k : Int) < (L.length : Int) := by omega
      obtain ⟨⟨n0, n1⟩, ht, hcol⟩ := hgo
      have hA := dd4 n0 n1
      have hC := shC_len x.r.toNat x.g.toNat x.b.toNat
      have hN := (isTtl_len ht).1
      have HI := Lib.hid (fun w' (m : Bl w w') => itoa_bk x.n w' (by omega) n1 (HPW.out w' m))
      have HS := Lib.hid (fun w' (m : Bl w w') => show_is x.r x.g x.b hcol w' (HDB.out w' m))
      have hline : bkLine x = decDigits x.n.toNat ++ 32 :: (shC x.r.toNat x.g.toNat x.b.toNat ++ 32 :: (x.name.data.toList ++ [10])) := rfl
      obtain ⟨N, hNm⟩ : ∃ N, N = x.name.data.toList := ⟨_, rfl⟩
      have hnb : x.name = bs N := by rw [hNm, bs_of]
      rw [← hNm] at hline hN
      rw [hnb] at c1
      clear hNm ht hcol
      generalize decDigits x.n.toNat = A at *
      generalize shC x.r.toNat x.g.toNat x.b.toNat = C at *
      have s1 : bs [32] = (⟨#[32]⟩ : ByteArray) := rfl
      have s2 : bs [10] = (⟨#[10]⟩ : ByteArray) := rfl
      have R1 : ∀ w, (Op.stringOp .add (bs A) ⟨#[32]⟩).run Tryz.prog w = .ok (.string (bs A ++ ⟨#[32]⟩)) w := fun w => by rw [← s1]; exact sum_bs A [32] 4 hA (by decide) (by decide) w
      have R2 : ∀ w, (Op.stringOp .add (bs A ++ ⟨#[32]⟩) (bs C)).run Tryz.prog w = .ok (.string (bs A ++ ⟨#[32]⟩ ++ bs C)) w := fun w => by rw [← s1, bs_app]; exact sum_bs (A ++ [32]) C 5 (by rw [List.length_append, List.length_singleton]; omega) (by omega) (by decide) w
      have R3 : ∀ w, (Op.stringOp .add (bs A ++ ⟨#[32]⟩ ++ bs C) ⟨#[32]⟩).run Tryz.prog w = .ok (.string (bs A ++ ⟨#[32]⟩ ++ bs C ++ ⟨#[32]⟩)) w := fun w => by rw [← s1, bs_app, bs_app]; exact sum_bs (A ++ [32] ++ C) [32] 18 (by simp only [List.length_append, List.length_singleton]; omega) (by decide) (by decide) w
      have R4 : ∀ w, (Op.stringOp .add (bs A ++ ⟨#[32]⟩ ++ bs C ++ ⟨#[32]⟩) (bs N)).run Tryz.prog w = .ok (.string (bs A ++ ⟨#[32]⟩ ++ bs C ++ ⟨#[32]⟩ ++ bs N)) w := fun w => by rw [← s1, bs_app, bs_app, bs_app]; exact sum_bs (A ++ [32] ++ C ++ [32]) N 19 (by simp only [List.length_append, List.length_singleton]; omega) (by omega) (by decide) w
      have R5 : ∀ w, (Op.stringOp .add (bs A ++ ⟨#[32]⟩ ++ bs C ++ ⟨#[32]⟩ ++ bs N) ⟨#[10]⟩).run Tryz.prog w = .ok (.string (bs A ++ ⟨#[32]⟩ ++ bs C ++ ⟨#[32]⟩ ++ bs N ++ ⟨#[10]⟩)) w := fun w => by rw [← s1, ← s2, bs_app, bs_app, bs_app, bs_app]; exact sum_bs (A ++ [32] ++ C ++ [32] ++ N) [10] 79 (by simp only [List.length_append, List.length_singleton]; omega) (by decide) (by decide) w
      have hZ : bs A ++ ⟨#[32]⟩ ++ bs C ++ ⟨#[32]⟩ ++ bs N ++ ⟨#[10]⟩ = bs (bkLine x) := by
        rw [← s1, ← s2, bs_app, bs_app, bs_app, bs_app, bs_app, hline]
        simp
      have hZl : (bkLine x).length ≤ 80 := by rw [hline]; simp only [List.length_append, List.length_cons, List.length_nil]; omega
      have HW := Lib.hid (fun w' (m : Bl wr w') => write_any w1.heap.size w1.heap.size p v (bkTxt (L.take k)) (bs (bkLine x)) w' (HBD.out.bl m) (by
        have := hbl.out
        rw [bs_size]
        have : (L.take k).length ≤ 500 := by rw [List.length_take]; omega
        omega) (Nat.le_trans (Nat.le_of_lt HBD.out.lt) m.size))
      rw [bs_list, ← htk.out, ← hZ] at HW
      have hwlt := HBD.out.lt
      have hvlt := Lib.hid (fun q (h : v.ownBlock = some q) => (HBD.out.row_lt q h).2)
      clear hline hZ hZl s1 s2 hA hC hN hbl htk HBD
      generalize bs A = SA at *
      generalize bs C = SC at *
      generalize bs N = SN at *
      generalize x.n = xn at *
      generalize x.r = xr at *
      generalize x.g = xg at *
      generalize x.b = xb at *
      go_wp2_with fail
      obtain ⟨W0, hW0⟩ : ∃ W0, W0 = wr.alloc (.cells #[.int .i64 xn, .string SN, .int .i64 xr, .int .i64 xg, .int .i64 xb] 33) := ⟨_, rfl⟩
      have b0 : Bl wr W0 := by rw [hW0]; exact (Bl.refl wr).alloc _
      have hsz0 : wr.heap.size < W0.heap.size := by rw [hW0]; simp
      have e0 : W0.cell? ⟨wr.heap.size, 0, none⟩ = some (.int .i64 xn) := by rw [hW0]; simp
      have e1 : W0.cell? ⟨wr.heap.size, 1, none⟩ = some (.string SN) := by rw [hW0]; simp
      have e2 : W0.cell? ⟨wr.heap.size, 2, none⟩ = some (.int .i64 xr) := by rw [hW0]; simp
      have e3 : W0.cell? ⟨wr.heap.size, 3, none⟩ = some (.int .i64 xg) := by rw [hW0]; simp
      have e4 : W0.cell? ⟨wr.heap.size, 4, none⟩ = some (.int .i64 xb) := by rw [hW0]; simp
      rw [← hW0]
      clear hW0 c0 c1 c2 c3 c4
      have hnb : wr.heap.size ≠ w1.heap.size := by omega
      have hnv : v.ownBlock ≠ some wr.heap.size := fun h => Nat.lt_irrefl _ (hvlt.out _ h)
      have f0 := e0
      have f1 := e1
      have f2 := e2
      have f3 := e3
      have f4 := e4
      have hB0 : Bl w W0 := HB.out.trans b0
      go_region_held3 (fun w' => w'.cell? ⟨wr.heap.size, 0, none⟩ = some (.int .i64 xn) ∧ w'.cell? ⟨wr.heap.size, 1, none⟩ = some (.string SN) ∧ w'.cell? ⟨wr.heap.size, 2, none⟩ = some (.int .i64 xr) ∧ w'.cell? ⟨wr.heap.size, 3, none⟩ = some (.int .i64 xg) ∧ w'.cell? ⟨wr.heap.size, 4, none⟩ = some (.int .i64 xb))
        (first
          | (refine ⟨Bl.cell (w := W0) ?_ f0, Bl.cell (w := W0) ?_ f1, Bl.cell (w := W0) ?_ f2, Bl.cell (w := W0) ?_ f3, Bl.cell (w := W0) ?_ f4⟩ <;> (((repeat (first | with_reducible exact Bl.refl _ | with_reducible assumption | with_reducible refine Bl.drew ?_ | with_reducible refine Bl.alloc ?_ _ | with_reducible refine Bl.trans ?_ (by assumption))); done); done))
          | (refine ⟨Bl.cell (w := w8) ?_ x0, Bl.cell (w := w8) ?_ x1, Bl.cell (w := w8) ?_ x2, Bl.cell (w := w8) ?_ x3, Bl.cell (w := w8) ?_ x4⟩ <;> (((repeat (first | with_reducible exact Bl.refl _ | with_reducible assumption | with_reducible refine Bl.drew ?_ | with_reducible refine Bl.alloc ?_ _ | with_reducible refine Bl.trans ?_ (by assumption))); done); done)))
        (first
          | (go_at_call 12; (with_reducible refine (HI.out _ (hB0.trans ?_)).mono ?_); (focus ((repeat (first | with_reducible exact Bl.refl _ | with_reducible assumption | with_reducible refine Bl.drew ?_ | with_reducible refine Bl.alloc ?_ _ | with_reducible refine Bl.trans ?_ (by assumption))); done)); rintro e' w6 ⟨rfl, m6⟩)
          | (go_at_call 13; (with_reducible refine (HS.out _ (hB0.trans ?_)).mono ?_); (focus ((repeat (first | with_reducible exact Bl.refl _ | with_reducible assumption | with_reducible refine Bl.drew ?_ | with_reducible refine Bl.alloc ?_ _ | with_reducible refine Bl.trans ?_ (by assumption))); done)); rintro e' w7 ⟨rfl, m7⟩)
          | (go_at_call 11; (with_reducible refine (HW.out _ (b0.trans ?_)).mono ?_); (focus ((repeat (first | with_reducible exact Bl.refl _ | with_reducible assumption | with_reducible refine Bl.drew ?_ | with_reducible refine Bl.alloc ?_ _ | with_reducible refine Bl.trans ?_ (by assumption))); done)); rintro e' w8 ⟨rfl, h8⟩; have x0 := h8.cel (by ((repeat (first | with_reducible exact Bl.refl _ | with_reducible assumption | with_reducible refine Bl.drew ?_ | with_reducible refine Bl.alloc ?_ _ | with_reducible refine Bl.trans ?_ (by assumption))); done)) hsz0 hnb hnv f0; have x1 := h8.cel (by ((repeat (first | with_reducible exact Bl.refl _ | with_reducible assumption | with_reducible refine Bl.drew ?_ | with_reducible refine Bl.alloc ?_ _ | with_reducible refine Bl.trans ?_ (by assumption))); done)) hsz0 hnb hnv f1; have x2 := h8.cel (by ((repeat (first | with_reducible exact Bl.refl _ | with_reducible assumption | with_reducible refine Bl.drew ?_ | with_reducible refine Bl.alloc ?_ _ | with_reducible refine Bl.trans ?_ (by assumption))); done)) hsz0 hnb hnv f2; have x3 := h8.cel (by ((repeat (first | with_reducible exact Bl.refl _ | with_reducible assumption | with_reducible refine Bl.drew ?_ | with_reducible refine Bl.alloc ?_ _ | with_reducible refine Bl.trans ?_ (by assumption))); done)) hsz0 hnb hnv f3; have x4 := h8.cel (by ((repeat (first | with_reducible exact Bl.refl _ | with_reducible assumption | with_reducible refine Bl.drew ?_ | with_reducible refine Bl.alloc ?_ _ | with_reducible refine Bl.trans ?_ (by assumption))); done)) hsz0 hnb hnv f4; have hB8 : Bl w w8 := h8.bl (hB0.trans (by ((repeat (first | with_reducible exact Bl.refl _ | with_reducible assumption | with_reducible refine Bl.drew ?_ | with_reducible refine Bl.alloc ?_ _ | with_reducible refine Bl.trans ?_ (by assumption))); done))) z1; obtain ⟨v8, hv8⟩ := h8.1; clear h8))
      go_wp2
      refine ⟨⟨k + 1, _, v8, by omega, by congr 1, hv8, hB8⟩, by simp [intOf]; omega⟩
    · obtain rfl : k = L.length := by omega
      rw [List.take_length] at HBD
      have HSt := Lib.hid (Tryz.Builder_String_any w1.heap.size w1.heap.size (bkTxt L) wr HBD.out.is (Nat.le_of_lt HBD.out.lt))
      have HLm := Lib.hid (fun w => limited_bk (bkTxt L) (by have := HTL.out; omega) w)
      rw [show (⟨(bkTxt L).toArray⟩ : ByteArray) = bs (bkTxt L) from rfl] at HSt
      clear HBD HTL HP HO
      obtain ⟨T, hT⟩ : ∃ T, T = bs (bkTxt L) := ⟨_, rfl⟩
      rw [← hT] at HSt HLm
      have HT := Lib.hid hT
      clear hT
      go_wp2_with (first
        | (go_at_call 15; refine HSt.out.mono ?_; rintro e w2 ⟨rfl, m2⟩)
        | (go_at_call 14; refine (HLm.out _).mono ?_; rintro e w3 ⟨rfl, rfl⟩))
      have hfin := Below.trans HB.out (Below.mono m2 z1)
      go_ret2
      exact ⟨by rw [← HT.out]; rfl, hfin⟩

set_option maxHeartbeats 800000 in
theorem bookText_no (v : Value) (L : List Gel) (w : World) (hv : GelVal w v L) (hok : GelsOk L) (h0 : ckBook L ≠ 0) :
    Calls Tryz.prog 4 #[v] w fun e w' => e = .returned (.tuple #[.string ⟨#[]⟩, .int .i64 (ckBook L)]) ∧ Bl w w' := by
  have HCK := Lib.hid (checkBook_any v L w hv hok)
  have t1 : (ckBook L != 0) = true := by simpa using h0
  obtain ⟨o, cap, rfl, hm, hp⟩ := hv
  clear hp h0 hok
  generalize ckBook L = X at *
  go_enter Tryz.func4, Tryz.ntmps4
  go_wp2_with (go_at_call 6; refine HCK.out.mono ?_; rintro e w1 ⟨rfl, m1⟩)
  go_returns
  exact ⟨rfl, m1⟩
end Go.Proofs.YtfamnaekelmkpaaGreatDoor
