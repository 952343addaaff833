/- Texts of colours: digits, Show and hex of the reference. -/
import Derived.Test.YtfamnaekelmkpaaGreatDoorHexS
import Derived.Test.YtfamnaekelmkpaaGreatDoorColR
import Derived.Test.YtfamnaekelmkpaaGreatDoorLib
import Derived.Lib.Repeat
namespace Go.Proofs.YtfamnaekelmkpaaGreatDoor
open Go.RowKit Go.Lib Go.Sort

theorem repeat_one (c : UInt8) : ∀ n, Lib.repeatL [c] n = List.replicate n c
  | 0 => rfl
  | n + 1 => by show [c] ++ Lib.repeatL [c] n = _; rw [repeat_one c n]; rfl
set_option maxHeartbeats 800000 in
theorem digits_ref (k n : Nat) (hk : k + 1 ≤ 4) (hn : n < 16 ^ (k + 1)) (w : World) (hd : DbAt w) :
    Calls Tryz.prog 31 #[.int .i64 n, .int .i64 ((k + 1 : Nat) : Int)] w fun e w' => e = .returned (.string (bs (hxs (k + 1) n))) ∧ Bl w w' := by
  obtain ⟨h1, h2⟩ := hexOf_pad k n hn
  have hlt : n < 9223372036854775808 := by
    have : (16 : Nat) ^ (k + 1) ≤ 16 ^ 4 := Nat.pow_le_pow_right (by decide) hk
    omega
  have HF := Lib.hid (format16 n hlt w hd)
  obtain ⟨c, hc⟩ : ∃ c, c = k + 1 - (hexOf n).length := ⟨_, rfl⟩
  rw [← hc] at h2
  have HR := Lib.hid (fun w => Tryz.strings_Repeat ⟨#[48]⟩ c w (by omega) (by show 1 * c ≤ _; omega))
  rw [show (⟨#[48]⟩ : ByteArray).data.toList = [48] from rfl, repeat_one] at HR
  have hsz : (bs (hexOf n)).size = (hexOf n).length := bs_size _
  have hs1 : ((k + 1 : Nat) : Int) - ((bs (hexOf n)).size : Int) = (c : Int) := by omega
  have hs2 : ((bs (hexOf n)).size : Int) ≤ 4 := by omega
  have hT : Hid ((⟨(List.replicate c 48).toArray⟩ : ByteArray) ++ bs (hexOf n) = bs (hxs (k + 1) n)) := by
    show _ = _
    rw [← h2, ← bs_app]; rfl
  have hz : (⟨(List.replicate c 48).toArray⟩ : ByteArray).size = c := by show (List.replicate c (48 : UInt8)).toArray.size = c; simp
  have hc4 : c ≤ 4 := by omega
  clear h1 h2 hn hlt hd hc hsz
  generalize bs (hexOf n) = S at *
  generalize bs (hxs (k + 1) n) = T at *
  generalize (⟨(List.replicate c 48).toArray⟩ : ByteArray) = Z at *
  have R1 : ∀ w, (Op.stringOp .add Z S).run Tryz.prog w = .ok (.string (Z ++ S)) w := fun w => run_string_add_sum w _ _ (by omega)
  have hK : ((k + 1 : Nat) : Int) ≤ 4 := by omega
  have hK0 : 0 ≤ ((k + 1 : Nat) : Int) := by omega
  generalize ((k + 1 : Nat) : Int) = K at *
  clear hk
  go_enter Tryz.func31, Tryz.ntmps31
  go_wp2_with (first
    | (go_at_call 30; refine HF.out.mono ?_; rintro e w1 ⟨rfl, m1⟩)
    | (go_at_call 47; refine (HR.out _).mono ?_; rintro e w2 ⟨rfl, m2⟩))
  go_returns
  exact ⟨by rw [← hT.out]; rfl, Bl.trans m1 m2⟩

def hex16 : List UInt8 := [48, 49, 50, 51, 52, 53, 54, 55, 56, 57, 97, 98, 99, 100, 101, 102]
theorem hex_at (c : UInt8) : Lib.indexByte hex16 c = if 48 ≤ c.toNat ∧ c.toNat ≤ 57 then (c.toNat : Int) - 48 else if 97 ≤ c.toNat ∧ c.toNat ≤ 102 then (c.toNat : Int) - 87 else -1 := by
  have h : ∀ n : Nat, n < 256 → Lib.indexByte hex16 (UInt8.ofNat n) = if 48 ≤ n ∧ n ≤ 57 then (n : Int) - 48 else if 97 ≤ n ∧ n ≤ 102 then (n : Int) - 87 else -1 := by decide +kernel
  have := h c.toNat c.toNat_lt
  simpa using this
theorem index_hex (c : UInt8) (v : Int) (hv : Lib.indexByte hex16 c = v) (w : World) :
    Calls Tryz.prog 87 #[.string ⟨#[48, 49, 50, 51, 52, 53, 54, 55, 56, 57, 97, 98, 99, 100, 101, 102]⟩, .int .u8 (c.toNat : Int)] w fun e w' => e = .returned (.int .i64 v) ∧ w' = w := by
  have H := Lib.hid (Tryz.stringslite_IndexByte ⟨#[48, 49, 50, 51, 52, 53, 54, 55, 56, 57, 97, 98, 99, 100, 101, 102]⟩ (c.toNat : Int) w)
  rw [show (⟨#[48, 49, 50, 51, 52, 53, 54, 55, 56, 57, 97, 98, 99, 100, 101, 102]⟩ : ByteArray).data.toList = hex16 from rfl, show (c.toNat : Int).toNat.toUInt8 = c by simp, hv] at H
  clear hv
  generalize (c.toNat : Int) = x at *
  go_enter Tryz.func87, Tryz.ntmps87
  go_wp2_with (go_at_call 100; refine H.out.mono ?_; rintro e w1 ⟨rfl, rfl⟩)
  go_returns
  exact ⟨rfl, rfl⟩

/-- What hex hands back. -/
def hxR : Option Nat → Int × Bool
  | some n => ((n : Int), true)
  | none => (0, false)
set_option maxRecDepth 100000 in
set_option maxHeartbeats 1600000 in
theorem hex_ref (s : ByteArray) (hs : s.size ≤ 4) (w : World) :
    Calls Tryz.prog 65 #[.string s] w fun e w' => e = .returned (.tuple #[.int .i64 (hxR (hexVal 0 s.data.toList)).1, .bool (hxR (hexVal 0 s.data.toList)).2]) ∧ w' = w := by
  have hll := Lib.hid (Lib.size_eq s)
  go_enter Tryz.func65, Tryz.ntmps65
  go_wp2
  go_loop [4, 9] (fun vn vi => ∃ (k acc : Nat), vn = .int .i64 acc ∧ vi = .int .i64 k ∧ k ≤ s.size ∧ acc < 16 ^ k ∧ Hid (hexVal 0 s.data.toList = hexVal acc (s.data.toList.drop k))) (fun _ vi => s.size - (intOf vi).toNat)
  case atStart => exact ⟨0, 0, rfl, rfl, by omega, by decide, rfl⟩
  case round =>
    obtain ⟨k, acc, rfl, rfl, hk, hacc, hdec⟩ := hrel
    by_cases hlt : k < s.size
    · have hp := pow16_le (show k + 1 ≤ 12 by omega)
      have hp3 : (16 : Nat) ^ k ≤ 16 ^ 3 := Nat.pow_le_pow_right (by decide) (by omega)
      have a1 : (acc : Int) < 4096 := by omega
      have hl2 : k < s.data.toList.length := by rw [← hll.out]; exact hlt
      have hcons := hdec.out
      rw [List.drop_eq_getElem_cons hl2, hexVal_cons] at hcons
      have hget : s.data.toList[k]'hl2 = s[k] := by show _ = s.data[k]; simp
      rw [hget] at hcons
      have step : ∀ d : Nat, hxv s[k] = some d → Hid (hexVal 0 s.data.toList = hexVal (16 * acc + d) (s.data.toList.drop (k + 1))) ∧ 16 * acc + d < 16 ^ (k + 1) ∧ d < 16 := by
        intro d hd
        have := hxv_lt hd
        rw [hd] at hcons
        exact ⟨hcons, by rw [Nat.pow_succ]; omega, this⟩
      have stop : hxv s[k] = none → Hid (hxR (hexVal 0 s.data.toList) = (0, false)) := by
        intro hd
        rw [hd] at hcons
        show _ = _
        rw [hcons]; rfl
      have hi := hex_at s[k]
      have hIB := fun (v : Int) (h : Lib.indexByte hex16 (s[k]'hlt) = v) (w : World) => index_hex (s[k]'hlt) v h w
      have key : (∃ d : Nat, hxv s[k] = some d ∧ Lib.indexByte hex16 s[k] = (d : Int) ∧ (((s[k].toNat : Int) < 65) ∨ (65 ≤ (s[k].toNat : Int) ∧ 70 < (s[k].toNat : Int)))) ∨
          (hxv s[k] = some (s[k].toNat - 55) ∧ Lib.indexByte hex16 s[k] = -1 ∧ 65 ≤ (s[k].toNat : Int) ∧ (s[k].toNat : Int) ≤ 70) ∨
          (hxv s[k] = none ∧ Lib.indexByte hex16 s[k] = -1 ∧ (((s[k].toNat : Int) < 65) ∨ (65 ≤ (s[k].toNat : Int) ∧ 70 < (s[k].toNat : Int)))) := by
        rw [hi]
        unfold hxv
        by_cases h1 : 48 ≤ s[k].toNat ∧ s[k].toNat ≤ 57
        · exact .inl ⟨s[k].toNat - 48, by rw [if_pos h1], by rw [if_pos h1]; omega, by omega⟩
        by_cases h2 : 97 ≤ s[k].toNat ∧ s[k].toNat ≤ 102
        · exact .inl ⟨s[k].toNat - 87, by rw [if_neg h1, if_pos h2], by rw [if_neg h1, if_pos h2]; omega, by omega⟩
        by_cases h3 : 65 ≤ s[k].toNat ∧ s[k].toNat ≤ 70
        · exact .inr (.inl ⟨by rw [if_neg h1, if_neg h2, if_pos h3], by rw [if_neg h1, if_neg h2], by omega, by omega⟩)
        · exact .inr (.inr ⟨by rw [if_neg h1, if_neg h2, if_neg h3], by rw [if_neg h1, if_neg h2], by omega⟩)
      clear hcons hget hp hp3 hi
      rcases key with ⟨d, hx, hb, hr⟩ | ⟨hx, hb, hr1, hr2⟩ | ⟨hx, hb, hr⟩
      · obtain ⟨h1, h2, h3⟩ := step d hx
        have HI := Lib.hid (fun w => hIB _ hb w)
        clear step stop hIB hx hb hacc
        have hd0 : 0 ≤ (d : Int) := by omega
        rcases hr with hr | ⟨hr, hr'⟩
        all_goals (
          go_wp2_with (go_at_call 87; refine (HI.out _).mono ?_; rintro e w1 ⟨rfl, rfl⟩)
          refine ⟨⟨k + 1, 16 * acc + d, by congr 1, by congr 1, by omega, h2, h1⟩, by simp [intOf]; omega⟩)
      · obtain ⟨h1, h2, h3⟩ := step _ hx
        have HI := Lib.hid (fun w => hIB _ hb w)
        clear step stop hIB hx hb hacc
        go_wp2_with (go_at_call 87; refine (HI.out _).mono ?_; rintro e w1 ⟨rfl, rfl⟩)
        refine ⟨⟨k + 1, 16 * acc + (s[k].toNat - 55), by congr 1; omega, by congr 1, by omega, h2, h1⟩, by simp [intOf]; omega⟩
      · have h1 := stop hx
        have HI := Lib.hid (fun w => hIB _ hb w)
        clear step stop hIB hx hb hacc
        rcases hr with hr | ⟨hr, hr'⟩
        all_goals (
          go_wp2_with (go_at_call 87; refine (HI.out _).mono ?_; rintro e w1 ⟨rfl, rfl⟩)
          go_ret2
          exact ⟨by rw [h1.out]; rfl, rfl⟩)
    · obtain rfl : k = s.size := by omega
      have e : Hid (hxR (hexVal 0 s.data.toList) = ((acc : Int), true)) := by
        show _ = _
        rw [hdec.out, List.drop_eq_nil_of_le (by rw [← hll.out]; exact Nat.le_refl _)]; rfl
      clear hacc hdec
      go_wp2
      go_ret2
      exact ⟨by rw [e.out]; rfl, rfl⟩

set_option maxRecDepth 100000 in
set_option maxHeartbeats 3200000 in
theorem showR_short (r g b : Nat) (hr : r ≤ 65535) (hg : g ≤ 65535) (hb : b ≤ 65535) (z : r % 257 = 0 ∧ g % 257 = 0 ∧ b % 257 = 0) (w : World) (hd : DbAt w) :
    Calls Tryz.prog 16 #[.agg #[.int .i64 r, .int .i64 g, .int .i64 b]] w fun e w' => e = .returned (.tuple #[.string (bs (shC r g b)), .int .i64 0]) ∧ Bl w w' := by
  have hs : shC r g b = 35 :: (hxs 2 (r / 257) ++ hxs 2 (g / 257) ++ hxs 2 (b / 257)) := by unfold shC; rw [if_pos z]
  have HK := Lib.hid (fun w => check_ref3 r g b w)
  rw [show ckCol (r : Int) g b = 0 by unfold ckCol; rw [if_pos (isCol_iff.2 ⟨by omega, by omega, by omega⟩)]] at HK
  have HR := Lib.hid (fun w' (m : Bl w w') => digits_ref 1 (r / 257) (by omega) (by show _ < 256; omega) w' (hd.bl m))
  have HG := Lib.hid (fun w' (m : Bl w w') => digits_ref 1 (g / 257) (by omega) (by show _ < 256; omega) w' (hd.bl m))
  have HB := Lib.hid (fun w' (m : Bl w w') => digits_ref 1 (b / 257) (by omega) (by show _ < 256; omega) w' (hd.bl m))
  obtain ⟨A, hA⟩ : ∃ A, A = bs (hxs 2 (r / 257)) := ⟨_, rfl⟩
  obtain ⟨B, hB⟩ : ∃ B, B = bs (hxs 2 (g / 257)) := ⟨_, rfl⟩
  obtain ⟨C, hC⟩ : ∃ C, C = bs (hxs 2 (b / 257)) := ⟨_, rfl⟩
  have sA : A.size = 2 := by rw [hA, bs_size, hxs_len]
  have sB : B.size = 2 := by rw [hB, bs_size, hxs_len]
  have sC : C.size = 2 := by rw [hC, bs_size, hxs_len]
  have HT := Lib.hid (show ⟨#[35]⟩ ++ A ++ B ++ C = bs (shC r g b) by rw [hs, hA, hB, hC, show (⟨#[35]⟩ : ByteArray) = bs [35] from rfl, bs_app, bs_app, bs_app]; rfl)
  rw [← hA] at HR
  rw [← hB] at HG
  rw [← hC] at HB
  have R1 : ∀ w, (Op.stringOp .add ⟨#[35]⟩ A).run Tryz.prog w = .ok (.string (⟨#[35]⟩ ++ A)) w := fun w => run_string_add_sum w _ _ (by rw [sA]; decide)
  have R2 : ∀ w, (Op.stringOp .add (⟨#[35]⟩ ++ A) B).run Tryz.prog w = .ok (.string (⟨#[35]⟩ ++ A ++ B)) w := fun w => run_string_add_sum w _ _ (by rw [ByteArray.size_append, sA, sB]; decide)
  have R3 : ∀ w, (Op.stringOp .add (⟨#[35]⟩ ++ A ++ B) C).run Tryz.prog w = .ok (.string (⟨#[35]⟩ ++ A ++ B ++ C)) w := fun w => run_string_add_sum w _ _ (by rw [ByteArray.size_append, ByteArray.size_append, sA, sB, sC]; decide)
  have qr : (((r / 257 : Nat)) : Int) = (r : Int) / 257 := by omega
  rw [qr] at HR
  have pr : IntKind.i64.wrap ((r : Int).tdiv 257) = (r : Int) / 257 := IntWalk.i64_quo _ _ (by omega)
  have qg : (((g / 257 : Nat)) : Int) = (g : Int) / 257 := by omega
  rw [qg] at HG
  have pg : IntKind.i64.wrap ((g : Int).tdiv 257) = (g : Int) / 257 := IntWalk.i64_quo _ _ (by omega)
  have qb : (((b / 257 : Nat)) : Int) = (b : Int) / 257 := by omega
  rw [qb] at HB
  have pb : IntKind.i64.wrap ((b : Int).tdiv 257) = (b : Int) / 257 := IntWalk.i64_quo _ _ (by omega)
  have hk : ((1 + 1 : Nat) : Int) = 2 := rfl
  rw [hk] at HR HG HB
  have y1 : (r : Int) % 257 = 0 := by omega
  have y2 : (g : Int) % 257 = 0 := by omega
  have y3 : (b : Int) % 257 = 0 := by omega
  have r0 : 0 ≤ (r : Int) := by omega
  have g0 : 0 ≤ (g : Int) := by omega
  have b0 : 0 ≤ (b : Int) := by omega
  clear hs hd hA hB hC sA sB sC z hr hg hb hk qr qg qb
  generalize bs (shC r g b) = T at *
  generalize (r : Int) = r at *
  generalize (g : Int) = g at *
  generalize (b : Int) = b at *
  go_enter Tryz.func16, Tryz.ntmps16
  go_wp2_with (go_at_call 21; refine (HK.out _).mono ?_; rintro e w1 ⟨rfl, m1⟩; obtain ⟨e0, e1, e2⟩ := new3 _ _ _ _ m1; have c0 := e0; have c1 := e1; have c2 := e2; have bW : Bl w w1 := ((Bl.refl w).alloc _).trans m1; clear m1)
  go_region_held3 (fun w' => w'.cell? ⟨w.heap.size, 0, none⟩ = some (.int .i64 r) ∧ w'.cell? ⟨w.heap.size, 1, none⟩ = some (.int .i64 g) ∧ w'.cell? ⟨w.heap.size, 2, none⟩ = some (.int .i64 b))
    (refine ⟨Bl.cell (w := w1) ?_ c0, Bl.cell (w := w1) ?_ c1, Bl.cell (w := w1) ?_ c2⟩ <;> ((repeat (first | with_reducible exact Bl.refl _ | with_reducible assumption | with_reducible refine Bl.drew ?_ | with_reducible refine Bl.alloc ?_ _ | with_reducible refine Bl.trans ?_ (by assumption))); done))
    (first
      | (go_at_call 31; (with_reducible refine (HR.out _ (bW.trans ?_)).mono ?_); (focus ((repeat (first | with_reducible exact Bl.refl _ | with_reducible assumption | with_reducible refine Bl.drew ?_ | with_reducible refine Bl.alloc ?_ _ | with_reducible refine Bl.trans ?_ (by assumption))); done)); rintro e' w6 ⟨rfl, m6⟩)
      | (go_at_call 31; (with_reducible refine (HG.out _ (bW.trans ?_)).mono ?_); (focus ((repeat (first | with_reducible exact Bl.refl _ | with_reducible assumption | with_reducible refine Bl.drew ?_ | with_reducible refine Bl.alloc ?_ _ | with_reducible refine Bl.trans ?_ (by assumption))); done)); rintro e' w7 ⟨rfl, m7⟩)
      | (go_at_call 31; (with_reducible refine (HB.out _ (bW.trans ?_)).mono ?_); (focus ((repeat (first | with_reducible exact Bl.refl _ | with_reducible assumption | with_reducible refine Bl.drew ?_ | with_reducible refine Bl.alloc ?_ _ | with_reducible refine Bl.trans ?_ (by assumption))); done)); rintro e' w8 ⟨rfl, m8⟩))
  go_wp2
  go_returns
  exact ⟨by rw [← HT.out]; rfl, bW.trans (by ((repeat (first | with_reducible exact Bl.refl _ | with_reducible assumption | with_reducible refine Bl.drew ?_ | with_reducible refine Bl.alloc ?_ _ | with_reducible refine Bl.trans ?_ (by assumption))); done))⟩
set_option maxRecDepth 100000 in
set_option maxHeartbeats 3200000 in
theorem showR_long (r g b : Nat) (hr : r ≤ 65535) (hg : g ≤ 65535) (hb : b ≤ 65535) (z : ¬ (r % 257 = 0 ∧ g % 257 = 0 ∧ b % 257 = 0)) (w : World) (hd : DbAt w) :
    Calls Tryz.prog 16 #[.agg #[.int .i64 r, .int .i64 g, .int .i64 b]] w fun e w' => e = .returned (.tuple #[.string (bs (shC r g b)), .int .i64 0]) ∧ Bl w w' := by
  have hs : shC r g b = 35 :: (hxs 4 r ++ hxs 4 g ++ hxs 4 b) := by unfold shC; rw [if_neg z]
  have HK := Lib.hid (fun w => check_ref3 r g b w)
  rw [show ckCol (r : Int) g b = 0 by unfold ckCol; rw [if_pos (isCol_iff.2 ⟨by omega, by omega, by omega⟩)]] at HK
  have HR := Lib.hid (fun w' (m : Bl w w') => digits_ref 3 (r) (by omega) (by show _ < 65536; omega) w' (hd.bl m))
  have HG := Lib.hid (fun w' (m : Bl w w') => digits_ref 3 (g) (by omega) (by show _ < 65536; omega) w' (hd.bl m))
  have HB := Lib.hid (fun w' (m : Bl w w') => digits_ref 3 (b) (by omega) (by show _ < 65536; omega) w' (hd.bl m))
  obtain ⟨A, hA⟩ : ∃ A, A = bs (hxs 4 r) := ⟨_, rfl⟩
  obtain ⟨B, hB⟩ : ∃ B, B = bs (hxs 4 g) := ⟨_, rfl⟩
  obtain ⟨C, hC⟩ : ∃ C, C = bs (hxs 4 b) := ⟨_, rfl⟩
  have sA : A.size = 4 := by rw [hA, bs_size, hxs_len]
  have sB : B.size = 4 := by rw [hB, bs_size, hxs_len]
  have sC : C.size = 4 := by rw [hC, bs_size, hxs_len]
  have HT := Lib.hid (show ⟨#[35]⟩ ++ A ++ B ++ C = bs (shC r g b) by rw [hs, hA, hB, hC, show (⟨#[35]⟩ : ByteArray) = bs [35] from rfl, bs_app, bs_app, bs_app]; rfl)
  rw [← hA] at HR
  rw [← hB] at HG
  rw [← hC] at HB
  have R1 : ∀ w, (Op.stringOp .add ⟨#[35]⟩ A).run Tryz.prog w = .ok (.string (⟨#[35]⟩ ++ A)) w := fun w => run_string_add_sum w _ _ (by rw [sA]; decide)
  have R2 : ∀ w, (Op.stringOp .add (⟨#[35]⟩ ++ A) B).run Tryz.prog w = .ok (.string (⟨#[35]⟩ ++ A ++ B)) w := fun w => run_string_add_sum w _ _ (by rw [ByteArray.size_append, sA, sB]; decide)
  have R3 : ∀ w, (Op.stringOp .add (⟨#[35]⟩ ++ A ++ B) C).run Tryz.prog w = .ok (.string (⟨#[35]⟩ ++ A ++ B ++ C)) w := fun w => run_string_add_sum w _ _ (by rw [ByteArray.size_append, ByteArray.size_append, sA, sB, sC]; decide)
  have hk : ((3 + 1 : Nat) : Int) = 4 := rfl
  rw [hk] at HR HG HB
  have key : (r : Int) % 257 ≠ 0 ∨ (r : Int) % 257 = 0 ∧ (g : Int) % 257 ≠ 0 ∨ (r : Int) % 257 = 0 ∧ (g : Int) % 257 = 0 ∧ (b : Int) % 257 ≠ 0 := by omega
  have r0 : 0 ≤ (r : Int) := by omega
  have g0 : 0 ≤ (g : Int) := by omega
  have b0 : 0 ≤ (b : Int) := by omega
  clear hs hd hA hB hC sA sB sC z hr hg hb hk
  generalize bs (shC r g b) = T at *
  generalize (r : Int) = r at *
  generalize (g : Int) = g at *
  generalize (b : Int) = b at *
  rcases key with y1 | ⟨y1, y2⟩ | ⟨y1, y2, y3⟩
  all_goals (
    try (have z1 : ((r % 257 == 0) = false) := by simpa using y1)
    try (have z2 : ((g % 257 == 0) = false) := by simpa using y2)
    try (have z3 : ((b % 257 == 0) = false) := by simpa using y3)
    go_enter Tryz.func16, Tryz.ntmps16
    go_wp2_with (go_at_call 21; refine (HK.out _).mono ?_; rintro e w1 ⟨rfl, m1⟩; obtain ⟨e0, e1, e2⟩ := new3 _ _ _ _ m1; have c0 := e0; have c1 := e1; have c2 := e2; have bW : Bl w w1 := ((Bl.refl w).alloc _).trans m1; clear m1)
    go_region_held3 (fun w' => w'.cell? ⟨w.heap.size, 0, none⟩ = some (.int .i64 r) ∧ w'.cell? ⟨w.heap.size, 1, none⟩ = some (.int .i64 g) ∧ w'.cell? ⟨w.heap.size, 2, none⟩ = some (.int .i64 b))
      (refine ⟨Bl.cell (w := w1) ?_ c0, Bl.cell (w := w1) ?_ c1, Bl.cell (w := w1) ?_ c2⟩ <;> ((repeat (first | with_reducible exact Bl.refl _ | with_reducible assumption | with_reducible refine Bl.drew ?_ | with_reducible refine Bl.alloc ?_ _ | with_reducible refine Bl.trans ?_ (by assumption))); done))
      (first
        | (go_at_call 31; (with_reducible refine (HR.out _ (bW.trans ?_)).mono ?_); (focus ((repeat (first | with_reducible exact Bl.refl _ | with_reducible assumption | with_reducible refine Bl.drew ?_ | with_reducible refine Bl.alloc ?_ _ | with_reducible refine Bl.trans ?_ (by assumption))); done)); rintro e' w6 ⟨rfl, m6⟩)
        | (go_at_call 31; (with_reducible refine (HG.out _ (bW.trans ?_)).mono ?_); (focus ((repeat (first | with_reducible exact Bl.refl _ | with_reducible assumption | with_reducible refine Bl.drew ?_ | with_reducible refine Bl.alloc ?_ _ | with_reducible refine Bl.trans ?_ (by assumption))); done)); rintro e' w7 ⟨rfl, m7⟩)
        | (go_at_call 31; (with_reducible refine (HB.out _ (bW.trans ?_)).mono ?_); (focus ((repeat (first | with_reducible exact Bl.refl _ | with_reducible assumption | with_reducible refine Bl.drew ?_ | with_reducible refine Bl.alloc ?_ _ | with_reducible refine Bl.trans ?_ (by assumption))); done)); rintro e' w8 ⟨rfl, m8⟩))
    go_wp2
    go_returns
    exact ⟨by rw [← HT.out]; rfl, bW.trans (by ((repeat (first | with_reducible exact Bl.refl _ | with_reducible assumption | with_reducible refine Bl.drew ?_ | with_reducible refine Bl.alloc ?_ _ | with_reducible refine Bl.trans ?_ (by assumption))); done))⟩)
end Go.Proofs.YtfamnaekelmkpaaGreatDoor
