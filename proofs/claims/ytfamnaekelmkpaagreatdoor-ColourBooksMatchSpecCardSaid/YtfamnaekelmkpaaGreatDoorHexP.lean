/- Digits of base 16, read by the library: ParseUint. -/
import Derived.Test.YtfamnaekelmkpaaGreatDoorHexM
import Derived.Test.YtfamnaekelmkpaaGreatDoorGr
import Derived.Test.YtfamnaekelmkpaaGreatDoorBl
import Derived.Test.YtfamnaekelmkpaaGreatDoorRet
import Derived.Lib.ConvBytes
import Derived.Laws.Closers25b
namespace Go.Proofs.YtfamnaekelmkpaaGreatDoor
open Go.RowKit Go.Lib Go.Sort

/-- A letter, as a small one: what `| 32` makes of a byte. -/
theorem low_bits (c : UInt8) : bits .or .u8 (c.toNat : Int) 32 = ((c ||| 32).toNat : Int) := by
  have h : ∀ n : Nat, n < 256 → bits .or .u8 (n : Int) 32 = (((UInt8.ofNat n) ||| 32).toNat : Int) := by decide +kernel
  have := h c.toNat c.toNat_lt
  simpa using this
theorem low_cap (c : UInt8) (h : 65 ≤ c.toNat ∧ c.toNat ≤ 90) : (c ||| 32).toNat = c.toNat + 32 := by
  have h0 : ∀ n, n < 256 → 65 ≤ n → n ≤ 90 → ((UInt8.ofNat n) ||| 32).toNat = n + 32 := by decide +kernel
  have := h0 c.toNat c.toNat_lt h.1 h.2
  simpa using this
theorem low_small (c : UInt8) (h : 97 ≤ c.toNat ∧ c.toNat ≤ 122) : (c ||| 32).toNat = c.toNat := by
  have h0 : ∀ n, n < 256 → 97 ≤ n → n ≤ 122 → ((UInt8.ofNat n) ||| 32).toNat = n := by decide +kernel
  have := h0 c.toNat c.toNat_lt h.1 h.2
  simpa using this
theorem low_else (c : UInt8) (h : ¬ (65 ≤ c.toNat ∧ c.toNat ≤ 90)) (h' : ¬ (97 ≤ c.toNat ∧ c.toNat ≤ 122)) : (c ||| 32).toNat < 97 ∨ 122 < (c ||| 32).toNat := by
  have h0 : ∀ n, n < 256 → ¬ (65 ≤ n ∧ n ≤ 90) → ¬ (97 ≤ n ∧ n ≤ 122) → ((UInt8.ofNat n) ||| 32).toNat < 97 ∨ 122 < ((UInt8.ofNat n) ||| 32).toNat := by decide +kernel
  have := h0 c.toNat c.toNat_lt h h'
  simpa using this
theorem lower_is (c : UInt8) (L : Int) (hL : L = ((c ||| 32).toNat : Int)) (w : World) :
    Calls Tryz.prog 104 #[.int .u8 (c.toNat : Int)] w fun e w' => e = .returned (.int .u8 L) ∧ w' = w := by
  subst hL
  rw [← low_bits]
  generalize (c.toNat : Int) = x
  go_enter Tryz.func104, Tryz.ntmps104
  go_wp2
  go_ret
  exact ⟨rfl, rfl⟩

/-- What the inner ParseUint hands back. -/
def res16 : Option Nat → Value
  | some n => .tuple #[.int .u64 n, .nilIface]
  | none => .tuple #[.int .u64 0, .iface 125 (.int .i64 2)]
set_option maxHeartbeats 3200000 in
set_option maxRecDepth 100000 in
theorem parse16 (t : ByteArray) (hne : t.size ≠ 0) (hmax : t.size ≤ 12) (w : World) :
    Calls Tryz.prog 80 #[.string t, .int .i64 16, .int .i64 64] w fun e w' => e = .returned (res16 (hexVal 0 t.data.toList)) ∧ w' = Lib.bytesWorld w 5 t := by
  have hemp : t.toList.isEmpty = false := by
    rw [← decide_eq_emptyBytes]
    exact decide_eq_false (fun h => hne (by rw [h]; rfl))
  have hcv := Lib.run_convert_string_bytes (P := Tryz.prog) w 9 36 5 t (u := .string) (by kernel_rfl) (by kernel_rfl) (by kernel_rfl)
  have hB : ∀ j, j < t.size → (Lib.bytesWorld w 5 t).cell? ⟨w.heap.size, j, none⟩ = some (.int .u8 (t.data.toList.getD j 0).toNat) := fun j hj => Lib.bytesWorld_cell w 5 t j hj
  obtain ⟨W1, hW1⟩ : ∃ W1, W1 = Lib.bytesWorld w 5 t := ⟨_, rfl⟩
  rw [← hW1] at hcv hB ⊢
  clear hW1
  obtain ⟨l, hL⟩ : ∃ l, l = t.data.toList := ⟨_, rfl⟩
  have hLn : l.length = t.size := by rw [hL, Lib.size_eq]
  rw [← hL] at hB ⊢
  clear hL
  have hmv : IntKind.u64.wrap (IntKind.u64.wrap 18446744073709551616 - 1) = 18446744073709551615 := by
    rw [IntKind.wrap_u64, IntKind.wrap_u64]
    decide
  have HB := Lib.hid hB
  clear hB
  go_enter Tryz.func80, Tryz.ntmps80
  go_wp2
  go_loop [12, 13, 101] (fun vu vn vi => ∃ (k acc : Nat) (a : Int), vu = .bool false ∧ vn = .int .u64 a ∧ vi = .int .i64 k ∧ k ≤ t.size ∧ Hid (a = (acc : Int) ∧ acc < 16 ^ k ∧ hexVal 0 l = hexVal acc (l.drop k)))
    (fun _ _ vi => t.size - (intOf vi).toNat)
  case atStart => exact ⟨0, 0, 0, rfl, rfl, rfl, by omega, rfl, by decide, rfl⟩
  case round =>
    obtain ⟨k, acc, a, rfl, rfl, rfl, hk, hh⟩ := hrel
    obtain ⟨ha, hacc, hdec⟩ := hh.out
    clear hh
    have a0 : 0 ≤ a := by omega
    by_cases hkn : k < t.size
    · have hp := pow16_le (show k + 1 ≤ 12 by omega)
      rw [Nat.pow_succ] at hp
      have a1 : a < 17592186044416 := by omega
      have hc := HB.out k hkn
      have hdrop : l.drop k = l[k]'(by omega) :: l.drop (k + 1) := List.drop_eq_getElem_cons (by omega)
      have hget : l.getD k 0 = l[k]'(by omega) := by simp [List.getD, List.getElem?_eq_getElem (show k < l.length by omega)]
      rw [hdrop] at hdec
      rw [hget] at hc
      generalize l[k]'(by omega) = c at hc hdec
      have hc256 : c.toNat < 256 := c.toNat_lt
      obtain ⟨L, hL⟩ : ∃ L : Int, L = ((c ||| 32).toNat : Int) := ⟨_, rfl⟩
      have HL := Lib.hid (fun w => lower_is c L hL w)
      have step : ∀ d : Nat, hxv c = some d → hexVal 0 l = hexVal (16 * acc + d) (l.drop (k + 1)) ∧ 16 * acc + d < 16 ^ (k + 1) := by
        intro d hd
        have := hxv_lt hd
        refine ⟨?_, by rw [Nat.pow_succ]; omega⟩
        rw [hdec]
        show (match hxv c with | none => none | some d => hexVal (16 * acc + d) (l.drop (k + 1))) = _
        rw [hd]
      have stop : hxv c = none → hexVal 0 l = none := by
        intro hd
        rw [hdec]
        show (match hxv c with | none => none | some d => hexVal (16 * acc + d) (l.drop (k + 1))) = _
        rw [hd]
      clear hdrop hget hdec hp hacc
      by_cases hdig : 48 ≤ c.toNat ∧ c.toNat ≤ 57
      · obtain ⟨h1, h2⟩ := step (c.toNat - 48) (by unfold hxv; rw [if_pos hdig])
        have HN : Hid (a * 16 + ((c.toNat : Int) - 48) = ((16 * acc + (c.toNat - 48) : Nat) : Int) ∧ 16 * acc + (c.toNat - 48) < 16 ^ (k + 1) ∧ hexVal 0 l = hexVal (16 * acc + (c.toNat - 48)) (l.drop (k + 1))) := Lib.hid ⟨by omega, h2, h1⟩
        obtain ⟨hd0, hd1⟩ := hdig
        clear h1 h2 step stop ha hL
        go_wp2
        refine ⟨⟨k + 1, 16 * acc + (c.toNat - 48), a * 16 + ((c.toNat : Int) - 48), rfl, (by first | rfl | (congr 1; omega)), (by first | rfl | (congr 1; omega)), by omega, HN⟩, by simp [intOf]; omega⟩
      · have key : (97 ≤ L ∧ L ≤ 102 ∧ ∃ d : Nat, L = (d : Int) + 87 ∧ hxv c = some d) ∨ (102 < L ∧ L ≤ 122 ∧ hxv c = none) ∨ ((L < 97 ∨ 122 < L) ∧ hxv c = none) := by
          have hno : hxv c = if 97 ≤ c.toNat ∧ c.toNat ≤ 102 then some (c.toNat - 87) else if 65 ≤ c.toNat ∧ c.toNat ≤ 70 then some (c.toNat - 55) else none := by unfold hxv; rw [if_neg hdig]
          by_cases hs : 97 ≤ c.toNat ∧ c.toNat ≤ 122
          · rw [low_small c hs] at hL
            by_cases h6 : c.toNat ≤ 102
            · exact .inl ⟨by omega, by omega, c.toNat - 87, by omega, by rw [hno, if_pos (by omega)]⟩
            · exact .inr (.inl ⟨by omega, by omega, by rw [hno, if_neg (by omega), if_neg (by omega)]⟩)
          · by_cases hC : 65 ≤ c.toNat ∧ c.toNat ≤ 90
            · rw [low_cap c hC] at hL
              by_cases h6 : c.toNat ≤ 70
              · exact .inl ⟨by omega, by omega, c.toNat - 55, by omega, by rw [hno, if_neg (by omega), if_pos (by omega)]⟩
              · exact .inr (.inl ⟨by omega, by omega, by rw [hno, if_neg (by omega), if_neg (by omega)]⟩)
            · have := low_else c hC hs
              exact .inr (.inr ⟨by omega, by rw [hno, if_neg (by omega), if_neg (by omega)]⟩)
        have hdig' : (c.toNat : Int) < 48 ∨ 57 < (c.toNat : Int) := by omega
        have h95 : 97 ≤ L ∧ L ≤ 122 → ¬ (c.toNat : Int) = 95 := by
          intro h1 h2
          have : c = 95 := UInt8.toNat_inj.1 (by show c.toNat = 95; omega)
          subst this
          have : ((95 : UInt8) ||| 32).toNat = 127 := by decide
          rw [this] at hL; omega
        clear hdig hL
        rcases key with ⟨hl1, hl2, d, hd, hx⟩ | ⟨hl1, hl2, hx⟩ | ⟨hl1, hx⟩
        · obtain ⟨h1, h2⟩ := step d hx
          have hd16 := hxv_lt hx
          have HN : Hid (a * 16 + (L - 97 + 10) = ((16 * acc + d : Nat) : Int) ∧ 16 * acc + d < 16 ^ (k + 1) ∧ hexVal 0 l = hexVal (16 * acc + d) (l.drop (k + 1))) := Lib.hid ⟨by omega, h2, h1⟩
          have h95 := h95 ⟨hl1, by omega⟩
          clear h1 h2 step stop ha hx hd hd16
          generalize (c.toNat : Int) = x at *
          rcases hdig' with hdig' | hdig'
          all_goals (
            go_wp2_with (go_at_call 104; refine (HL.out _).mono ?_; rintro e w' ⟨rfl, rfl⟩)
            refine ⟨⟨k + 1, 16 * acc + d, a * 16 + (L - 97 + 10), rfl, (by first | rfl | (congr 1; omega)), (by first | rfl | (congr 1; omega)), by omega, HN⟩, by simp [intOf]; omega⟩)
        · have h1 := stop hx
          clear step stop ha hx
          have e : Hid (hexVal 0 l = none) := Lib.hid h1
          have h95 := h95 ⟨by omega, hl2⟩
          clear h1
          generalize (c.toNat : Int) = x at *
          rcases hdig' with hdig' | hdig'
          all_goals (
            go_wp2_with (go_at_call 104; refine (HL.out _).mono ?_; rintro e w' ⟨rfl, rfl⟩)
            go_ret2
            exact ⟨by rw [e.out]; rfl, rfl⟩)
        · have h1 := stop hx
          clear step stop ha hx
          have e : Hid (hexVal 0 l = none) := Lib.hid h1
          clear h1 h95
          generalize (c.toNat : Int) = x at *
          by_cases h95 : x = 95
          · subst h95
            clear hdig'
            rcases hl1 with hl1 | hl1
            all_goals (
              go_wp2_with (go_at_call 104; refine (HL.out _).mono ?_; rintro e w' ⟨rfl, rfl⟩)
              go_ret2
              exact ⟨by rw [e.out]; rfl, rfl⟩)
          rcases hdig' with hdig' | hdig' <;> rcases hl1 with hl1 | hl1
          all_goals (
            go_wp2_with (go_at_call 104; refine (HL.out _).mono ?_; rintro e w' ⟨rfl, rfl⟩)
            go_ret2
            exact ⟨by rw [e.out]; rfl, rfl⟩)
    · have hkk : k = t.size := by omega
      subst hkk
      have hF : hexVal acc (l.drop t.size) = some acc := by rw [List.drop_eq_nil_of_le (by omega)]; rfl
      rw [hF] at hdec
      subst ha
      have e : Hid (hexVal 0 l = some acc) := Lib.hid hdec
      clear hacc hF a0 hdec
      go_wp2
      go_ret2
      exact ⟨by rw [e.out]; rfl, rfl⟩
end Go.Proofs.YtfamnaekelmkpaaGreatDoor
