/- Titles: IsTitle of the reference. -/
import Derived.Test.YtfamnaekelmkpaaGreatDoorTtl
namespace Go.Proofs.YtfamnaekelmkpaaGreatDoor
open Go.RowKit Go.Sort

theorem dw_id (p : UInt8 → Bool) : ∀ l : List UInt8, l ≠ [] → (l.dropWhile p = l ↔ p (l.headD 0) = false)
  | [], h => absurd rfl h
  | a :: t, _ => by
    rw [List.dropWhile_cons]
    show _ ↔ p a = false
    by_cases h : p a = true
    · rw [if_pos h]
      refine ⟨fun e => ?_, fun e => by rw [h] at e; cases e⟩
      have h1 := (List.dropWhile_sublist p (l := t)).length_le
      rw [e, List.length_cons] at h1
      omega
    · rw [if_neg h]; exact ⟨fun _ => Bool.eq_false_iff.2 h, fun _ => rfl⟩
theorem trim_id {l : List UInt8} (h : l ≠ []) : Lib.trimS l [32] = l ↔ l.headD 0 ≠ 32 ∧ l.getLastD 0 ≠ 32 := by
  have hc : ∀ c : UInt8, (([32] : List UInt8).contains c = false) ↔ c ≠ 32 := fun c => by simp
  have hr : l.reverse ≠ [] := fun e => h (List.reverse_eq_nil_iff.1 e)
  have hrh : l.reverse.headD 0 = l.getLastD 0 := by rw [List.headD_eq_head?_getD, List.head?_reverse, ← List.getLastD_eq_getLast?]
  unfold Lib.trimS Lib.trimLeftS Lib.trimRightS
  have key : (l.reverse.dropWhile ([32] : List UInt8).contains).reverse = l ↔ l.getLastD 0 ≠ 32 := by
    rw [← hc, ← hrh, ← dw_id _ l.reverse hr]
    constructor
    · intro e
      have := congrArg List.reverse e
      rwa [List.reverse_reverse] at this
    · intro e; rw [e, List.reverse_reverse]
  constructor
  · intro e
    have l1 := (List.dropWhile_sublist ([32] : List UInt8).contains (l := (l.reverse.dropWhile ([32] : List UInt8).contains).reverse)).length_le
    rw [show List.dropWhile ([32] : List UInt8).contains (l.reverse.dropWhile ([32] : List UInt8).contains).reverse = l from e, List.length_reverse] at l1
    have l2 := List.dropWhile_sublist ([32] : List UInt8).contains (l := l.reverse)
    have e2 := l2.eq_of_length_le (by rw [List.length_reverse]; exact l1)
    have e3 : (l.reverse.dropWhile ([32] : List UInt8).contains).reverse = l := by rw [e2, List.reverse_reverse]
    have e4 : List.dropWhile ([32] : List UInt8).contains l = l := by
      have e' : List.dropWhile ([32] : List UInt8).contains (l.reverse.dropWhile ([32] : List UInt8).contains).reverse = l := e
      rwa [e3] at e'
    exact ⟨(hc _).1 ((dw_id _ l h).1 e4), key.1 e3⟩
  · rintro ⟨h1, h2⟩
    show List.dropWhile ([32] : List UInt8).contains (l.reverse.dropWhile ([32] : List UInt8).contains).reverse = l
    rw [key.2 h2]
    exact (dw_id _ l h).2 ((hc _).2 h1)
theorem ttl_ends (s : ByteArray) (m : Nat) (hm : s.size = m + 1) : (s.data.toList.headD 0 = s[0]'(by omega)) ∧ s.data.toList.getLastD 0 = s[m]'(by omega) ∧ s.data.toList ≠ [] := by
  have hl : s.data.toList.length = m + 1 := by rw [← Lib.size_eq]; exact hm
  have g : ∀ k (h : k < s.size), s.data.toList[k]? = some (s[k]'h) := fun k h => by
    rw [List.getElem?_eq_getElem (by rw [← Lib.size_eq]; exact h)]
    congr 1
  refine ⟨?_, ?_, fun e => by rw [e] at hl; cases hl⟩
  · rw [List.headD_eq_head?_getD, List.head?_eq_getElem?, g 0 (by omega)]; rfl
  · rw [List.getLastD_eq_getLast?, List.getLast?_eq_getElem?, hl, show m + 1 - 1 = m by omega, g m (by omega)]; rfl
set_option maxRecDepth 100000 in
set_option maxHeartbeats 3200000 in
theorem isTitle_ref (s : ByteArray) (w : World) :
    Calls Tryz.prog 20 #[.string s] w fun e w' => e = .returned (.bool (isTtl s.data.toList)) ∧ w' = w := by
  have hll := Lib.hid (Lib.size_eq s)
  by_cases h0 : s.size = 0
  · have hl : s.data.toList = [] := List.eq_nil_of_length_eq_zero (by rw [← hll.out]; exact h0)
    have hb : Hid (isTtl s.data.toList = false) := by show _ = _; rw [hl]; rfl
    have e1 : s.toList = [] := by rw [Lib.toList_data]; exact hl
    have e2 : s.toList.isEmpty = true := by rw [e1]; rfl
    clear hl
    go_enter Tryz.func20, Tryz.ntmps20
    go_wp2
    go_ret
    exact ⟨ret_bool hb.out.symm, rfl⟩
  obtain ⟨m, hm⟩ : ∃ m, s.size = m + 1 := ⟨s.size - 1, by omega⟩
  obtain ⟨a1, a2, a3⟩ := ttl_ends s m hm
  have e1 : s.toList.isEmpty = false := by
    rw [Lib.toList_data]; cases h : s.data.toList with
    | nil => exact absurd h a3
    | cons _ _ => rfl
  have e2 : ¬ s.toList = [] := fun e => by rw [e] at e1; cases e1
  have hs0 : 0 < s.size := by omega
  have hsm : m < s.size := by omega
  by_cases h60 : 60 < s.size
  · have hb : Hid (isTtl s.data.toList = false) := by show _ = _; unfold isTtl; rw [decide_eq_false (show ¬ s.data.toList.length ≤ 60 by rw [← hll.out]; omega)]; simp
    have t60 : (60 : Int) < (s.size : Int) := by omega
    clear a1 a2 a3 hm
    go_enter Tryz.func20, Tryz.ntmps20
    go_wp2
    go_ret
    exact ⟨ret_bool hb.out.symm, rfl⟩
  have t60 : (s.size : Int) ≤ 60 := by omega
  have he : isTtl s.data.toList = (s.data.toList.all ttlB && decide (Lib.trimS s.data.toList [32] = s.data.toList)) := by
    unfold isTtl
    rw [decide_eq_true (show s.data.toList.length ≤ 60 by rw [← hll.out]; omega), show s.data.toList.isEmpty = false by rw [← Lib.toList_data]; exact e1]
    simp
  by_cases c1 : s[0]'hs0 = 32
  · have hb : Hid (isTtl s.data.toList = false) := by
      show _ = _
      rw [he, decide_eq_false (fun e => ((trim_id a3).1 e).1 (a1.trans c1)), Bool.and_false]
    have u1 : ((s[0]'hs0).toNat : Int) = 32 := by rw [c1]; rfl
    clear a1 a2 a3 hm he c1
    go_enter Tryz.func20, Tryz.ntmps20
    go_wp2
    go_ret
    exact ⟨ret_bool hb.out.symm, rfl⟩
  have u1 : (((s[0]'hs0).toNat : Int) == 32) = false := by
    rw [beq_eq_false_iff_ne]; intro h
    exact c1 (UInt8.toNat_inj.1 (by show _ = 32; omega))
  have hmi : (s.size : Int) - 1 = (m : Int) := by omega
  have hix : ∀ w, (Instr.index 9 (.string s) (.int .i64 (m : Int))).run Tryz.prog w = .ok (.int .u8 ((s[m]'hsm).toNat : Int)) w := fun w => by
    rw [run_index_string w 9 s .i64 _ Tryz.underlying9, dif_pos ⟨by omega, by omega⟩]
    simp
  by_cases c2 : s[m]'hsm = 32
  · have hb : Hid (isTtl s.data.toList = false) := by
      show _ = _
      rw [he, decide_eq_false (fun e => ((trim_id a3).1 e).2 (a2.trans c2)), Bool.and_false]
    have u2 : ((s[m]'hsm).toNat : Int) = 32 := by rw [c2]; rfl
    clear a1 a2 a3 hm he c1 c2
    generalize ((s[m]'hsm).toNat : Int) = y at *
    go_enter Tryz.func20, Tryz.ntmps20
    go_wp2
    go_ret
    exact ⟨ret_bool hb.out.symm, rfl⟩
  have u2 : (((s[m]'hsm).toNat : Int) == 32) = false := by
    rw [beq_eq_false_iff_ne]; intro h
    exact c2 (UInt8.toNat_inj.1 (by show _ = 32; omega))
  have he2 : Hid (isTtl s.data.toList = s.data.toList.all ttlB) := by
    show _ = _
    rw [he, decide_eq_true ((trim_id a3).2 ⟨fun h => c1 (a1.symm.trans h), fun h => c2 (a2.symm.trans h)⟩), Bool.and_true]
  clear a1 a2 a3 hm he c1 c2
  generalize ((s[m]'hsm).toNat : Int) = y at *
  go_enter Tryz.func20, Tryz.ntmps20
  go_wp2
  go_loop [26] (fun i => ∃ k : Nat, k ≤ s.size ∧ i = .int .i64 k ∧ Hid ((s.data.toList.take k).all ttlB = true)) (fun i => s.size - (intOf i).toNat)
  case atStart => exact ⟨0, Nat.zero_le _, rfl, rfl⟩
  case round =>
    obtain ⟨k, hk, rfl, HA⟩ := hrel
    by_cases hlt : k < s.size
    · cases hp : ttlB s[k] with
      | true =>
        obtain ⟨h1, h2⟩ := (ttlB_iff s[k]).1 hp
        have hn : Hid ((s.data.toList.take (k + 1)).all ttlB = true) := by show _ = _; rw [ttl_snoc s k hlt, HA.out, hp]; rfl
        clear hp HA
        go_wp2
        go_round
        case rel => exact ⟨k + 1, by omega, by go_num, hn⟩
        case measure => simp [intOf]; omega
      | false =>
        have hb : Hid (isTtl s.data.toList = false) := by show _ = _; rw [he2.out]; exact ttl_not s k hlt hp
        have key : (s[k].toNat : Int) < 32 ∨ (32 ≤ (s[k].toNat : Int) ∧ 126 < (s[k].toNat : Int)) := by
          by_cases h : 32 ≤ (s[k].toNat : Int) ∧ (s[k].toNat : Int) ≤ 126
          · rw [(ttlB_iff s[k]).2 h] at hp; cases hp
          · omega
        clear hp HA
        rcases key with h | ⟨h, h'⟩
        all_goals (
          go_wp2
          go_ret
          exact ⟨ret_bool hb.out.symm, rfl⟩)
    · obtain rfl : k = s.size := by omega
      have hall : Hid (isTtl s.data.toList = true) := by
        show _ = _
        rw [he2.out]
        have := HA.out; rwa [List.take_of_length_le (by simp)] at this
      clear HA
      go_wp2
      go_ret
      exact ⟨ret_bool hall.out.symm, rfl⟩
end Go.Proofs.YtfamnaekelmkpaaGreatDoor
