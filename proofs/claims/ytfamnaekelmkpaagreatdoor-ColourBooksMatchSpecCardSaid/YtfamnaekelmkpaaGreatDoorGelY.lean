/- readGel of the program, at any line. -/
import Derived.Test.YtfamnaekelmkpaaGreatDoorGelB
namespace Go.Proofs.YtfamnaekelmkpaaGreatDoor
open Go.RowKit Go.Lib Go.Sort

theorem readGel_any (line : List UInt8) (w : World) (hs : line.length ≤ 1000000) (hm : MxAt w) (hev : EvAt w) :
    Calls Tryz.prog 24 #[.string (bs line)] w fun x w' => ∃ e, (lnOk line = true → e = lnGel line) ∧ x = .returned (.tuple #[gelV e, .bool (lnOk line)]) ∧ Bl w w' := by
  have hsz : (bs line).size ≤ 1000000 := by rw [bs_size]; exact hs
  obtain ⟨a, t, h⟩ := split1_ne 32 line
  have h' : split1 32 (bs line).data.toList = a :: t := by rw [bs_list]; exact h
  have bad : lnOk line = false → (Calls Tryz.prog 24 #[.string (bs line)] w fun e w' => ∃ x : Gel, e = .returned (.tuple #[gelV x, .bool false]) ∧ Bl w w') →
      Calls Tryz.prog 24 #[.string (bs line)] w fun x w' => ∃ e, (lnOk line = true → e = lnGel line) ∧ x = .returned (.tuple #[gelV e, .bool (lnOk line)]) ∧ Bl w w' := fun hl hc => by
    refine hc.mono ?_
    rintro e w' ⟨x, rfl, hb⟩
    exact ⟨x, fun ht => (by rw [hl] at ht; cases ht), by rw [hl], hb⟩
  cases ha : numOk 9 a with
  | false =>
    refine bad ?_ (readGel_a (bs line) a t w hsz hm hev h' ha)
    unfold lnOk
    rw [h]
    cases t with
    | nil => rfl
    | cons b t => simp only; rw [ha]; rfl
  | true =>
    cases t with
    | nil => exact bad (by unfold lnOk; rw [h]) (readGel_b (bs line) a [] w hsz hm hev h' ha (.inl rfl))
    | cons b t =>
      by_cases hb : rdX b = 0
      · cases ht : (jn t).isEmpty with
        | true =>
          refine bad ?_ (readGel_c (bs line) a b t w hsz hm hev h' ha hb ht)
          unfold lnOk
          rw [h]
          simp only
          rw [ht]; cases numOk 9 a <;> cases decide (rdX b = 0) <;> rfl
        | false =>
          refine (readGel_ok (bs line) a b t w hsz hm hev h' ha hb ht).mono ?_
          rintro x w' ⟨rfl, hbl⟩
          refine ⟨⟨val a, bs (jn t), (rdV b).1, (rdV b).2.1, (rdV b).2.2⟩, fun _ => ?_, ?_, hbl⟩
          · unfold lnGel; rw [h]
          · have : lnOk line = true := by
              unfold lnOk
              rw [h]
              simp only
              rw [ha, ht, decide_eq_true hb]; rfl
            rw [this]
      · refine bad ?_ (readGel_b (bs line) a (b :: t) w hsz hm hev h' ha (.inr hb))
        unfold lnOk
        rw [h]
        simp only
        rw [decide_eq_false hb]; cases numOk 9 a <;> rfl
end Go.Proofs.YtfamnaekelmkpaaGreatDoor
