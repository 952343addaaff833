/- CheckEmitters of the program, for all slices. -/
import Derived.Test.YtdmpdcggepfaiaaDoorEm
namespace Go.Proofs.YtdmpdcggepfaiaaDoor
open Go.RowKit Go.Sort

/-- v reads as the emitters L. -/
def EmVal (w : World) (v : Value) (L : List Em) : Prop := ∃ (o : Option Addr) (cap : Nat), v = .slice o L.length cap ∧ L.length ≤ 9223372036854775807 ∧ (0 < L.length → ∃ b off, o = some ⟨b, off, none⟩ ∧ EmsAt w b off L)
theorem EmVal.bl {w w' : World} {v : Value} {L : List Em} (h : EmVal w v L) (g : Bl w w') : EmVal w' v L := by
  obtain ⟨o, cap, h1, h2, h3⟩ := h
  exact ⟨o, cap, h1, h2, fun hp => by obtain ⟨b, off, h4, h5⟩ := h3 hp; exact ⟨b, off, h4, h5.bl g⟩⟩

set_option maxRecDepth 100000 in
set_option maxHeartbeats 1600000 in
theorem checkEms_all (v : Value) (L : List Em) (w : World) (hv : EmVal w v L) (hok : EmsOk L) :
    Calls Tryd.prog 24 #[v] w fun e w' => e = .returned (.int .i64 (ckAll L)) ∧ Bl w w' := by
  obtain ⟨o, cap, rfl, hm, hp⟩ := hv
  by_cases h0 : L.length = 0
  · have e : Hid (ckAll L = 8) := by show _ = _; unfold ckAll; rw [if_pos h0]
    have t1 : ((L.length : Int) == 0) = true := by rw [beq_iff_eq]; omega
    clear hp h0
    go_enter Tryd.func24, Tryd.ntmps24
    go_wp2
    go_returns
    exact ⟨ret_int e.out.symm, Bl.refl w⟩
  · by_cases h12 : 12 < L.length
    · have e : Hid (ckAll L = 2) := by show _ = _; unfold ckAll; rw [if_neg h0, if_pos h12]
      have t1 : ((L.length : Int) == 0) = false := by rw [beq_eq_false_iff_ne]; omega
      have t2 : decide ((12 : Int) < (L.length : Int)) = true := by simp only [decide_eq_true_eq]; omega
      have t3 : (12 : Int) < (L.length : Int) := by omega
      clear hp h0 h12
      go_enter Tryd.func24, Tryd.ntmps24
      go_wp2
      go_returns
      exact ⟨ret_int e.out.symm, Bl.refl w⟩
    · obtain ⟨b, off, rfl, hL⟩ := hp (by omega)
      have e : ckAll L = ckEms [] L := by unfold ckAll; rw [if_neg h0, if_neg h12]
      rw [e]
      exact checkEms_any b off cap L w (by omega) (by omega) hL hok

/-- What it says of sound emitters. -/
theorem ckEms_lev : ∀ (L : List Em) (seen : List (List UInt8)), ckEms seen L = 0 → ∀ e ∈ L, isCol e.r e.g e.b = true
  | [], _, _, e, he => by cases he
  | a :: t, seen, h, e, he => by
    by_cases ha : ckEm seen a = 0
    · have hc : isCol a.r a.g a.b = true := by
        unfold ckEm at ha
        split at ha
        · cases ha
        · split at ha
          · cases ha
          · split at ha
            · cases ha
            · rename_i h3
              have : (isLev a.r && isLev a.g && isLev a.b) = true := by
                cases hq : (isLev a.r && isLev a.g && isLev a.b) with
                | true => rfl
                | false => exact absurd hq h3
              exact this
      have ht : ckEms (seen ++ [a.name.data.toList]) t = 0 := by
        have : ckEms seen (a :: t) = if ckEm seen a = 0 then ckEms (seen ++ [a.name.data.toList]) t else ckEm seen a := rfl
        rw [this, if_pos ha] at h; exact h
      rcases List.mem_cons.1 he with rfl | he
      · exact hc
      · exact ckEms_lev t _ ht e he
    · have : ckEms seen (a :: t) = if ckEm seen a = 0 then ckEms (seen ++ [a.name.data.toList]) t else ckEm seen a := rfl
      rw [this, if_neg ha] at h
      exact absurd h ha
theorem ckAll_ok {L : List Em} (h : ckAll L = 0) : 0 < L.length ∧ L.length ≤ 12 ∧ ∀ e ∈ L, (0 ≤ e.r ∧ e.r ≤ 65535) ∧ (0 ≤ e.g ∧ e.g ≤ 65535) ∧ (0 ≤ e.b ∧ e.b ≤ 65535) := by
  unfold ckAll at h
  split at h
  · cases h
  · split at h
    · cases h
    · exact ⟨by omega, by omega, fun e he => isCol_iff.1 (ckEms_lev L [] h e he)⟩
end Go.Proofs.YtdmpdcggepfaiaaDoor
