/- LevelSpreadsMatchSpec is proved: Highest and Spread answer as the reference does, for all lists of ints and all numbers, with no condition. -/
import Derived.Test.YtdnipbeggcfnbaaSprR
import Derived.Test.YtdnipbeggcfnbaaLawKit
namespace Go.Proofs.Ytdnipbeggcfnbaa.spreads
open Go.ChangeShapes Go.WideShapes Go.ChangeAt Go.RowKit

theorem cells1 : Try.prog.cellsOf 3 = 1 := by kernel_rfl
theorem open_slc {H : Type} {enc : TypeId × Value → H} {w : World} {base : Nat} {spare : Nat → Bool} {held : Bool} {o : Option Addr} {n c : Nat} {d : DataW H} {p : List MemPlace}
    (h : DataW.Trod enc Try.prog w base spare held 32 (.slice o n c) d p) : ∃ xs, Slc w (.slice o n c) xs := by
  obtain ⟨fuel, hn⟩ := h
  rcases open_ints Try.underlying32 Try.underlying3 cells1 hn with ⟨hv, _⟩ | ⟨a, len, cap, zs, hcs, _, hl, hm, hz, _, hi, _⟩
  · have hv' : [Value.slice o n c] = [Value.slice none 0 0] := hv
    have e : Value.slice o n c = .slice none 0 0 := by simpa using hv'
    rw [e]
    exact ⟨[], slc_nil w _ _ (by omega)⟩
  · have hcs' : [Value.slice o n c] = [Value.slice (some a) len cap] := hcs
    have e : Value.slice o n c = .slice (some a) len cap := by simpa using hcs'
    rw [e]
    unfold maxLen at hm
    have hle : len ≤ zs.length := by rw [hz]; split <;> omega
    have hlt : (zs.take len).length = len := by rw [List.length_take]; omega
    rcases Nat.eq_zero_or_pos len with h0 | h0
    · subst h0
      exact ⟨[], slc_nil w _ _ (by omega)⟩
    · obtain ⟨b, off, spot⟩ := a
      have h1 := hi 0 (by omega)
      have hspot : spot = none := by simpa [Addr.add] using World.cell?_spot h1
      subst hspot
      refine ⟨zs.take len, ?_⟩
      have := Slc.mk (w := w) (b := b) (off := off) (cap := cap) (xs := zs.take len) (by omega) (by omega) (fun i hi' => by
        rw [hlt] at hi'
        have := hi i (by omega)
        rw [add_plain] at this
        rw [this, List.getElem?_take, if_pos hi', List.getD_eq_getElem?_getD])
      rwa [hlt] at this

set_option maxHeartbeats 1600000 in
theorem eqInts (v1 v2 : Value) (l : List Int) (w : World) (h1 : Slc w v1 l) (h2 : Slc w v2 l) :
    Calls Try.prog 26 #[v1, v2] w fun e w' => e = .returned (.bool true) ∧ Bl w w' := by
  rcases h1.open with ⟨rfl, o1, c1, rfl, hc⟩ | ⟨b1, off1, c1, rfl, h0, hm1, hm2, hcell1⟩
  · obtain ⟨o2, c2, rfl, _, _⟩ := h2
    go_enter Try.func26, Try.ntmps26
    go_wp2
    refine wp_loop_rounds 1 ?_
    rw [rounds_succ]
    go_wp2
    go_ret
    exact ⟨rfl, Bl.refl _⟩
  · rcases h2.open with ⟨rfl, _⟩ | ⟨b2, off2, c2, rfl, _, _, _, hcell2⟩
    · exact absurd h0 (by simp)
    have H1 := Lib.hid hcell1
    have H2 := Lib.hid hcell2
    clear h2 h1 hcell1 hcell2
    go_enter Try.func26, Try.ntmps26
    go_wp2
    go_loopw [13] (fun v3 wr => ∃ k : Nat, k ≤ l.length ∧ v3 = .int .i64 k ∧ Bl w wr) (fun v3 _ => l.length - (intOf v3).toNat)
    case atStart => exact ⟨0, Nat.zero_le _, rfl, Bl.refl _⟩
    case round =>
      obtain ⟨k, hk, rfl, hb⟩ := hrel
      by_cases hlt : k < l.length
      · obtain ⟨x, ep⟩ : ∃ x, l[k]?.getD 0 = x := ⟨_, rfl⟩
        have a1 := hb.cell (H1.out k hlt)
        have a2 := hb.cell (H2.out k hlt)
        rw [ep] at a1 a2
        have b1 : (0 : Int) ≤ (k : Int) := by omega
        have b2 : (k : Int) < (l.length : Int) := by omega
        clear ep
        go_wp2_with fail
        go_quiet (fail)
        go_wp2
        go_roundw
        case rel => exact ⟨k + 1, by omega, by go_num, hb.drewN _⟩
        case measure => simp [intOf]; omega
      · obtain rfl : k = l.length := by omega
        go_wp2
        go_returns
        exact ⟨rfl, hb⟩

set_option maxRecDepth 100000 in
set_option maxHeartbeats 3200000 in
theorem walk (v : Value) (l : List Int) (n : Int) (w : World) (h : Slc w v l) :
    Calls Try.prog 6 #[v, .int .i64 n] w fun e w' => e = .returned (.bool true) ∧ Bl w w' := by
  have A1 := Lib.hid (fun w' (g : Bl w w') => highest_prog v l w' (h.bl g))
  have A2 := Lib.hid (fun w' (g : Bl w w') => highest_ref v l w' (h.bl g))
  have A3 := Lib.hid (fun w' (g : Bl w w') => spread_prog v l n w' (h.bl g))
  have A4 := Lib.hid (fun w' (g : Bl w w') => spread_ref v l n w' (h.bl g))
  unfold PSpr at A3 A4
  obtain ⟨o, cap, hv, _, _⟩ := h
  subst hv
  generalize hiV l = y1 at *
  generalize hiX l = y2 at *
  generalize spX l n = y3 at *
  generalize spR l n = r4 at *
  go_enter Try.func6, Try.ntmps6
  go_wp2_with fail
  refine (A1.out _ (Bl.refl _)).mono ?_
  rintro e w1 ⟨rfl, g1⟩
  go_wp2_with fail
  refine (A2.out _ g1).mono ?_
  rintro e w2 ⟨rfl, g2⟩
  go_wp2_with fail
  refine (A3.out _ (g1.trans g2)).mono ?_
  rintro e w3 ⟨v3, rfl, hp3, g3⟩
  have HP3 := Lib.hid hp3
  clear hp3
  go_wp2_with fail
  refine (A4.out _ ((g1.trans g2).trans g3)).mono ?_
  rintro e w4 ⟨v4, rfl, hp4, g4⟩
  have HP4 := Lib.hid hp4
  clear hp4
  go_wp2_with fail
  refine (eqInts v3 v4 _ _ (HP3.out.bl g4) HP4.out).mono ?_
  rintro e w5 ⟨rfl, g5⟩
  go_wp2_with fail
  go_returns
  exact ⟨rfl, (((g1.trans g2).trans g3).trans g4).trans g5⟩

theorem own : ownKnob Try.prog.godebug = none := by kernel_rfl
theorem laid : laidOutB Try.prog = true := by kernel_rfl

set_option maxRecDepth 100000 in
theorem lifted (os : Os) (started : os.Started) (H : Type) (enc : TypeId × Value → H) :
    ReturnsInHanded {} Try.checked os 6 .any (Rows.levelSpreadsMatchSpecSpec.pre6 enc Try.prog Try.f6 Rows.levelSpreadsMatchSpecRow.domain false) (Rows.levelSpreadsMatchSpecSpec.post enc Try.prog Try.f6 false true false false) := by
  refine returnsInHanded_of_change (C := Try.checked) own started (by kernel_rfl) Try.func6
    (ChangeSpec.witness6 (enc := enc) (C := Try.checked) false ⟨#[], #[.slice none 0 0, .int .i64 0], []⟩ 8 (by kernel_rfl) (by kernel_rfl) (by kernel_rfl) (by kernel_rfl)) ?_
  intro W base args ds gs before hval0 hW hcnd _
  have hval : ∀ (j : Nat) t v, Try.f6.params[j]? = some t → args[j]? = some v → Value.okWide Try.prog W .any base t v := hval0
  have hW' := hW
  obtain ⟨p, q, hA0, hV, rfl, hfz, hnd⟩ := hW
  have hA : DataW.TrodAll enc Try.prog W 0 (fun _ => true) true Try.f6.params.toList args.toList ds p := hA0
  rw [Try.params6] at hA hval
  obtain ⟨v0, vs0, d0, ds0, p0, q0, hargs, rfl, rfl, h0, r0⟩ := trodAll_cons hA
  obtain ⟨v1, vs1, d1, ds1, p1, q1, rfl, rfl, rfl, h1, r1⟩ := trodAll_cons r0
  obtain ⟨rfl, rfl, rfl⟩ := trodAll_nil r1
  obtain rfl : args = #[v0, v1] := by cases args; simp_all
  obtain ⟨rfl, rfl⟩ := trodVars_none hV
  obtain ⟨o0, n0, c0, rfl⟩ := okWide_slice Try.underlying32 (hval 0 32 v0 rfl rfl)
  obtain ⟨l0, hp0⟩ := open_slc h0
  obtain ⟨a1, rfl, rfl, rfl, w1⟩ := open_int Try.underlying3 (hval 1 3 v1 rfl rfl) h1
  clear hA0 hval0
  refine (walk _ l0 a1 W hp0).mono fun e W' ⟨he, hg⟩ => ?_
  subst he
  exact ⟨_, rfl, law_old hW' rfl rfl (by kernel_rfl) Try.underlying4 laid (by kernel_rfl) hg⟩

theorem over : Rows.levelSpreadsMatchSpecRow.holds Try.pinned (OpenSpec.ofChange Rows.levelSpreadsMatchSpecSpec) :=
  OpenClaim.holds_of_wide 6 Try.f6 rfl rfl rfl rfl rfl rfl rfl ⟨rfl, rfl, rfl, rfl, rfl⟩ rfl rfl rfl rfl rfl (by kernel_rfl) Try.func6 (by kernel_rfl)
    (of_decide_eq_true (by kernel_rfl)) (by unfold Func.isWrapper; first | (rw [if_pos (by decide +kernel)]; kernel_rfl) | (rw [if_neg (by decide +kernel)]; exact ⟨rfl, rfl⟩))
    (fun os started H enc _ => lifted os started H enc)

/-- The statement. -/
theorem proved : Rows.LevelSpreadsMatchSpecSaid :=
  over
end Go.Proofs.Ytdnipbeggcfnbaa.spreads

