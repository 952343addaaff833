/- CheckEmitters of the reference. -/
import Derived.Test.YtdmpdcggepfaiaaDoorEmA
import Derived.Test.YtdmpdcggepfaiaaDoorNameR
import Derived.Test.YtdmpdcggepfaiaaDoorColR
namespace Go.Proofs.YtdmpdcggepfaiaaDoor
open Go.RowKit Go.Sort

theorem contains_iff {L : List Em} {k : Nat} (hk : k ≤ L.length) {s : ByteArray} : (namesOf (L.take k)).contains s.data.toList = true ↔ ∃ j, ∃ h : j < L.length, j < k ∧ L[j].name = s := by
  unfold namesOf
  rw [List.contains_iff_mem, List.mem_map]
  constructor
  · rintro ⟨e, he, hs⟩
    obtain ⟨j, hj, rfl⟩ := List.getElem_of_mem he
    rw [List.length_take] at hj
    refine ⟨j, by omega, by omega, ?_⟩
    rw [List.getElem_take] at hs
    have : L[j].name.data = s.data := Array.toList_inj.1 hs
    cases hx : L[j].name; cases s; rw [hx] at this; simp only at this; subst this; rfl
  · rintro ⟨j, h, hj, rfl⟩
    exact ⟨L[j], List.mem_iff_getElem.2 ⟨j, by rw [List.length_take]; omega, by rw [List.getElem_take]⟩, rfl⟩

theorem text_eq {a b : ByteArray} (h : a = b) : (a.toList == b.toList) = true := by subst h; simp
theorem text_ne {a b : ByteArray} (h : a ≠ b) : (a.toList == b.toList) = false := by
  rw [beq_eq_false_iff_ne, ByteArray.toList_eq, ByteArray.toList_eq]
  exact fun e => h (Go.WideShapes.bytes_inj e)

set_option maxRecDepth 100000 in
set_option maxHeartbeats 3200000 in
theorem checkEms_ref1 (b off cap : Nat) (L : List Em) (w : World) (h1 : 0 < L.length) (h12 : L.length ≤ 12) (hcap : L.length ≤ cap) (hL : EmsAt w b off L) (hok : EmsOk L) :
    Calls Tryd.prog 25 #[.slice (some ⟨b, off, none⟩) L.length cap] w fun e w' => e = .returned (.int .i64 (ckEms [] L)) ∧ Bl w w' := by
  have HL := Lib.hid hL
  have HO := Lib.hid hok
  have t1 : ((L.length : Int) == 0) = false := by rw [beq_eq_false_iff_ne]; omega
  have t2 : decide ((12 : Int) < (L.length : Int)) = false := by simp only [decide_eq_false_iff_not]; omega
  clear hL hok
  go_enter Tryd.func25, Tryd.ntmps25
  go_wp2
  go_loopw [18] (fun i wr => ∃ k : Nat, k ≤ L.length ∧ i = .int .i64 k ∧ ckEms [] L = ckEms (namesOf (L.take k)) (L.drop k) ∧ Bl w wr) (fun i _ => L.length - (intOf i).toNat)
  case atStart => exact ⟨0, Nat.zero_le _, rfl, rfl, Bl.refl w⟩
  case round =>
    obtain ⟨k, hk, rfl, hck, hb⟩ := hrel
    have HK := Lib.hid hck
    clear hck
    by_cases hlt : k < L.length
    · have hstep := Lib.hid (ckEms_at L k hlt [])
      obtain ⟨c0, c1, c2, c3⟩ := (HL.out.bl hb) k hlt
      have hsz := HO.out L[k] (List.getElem_mem hlt)
      obtain ⟨e, he⟩ : ∃ e, e = L[k] := ⟨_, rfl⟩
      have HE := Lib.hid he
      rw [← he] at hstep c0 c1 c2 c3 hsz
      clear he
      have hB : Bl w (wr.alloc (.cells #[.string e.name, .int .i64 e.r, .int .i64 e.g, .int .i64 e.b] 55)) := hb.alloc _
      have HN := Lib.hid (fun w => isName_ref e.name w hsz)
      cases hn : isNm e.name.data.toList with
      | false =>
        rw [hn] at HN
        have hr : Hid (ckEms [] L = 5) := by
          have h5 : ckEm ([] ++ namesOf (L.take k)) e = 5 := by unfold ckEm; rw [if_pos hn]
          show _ = _; rw [HK.out]; have := hstep.out; rw [if_neg (by rw [h5]; decide), h5] at this; exact this
        clear hn
        go_wp2_with (first
            | (go_at_call 61; refine (HN.out _).mono ?_; rintro e' w1 ⟨rfl, rfl⟩))
        go_ret
        exact ⟨ret_int hr.out.symm, hB⟩
      | true =>
        rw [hn] at HN
        go_wp2_with (first
            | (go_at_call 61; refine (HN.out _).mono ?_; rintro e' w1 ⟨rfl, rfl⟩))
        have N4 := Cel4.new wr 55 e
        have HN4 := Lib.hid N4
        have HB4 := Lib.hid hB
        clear N4 hB c0 c1 c2 c3 hb
        go_loopw [31] (fun i wq => ∃ j : Nat, j ≤ k ∧ i = .int .i64 j ∧ (∀ m (h : m < L.length), m < j → L[m].name ≠ e.name) ∧ Gr (wr.alloc (.cells #[.string e.name, .int .i64 e.r, .int .i64 e.g, .int .i64 e.b] 55)) wq) (fun i _ => k - (intOf i).toNat)
        case atStart => exact ⟨0, Nat.zero_le _, rfl, fun _ _ h => by omega, Gr.refl _⟩
        case round =>
          obtain ⟨j, hj, rfl, hpre, hg⟩ := hrel
          have HP := Lib.hid hpre
          obtain ⟨n0, n1, n2, n3⟩ := HN4.out.bl hg.bl
          clear hpre
          by_cases hjk : j < k
          · obtain ⟨c0, c1, c2, c3⟩ := (HL.out.bl (HB4.out.trans hg.bl)) j (by omega)
            obtain ⟨x, hx⟩ : ∃ x, x = L[j] := ⟨_, rfl⟩
            have HX := Lib.hid hx
            rw [← hx] at c0 c1 c2 c3
            clear hx
            have hzz := World.block_lt_of_cell? _ _ n0
            simp only at hzz
            have hz : wr.heap.size < (wr.alloc (.cells #[.string x.name, .int .i64 x.r, .int .i64 x.g, .int .i64 x.b] 55)).heap.size := by simp
            by_cases hs : x.name = e.name
            · have hr : Hid (ckEms [] L = 6) := by
                have hc : (namesOf (L.take k)).contains e.name.data.toList = true := (contains_iff (by omega)).2 ⟨j, by omega, hjk, by rw [← HX.out]; exact hs⟩
                have h5 : ckEm ([] ++ namesOf (L.take k)) e = 6 := by unfold ckEm; rw [if_neg (by rw [hn]; decide), List.nil_append, if_pos hc]
                show _ = _; rw [HK.out]; have := hstep.out; rw [if_neg (by rw [h5]; decide), h5] at this; exact this
              have q := text_eq hs
              clear hs hn
              go_wp2_with fail
              go_ret
              exact ⟨ret_int hr.out.symm, (HB4.out.trans hg.bl).alloc _⟩
            · have hnx : Hid (∀ m (h : m < L.length), m < j + 1 → L[m].name ≠ e.name) := fun m h hm => by
                by_cases em : m = j
                · subst em; rw [← HX.out]; exact hs
                · exact HP.out m h (by omega)
              have q := text_ne hs
              clear hs hn
              go_wp2_with fail
              go_roundw
              case rel => exact ⟨j + 1, by omega, by go_num, hnx.out, hg.alloc _⟩
              case measure => simp [intOf]; omega
          · obtain rfl : j = k := by omega
            have hc : (namesOf (L.take j)).contains e.name.data.toList = false := Bool.eq_false_iff.2 (fun hc => by
              obtain ⟨m, hm, hmj, hmn⟩ := (contains_iff (by omega)).1 hc
              exact HP.out m hm hmj hmn)
            have HW := Lib.hid (HB4.out.trans hg.bl)
            clear hg
            cases hi : isCol e.r e.g e.b with
            | false =>
              have HCk := Lib.hid (fun w => show Calls Tryd.prog 31 #[.agg #[.int .i64 e.r, .int .i64 e.g, .int .i64 e.b]] w fun e' w' => e' = .returned (.int .i64 1) ∧ Bl w w' from by have := check_ref3 e.r e.g e.b w; unfold ckCol at this; rw [hi] at this; exact this)
              have hr : Hid (ckEms [] L = 1) := by
                have h5 : ckEm ([] ++ namesOf (L.take j)) e = 1 := by unfold ckEm; rw [if_neg (by rw [hn]; decide), List.nil_append, if_neg (by rw [hc]; decide), if_pos (show (isLev e.r && isLev e.g && isLev e.b) = false from hi)]
                show _ = _; rw [HK.out]; have := hstep.out; rw [if_neg (by rw [h5]; decide), h5] at this; exact this
              clear hn hc hi
              go_wp2_with fail
              refine (HCk.out _).mono ?_
              rintro e' w3 ⟨rfl, g3⟩
              go_wp2_with fail
              go_ret
              exact ⟨ret_int hr.out.symm, HW.out.trans g3⟩
            | true =>
              have HCk := Lib.hid (fun w => show Calls Tryd.prog 31 #[.agg #[.int .i64 e.r, .int .i64 e.g, .int .i64 e.b]] w fun e' w' => e' = .returned (.int .i64 0) ∧ Bl w w' from by have := check_ref3 e.r e.g e.b w; unfold ckCol at this; rw [hi] at this; exact this)
              by_cases hz : e.r = 0 ∧ e.g = 0 ∧ e.b = 0
              · have hr : Hid (ckEms [] L = 8) := by
                  have h5 : ckEm ([] ++ namesOf (L.take j)) e = 8 := by unfold ckEm; rw [if_neg (by rw [hn]; decide), List.nil_append, if_neg (by rw [hc]; decide), if_neg (by rw [show (isLev e.r && isLev e.g && isLev e.b) = true from hi]; decide), if_pos hz]
                  show _ = _; rw [HK.out]; have := hstep.out; rw [if_neg (by rw [h5]; decide), h5] at this; exact this
                obtain ⟨z1, z2, z3⟩ := hz
                have q1 : (e.r == 0) = true := by simpa using z1
                have q2 : (e.g == 0) = true := by simpa using z2
                have q3 : (e.b == 0) = true := by simpa using z3
                clear hn hc hi z1 z2 z3
                go_wp2_with fail
                refine (HCk.out _).mono ?_
                rintro e' w3 ⟨rfl, g3⟩
                obtain ⟨d0, d1, d2, d3⟩ := Cel4.bl ⟨n0, n1, n2, n3⟩ g3
                clear n0 n1 n2 n3
                go_wp2_with fail
                go_ret
                exact ⟨ret_int hr.out.symm, HW.out.trans g3⟩
              · have hr : Hid (ckEms [] L = ckEms (namesOf (L.take (j + 1))) (L.drop (j + 1))) := by
                  have h5 : ckEm ([] ++ namesOf (L.take j)) e = 0 := by unfold ckEm; rw [if_neg (by rw [hn]; decide), List.nil_append, if_neg (by rw [hc]; decide), if_neg (by rw [show (isLev e.r && isLev e.g && isLev e.b) = true from hi]; decide), if_neg hz]
                  show _ = _; rw [HK.out]; have := hstep.out; rw [if_pos h5, List.nil_append, List.nil_append] at this; exact this
                have key : ((e.r == 0) = false) ∨ ((e.r == 0) = true ∧ (e.g == 0) = false) ∨ ((e.r == 0) = true ∧ (e.g == 0) = true ∧ (e.b == 0) = false) := by
                  simp only [beq_eq_false_iff_ne, beq_iff_eq]; omega
                clear hn hc hi hz
                go_wp2_with fail
                refine (HCk.out _).mono ?_
                rintro e' w3 ⟨rfl, g3⟩
                obtain ⟨d0, d1, d2, d3⟩ := Cel4.bl ⟨n0, n1, n2, n3⟩ g3
                clear n0 n1 n2 n3
                rcases key with q1 | ⟨q1, q2⟩ | ⟨q1, q2, q3⟩
                all_goals
                  go_wp2_with fail
                  go_roundw
                  case rel => exact ⟨j + 1, by omega, by go_num, hr.out, HW.out.trans g3⟩
                  case measure => simp [intOf]; omega
    · obtain rfl : k = L.length := by omega
      have hfin : Hid (ckEms [] L = 0) := by show _ = _; rw [HK.out, List.drop_length]; rfl
      go_wp2
      go_ret
      exact ⟨ret_int hfin.out.symm, hb⟩

/-- No slice is longer than its room. -/
def Fits (v : Value) : Prop := ∀ o n c, v = .slice o n c → n ≤ c
set_option maxRecDepth 100000 in
set_option maxHeartbeats 1600000 in
theorem checkEms_ref (v : Value) (L : List Em) (w : World) (hv : EmVal w v L) (hf : Fits v) (hok : EmsOk L) :
    Calls Tryd.prog 25 #[v] w fun e w' => e = .returned (.int .i64 (ckAll L)) ∧ Bl w w' := by
  obtain ⟨o, cap, rfl, hm, hp⟩ := hv
  have hc := hf _ _ _ rfl
  by_cases h0 : L.length = 0
  · have e : Hid (ckAll L = 8) := by show _ = _; unfold ckAll; rw [if_pos h0]
    have t1 : ((L.length : Int) == 0) = true := by rw [beq_iff_eq]; omega
    clear hp h0 hf hc
    go_enter Tryd.func25, Tryd.ntmps25
    go_wp2
    go_returns
    exact ⟨ret_int e.out.symm, Bl.refl w⟩
  · by_cases h12 : 12 < L.length
    · have e : Hid (ckAll L = 2) := by show _ = _; unfold ckAll; rw [if_neg h0, if_pos h12]
      have t1 : ((L.length : Int) == 0) = false := by rw [beq_eq_false_iff_ne]; omega
      have t2 : decide ((12 : Int) < (L.length : Int)) = true := by simp only [decide_eq_true_eq]; omega
      have t3 : (12 : Int) < (L.length : Int) := by omega
      clear hp h0 h12 hf hc
      go_enter Tryd.func25, Tryd.ntmps25
      go_wp2
      go_returns
      exact ⟨ret_int e.out.symm, Bl.refl w⟩
    · obtain ⟨b, off, rfl, hL⟩ := hp (by omega)
      have e : ckAll L = ckEms [] L := by unfold ckAll; rw [if_neg h0, if_neg h12]
      rw [e]
      exact checkEms_ref1 b off cap L w (by omega) (by omega) hc hL hok
end Go.Proofs.YtdmpdcggepfaiaaDoor
