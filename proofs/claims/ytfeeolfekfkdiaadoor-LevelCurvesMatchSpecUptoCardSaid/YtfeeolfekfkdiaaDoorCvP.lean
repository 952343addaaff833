/- The program's parsePoints. -/
import Derived.Test.YtfeeolfekfkdiaaDoorCvT
import Derived.Test.YtfeeolfekfkdiaaDoorPairs
import Derived.Lib.SplitLaws
namespace Go.Proofs.YtfeeolfekfkdiaaDoor
open Go.RowKit Go.Lib Go.Sort

/-- Words, as the world holds them. -/
def Wds (w : World) (b off : Nat) (ws : List (List UInt8)) : Prop := ∀ i, i < ws.length → w.cell? ⟨b, off + i, none⟩ = some (.string (bs (ws[i]?.getD [])))
theorem Wds.bl {w w' : World} {b off : Nat} {ws : List (List UInt8)} (h : Wds w b off ws) (g : Bl w w') : Wds w' b off ws := fun i hi => g.cell (h i hi)
theorem split_any (s : ByteArray) (m : Int) (w : World) (hs : s.size < 4294967281) (hm : w.cell? ⟨0, 0, none⟩ = some (.int .i64 m)) :
    Calls Tryd.prog 61 #[.string s, .string ⟨#[32]⟩] w fun e w' => e = .returned (.slice (some ⟨w.heap.size, 0, none⟩) (split1 32 s.data.toList).length (split1 32 s.data.toList).length) ∧ Wds w' w.heap.size 0 (split1 32 s.data.toList) ∧ Bl w w' := by
  have h1 : (⟨#[32]⟩ : ByteArray).size = 1 := rfl
  have hd := Lib.splitB_data ⟨#[32]⟩ 0 (Lib.countB s ⟨#[32]⟩) s
  have e1 : Lib.splitK [32] 0 (Lib.countB s ⟨#[32]⟩) s.data.toList = split1 32 s.data.toList := split_one 32 s.data.toList
  have hd : (Lib.splitB ⟨#[32]⟩ 0 (Lib.countB s ⟨#[32]⟩) s).map (·.data.toList) = split1 32 s.data.toList := hd.trans e1
  have hl := Lib.splitB_all ⟨#[32]⟩ (by decide) 0 (Lib.countB s ⟨#[32]⟩) s rfl
  have hlen : (split1 32 s.data.toList).length = Lib.countB s ⟨#[32]⟩ + 1 := by rw [← hd, List.length_map, hl]
  refine (Tryd.strings_Split s ⟨#[32]⟩ m w hs hm (by decide)).mono ?_
  rintro e w' ⟨rfl, rfl⟩
  refine ⟨by rw [hlen], fun i hi => ?_, (Bl.refl w).alloc _⟩
  have hi2 : i < (Lib.splitB ⟨#[32]⟩ 0 (Lib.countB s ⟨#[32]⟩) s).length := by rw [hl]; omega
  have e2 : (split1 32 s.data.toList)[i]?.getD [] = ((Lib.splitB ⟨#[32]⟩ 0 (Lib.countB s ⟨#[32]⟩) s)[i]'hi2).data.toList := by
    rw [← hd, List.getElem?_map, List.getElem?_eq_getElem hi2]; rfl
  rw [e2, bs_of]
  have := World.alloc_heap_new w (.cells ((Lib.splitB ⟨#[32]⟩ 0 (Lib.countB s ⟨#[32]⟩) s).map Value.string).toArray 9)
  rw [cell_of_row _ w.heap.size (0 + i) _ _ (0, 0) this]
  simp [hi2]

theorem ppOk_take {ws : List (List UInt8)} {k : Nat} (h : k < ws.length) (hk : ppOk (ws.take k) = true) : ppOk (ws.take (k + 1)) = wdOk (ws[k]?.getD []) := by
  unfold ppOk at hk ⊢
  rw [List.take_succ_eq_append_getElem h, List.all_append, hk, List.getElem?_eq_getElem h]
  simp
theorem ppV_take {ws : List (List UInt8)} {k : Nat} (h : k < ws.length) : ppV (ws.take (k + 1)) = ppV (ws.take k) ++ [wdV (ws[k]?.getD [])] := by
  unfold ppV
  rw [List.take_succ_eq_append_getElem h, List.map_append, List.getElem?_eq_getElem h]
  rfl
theorem ppOk_no {ws : List (List UInt8)} {k : Nat} (h : k < ws.length) (hk : wdOk (ws[k]?.getD []) = false) : ppOk ws = false := by
  unfold ppOk
  rw [List.all_eq_false]
  exact ⟨ws[k]?.getD [], by rw [List.getElem?_eq_getElem h, Option.getD_some]; exact List.getElem_mem h, by rw [hk]; decide⟩
def PpPost (ws : List (List UInt8)) (w : World) (e : Ending) (w' : World) : Prop := ∃ v, e = .returned (.tuple #[v, .bool (ppOk ws)]) ∧ Row w.heap.size 69 w' v (if ppOk ws = true then ppV ws else []) ∧ Bl w w'
theorem infoP : (Tryd.prog.info? 69).map (fun i => (i.zero, i.size, i.bytes)) = some (some (.agg #[.int .i64 0, .int .i64 0]), 2, 16) := by kernel_rfl
theorem cut_len (c : UInt8) (l : List UInt8) : (cut1 c l).1.length ≤ l.length ∧ (cut1 c l).2.1.length ≤ l.length := by
  rcases cut1_spec c l with ⟨hc, _⟩ | ⟨a, b, hab, hno, hc⟩
  · rw [hc]; exact ⟨Nat.le_refl _, Nat.zero_le _⟩
  · rw [hc]
    have := congrArg List.length hab
    simp at this
    exact ⟨show a.length ≤ _ by omega, show b.length ≤ _ by omega⟩
set_option maxRecDepth 100000 in
set_option maxHeartbeats 3200000 in
theorem parsePoints_any (b off cap : Nat) (ws : List (List UInt8)) (w : World) (hW : Wds w b off ws) (hn : ws.length ≤ 1000000000) (hs : ∀ x ∈ ws, x.length ≤ 4611686018427387904) :
    Calls Tryd.prog 87 #[.slice (some ⟨b, off, none⟩) ws.length cap] w (PpPost ws w) := by
  have HWS := Lib.hid hW
  have HSZ := Lib.hid hs
  clear hW hs
  go_enter Tryd.func87, Tryd.ntmps87
  go_wp2_with fail
  go_loopw [4, 16] (fun v i wr => ∃ k : Nat, k ≤ ws.length ∧ i = .int .i64 k ∧ Row w.heap.size 69 wr v (ppV (ws.take k)) ∧ ppOk (ws.take k) = true ∧ Bl w wr) (fun _ i _ => ws.length - (intOf i).toNat)
  case atStart => exact ⟨0, Nat.zero_le _, rfl, World.ownsRow_nil _ _ _ _, rfl, Bl.refl w⟩
  case round =>
    obtain ⟨k, hk, rfl, hrow, hok, hbl⟩ := hrel
    have HROW := Lib.hid hrow
    have HOK := Lib.hid hok
    clear hrow hok
    by_cases hlt : k < ws.length
    · have hcell := HWS.out.bl hbl k hlt
      have hxl := HSZ.out (ws[k]?.getD []) (by rw [List.getElem?_eq_getElem hlt, Option.getD_some]; exact List.getElem_mem hlt)
      have HPT := Lib.hid (ppOk_take hlt HOK.out)
      have HPV := Lib.hid (ppV_take hlt)
      have HNO := Lib.hid (fun (h : wdOk (ws[k]?.getD []) = false) => ppOk_no hlt h)
      generalize ws[k]?.getD [] = x at *
      obtain ⟨l1, l2⟩ := cut_len 58 x
      have hwd : wdOk x = (numOk 9 (cut1 58 x).1 && numOk 9 (cut1 58 x).2.1) := rfl
      have hwv : wdV x = (val (cut1 58 x).1, val (cut1 58 x).2.1) := rfl
      have HC := Lib.hid (fun w' => show Calls Tryd.prog 55 #[.string (bs x), .string ⟨#[58]⟩] w' fun e w'' => e = .returned (.tuple #[.string (bs (cut1 58 x).1), .string (bs (cut1 58 x).2.1), .bool (cut1 58 x).2.2]) ∧ Gr w' w'' from by
        have := cut_any (bs x) 58 w' (by rw [bs_size]; exact hxl)
        unfold cutR at this
        rwa [bs_list] at this)
      have HA := Lib.hid (fun w' => show Calls Tryd.prog 45 #[.string (bs (cut1 58 x).1)] w' fun e w'' => e = .returned (.tuple #[.int .i64 (numV (cut1 58 x).1), .bool (numOk 9 (cut1 58 x).1)]) ∧ w' = w'' from by
        have := number_any (bs (cut1 58 x).1) w' (by rw [bs_size]; omega)
        unfold numR at this
        rwa [bs_list] at this)
      have HB := Lib.hid (fun w' => show Calls Tryd.prog 45 #[.string (bs (cut1 58 x).2.1)] w' fun e w'' => e = .returned (.tuple #[.int .i64 (numV (cut1 58 x).2.1), .bool (numOk 9 (cut1 58 x).2.1)]) ∧ w' = w'' from by
        have := number_any (bs (cut1 58 x).2.1) w' (by rw [bs_size]; omega)
        unfold numR at this
        rwa [bs_list] at this)
      have hvA : numOk 9 (cut1 58 x).1 = true → numV (cut1 58 x).1 = val (cut1 58 x).1 := fun h => numV_ok h
      have hvB : numOk 9 (cut1 58 x).2.1 = true → numV (cut1 58 x).2.1 = val (cut1 58 x).2.1 := fun h => numV_ok h
      generalize numOk 9 (cut1 58 x).1 = oA at *
      generalize numOk 9 (cut1 58 x).2.1 = oB at *
      generalize (cut1 58 x).1 = A at *
      generalize (cut1 58 x).2.1 = B at *
      generalize (cut1 58 x).2.2 = D at *
      have hdec : (oA = true ∧ oB = true) ∨ (oA && oB) = false := by cases oA <;> cases oB <;> simp
      rcases hdec with ⟨rfl, rfl⟩ | hno
      · have hvA := hvA rfl
        have hvB := hvB rfl
        rw [hvA] at HA
        rw [hvB] at HB
        have HV := Lib.hid hwv
        have HD := Lib.hid hwd
        clear hvA hvB hwv hwd l1 l2 hxl HNO
        have hplen : (ppV (ws.take k)).length ≤ 1000000000 := by unfold ppV; simp; omega
        go_wp2_with fail
        refine (HC.out _).mono ?_
        rintro e w1 ⟨rfl, g1⟩
        go_wp2_with fail
        refine (HA.out _).mono ?_
        rintro e w2 ⟨rfl, rfl⟩
        go_wp2_with fail
        refine (HB.out _).mono ?_
        rintro e w2 ⟨rfl, rfl⟩
        have hbl1 : Bl w w1 := hbl.trans g1.bl
        have HR1 := Lib.hid (HROW.out.bl g1.bl)
        have hb1 := hbl1.size
        go_wp2_with (at_builtin; refine app_pair Tryd.underlying22 infoP rfl _ _ rfl w.heap.size w1 _ _ (val A) (val B) HR1.out rfl rfl hplen hb1 ?_; intro v' w3 hrow3 hbl3 hg3; have HR3 := Lib.hid hrow3; have HB3 := Lib.hid (hbl3 w hbl1 (Nat.le_refl _)); clear hrow3 hbl3 hg3)
        go_roundw
        case rel =>
          refine ⟨k + 1, by omega, by go_num, ?_, ?_, HB3.out⟩
          · rw [HPV.out, HV.out]; exact HR3.out
          · rw [HPT.out, HD.out]; rfl
        case measure => simp [intOf]; omega
      · have HN := Lib.hid (HNO.out (by rw [hwd]; exact hno))
        clear hvA hvB hwv hwd l1 l2 hxl HPT HPV HNO
        generalize numV A = na at *
        generalize numV B = nb at *
        cases oA with
        | false =>
          go_wp2_with fail
          refine (HC.out _).mono ?_
          rintro e w1 ⟨rfl, g1⟩
          go_wp2_with fail
          refine (HA.out _).mono ?_
          rintro e w2 ⟨rfl, rfl⟩
          go_wp2_with fail
          refine (HB.out _).mono ?_
          rintro e w2 ⟨rfl, rfl⟩
          go_wp2_with fail
          go_returns
          exact ⟨.slice none 0 0, by rw [HN.out]; rfl, by rw [HN.out]; exact World.ownsRow_nil _ _ _ _, hbl.trans g1.bl⟩
        | true =>
          have hoB : oB = false := by simpa using hno
          subst hoB
          go_wp2_with fail
          refine (HC.out _).mono ?_
          rintro e w1 ⟨rfl, g1⟩
          go_wp2_with fail
          refine (HA.out _).mono ?_
          rintro e w2 ⟨rfl, rfl⟩
          go_wp2_with fail
          refine (HB.out _).mono ?_
          rintro e w2 ⟨rfl, rfl⟩
          go_wp2_with fail
          go_returns
          exact ⟨.slice none 0 0, by rw [HN.out]; rfl, by rw [HN.out]; exact World.ownsRow_nil _ _ _ _, hbl.trans g1.bl⟩
    · obtain rfl : k = ws.length := by omega
      have HE := Lib.hid (show ws.take ws.length = ws from List.take_of_length_le (Nat.le_refl _))
      go_wp2_with fail
      go_returns
      have h1 := HOK.out
      have h2 := HROW.out
      rw [HE.out] at h1 h2
      exact ⟨_, by rw [h1]; rfl, by rw [h1, if_pos rfl]; exact h2, hbl⟩
end Go.Proofs.YtfeeolfekfkdiaaDoor
