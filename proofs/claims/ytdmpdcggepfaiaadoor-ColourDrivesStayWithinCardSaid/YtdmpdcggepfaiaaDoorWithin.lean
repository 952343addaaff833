/- ColourDrivesStayWithin is proved. -/
import Derived.Test.YtdmpdcggepfaiaaDoorWithM
import Derived.Test.YtdmpdcggepfaiaaDoorOpenE
namespace Go.Proofs.YtdmpdcggepfaiaaDoor.within
open Go.ChangeShapes Go.WideShapes Go.ChangeAt Go.RowKit Go.Sort

set_option maxRecDepth 100000 in
set_option maxHeartbeats 3200000 in
theorem walk_err (v : Value) (L : List Em) (r g bb X : Int) (w : World) (hv : EmVal w v L) (hX : X ≠ 0)
    (hD : ∀ w', Bl w w' → Calls Tryd.prog 26 #[v, .agg #[.int .i64 r, .int .i64 g, .int .i64 bb]] w' fun e w'' => e = .returned (.tuple #[.slice none 0 0, .agg #[.int .i64 0, .int .i64 0, .int .i64 0], .int .i64 X]) ∧ Bl w' w'') :
    Calls Tryd.prog 9 #[v, .agg #[.int .i64 r, .int .i64 g, .int .i64 bb]] w fun e w' => e = .returned (.bool true) ∧ Bl w w' := by
  have HD := Lib.hid hD
  have t1 : (X != 0) = true := by simpa using hX
  have hW : Bl w (w.alloc (.cells #[.int .i64 r, .int .i64 g, .int .i64 bb] 23)) := (Bl.refl w).alloc _
  obtain ⟨o, cap, rfl, _, _⟩ := hv
  clear hD hX
  go_enter Tryd.func9, Tryd.ntmps9
  go_wp2_with fail
  refine (HD.out _ hW).mono ?_
  rintro e w1 ⟨rfl, m1⟩
  go_wp2_with fail
  go_returns
  exact ⟨rfl, (hW.trans m1).alloc _⟩

set_option maxRecDepth 100000 in
set_option maxHeartbeats 6400000 in
theorem walk_ok (b off cap : Nat) (L : List Em) (r g bb : Int) (w : World) (hL : EmsAt w b off L) (hok : EmsOk L) (hck : ckAll L = 0) (hcol : isCol r g bb = true) :
    Calls Tryd.prog 9 #[.slice (some ⟨b, off, none⟩) L.length cap, .agg #[.int .i64 r, .int .i64 g, .int .i64 bb]] w fun e w' => e = .returned (.bool true) ∧ Bl w w' := by
  obtain ⟨h0, h12, hlv0⟩ := ckAll_ok hck
  have hlv : EmsLv L := hlv0
  obtain ⟨hr, hg, hb⟩ := isCol_iff.1 hcol
  have HD := Lib.hid (fun w' (m : Bl w w') => drive_ok b off cap L r g bb w' (hL.bl m) hok hck hcol)
  have hwi := within_gv (c := (r, g, bb)) hlv ⟨hr.1, hg.1, hb.1⟩
  have HN := Lib.hid (fun k hk => no_more (c := (r, g, bb)) hlv ⟨hr.1, hg.1, hb.1⟩ k hk)
  have HDL := Lib.hid (fun i => dLev_ok (c := (r, g, bb)) hlv ⟨hr.1, hg.1, hb.1⟩ i)
  have HL := Lib.hid hL
  have HV := Lib.hid hlv
  have hc0 : Hid ((0 ≤ r ∧ r ≤ 65535) ∧ (0 ≤ g ∧ g ≤ 65535) ∧ (0 ≤ bb ∧ bb ≤ 65535)) := ⟨hr, hg, hb⟩
  obtain ⟨q0, q1, q2⟩ := hwi
  simp only at q0 q1 q2 HN
  generalize gvC Em.r L (dLev (r, g, bb) L) = A at HD q0
  generalize gvC Em.g L (dLev (r, g, bb) L) = B at HD q1
  generalize gvC Em.b L (dLev (r, g, bb) L) = C at HD q2
  generalize dLev (r, g, bb) L = ls at *
  clear hL hlv hlv0 hcol hck hr hg hb hok
  have mixed : Tryd.prog.follows .mixedOrders = true := by kernel_rfl
  have hW : Bl w (w.alloc (.cells #[.int .i64 r, .int .i64 g, .int .i64 bb] 23)) := (Bl.refl w).alloc _
  go_enter Tryd.func9, Tryd.ntmps9
  go_wp2_with fail
  refine (HD.out _ hW).mono ?_
  rintro e w1 ⟨gl, rfl, hls, m1⟩
  have a : Cel3 w1 w.heap.size r g bb := (own3b (n := w.heap.size) (by simp) m1).1
  have HLS := Lib.hid hls
  have HA := Lib.hid a
  obtain ⟨a0, a1, a2⟩ := a
  have hs : w.heap.size < w1.heap.size := World.block_lt_of_cell? _ _ a0
  have hB := Lib.hid (hW.trans m1)
  clear hls m1 hW
  go_wp2_with fail
  go_loopw [8, 9, 10, 56] (fun x y z i wr => ∃ k : Nat, k ≤ L.length ∧ i = .int .i64 k ∧ x = .int .i64 (sumN (fun i => emC Em.r L i * ls i) k) ∧ y = .int .i64 (sumN (fun i => emC Em.g L i * ls i) k) ∧ z = .int .i64 (sumN (fun i => emC Em.b L i * ls i) k) ∧ Gr w1 wr) (fun _ _ _ i _ => L.length - (intOf i).toNat)
  case atStart => exact ⟨0, Nat.zero_le _, rfl, rfl, rfl, rfl, (Gr.refl w1).alloc _⟩
  case round =>
    obtain ⟨k, hk, rfl, rfl, rfl, rfl, hg⟩ := hrel
    by_cases hlt : k < L.length
    · obtain ⟨c0, c1, c2, c3⟩ := (HL.out.bl (hB.out.trans hg.bl)) k hlt
      have hcl := hg.cell (HLS.out k hlt)
      have hsb := fun (f : Em → Int) (hf : ∀ i, i < L.length → 0 ≤ emC f L i * ls i ∧ emC f L i * ls i ≤ 4294836225) => sumN_bd (a := fun i => emC f L i * ls i) k (fun i hi => hf i (by omega))
      have hr : ∀ i, i < L.length → 0 ≤ emC Em.r L i * ls i ∧ emC Em.r L i * ls i ≤ 4294836225 := fun i hi => by rw [emC_at _ _ _ hi]; exact lev_mul (HV.out L[i] (List.getElem_mem hi)).1 (HDL.out i)
      have hgr : ∀ i, i < L.length → 0 ≤ emC Em.g L i * ls i ∧ emC Em.g L i * ls i ≤ 4294836225 := fun i hi => by rw [emC_at _ _ _ hi]; exact lev_mul (HV.out L[i] (List.getElem_mem hi)).2.1 (HDL.out i)
      have hbl : ∀ i, i < L.length → 0 ≤ emC Em.b L i * ls i ∧ emC Em.b L i * ls i ≤ 4294836225 := fun i hi => by rw [emC_at _ _ _ hi]; exact lev_mul (HV.out L[i] (List.getElem_mem hi)).2.2 (HDL.out i)
      have s1 := hsb _ hr
      have s2 := hsb _ hgr
      have s3 := hsb _ hbl
      have p1 := hr k hlt
      have p2 := hgr k hlt
      have p3 := hbl k hlt
      have hem : ∀ f : Em → Int, emC f L k = f L[k] := fun f => emC_at f L k hlt
      have hnext : Hid (∀ f : Em → Int, sumN (fun i => emC f L i * ls i) (k + 1) = sumN (fun i => emC f L i * ls i) k + f L[k] * ls k) := fun f => by rw [← hem f]; rfl
      rw [hem] at p1 p2 p3
      obtain ⟨e, he⟩ : ∃ e, e = L[k] := ⟨_, rfl⟩
      rw [← he] at c0 c1 c2 c3 hnext p1 p2 p3
      clear he hem hsb hr hgr hbl
      obtain ⟨S1, hS1⟩ : ∃ S, S = sumN (fun i => emC Em.r L i * ls i) k := ⟨_, rfl⟩
      obtain ⟨S2, hS2⟩ : ∃ S, S = sumN (fun i => emC Em.g L i * ls i) k := ⟨_, rfl⟩
      obtain ⟨S3, hS3⟩ : ∃ S, S = sumN (fun i => emC Em.b L i * ls i) k := ⟨_, rfl⟩
      have hn1 : Hid (sumN (fun i => emC Em.r L i * ls i) (k + 1) = S1 + e.r * ls k) := by show _ = _; rw [hnext.out, hS1]
      have hn2 : Hid (sumN (fun i => emC Em.g L i * ls i) (k + 1) = S2 + e.g * ls k) := by show _ = _; rw [hnext.out, hS2]
      have hn3 : Hid (sumN (fun i => emC Em.b L i * ls i) (k + 1) = S3 + e.b * ls k) := by show _ = _; rw [hnext.out, hS3]
      rw [← hS1, ← hS2, ← hS3]
      rw [← hS1] at s1
      rw [← hS2] at s2
      rw [← hS3] at s3
      clear hnext hS1 hS2 hS3
      have HLK := Lib.hid (HLS.out k hlt)
      obtain ⟨lk, hlk⟩ : ∃ x, x = ls k := ⟨_, rfl⟩
      rw [← hlk] at hn1 hn2 hn3 hcl p1 p2 p3
      clear hlk HLK
      have w0 : IntKind.i64.wrap (e.r * lk) = e.r * lk := IntWalk.i64_in _ (by omega)
      have w2 : IntKind.i64.wrap (e.g * lk) = e.g * lk := IntWalk.i64_in _ (by omega)
      have w3 : IntKind.i64.wrap (e.b * lk) = e.b * lk := IntWalk.i64_in _ (by omega)
      have w4 : IntKind.i64.wrap (S1 + e.r * lk) = S1 + e.r * lk := IntWalk.i64_in _ (by omega)
      have w5 : IntKind.i64.wrap (S2 + e.g * lk) = S2 + e.g * lk := IntWalk.i64_in _ (by omega)
      have w6 : IntKind.i64.wrap (S3 + e.b * lk) = S3 + e.b * lk := IntWalk.i64_in _ (by omega)
      have hz : gl < wr.heap.size := World.block_lt_of_cell? _ _ hcl
      clear p1 p2 p3 s1 s2 s3
      go_wp2_with fail
      go_quiet (fail)
      go_wp2_with fail
      go_roundw
      case rel => exact ⟨k + 1, by omega, by go_num, by rw [hn1.out], by rw [hn2.out], by rw [hn3.out], (hg.alloc _).trans ((Gr.refl _).drewN _)⟩
      case measure => simp [intOf]; omega
    · obtain rfl : k = L.length := by omega
      have hsb := fun (f : Em → Int) (hf : ∀ i, i < L.length → 0 ≤ emC f L i * ls i ∧ emC f L i * ls i ≤ 4294836225) => sumN_bd (a := fun i => emC f L i * ls i) L.length (fun i hi => hf i (by omega))
      have s1 := hsb Em.r (fun i hi => by rw [emC_at _ _ _ hi]; exact lev_mul (HV.out L[i] (List.getElem_mem hi)).1 (HDL.out i))
      have s2 := hsb Em.g (fun i hi => by rw [emC_at _ _ _ hi]; exact lev_mul (HV.out L[i] (List.getElem_mem hi)).2.1 (HDL.out i))
      have s3 := hsb Em.b (fun i hi => by rw [emC_at _ _ _ hi]; exact lev_mul (HV.out L[i] (List.getElem_mem hi)).2.2 (HDL.out i))
      clear hsb
      generalize sumN (fun i => emC Em.r L i * ls i) L.length = S1 at *
      generalize sumN (fun i => emC Em.g L i * ls i) L.length = S2 at *
      generalize sumN (fun i => emC Em.b L i * ls i) L.length = S3 at *
      have hs1 : Hid ((0 ≤ S1 ∧ S1 ≤ 51538034700) ∧ (0 ≤ S2 ∧ S2 ≤ 51538034700) ∧ (0 ≤ S3 ∧ S3 ≤ 51538034700)) := by
        refine ⟨⟨s1.1, ?_⟩, ⟨s2.1, ?_⟩, ⟨s3.1, ?_⟩⟩ <;> omega
      have HG := Lib.hid hg
      clear s1 s2 s3 hlt hk hg a0 a1 a2
      go_wp2_with fail
      go_loopw [94] (fun i wq => ∃ k : Nat, k ≤ L.length ∧ i = .int .i64 k ∧ Gr w1 wq) (fun i _ => L.length - (intOf i).toNat)
      case atStart => exact ⟨0, Nat.zero_le _, rfl, HG.out⟩
      case round =>
        obtain ⟨k, hk, rfl, hg⟩ := hrel
        by_cases hlt : k < L.length
        · obtain ⟨c0, c1, c2, c3⟩ := (HL.out.bl (hB.out.trans hg.bl)) k hlt
          have hcl := hg.cell (HLS.out k hlt)
          obtain ⟨a0, a1, a2⟩ := HA.out.gr hg
          have hev := HV.out L[k] (List.getElem_mem hlt)
          have hn := HN.out k hlt
          obtain ⟨e, he⟩ : ∃ e, e = L[k] := ⟨_, rfl⟩
          rw [← he] at c0 c1 c2 c3 hn hev
          clear he
          obtain ⟨lk, hlk⟩ : ∃ x, x = ls k := ⟨_, rfl⟩
          rw [← hlk] at hcl hn
          clear hlk
          have hh := hs1.out
          have hc := hc0.out
          have w0 : IntKind.i64.wrap (r * 65535) = r * 65535 := IntWalk.i64_in _ (by omega)
          have w2 : IntKind.i64.wrap (g * 65535) = g * 65535 := IntWalk.i64_in _ (by omega)
          have w3 : IntKind.i64.wrap (bb * 65535) = bb * 65535 := IntWalk.i64_in _ (by omega)
          have w4 : IntKind.i64.wrap (S1 + e.r) = S1 + e.r := IntWalk.i64_in _ (by omega)
          have w5 : IntKind.i64.wrap (S2 + e.g) = S2 + e.g := IntWalk.i64_in _ (by omega)
          have w6 : IntKind.i64.wrap (S3 + e.b) = S3 + e.b := IntWalk.i64_in _ (by omega)
          have hz : gl < wr.heap.size := World.block_lt_of_cell? _ _ hcl
          have hz2 : w.heap.size < wr.heap.size := World.block_lt_of_cell? _ _ a0
          have hq : ¬ lk < 65535 ∨ (lk < 65535 ∧ ¬ S1 + e.r ≤ r * 65535) ∨ (lk < 65535 ∧ S1 + e.r ≤ r * 65535 ∧ ¬ S2 + e.g ≤ g * 65535) ∨ (lk < 65535 ∧ S1 + e.r ≤ r * 65535 ∧ S2 + e.g ≤ g * 65535 ∧ ¬ S3 + e.b ≤ bb * 65535) := by omega
          clear hn hev hh hc
          rcases hq with d0 | ⟨d0, d1⟩ | ⟨d0, d1, d2⟩ | ⟨d0, d1, d2, d3⟩
          all_goals
            go_wp2_with fail
            go_roundw
            case rel => exact ⟨k + 1, by omega, by go_num, by first | (((repeat (first | with_reducible exact Gr.refl _ | with_reducible assumption | with_reducible refine Gr.drew ?_ | with_reducible refine Gr.alloc ?_ _ | with_reducible refine Gr.trans ?_ (by assumption))); done); done) | exact (hg.alloc _).trans ((Gr.refl _).drewN _)⟩
            case measure => simp [intOf]; omega
        · obtain rfl : k = L.length := by omega
          go_wp2_with fail
          go_returns
          exact ⟨rfl, hB.out.trans hg.bl⟩
end Go.Proofs.YtdmpdcggepfaiaaDoor.within
