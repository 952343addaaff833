/- What emitters give. -/
import Derived.Test.YtdmpdcggepfaiaaDoorDriveP
namespace Go.Proofs.YtdmpdcggepfaiaaDoor
open Go.RowKit Go.Sort

/-- What emitters give of a component. -/
def gvC (f : Em → Int) (L : List Em) (ls : Nat → Int) : Int := min (rdv (sumN (fun i => emC f L i * ls i) L.length) 65535) 65535

set_option maxRecDepth 100000 in
set_option maxHeartbeats 3200000 in
theorem given_red (b off cap bl offl capl bs bv : Nat) (L : List Em) (ls : Nat → Int) (w : World) (h0 : 0 < L.length) (h12 : L.length ≤ 12) (hL : EmsAt w b off L) (hv : EmsLv L)
    (hl : ∀ i, i < L.length → w.cell? ⟨bl, offl + i, none⟩ = some (.int .i64 (ls i))) (hlv : ∀ i, i < L.length → 0 ≤ ls i ∧ ls i ≤ 65535)
    (d0 : w.cell? ⟨bs, 0, none⟩ = some (.slice (some ⟨b, off, none⟩) L.length cap)) (e0 : w.cell? ⟨bv, 0, none⟩ = some (.slice (some ⟨bl, offl, none⟩) L.length capl)) :
    Calls Tryd.prog 88 #[.func (.func 119) #[] #[], .pointer (some ⟨bs, 0, none⟩), .pointer (some ⟨bv, 0, none⟩)] w fun e w' => e = .returned (.int .i64 (gvC Em.r L ls)) ∧ Gr w w' := by
  have HS := Lib.hid (sum_red b off cap bl offl capl L ls w h0 h12 hL hv hl hlv)
  have hb := sumN_bd L.length (a := fun i => emC Em.r L i * ls i) (fun i hi => by
    rw [emC_at _ _ _ hi]
    exact lev_mul (hv L[i] (List.getElem_mem hi)).1 (hlv i hi))
  have eg : Hid (gvC Em.r L ls = min (rdv (sumN (fun i => emC Em.r L i * ls i) L.length) 65535) 65535) := rfl
  clear hL hv hl hlv
  generalize sumN (fun i => emC Em.r L i * ls i) L.length = S at *
  obtain ⟨hb0, hb1⟩ := hb
  have hb2 : S ≤ 51538034700 := by omega
  have HR := Lib.hid (fun w => rounded_any S 65535 w hb0 (by omega) (by omega) (by omega))
  have hmin := fun w ts t => run_mn2 ts t (rdv S 65535) 65535 w
  clear hb1
  go_enter Tryd.func88, Tryd.ntmps88
  go_wp2_with (first | (go_at_call 63; refine HS.out.mono ?_; rintro e' w1 ⟨rfl, g1⟩) | (go_at_call 89; refine (HR.out _).mono ?_; rintro e' w2 ⟨rfl, rfl⟩))
  go_returns
  exact ⟨ret_int eg.out.symm, g1⟩

set_option maxRecDepth 100000 in
set_option maxHeartbeats 3200000 in
theorem given_green (b off cap bl offl capl bs bv : Nat) (L : List Em) (ls : Nat → Int) (w : World) (h0 : 0 < L.length) (h12 : L.length ≤ 12) (hL : EmsAt w b off L) (hv : EmsLv L)
    (hl : ∀ i, i < L.length → w.cell? ⟨bl, offl + i, none⟩ = some (.int .i64 (ls i))) (hlv : ∀ i, i < L.length → 0 ≤ ls i ∧ ls i ≤ 65535)
    (d0 : w.cell? ⟨bs, 0, none⟩ = some (.slice (some ⟨b, off, none⟩) L.length cap)) (e0 : w.cell? ⟨bv, 0, none⟩ = some (.slice (some ⟨bl, offl, none⟩) L.length capl)) :
    Calls Tryd.prog 88 #[.func (.func 120) #[] #[], .pointer (some ⟨bs, 0, none⟩), .pointer (some ⟨bv, 0, none⟩)] w fun e w' => e = .returned (.int .i64 (gvC Em.g L ls)) ∧ Gr w w' := by
  have HS := Lib.hid (sum_green b off cap bl offl capl L ls w h0 h12 hL hv hl hlv)
  have hb := sumN_bd L.length (a := fun i => emC Em.g L i * ls i) (fun i hi => by
    rw [emC_at _ _ _ hi]
    exact lev_mul (hv L[i] (List.getElem_mem hi)).2.1 (hlv i hi))
  have eg : Hid (gvC Em.g L ls = min (rdv (sumN (fun i => emC Em.g L i * ls i) L.length) 65535) 65535) := rfl
  clear hL hv hl hlv
  generalize sumN (fun i => emC Em.g L i * ls i) L.length = S at *
  obtain ⟨hb0, hb1⟩ := hb
  have hb2 : S ≤ 51538034700 := by omega
  have HR := Lib.hid (fun w => rounded_any S 65535 w hb0 (by omega) (by omega) (by omega))
  have hmin := fun w ts t => run_mn2 ts t (rdv S 65535) 65535 w
  clear hb1
  go_enter Tryd.func88, Tryd.ntmps88
  go_wp2_with (first | (go_at_call 63; refine HS.out.mono ?_; rintro e' w1 ⟨rfl, g1⟩) | (go_at_call 89; refine (HR.out _).mono ?_; rintro e' w2 ⟨rfl, rfl⟩))
  go_returns
  exact ⟨ret_int eg.out.symm, g1⟩

set_option maxRecDepth 100000 in
set_option maxHeartbeats 3200000 in
theorem given_blue (b off cap bl offl capl bs bv : Nat) (L : List Em) (ls : Nat → Int) (w : World) (h0 : 0 < L.length) (h12 : L.length ≤ 12) (hL : EmsAt w b off L) (hv : EmsLv L)
    (hl : ∀ i, i < L.length → w.cell? ⟨bl, offl + i, none⟩ = some (.int .i64 (ls i))) (hlv : ∀ i, i < L.length → 0 ≤ ls i ∧ ls i ≤ 65535)
    (d0 : w.cell? ⟨bs, 0, none⟩ = some (.slice (some ⟨b, off, none⟩) L.length cap)) (e0 : w.cell? ⟨bv, 0, none⟩ = some (.slice (some ⟨bl, offl, none⟩) L.length capl)) :
    Calls Tryd.prog 88 #[.func (.func 121) #[] #[], .pointer (some ⟨bs, 0, none⟩), .pointer (some ⟨bv, 0, none⟩)] w fun e w' => e = .returned (.int .i64 (gvC Em.b L ls)) ∧ Gr w w' := by
  have HS := Lib.hid (sum_blue b off cap bl offl capl L ls w h0 h12 hL hv hl hlv)
  have hb := sumN_bd L.length (a := fun i => emC Em.b L i * ls i) (fun i hi => by
    rw [emC_at _ _ _ hi]
    exact lev_mul (hv L[i] (List.getElem_mem hi)).2.2 (hlv i hi))
  have eg : Hid (gvC Em.b L ls = min (rdv (sumN (fun i => emC Em.b L i * ls i) L.length) 65535) 65535) := rfl
  clear hL hv hl hlv
  generalize sumN (fun i => emC Em.b L i * ls i) L.length = S at *
  obtain ⟨hb0, hb1⟩ := hb
  have hb2 : S ≤ 51538034700 := by omega
  have HR := Lib.hid (fun w => rounded_any S 65535 w hb0 (by omega) (by omega) (by omega))
  have hmin := fun w ts t => run_mn2 ts t (rdv S 65535) 65535 w
  clear hb1
  go_enter Tryd.func88, Tryd.ntmps88
  go_wp2_with (first | (go_at_call 63; refine HS.out.mono ?_; rintro e' w1 ⟨rfl, g1⟩) | (go_at_call 89; refine (HR.out _).mono ?_; rintro e' w2 ⟨rfl, rfl⟩))
  go_returns
  exact ⟨ret_int eg.out.symm, g1⟩

set_option maxRecDepth 100000 in
set_option maxHeartbeats 3200000 in
theorem given_any (b off cap bl offl capl : Nat) (L : List Em) (ls : Nat → Int) (w : World) (h0 : 0 < L.length) (h12 : L.length ≤ 12) (hL : EmsAt w b off L) (hv : EmsLv L)
    (hl : ∀ i, i < L.length → w.cell? ⟨bl, offl + i, none⟩ = some (.int .i64 (ls i))) (hlv : ∀ i, i < L.length → 0 ≤ ls i ∧ ls i ≤ 65535) :
    Calls Tryd.prog 57 #[.slice (some ⟨b, off, none⟩) L.length cap, .slice (some ⟨bl, offl, none⟩) L.length capl] w fun e w' => e = .returned (.agg #[.int .i64 (gvC Em.r L ls), .int .i64 (gvC Em.g L ls), .int .i64 (gvC Em.b L ls)]) ∧ Gr w w' := by
  have k0 : Gr w (((w.alloc (.cells #[.slice (some ⟨b, off, none⟩) L.length cap] 46)).alloc (.cells #[.slice (some ⟨bl, offl, none⟩) L.length capl] 47)).alloc (.cells #[.int .i64 0, .int .i64 0, .int .i64 0] 23)) := (((Gr.refl w).alloc _).alloc _).alloc _
  have c0 : (((w.alloc (.cells #[.slice (some ⟨b, off, none⟩) L.length cap] 46)).alloc (.cells #[.slice (some ⟨bl, offl, none⟩) L.length capl] 47)).alloc (.cells #[.int .i64 0, .int .i64 0, .int .i64 0] 23)).cell? ⟨w.heap.size, 0, none⟩ = some (.slice (some ⟨b, off, none⟩) L.length cap) := by go_simp
  have c1 : (((w.alloc (.cells #[.slice (some ⟨b, off, none⟩) L.length cap] 46)).alloc (.cells #[.slice (some ⟨bl, offl, none⟩) L.length capl] 47)).alloc (.cells #[.int .i64 0, .int .i64 0, .int .i64 0] 23)).cell? ⟨w.heap.size + 1, 0, none⟩ = some (.slice (some ⟨bl, offl, none⟩) L.length capl) := by go_simp
  have HB := Lib.hid (build_any 88 #[.pointer (some ⟨w.heap.size, 0, none⟩), .pointer (some ⟨w.heap.size + 1, 0, none⟩)] (gvC Em.r L ls) (gvC Em.g L ls) (gvC Em.b L ls) _
    (enters_of Tryd.func88 (by kernel_rfl) rfl)
    (fun w1 m => given_red b off cap bl offl capl _ _ L ls w1 h0 h12 (hL.gr (k0.trans m)) hv (fun i hi => (k0.trans m).cell (hl i hi)) hlv (m.cell c0) (m.cell c1))
    (fun w1 m => given_green b off cap bl offl capl _ _ L ls w1 h0 h12 (hL.gr (k0.trans m)) hv (fun i hi => (k0.trans m).cell (hl i hi)) hlv (m.cell c0) (m.cell c1))
    (fun w1 m => given_blue b off cap bl offl capl _ _ L ls w1 h0 h12 (hL.gr (k0.trans m)) hv (fun i hi => (k0.trans m).cell (hl i hi)) hlv (m.cell c0) (m.cell c1)))
  clear hL hv hl hlv c0 c1
  generalize gvC Em.r L ls = A at *
  generalize gvC Em.g L ls = B at *
  generalize gvC Em.b L ls = C at *
  go_enter Tryd.func57, Tryd.ntmps57
  go_wp2_with fail
  refine HB.out.mono ?_
  rintro e' w1 ⟨rfl, k1⟩
  obtain ⟨⟨j0, j1, j2⟩, f0, f1, f2⟩ := own3g (n := w.heap.size + 1 + 1) (by simp) k1
  go_wp2_with fail
  refine bodyPost_ret (v := .agg #[.int .i64 A, .int .i64 B, .int .i64 C]) ?_ rfl ⟨rfl, ?_⟩
  · simp [results, Tryd.results57, go_sem, j0, j1, j2]
  · exact set3g (by omega) (k0.trans k1) _ _ _
end Go.Proofs.YtdmpdcggepfaiaaDoor
