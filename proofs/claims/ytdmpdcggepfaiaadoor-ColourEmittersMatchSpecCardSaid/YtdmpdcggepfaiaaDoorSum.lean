/- Emitters of the program: sum. -/
import Derived.Test.YtdmpdcggepfaiaaDoorEm
import Derived.Test.YtdmpdcggepfaiaaDoorComp
import Derived.Shelf.SlSortCmp.QuietGrown
namespace Go.Proofs.YtdmpdcggepfaiaaDoor
open Go.RowKit Go.Sort

/-- The first k of a row, added. -/
def sumN (a : Nat → Int) : Nat → Int
  | 0 => 0
  | k + 1 => sumN a k + a k
theorem sumN_congr {a c : Nat → Int} : ∀ (k : Nat), (∀ i, i < k → a i = c i) → sumN a k = sumN c k
  | 0, _ => rfl
  | k + 1, h => by
    show sumN a k + a k = sumN c k + c k
    rw [sumN_congr k (fun i hi => h i (by omega)), h k (by omega)]
theorem sumN_bd {a : Nat → Int} : ∀ (k : Nat), (∀ i, i < k → 0 ≤ a i ∧ a i ≤ 4294836225) → 0 ≤ sumN a k ∧ sumN a k ≤ 4294836225 * k
  | 0, _ => by show (0 : Int) ≤ 0 ∧ (0 : Int) ≤ 4294836225 * ((0 : Nat) : Int); omega
  | k + 1, h => by
    have h1 := sumN_bd k (fun i hi => h i (by omega))
    have h2 := h k (by omega)
    show 0 ≤ sumN a k + a k ∧ sumN a k + a k ≤ _
    omega
theorem lev_mul {x y : Int} (h1 : 0 ≤ x ∧ x ≤ 65535) (h2 : 0 ≤ y ∧ y ≤ 65535) : 0 ≤ x * y ∧ x * y ≤ 4294836225 :=
  ⟨Int.mul_nonneg h1.1 h2.1, by have := Int.mul_le_mul h1.2 h2.2 h2.1 (by omega); omega⟩
/-- Emitters whose colours are levels. -/
def EmsLv (L : List Em) : Prop := ∀ e ∈ L, (0 ≤ e.r ∧ e.r ≤ 65535) ∧ (0 ≤ e.g ∧ e.g ≤ 65535) ∧ (0 ≤ e.b ∧ e.b ≤ 65535)
theorem EmsAt.gr {w w' : World} {b off : Nat} {L : List Em} (h : EmsAt w b off L) (g : Gr w w') : EmsAt w' b off L := h.bl g.bl
/-- What emitter i has of a component. -/
def emC (f : Em → Int) (L : List Em) (i : Nat) : Int := (L[i]?.map f).getD 0
theorem emC_at (f : Em → Int) (L : List Em) (i : Nat) (h : i < L.length) : emC f L i = f L[i] := by unfold emC; rw [List.getElem?_eq_getElem h]; rfl

set_option maxRecDepth 100000 in
set_option maxHeartbeats 3200000 in
theorem sum_red (b off cap bl offl capl : Nat) (L : List Em) (ls : Nat → Int) (w : World) (h0 : 0 < L.length) (h12 : L.length ≤ 12) (hL : EmsAt w b off L) (hv : EmsLv L)
    (hl : ∀ i, i < L.length → w.cell? ⟨bl, offl + i, none⟩ = some (.int .i64 (ls i))) (hlv : ∀ i, i < L.length → 0 ≤ ls i ∧ ls i ≤ 65535) :
    Calls Tryd.prog 63 #[.slice (some ⟨b, off, none⟩) L.length cap, .slice (some ⟨bl, offl, none⟩) L.length capl, .func (.func 119) #[] #[]] w fun e w' => e = .returned (.int .i64 (sumN (fun i => emC Em.r L i * ls i) L.length)) ∧ Gr w w' := by
  have HL := Lib.hid hL
  have HV := Lib.hid hv
  have HLS := Lib.hid hl
  have HLV := Lib.hid hlv
  have HB : Hid (∀ i, i < L.length → 0 ≤ emC Em.r L i * ls i ∧ emC Em.r L i * ls i ≤ 4294836225) := fun i hi => by
    rw [emC_at _ _ _ hi]
    exact lev_mul (hv L[i] (List.getElem_mem hi)).1 (hlv i hi)
  have mixed : Tryd.prog.follows .mixedOrders = true := by kernel_rfl
  clear hL hv hl hlv
  go_enter Tryd.func63, Tryd.ntmps63
  go_wp2
  go_loopw [7, 12] (fun t i wr => ∃ k : Nat, k ≤ L.length ∧ i = .int .i64 k ∧ t = .int .i64 (sumN (fun i => emC Em.r L i * ls i) k) ∧ Gr w wr) (fun _ i _ => L.length - (intOf i).toNat)
  case atStart => exact ⟨0, Nat.zero_le _, rfl, rfl, Gr.refl w⟩
  case round =>
    obtain ⟨k, hk, rfl, rfl, hg⟩ := hrel
    by_cases hlt : k < L.length
    · obtain ⟨c0, c1, c2, c3⟩ := (HL.out.gr hg) k hlt
      have hcl := hg.cell (HLS.out k hlt)
      have hbd := HB.out k hlt
      have hsb := sumN_bd k (fun i hi => HB.out i (by omega))
      have hem := Lib.hid (emC_at Em.r L k hlt)
      have hnext : Hid (sumN (fun i => emC Em.r L i * ls i) (k + 1) = sumN (fun i => emC Em.r L i * ls i) k + emC Em.r L k * ls k) := rfl
      rw [hem.out] at hbd hnext
      obtain ⟨e, he⟩ : ∃ e, e = L[k] := ⟨_, rfl⟩
      rw [← he] at c0 c1 c2 c3 hbd hnext
      clear he hem
      generalize sumN (fun i => emC Em.r L i * ls i) k = S at *
      generalize ls k = lk at *
      have w0 : IntKind.i64.wrap (e.r * lk) = e.r * lk := IntWalk.i64_in _ (by omega)
      have w1 : IntKind.i64.wrap (S + e.r * lk) = S + e.r * lk := IntWalk.i64_in _ (by omega)
      have hz : wr.heap.size < (wr.alloc (.cells #[.string e.name, .int .i64 e.r, .int .i64 e.g, .int .i64 e.b] 55)).heap.size := by simp
      obtain ⟨n0, n1, n2, n3⟩ := Cel4.new wr 55 e
      have G1 := cell_grown (World.block_lt_of_cell? _ _ n1) n1
      have G2 := cell_grown (World.block_lt_of_cell? _ _ n2) n2
      have G3 := cell_grown (World.block_lt_of_cell? _ _ n3) n3
      have hcl2 := ((Gr.refl wr).alloc (.cells #[.string e.name, .int .i64 e.r, .int .i64 e.g, .int .i64 e.b] 55)).cell hcl
      have G4 := cell_grown (World.block_lt_of_cell? _ _ hcl2) hcl2
      have HR := Lib.hid (fun w => red_any e.r e.g e.b w)
      clear n0 n1 n2 n3 hcl2 hbd hsb
      go_wp2_with fail
      go_quiet_grown ((go_at_call 119; exact grown_of (HR.out _)))
      go_wp2_with fail
      go_roundw
      case rel => exact ⟨k + 1, by omega, by go_num, by rw [hnext.out], ((hg.alloc _).drewN _).grown _⟩
      case measure => simp [intOf]; omega
    · obtain rfl : k = L.length := by omega
      go_wp2
      go_ret
      exact ⟨rfl, hg⟩

set_option maxRecDepth 100000 in
set_option maxHeartbeats 3200000 in
theorem sum_green (b off cap bl offl capl : Nat) (L : List Em) (ls : Nat → Int) (w : World) (h0 : 0 < L.length) (h12 : L.length ≤ 12) (hL : EmsAt w b off L) (hv : EmsLv L)
    (hl : ∀ i, i < L.length → w.cell? ⟨bl, offl + i, none⟩ = some (.int .i64 (ls i))) (hlv : ∀ i, i < L.length → 0 ≤ ls i ∧ ls i ≤ 65535) :
    Calls Tryd.prog 63 #[.slice (some ⟨b, off, none⟩) L.length cap, .slice (some ⟨bl, offl, none⟩) L.length capl, .func (.func 120) #[] #[]] w fun e w' => e = .returned (.int .i64 (sumN (fun i => emC Em.g L i * ls i) L.length)) ∧ Gr w w' := by
  have HL := Lib.hid hL
  have HV := Lib.hid hv
  have HLS := Lib.hid hl
  have HLV := Lib.hid hlv
  have HB : Hid (∀ i, i < L.length → 0 ≤ emC Em.g L i * ls i ∧ emC Em.g L i * ls i ≤ 4294836225) := fun i hi => by
    rw [emC_at _ _ _ hi]
    exact lev_mul (hv L[i] (List.getElem_mem hi)).2.1 (hlv i hi)
  have mixed : Tryd.prog.follows .mixedOrders = true := by kernel_rfl
  clear hL hv hl hlv
  go_enter Tryd.func63, Tryd.ntmps63
  go_wp2
  go_loopw [7, 12] (fun t i wr => ∃ k : Nat, k ≤ L.length ∧ i = .int .i64 k ∧ t = .int .i64 (sumN (fun i => emC Em.g L i * ls i) k) ∧ Gr w wr) (fun _ i _ => L.length - (intOf i).toNat)
  case atStart => exact ⟨0, Nat.zero_le _, rfl, rfl, Gr.refl w⟩
  case round =>
    obtain ⟨k, hk, rfl, rfl, hg⟩ := hrel
    by_cases hlt : k < L.length
    · obtain ⟨c0, c1, c2, c3⟩ := (HL.out.gr hg) k hlt
      have hcl := hg.cell (HLS.out k hlt)
      have hbd := HB.out k hlt
      have hsb := sumN_bd k (fun i hi => HB.out i (by omega))
      have hem := Lib.hid (emC_at Em.g L k hlt)
      have hnext : Hid (sumN (fun i => emC Em.g L i * ls i) (k + 1) = sumN (fun i => emC Em.g L i * ls i) k + emC Em.g L k * ls k) := rfl
      rw [hem.out] at hbd hnext
      obtain ⟨e, he⟩ : ∃ e, e = L[k] := ⟨_, rfl⟩
      rw [← he] at c0 c1 c2 c3 hbd hnext
      clear he hem
      generalize sumN (fun i => emC Em.g L i * ls i) k = S at *
      generalize ls k = lk at *
      have w0 : IntKind.i64.wrap (e.g * lk) = e.g * lk := IntWalk.i64_in _ (by omega)
      have w1 : IntKind.i64.wrap (S + e.g * lk) = S + e.g * lk := IntWalk.i64_in _ (by omega)
      have hz : wr.heap.size < (wr.alloc (.cells #[.string e.name, .int .i64 e.r, .int .i64 e.g, .int .i64 e.b] 55)).heap.size := by simp
      obtain ⟨n0, n1, n2, n3⟩ := Cel4.new wr 55 e
      have G1 := cell_grown (World.block_lt_of_cell? _ _ n1) n1
      have G2 := cell_grown (World.block_lt_of_cell? _ _ n2) n2
      have G3 := cell_grown (World.block_lt_of_cell? _ _ n3) n3
      have hcl2 := ((Gr.refl wr).alloc (.cells #[.string e.name, .int .i64 e.r, .int .i64 e.g, .int .i64 e.b] 55)).cell hcl
      have G4 := cell_grown (World.block_lt_of_cell? _ _ hcl2) hcl2
      have HR := Lib.hid (fun w => green_any e.r e.g e.b w)
      clear n0 n1 n2 n3 hcl2 hbd hsb
      go_wp2_with fail
      go_quiet_grown ((go_at_call 120; exact grown_of (HR.out _)))
      go_wp2_with fail
      go_roundw
      case rel => exact ⟨k + 1, by omega, by go_num, by rw [hnext.out], ((hg.alloc _).drewN _).grown _⟩
      case measure => simp [intOf]; omega
    · obtain rfl : k = L.length := by omega
      go_wp2
      go_ret
      exact ⟨rfl, hg⟩

set_option maxRecDepth 100000 in
set_option maxHeartbeats 3200000 in
theorem sum_blue (b off cap bl offl capl : Nat) (L : List Em) (ls : Nat → Int) (w : World) (h0 : 0 < L.length) (h12 : L.length ≤ 12) (hL : EmsAt w b off L) (hv : EmsLv L)
    (hl : ∀ i, i < L.length → w.cell? ⟨bl, offl + i, none⟩ = some (.int .i64 (ls i))) (hlv : ∀ i, i < L.length → 0 ≤ ls i ∧ ls i ≤ 65535) :
    Calls Tryd.prog 63 #[.slice (some ⟨b, off, none⟩) L.length cap, .slice (some ⟨bl, offl, none⟩) L.length capl, .func (.func 121) #[] #[]] w fun e w' => e = .returned (.int .i64 (sumN (fun i => emC Em.b L i * ls i) L.length)) ∧ Gr w w' := by
  have HL := Lib.hid hL
  have HV := Lib.hid hv
  have HLS := Lib.hid hl
  have HLV := Lib.hid hlv
  have HB : Hid (∀ i, i < L.length → 0 ≤ emC Em.b L i * ls i ∧ emC Em.b L i * ls i ≤ 4294836225) := fun i hi => by
    rw [emC_at _ _ _ hi]
    exact lev_mul (hv L[i] (List.getElem_mem hi)).2.2 (hlv i hi)
  have mixed : Tryd.prog.follows .mixedOrders = true := by kernel_rfl
  clear hL hv hl hlv
  go_enter Tryd.func63, Tryd.ntmps63
  go_wp2
  go_loopw [7, 12] (fun t i wr => ∃ k : Nat, k ≤ L.length ∧ i = .int .i64 k ∧ t = .int .i64 (sumN (fun i => emC Em.b L i * ls i) k) ∧ Gr w wr) (fun _ i _ => L.length - (intOf i).toNat)
  case atStart => exact ⟨0, Nat.zero_le _, rfl, rfl, Gr.refl w⟩
  case round =>
    obtain ⟨k, hk, rfl, rfl, hg⟩ := hrel
    by_cases hlt : k < L.length
    · obtain ⟨c0, c1, c2, c3⟩ := (HL.out.gr hg) k hlt
      have hcl := hg.cell (HLS.out k hlt)
      have hbd := HB.out k hlt
      have hsb := sumN_bd k (fun i hi => HB.out i (by omega))
      have hem := Lib.hid (emC_at Em.b L k hlt)
      have hnext : Hid (sumN (fun i => emC Em.b L i * ls i) (k + 1) = sumN (fun i => emC Em.b L i * ls i) k + emC Em.b L k * ls k) := rfl
      rw [hem.out] at hbd hnext
      obtain ⟨e, he⟩ : ∃ e, e = L[k] := ⟨_, rfl⟩
      rw [← he] at c0 c1 c2 c3 hbd hnext
      clear he hem
      generalize sumN (fun i => emC Em.b L i * ls i) k = S at *
      generalize ls k = lk at *
      have w0 : IntKind.i64.wrap (e.b * lk) = e.b * lk := IntWalk.i64_in _ (by omega)
      have w1 : IntKind.i64.wrap (S + e.b * lk) = S + e.b * lk := IntWalk.i64_in _ (by omega)
      have hz : wr.heap.size < (wr.alloc (.cells #[.string e.name, .int .i64 e.r, .int .i64 e.g, .int .i64 e.b] 55)).heap.size := by simp
      obtain ⟨n0, n1, n2, n3⟩ := Cel4.new wr 55 e
      have G1 := cell_grown (World.block_lt_of_cell? _ _ n1) n1
      have G2 := cell_grown (World.block_lt_of_cell? _ _ n2) n2
      have G3 := cell_grown (World.block_lt_of_cell? _ _ n3) n3
      have hcl2 := ((Gr.refl wr).alloc (.cells #[.string e.name, .int .i64 e.r, .int .i64 e.g, .int .i64 e.b] 55)).cell hcl
      have G4 := cell_grown (World.block_lt_of_cell? _ _ hcl2) hcl2
      have HR := Lib.hid (fun w => blue_any e.r e.g e.b w)
      clear n0 n1 n2 n3 hcl2 hbd hsb
      go_wp2_with fail
      go_quiet_grown ((go_at_call 121; exact grown_of (HR.out _)))
      go_wp2_with fail
      go_roundw
      case rel => exact ⟨k + 1, by omega, by go_num, by rw [hnext.out], ((hg.alloc _).drewN _).grown _⟩
      case measure => simp [intOf]; omega
    · obtain rfl : k = L.length := by omega
      go_wp2
      go_ret
      exact ⟨rfl, hg⟩
end Go.Proofs.YtdmpdcggepfaiaaDoor
