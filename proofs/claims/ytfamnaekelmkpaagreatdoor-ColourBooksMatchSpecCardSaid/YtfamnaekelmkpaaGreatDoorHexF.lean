/- Digits of base 16, written by the library: FormatInt. -/
import Derived.Test.YtfamnaekelmkpaaGreatDoorHexM
import Derived.Test.YtfamnaekelmkpaaGreatDoorGr
import Derived.Test.YtfamnaekelmkpaaGreatDoorBl
import Derived.Test.YtfamnaekelmkpaaGreatDoorRet
import Derived.Lib.ItoaNum
import Derived.Lib.ItoaWalk
import Derived.Laws.BitsLemmas
import Derived.Laws.IdiomStrings
import Derived.Laws.Closers25b
import Derived.WideShapes
namespace Go.Proofs.YtfamnaekelmkpaaGreatDoor
open Go.RowKit Go.Lib Go.Sort

/-- The place of the library's table that counts the zeros of 16. -/
def DbAt (w : World) : Prop := w.cell? ⟨7, 15, none⟩ = some (.int .u8 4)
theorem DbAt.bl {w w' : World} (h : DbAt w) (g : Bl w w') : DbAt w' := g.cell h
theorem two16 (w : World) : Calls Tryz.prog 91 #[.int .i64 16] w fun e w' => e = .returned (.bool true) ∧ w' = w := by
  go_enter Tryz.func91, Tryz.ntmps91
  go_wp2
  go_ret
  exact ⟨rfl, rfl⟩
theorem zeros16 (w : World) (h : DbAt w) : Calls Tryz.prog 114 #[.int .u64 16] w fun e w' => e = .returned (.int .i64 4) ∧ w' = w := by
  unfold DbAt at h
  have e1 : IntKind.u64.wrap (-16) = 18446744073709551600 := by decide
  have e2 : bits .and .u64 16 18446744073709551600 = 16 := by decide +kernel
  have e3 : IntKind.u64.wrap (16 * 285870213051353865) = 4573923408821661840 := by decide
  go_enter Tryz.func114, Tryz.ntmps114
  go_wp2
  go_ret
  exact ⟨rfl, rfl⟩
theorem trail16 (w : World) (h : DbAt w) : Calls Tryz.prog 92 #[.int .u64 16] w fun e w' => e = .returned (.int .i64 4) ∧ w' = w := by
  have H := Lib.hid (zeros16 w h)
  clear h
  go_enter Tryz.func92, Tryz.ntmps92
  go_wp2_with (go_at_call 114; refine H.out.mono ?_; rintro e w1 ⟨rfl, rfl⟩)
  go_ret
  exact ⟨rfl, rfl⟩
theorem and15 (u : Int) (h0 : 0 ≤ u) (h1 : u < 18446744073709551616) : bits .and .u64 u 15 = u % 16 := by
  have := bits_mask .u64 64 (by decide) (fun n h0 h1 => by rw [IntKind.wrap_u64]; omega) 4 (by decide) u h0 (by omega)
  exact this
theorem dig_all : ∀ n : Fin 16, Lib.digits36.data.toList[n.val]? = some (hxd n.val) := by decide +kernel
theorem dig_at (n : Nat) (h : n < 16) : Lib.digits36[n]'(by rw [Lib.digits36_size]; omega) = hxd n := by
  have h1 := dig_all ⟨n, h⟩
  have h2 : n < Lib.digits36.data.toList.length := by rw [← Lib.size_eq, Lib.digits36_size]; omega
  rw [List.getElem?_eq_getElem h2] at h1
  have h3 := Option.some.inj h1
  rw [← h3]
  show Lib.digits36.data[n] = _
  simp
theorem dig36 (T : TypeId) (hT : Tryz.prog.underlying T = some .string) (n : Nat) (h : n < 16) (z : Int) (hz : z = n) (w : World) :
    (Instr.index T (.string Lib.digits36) (.int .u64 z)).run Tryz.prog w = .ok (.int .u8 ((hxd n).toNat : Int)) w := by
  subst hz
  rw [run_index_string w T Lib.digits36 .u64 _ hT, dif_pos ⟨by omega, by rw [Lib.digits36_size]; omega⟩]
  have e : ((n : Int)).toNat = n := by omega
  simp only [e]
  rw [dig_at n h]

/-- The array, as far as it is written: its last cells hold the digits. -/
def Dig (w : World) (B k : Nat) (ds : List UInt8) (wr : World) : Prop :=
  Bl w wr ∧ B < wr.heap.size ∧ (∀ t, wr.frozen? ⟨B, t, none⟩ = false) ∧ (∀ t, t < 65 → ∃ c : Int, wr.cell? ⟨B, t, none⟩ = some (.int .u8 c)) ∧
  ∀ t (h : t < ds.length), wr.cell? ⟨B, k + t, none⟩ = some (.int .u8 (ds[t].toNat : Int))
theorem Dig.set {w wr : World} {k : Nat} {ds : List UInt8} (h : Dig w w.heap.size (k + 1) ds wr) (hk : k + 1 + ds.length = 65) (c : UInt8) (D : World) (hD : D = wr ∨ D = wr.drew) :
    Dig w w.heap.size k (c :: ds) (D.setCell ⟨w.heap.size, k, none⟩ (.int .u8 (c.toNat : Int))) := by
  obtain ⟨h1, h2, h3, h4, h5⟩ := h
  have hd : Bl w D := by rcases hD with rfl | rfl <;> first | exact h1 | exact h1.drew
  have hs : D.heap.size = wr.heap.size := by rcases hD with rfl | rfl <;> rfl
  have hc : ∀ p, D.cell? p = wr.cell? p := by rcases hD with rfl | rfl <;> intro p <;> rfl
  have hf : ∀ p, D.frozen? p = wr.frozen? p := by rcases hD with rfl | rfl <;> intro p <;> rfl
  obtain ⟨c0, hc0⟩ := h4 k (by omega)
  refine ⟨hd.setCell (Nat.le_refl _) _, by rw [World.size_setCell, hs]; exact h2, fun t => by rw [World.frozen?_setCell, hf]; exact h3 t, fun t ht => ?_, fun t ht => ?_⟩
  · by_cases e : t = k
    · subst e; exact ⟨_, World.cell?_setCell_same _ _ _ ((hc _).trans hc0)⟩
    · rw [World.cell?_setCell_other _ _ _ _ (by first | (simp; done) | (simp; exact Ne.symm e)), hc]; exact h4 t ht
  · cases t with
    | zero => exact World.cell?_setCell_same _ _ _ ((hc _).trans hc0)
    | succ t =>
      rw [World.cell?_setCell_other _ _ _ _ (by simp), hc]
      have := h5 t (by simpa using ht)
      rw [show k + (t + 1) = k + 1 + t by omega, List.getElem_cons_succ]
      exact this
theorem hex_len64 {u : Nat} (hu : u < 9223372036854775808) : (hexOf u).length ≤ 16 := hexOf_len (k := 15) (Nat.lt_of_lt_of_le hu (by decide))

theorem zero65 : Tryz.zeroCells118 = Array.replicate 65 (.int .u8 0) := by kernel_rfl
set_option maxRecDepth 100000 in
set_option maxHeartbeats 3200000 in
theorem formatBits16 (u : Nat) (hu : u < 9223372036854775808) (w : World) (h : DbAt w) :
    Calls Tryz.prog 69 #[.slice none 0 0, .int .u64 u, .int .i64 16, .bool false, .bool false] w fun e w' => e = .returned (.tuple #[.slice none 0 0, .string (bs (hexOf u))]) ∧ Bl w w' := by
  have H2 := Lib.hid two16
  have HZ := Lib.hid (fun w' (m : Bl w w') => trail16 w' (h.bl m))
  have hlen := Lib.hid (hex_len64 hu)
  clear h
  go_enter Tryz.func69, Tryz.ntmps69
  go_name_bytes_deep 40 PA hPA
  clear hPA
  go_name_bytes_deep 30 DG hDG
  have eDG : DG = Lib.digits36 := by rw [← hDG]; decide +kernel
  subst eDG
  clear hDG
  go_wp2_with (first
    | (go_at_call 91; refine (H2.out _).mono ?_; rintro e w1 ⟨rfl, rfl⟩)
    | (go_at_call 92; refine (HZ.out _ (by exact (Bl.refl _).alloc _)).mono ?_; rintro e w1 ⟨rfl, rfl⟩))
  clear H2 HZ
  go_loopw [1, 13] (fun vu vi wr => ∃ (v k : Nat) (ds : List UInt8), vu = .int .u64 v ∧ vi = .int .i64 k ∧ v < 9223372036854775808 ∧ k + ds.length = 65 ∧ 50 ≤ k ∧ Hid (hexOf u = hexOf v ++ ds) ∧ Hid (Dig w w.heap.size k ds wr)) (fun vu _ _ => (intOf vu).toNat)
  case atStart =>
    refine ⟨u, 65, [], rfl, rfl, hu, rfl, by omega, (List.append_nil _).symm, (Bl.refl w).alloc _, by simp, fun t => by simp, fun t ht => ⟨0, ?_⟩, fun t ht => absurd ht (by simp)⟩
    rw [World.cell?_alloc_new]
    rw [zero65]
    simp [ht]
  case round =>
    obtain ⟨v, k, ds, rfl, rfl, hv, hk, hk50, HE, HD⟩ := hrel
    rename World => wr
    by_cases h16 : v < 16
    · have iv : (v : Int) < 16 := by omega
      have hX := fun w => dig36 9 Tryz.underlying9 v h16 (v : Int) rfl w
      obtain ⟨k, rfl⟩ : ∃ n, k = n + 1 := ⟨k - 1, by omega⟩
      obtain ⟨c0, hc0⟩ := HD.out.2.2.2.1 k (by omega)
      have hf0 := HD.out.2.2.1 k
      have HD2 := Lib.hid (HD.out.set hk (hxd v) _ (.inr rfl))
      have HD1 := Lib.hid (HD.out.set hk (hxd v) _ (.inl rfl))
      have e : Hid (hexOf u = hxd v :: ds) := by show _ = _; rw [HE.out, hexOf_small h16]; rfl
      have hal : Tryz.prog.arrayLen 118 = 65 := by kernel_rfl
      have hsl : ∀ W, (Instr.sliceAt 118 (.pointer (some ⟨w.heap.size, 0, none⟩)) (some (.int .i64 (k : Int))) none none).run Tryz.prog W = .ok (.slice (some ⟨w.heap.size, k, none⟩) (65 - k) (65 - k)) W := fun W => by
        rw [run_sliceAt_array_l W 118 ⟨w.heap.size, 0, none⟩ (by kernel_rfl) .i64 (k : Int) (by omega) (by rw [hal]; omega)]
        rw [hal]
        go_simp
        omega
      have hcv := Lib.hid (run_convert_bytes_back (P := Tryz.prog) (wr.setCell ⟨w.heap.size, k, none⟩ (.int .u8 ((hxd v).toNat : Int))) 36 9 5 ⟨w.heap.size, k, none⟩ (65 - k) (hxd v :: ds) (by kernel_rfl) (by kernel_rfl) (by kernel_rfl) (fun j hj => by rw [Go.WideShapes.add_plain]; exact HD1.out.2.2.2.2 j hj))
      have hl1 : (hxd v :: ds).length = 65 - k := by rw [List.length_cons]; omega
      rw [hl1] at hcv
      have hcv := hcv.out
      have b1 := HD1.out.1
      clear HE HD h16 hal HD1 HD2 hl1
      generalize ((hxd v).toNat : Int) = x at *
      generalize 65 - k = n at *
      go_wp2
      go_ret2
      exact ⟨by rw [e.out]; rfl, b1⟩
    · have iv : 16 ≤ (v : Int) := by omega
      obtain ⟨z, hz⟩ : ∃ z : Int, z = (v : Int) % 16 := ⟨_, rfl⟩
      have hb := and15 (v : Int) (by omega) (by omega)
      rw [← hz] at hb
      have z0 : 0 ≤ z := by omega
      have hX := fun w => dig36 9 Tryz.underlying9 (v % 16) (Nat.mod_lt _ (by decide)) z (by omega) w
      obtain ⟨q, hq⟩ : ∃ q : Nat, q = v / 16 := ⟨_, rfl⟩
      have hqi : (v : Int) / 16 = (q : Int) := by omega
      have hql : q < v := by omega
      obtain ⟨k, rfl⟩ : ∃ n, k = n + 1 := ⟨k - 1, by omega⟩
      obtain ⟨c0, hc0⟩ := HD.out.2.2.2.1 k (by omega)
      have hf0 := HD.out.2.2.1 k
      have HD2 := Lib.hid (HD.out.set hk (hxd (v % 16)) _ (.inr rfl))
      have HD1 := Lib.hid (HD.out.set hk (hxd (v % 16)) _ (.inl rfl))
      have e : Hid (hexOf u = hexOf q ++ hxd (v % 16) :: ds) := by show _ = _; rw [HE.out, hexOf_more h16, ← hq, List.append_assoc]; rfl
      have hk50 : 50 ≤ k := by
        have h1 := hlen.out
        rw [e.out, List.length_append, List.length_cons] at h1
        have := hexOf_pos q
        omega
      have hql2 : Hid (q < v) := hql
      clear HE HD h16 hz hq hql
      have hlen2 : k + (hxd (v % 16) :: ds).length = 65 := by rw [List.length_cons]; omega
      generalize hd : hxd (v % 16) = d at *
      clear hd
      generalize hx : (d.toNat : Int) = x at *
      go_wp2
      refine ⟨⟨q, k, d :: ds, rfl, rfl, by have := hql2.out; omega, hlen2, hk50, e, HD1⟩, ?_⟩
      have := hql2.out
      simp [intOf]
      omega

set_option maxRecDepth 100000 in
theorem formatInt16 (u : Nat) (hu : u < 9223372036854775808) (w : World) (h : DbAt w) :
    Calls Tryz.prog 46 #[.int .i64 u, .int .i64 16] w fun e w' => e = .returned (.string (bs (hexOf u))) ∧ Bl w w' := by
  have H := Lib.hid (formatBits16 u hu w h)
  have hu' : (u : Int) < 9223372036854775808 := by omega
  clear h hu
  generalize bs (hexOf u) = s at *
  go_enter Tryz.func46, Tryz.ntmps46
  go_wp2_with (go_at_call 69; refine H.out.mono ?_; rintro e w1 ⟨rfl, hb⟩)
  go_ret
  exact ⟨rfl, hb⟩
theorem format16 (u : Nat) (hu : u < 9223372036854775808) (w : World) (h : DbAt w) :
    Calls Tryz.prog 30 #[.int .i64 u, .int .i64 16] w fun e w' => e = .returned (.string (bs (hexOf u))) ∧ Bl w w' := by
  have H := Lib.hid (formatInt16 u hu w h)
  clear h hu
  generalize bs (hexOf u) = s at *
  go_enter Tryz.func30, Tryz.ntmps30
  go_wp2_with (go_at_call 46; refine H.out.mono ?_; rintro e w1 ⟨rfl, hb⟩)
  go_ret
  exact ⟨rfl, hb⟩
end Go.Proofs.YtfamnaekelmkpaaGreatDoor
