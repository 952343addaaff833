/- showArgs of the program, walked. -/
import Derived.Test.YtgpblgalklegkaaDoorShoA
namespace Go.Proofs.YtgpblgalklegkaaDoor
open Go.RowKit Go.Lib Go.Sort

theorem argsT_len (T : Pk → List UInt8) (k : Int) (l : List Pk) : (argsT T k l).length = l.length := by unfold argsT; simp
theorem argsT_get (T : Pk → List UInt8) (k : Int) (l : List Pk) (i : Nat) (h : i < l.length) : (argsT T k l)[i]'(by rw [argsT_len]; exact h) = argT T k i l[i] := by unfold argsT; simp
/-- The row is full. -/
theorem args_full {T : Pk → List UInt8} {k : Int} {l : List Pk} {ds : List ByteArray} (h : ds.length = l.length) (hj : ∀ j (hj : j < l.length), ds[j]?.getD ⟨#[]⟩ = bs (argT T k j l[j])) : ds = (argsT T k l).map bs := by
  refine List.ext_getElem (by rw [List.length_map, argsT_len]; exact h) fun j h1 h2 => ?_
  have := hj j (by omega)
  rw [List.getElem?_eq_getElem h1, Option.getD_some] at this
  rw [this, List.getElem_map, argsT_get T k l j (by omega)]
theorem map_bs (l : List (List UInt8)) : (l.map bs).map (fun s => s.data.toList) = l := by
  rw [List.map_map]
  exact (List.map_congr_left fun a _ => bs_list a).trans (List.map_id _)
theorem set_full {T : Pk → List UInt8} {k : Int} {l : List Pk} {ds : List ByteArray} {i : Nat} {s : ByteArray} (hl : ds.length = l.length) (h : ∀ j (hj : j < l.length), j < i → ds[j]?.getD ⟨#[]⟩ = bs (argT T k j l[j])) (hi : i < l.length) (hs : s = bs (argT T k i l[i])) :
    ∀ j (hj : j < l.length), j < i + 1 → (ds.set i s)[j]?.getD ⟨#[]⟩ = bs (argT T k j l[j]) := by
  intro j hj hji
  by_cases e : j = i
  · subst e
    rw [List.getElem?_set_self (by omega), hs]; rfl
  · rw [List.getElem?_set_ne (Ne.symm e)]
    exact h j hj (by omega)

def SaRel (W : World) (g : Nat) (T : Pk → List UInt8) (k : Int) (l : List Pk) (v : Value) (wr : World) : Prop := ∃ (i : Nat) (ds : List ByteArray), v = .int .i64 i ∧ i ≤ l.length ∧ ds.length = l.length ∧ OwnT W wr g l.length ds ∧ (∀ j (hj : j < l.length), j < i → ds[j]?.getD ⟨#[]⟩ = bs (argT T k j l[j])) ∧ Bl W wr

set_option maxRecDepth 100000 in
set_option maxHeartbeats 6400000 in
theorem showArgs_any (d : Nat) (ih : ShowOk d) (p : Pk) (sv : Value) (sep : List UInt8) (w : World) (hg : Good (d + 1) p) (h1 : 1 ≤ p.args.length) (hsep : sep.length ≤ 3) (hsv : PkV w sv p.args) (hpw : PowAt w) (hkw : KwAt w) :
    Calls Tryd.prog 69 #[.agg #[.int .i64 p.kind, .int .i64 p.frm, .int .i64 p.to, sv], .string (bs sep)] w fun e w' => e = .returned (.string (bs (join (argsT (txt d) p.kind p.args) sep))) ∧ Bl w w' := by
  obtain ⟨o, cap, rfl, hm⟩ := hsv.form
  obtain ⟨i0, hi, hz0, hz1, hz2⟩ := info_parts info_s
  obtain ⟨W, hW⟩ : ∃ W, W = w.alloc (.cells #[.int .i64 p.kind, .int .i64 p.frm, .int .i64 p.to, .slice o p.args.length cap] 24) := ⟨_, rfl⟩
  have bW : Bl w W := by rw [hW]; exact (Bl.refl w).alloc _
  have k0 : W.cell? ⟨w.heap.size, 0, none⟩ = some (.int .i64 p.kind) := by rw [hW]; simp
  have k3 : W.cell? ⟨w.heap.size, 3, none⟩ = some (.slice o p.args.length cap) := by rw [hW]; simp
  have hWz : W.heap.size = w.heap.size + 1 := by rw [hW]; simp
  have KK := Lib.hid (fun w' (m : Bl W w') => show w'.cell? ⟨w.heap.size, 0, none⟩ = some (.int .i64 p.kind) from m.cell k0)
  have h200 := hg.args
  have HG := Lib.hid hg
  have HS := Lib.hid (hsv.bl bW)
  have HP := Lib.hid (hpw.bl bW)
  have HK := Lib.hid (hkw.bl bW)
  have IH := Lib.hid ih
  have HJ := Lib.hid (joins_le hg p.kind sep hsep)
  clear hg hsv hpw hkw ih
  go_enter Tryd.func69, Tryd.ntmps69
  go_wp2_with (at_make; refine wpList_make_full _ rfl _ _ 167 rfl W.heap.size 9 i0 (.string ⟨#[]⟩) 1 Tryd.underlying167 hi hz0 hz1 _ _ _ _ p.args.length rfl rfl rfl rfl (by rw [hz2]; omega) (by unfold maxLen; omega) (by rw [hW]; exact Nat.le_refl _) ?_; rw [← hW]; intro w3 hown3 hg3; have b3 : Bl W w3 := (Bl.refl _).grown hg3 (fun k hk => by cases hk); have c3 := b3.cell k3; have HO := Lib.hid (ownT_made hown3); clear hown3 hg3)
  rw [hWz] at HO
  obtain ⟨g, hgg⟩ : ∃ g, g = w.heap.size + 1 := ⟨_, rfl⟩
  rw [← hgg] at HO
  rw [← hgg]
  have hgW : w.heap.size ≠ g := by omega
  clear hi hz0 hz1 hz2 hgg k0 k3 c3 hW
  go_loopw [15] (fun v15 wr => SaRel W g (txt d) p.kind p.args v15 wr) (fun v15 _ => p.args.length - (intOf v15).toNat)
  case atStart => exact ⟨0, List.replicate p.args.length ⟨#[]⟩, rfl, Nat.zero_le _, by simp, HO.out, fun j _ hj => absurd hj (Nat.not_lt_zero _), b3⟩
  case round =>
    obtain ⟨j, ds, rfl, hj, hdl, hown, hds, hb⟩ := hrel
    have HOW := Lib.hid hown
    have HDS := Lib.hid hds
    have hgr : W.heap.size ≤ g ∧ g < wr.heap.size := hown.base
    clear hown hds
    by_cases hlt : j < p.args.length
    · obtain ⟨b, off, sv, rfl, ⟨c0, c1, c2, c3⟩, hsv⟩ := HS.out.at j hlt
      have c0 := hb.cell c0
      have c1 := hb.cell c1
      have c2 := hb.cell c2
      have c3 := hb.cell c3
      obtain ⟨o4, cap4, hsv4, hm4⟩ := hsv.form
      have hga := HG.out.arg _ (List.getElem_mem hlt)
      have HSF := Lib.hid (fun ds' (s : ByteArray) (h1 : ds'.length = p.args.length) h2 h3 => set_full (T := txt d) (k := p.kind) (l := p.args) (ds := ds') (i := j) (s := s) h1 h2 hlt h3)
      obtain ⟨a, ha⟩ : ∃ a, a = p.args[j] := ⟨_, rfl⟩
      rw [← ha] at c0 c1 c2 hsv hsv4 hm4 hga HSF
      subst hsv4
      have hba := hb.alloc (.cells #[.int .i64 a.kind, .int .i64 a.frm, .int .i64 a.to, .slice o4 a.args.length cap4] 24)
      have HC := Lib.hid (IH.out a _ _ hga (hsv.bl hba) (HP.out.bl hba) (HK.out.bl hba))
      have hlen := txt_le hga
      have hsz : (bs (txt d a)).size ≤ 12800 := by rw [bs_size]; exact hlen
      have HBA := Lib.hid hba
      have kb : (wr.alloc (.cells #[.int .i64 a.kind, .int .i64 a.frm, .int .i64 a.to, .slice o4 a.args.length cap4] 24)).cell? ⟨wr.heap.size, 0, none⟩ = some (.int .i64 a.kind) := by simp
      have KB := Lib.hid kb
      clear ha hsv hba hga hlen kb
      obtain ⟨T, hT⟩ : ∃ T, txt d a = T := ⟨_, rfl⟩
      rw [hT] at HC hsz
      have HT := Lib.hid hT
      clear hT
      have hz1 : g ≠ wr.heap.size := by omega
      have z1 : (j : Int) < (p.args.length : Int) := by omega
      have kj := (HOW.out.far (Bl.refl wr)).cell j (by omega)
      go_wp2_with fail
      refine HC.out.mono ?_
      rintro e1 w1 ⟨rfl, b1⟩
      have HO1 := HOW.out.far (((Bl.refl wr).alloc _).trans b1)
      have q1 := HO1.cell j (by omega)
      have q2 := HO1.free j
      have HO2 := Lib.hid (HO1.set j (bs T))
      have hB2 : Bl W (w1.setCell ⟨g, j, none⟩ (.string (bs T))) := HO1.bl (HBA.out.trans b1) _ _
      have e0 : (w1.setCell ⟨g, j, none⟩ (.string (bs T))).cell? ⟨wr.heap.size, 0, none⟩ = some (.int .i64 a.kind) := by
        rw [World.cell?_setCell_other _ _ _ _ (by intro h; injection h; omega)]
        exact b1.cell KB.out
      have e1 := KK.out _ hB2
      have HB2 := Lib.hid hB2
      have q3 := HO2.out.cell j (by rw [List.length_set]; omega)
      rw [List.getElem?_set_self (by omega), Option.getD_some] at q3
      have q4 := HO2.out.free j
      clear hB2 HO1
      have R1 : ∀ w, (Op.stringOp .add ⟨#[40]⟩ (bs T)).run Tryd.prog w = .ok (.string (⟨#[40]⟩ ++ bs T)) w := fun w => run_string_add_sum w _ _ (by show 1 + _ ≤ _; omega)
      have R2 : ∀ w, (Op.stringOp .add (⟨#[40]⟩ ++ bs T) ⟨#[41]⟩).run Tryd.prog w = .ok (.string (⟨#[40]⟩ ++ bs T ++ ⟨#[41]⟩)) w := fun w => run_string_add_sum w _ _ (by rw [ByteArray.size_append]; show 1 + _ + 1 ≤ _; omega)
      cases hbr : hasBr p.kind j a.kind with
      | false =>
        have HH := Lib.hid (fun w' => hasBr_any p.kind a.kind j _ hbr w')
        have hs : Hid (bs T = bs (argT (txt d) p.kind j a)) := by show _ = _; unfold argT; rw [hbr, if_neg (by decide), HT.out]
        clear hbr R1 R2
        go_wp2_with fail
        refine (HH.out _).mono ?_
        rintro e2 w2 ⟨rfl, rfl⟩
        go_wp2_with fail
        go_roundw
        case rel => exact ⟨j + 1, ds.set j (bs T), by go_num, by omega, by rw [List.length_set]; exact hdl, HO2.out, HSF.out ds _ hdl HDS.out hs.out, HB2.out⟩
        case measure => simp [intOf]; omega
      | true =>
        have HH := Lib.hid (fun w' => hasBr_any p.kind a.kind j _ hbr w')
        have hs : Hid (⟨#[40]⟩ ++ bs T ++ ⟨#[41]⟩ = bs (argT (txt d) p.kind j a)) := by show _ = _; unfold argT; rw [hbr, if_pos rfl, HT.out, paren_bs]
        clear hbr
        go_wp2_with fail
        refine (HH.out _).mono ?_
        rintro e2 w2 ⟨rfl, rfl⟩
        go_wp2_with fail
        go_roundw
        case rel => exact ⟨j + 1, (ds.set j (bs T)).set j (⟨#[40]⟩ ++ bs T ++ ⟨#[41]⟩), by go_num, by omega, by rw [List.length_set, List.length_set]; exact hdl, HO2.out.set _ _, by rw [List.set_set]; exact HSF.out ds _ hdl HDS.out hs.out, HO2.out.bl HB2.out _ _⟩
        case measure => simp [intOf]; omega
    · obtain rfl : j = p.args.length := by omega
      have hfull := args_full hdl (fun i hi => HDS.out i hi hi)
      subst hfull
      have hl2 : ((argsT (txt d) p.kind p.args).map bs).length = p.args.length := by rw [List.length_map, argsT_len]
      have hJ := Tryd.strings_Join g 0 p.args.length ((argsT (txt d) p.kind p.args).map bs) (bs sep) wr (fun i x hx => by
        have hlt' : i < ((argsT (txt d) p.kind p.args).map bs).length := (List.getElem?_eq_some_iff.1 hx).1
        have := HOW.out.cell i hlt'
        rw [hx, Option.getD_some] at this
        rw [Nat.zero_add]; exact this) hgr.2 (by rw [hl2]; omega) (by rw [hl2]; exact Nat.le_refl _) (by rw [map_bs, bs_list]; have := HJ.out; omega)
      rw [map_bs, bs_list, hl2] at hJ
      have HJJ := Lib.hid hJ
      clear hJ hl2 hdl
      go_wp2_with fail
      refine HJJ.out.mono ?_
      rintro e1 w1 ⟨rfl, b1⟩
      go_wp2_with fail
      go_returns
      exact ⟨rfl, bW.trans (hb.trans b1)⟩
end Go.Proofs.YtgpblgalklegkaaDoor
