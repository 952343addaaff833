/- ColourBooksMatchSpec: BookText, CheckBook and ReadBook answer as the reference does, for all books and all texts, with no condition. The listed variables are tied to the program's text by the card. -/
import Derived.Test.YtfamnaekelmkpaaGreatDoorLnsR
import Derived.Test.YtfamnaekelmkpaaGreatDoorGelRR
import Derived.Test.YtfamnaekelmkpaaGreatDoorBkCR
import Derived.Test.YtfamnaekelmkpaaGreatDoorRdA
import Derived.Test.YtfamnaekelmkpaaGreatDoorGelM
import Derived.Test.YtfamnaekelmkpaaGreatDoorRet
import Derived.Deep.QuietTactic
import Derived.Test.YtfamnaekelmkpaaGreatDoorGr
import Derived.ProofKit
import Derived.OpenShut
import Derived.Handy
import Derived.Deep.Slices
import Derived.Test.YtfamnaekelmkpaaGreatDoorTie
import Derived.Test.YtfamnaekelmkpaaGreatDoorCards
import Derived.LaidMore
import Derived.Lay
import Derived.SevenTiedAt
import Derived.Shelf.Vars
import Derived.Lib.LaidTab
import Derived.Stop.LaidErr
import Derived.MakeChecks
import Derived.Test.YtfamnaekelmkpaaGreatDoorHexC
import Derived.Test.YtfamnaekelmkpaaGreatDoorHexS
import Derived.Test.YtfamnaekelmkpaaGreatDoorBkTR
import Derived.SizedLaws
/- ReadBook of the reference. -/
namespace Go.Proofs.YtfamnaekelmkpaaGreatDoor
open Go.RowKit Go.Lib Go.Sort

theorem below_own {base : Nat} {w w3 : World} {v : Value} {L : List Gel} (hrow : GRow base w v L) (hlt : base ≤ w.heap.size) (hg : w.grownBy w3 v.ownBlock) : Below base w w3 :=
  (Below.refl base w).grown hg (by omega) (fun k hk => (World.ownsRow.lt hrow k hk).1)
/-- What the reading of a book has come to. -/
theorem rdl_bad (ws : List (List UInt8)) (k : Nat) (h : k < (lnsOf ws).length) (hb : lnOk (lnsOf ws)[k] = false ∨ (endB ws = false ∧ k + 1 = (lnsOf ws).length)) : rdl lnOk (k + 1) (ws.drop k) = some (k + 1) := by
  have hl := lns_len ws
  by_cases h1 : k + 1 < ws.length
  · rcases hb with hb | ⟨he, hb⟩
    · rw [rdl_step _ _ _ _ h1, ← lns_get ws k h, hb]; rfl
    · have : lnsOf ws = ws := by unfold lnsOf; rw [he]; rfl
      rw [this] at hb; omega
  · have h2 : k + 1 = ws.length := by omega
    have he : endB ws = false := by
      cases he : endB ws with
      | false => rfl
      | true =>
        have : (lnsOf ws).length = ws.length - 1 := by unfold lnsOf; rw [if_pos he, List.length_dropLast]
        omega
    rw [rdl_last _ _ _ _ h2, he]; rfl
theorem rdl_good (ws : List (List UInt8)) (k : Nat) (h : k < (lnsOf ws).length) (hk : lnOk (lnsOf ws)[k] = true) (hb : endB ws = true ∨ k + 1 < (lnsOf ws).length) : rdl lnOk (k + 1) (ws.drop k) = rdl lnOk (k + 1 + 1) (ws.drop (k + 1)) := by
  have hl := lns_len ws
  have h1 : k + 1 < ws.length := by
    rcases hb with he | hb
    · have : (lnsOf ws).length = ws.length - 1 := by unfold lnsOf; rw [if_pos he, List.length_dropLast]
      omega
    · omega
  rw [rdl_step _ _ _ _ h1, ← lns_get ws k h, hk]; rfl
theorem rdl_done (ws : List (List UInt8)) (h : endB ws = true) (hw : 0 < ws.length) : rdl lnOk ((lnsOf ws).length + 1) (ws.drop (lnsOf ws).length) = none ∧ lnsOf ws = ws.dropLast := by
  have e : lnsOf ws = ws.dropLast := by unfold lnsOf; rw [if_pos h]
  refine ⟨?_, e⟩
  rw [rdl_last _ _ _ _ (by rw [e, List.length_dropLast]; omega), h]; rfl
set_option maxRecDepth 100000 in
set_option maxHeartbeats 800000 in
theorem readBookR_large (s : ByteArray) (w : World) (h : 60000 < s.size) :
    Calls Tryz.prog 9 #[.string s] w fun e w' => e = .returned (.tuple #[.slice none 0 0, .int .i64 0, .int .i64 2]) ∧ Bl w w' := by
  have z1 : (60000 : Int) < (s.size : Int) := by omega
  clear h
  go_enter Tryz.func9, Tryz.ntmps9
  go_wp2
  go_returns
  exact ⟨rfl, Bl.refl w⟩
/-- What ReadBook of the reference hands back. -/
def RbPost (l : List UInt8) (w : World) (e : Ending) (w' : World) : Prop := ∃ v, e = .returned (.tuple #[v, .int .i64 (rbN l), .int .i64 (rbF l)]) ∧ GelVal w' v (rbL l) ∧ Bl w w'
set_option maxRecDepth 100000 in
set_option maxHeartbeats 3200000 in
theorem readBookR_small (s : ByteArray) (w : World) (hs : s.size ≤ 60000) (hm : MxAt w) : Calls Tryz.prog 9 #[.string s] w (RbPost s.data.toList w) := by
  have hsz := Lib.size_eq s
  have z1 : (s.size : Int) ≤ 60000 := by omega
  have hlen : ¬ 60000 < s.data.toList.length := by omega
  have eN : ∀ n, rdl lnOk 1 (split1 10 s.data.toList) = some n → RbPost s.data.toList w = fun e w' => ∃ v, e = .returned (.tuple #[v, .int .i64 n, .int .i64 9]) ∧ GelVal w' v [] ∧ Bl w w' := fun n hr => by
    have e1 : rbN s.data.toList = n := by unfold rbN; rw [if_neg hlen, hr]
    have e2 : rbF s.data.toList = 9 := by unfold rbF; rw [if_neg hlen, hr]
    have e3 : rbL s.data.toList = [] := by unfold rbL; rw [e2, if_neg (by decide)]
    unfold RbPost
    rw [e1, e2, e3]
  have eB : rdl lnOk 1 (split1 10 s.data.toList) = none → ckBook (rbG s.data.toList) ≠ 0 → RbPost s.data.toList w = fun e w' => ∃ v, e = .returned (.tuple #[v, .int .i64 0, .int .i64 (ckBook (rbG s.data.toList))]) ∧ GelVal w' v [] ∧ Bl w w' := fun hr hc => by
    have e1 : rbN s.data.toList = 0 := by unfold rbN; rw [if_neg hlen, hr]
    have e2 : rbF s.data.toList = ckBook (rbG s.data.toList) := by unfold rbF; rw [if_neg hlen, hr]
    have e3 : rbL s.data.toList = [] := by unfold rbL; rw [e2, if_neg hc]
    unfold RbPost
    rw [e1, e2, e3]
  have eG : rdl lnOk 1 (split1 10 s.data.toList) = none → ckBook (rbG s.data.toList) = 0 → RbPost s.data.toList w = fun e w' => ∃ v, e = .returned (.tuple #[v, .int .i64 0, .int .i64 0]) ∧ GelVal w' v (rbG s.data.toList) ∧ Bl w w' := fun hr hc => by
    have e1 : rbN s.data.toList = 0 := by unfold rbN; rw [if_neg hlen, hr]
    have e2 : rbF s.data.toList = ckBook (rbG s.data.toList) := by unfold rbF; rw [if_neg hlen, hr]
    have e3 : rbL s.data.toList = rbG s.data.toList := by unfold rbL; rw [e2, if_pos hc]
    unfold RbPost
    rw [e1, e2, e3, hc]
  have HLN := Lib.hid (linesR_any s w (by omega) hm)
  have hws0 : 0 < (split1 10 s.data.toList).length := by obtain ⟨x, t, h⟩ := split1_ne 10 s.data.toList; rw [h]; exact Nat.succ_pos _
  have hG : rbG s.data.toList = (split1 10 s.data.toList).dropLast.map lnGel := rfl
  have hwl := word_len 10 s.data.toList
  obtain ⟨ws, hws⟩ : ∃ ws, ws = split1 10 s.data.toList := ⟨_, rfl⟩
  rw [← hws] at eN eB eG HLN hws0 hG hwl
  rw [hG] at eB eG
  have hlx : ∀ x ∈ lnsOf ws, x.length ≤ 60000 := fun x hx => by
    have hx' : x ∈ ws := by
      unfold lnsOf at hx
      split at hx
      · exact List.dropLast_subset _ hx
      · exact hx
    have := hwl x hx'
    omega
  have HX := Lib.hid hlx
  have EN := Lib.hid eN
  have EB := Lib.hid eB
  have EG := Lib.hid eG
  generalize RbPost s.data.toList w = PP at *
  clear hwl hws hG hlx eN eB eG hlen hm hsz hs
  have hend : endB ws = false → 0 < (lnsOf ws).length := fun h => by unfold lnsOf; rw [h]; exact hws0
  go_enter Tryz.func9, Tryz.ntmps9
  go_wp2_with (go_at_call 25; refine HLN.out.mono ?_; rintro e w1 ⟨n, cap, rfl, hc, hmx, m1⟩; have HC := Lib.hid hc; have M1 := Lib.hid m1; clear hc m1)
  go_loopw [7, 23] (fun vv vk wr => ∃ k : Nat, k ≤ (lnsOf ws).length ∧ vk = .int .i64 k ∧ Hid (endB ws = false → k < (lnsOf ws).length) ∧ Hid (rdl lnOk 1 ws = rdl lnOk (k + 1) (ws.drop k)) ∧ Hid (GRow w1.heap.size wr vv (((lnsOf ws).take k).map lnGel)) ∧ Hid (Bl w1 wr)) (fun _ vk _ => (lnsOf ws).length - (intOf vk).toNat)
  case atStart => exact ⟨0, Nat.zero_le _, rfl, hend, rfl, ⟨rfl, .inl ⟨rfl, rfl⟩⟩, Bl.refl w1⟩
  case round =>
    obtain ⟨k, hk, rfl, HE, HK, HR, HB⟩ := hrel
    rename World => wr
    by_cases hlt : k < (lnsOf ws).length
    · have c0 := HC.out k hlt
      have c0 := HB.out.cell c0
      rw [List.getElem?_eq_getElem hlt, Option.getD_some] at c0
      have hxl := HX.out _ (List.getElem_mem hlt)
      have hbad := Lib.hid (rdl_bad ws k hlt)
      have hgood := Lib.hid (rdl_good ws k hlt)
      have htk := Lib.hid (show ((lnsOf ws).take (k + 1)).map lnGel = ((lnsOf ws).take k).map lnGel ++ [lnGel (lnsOf ws)[k]] by rw [List.take_succ_eq_append_getElem hlt, List.map_append]; rfl)
      have hln : (((lnsOf ws).take k).map lnGel).length ≤ 1000001 := by rw [List.length_map, List.length_take]; omega
      obtain ⟨x, hx⟩ : ∃ x, x = (lnsOf ws)[k] := ⟨_, rfl⟩
      rw [← hx] at c0 hxl hbad hgood htk
      clear hx
      have HGL := Lib.hid (fun w => readGelR_any x w (by omega))
      simp only [gelV] at HGL
      obtain ⟨L, hL⟩ : ∃ L, L = ((lnsOf ws).take k).map lnGel := ⟨_, rfl⟩
      rw [← hL] at HR htk hln
      clear hL
      obtain ⟨M, hM⟩ : ∃ M, M = (lnsOf ws).length := ⟨_, rfl⟩
      rw [← hM] at hlt hk hmx hbad hgood HE ⊢
      have HM := Lib.hid hM
      clear hM
      have k1 : (k : Int) < (M : Int) := by omega
      have k2 : (0 : Int) ≤ k := by omega
      have hwk : IntKind.i64.wrap ((k : Int) + 1) = (k : Int) + 1 := IntWalk.i64_in _ (by omega)
      cases hok : lnOk x with
      | false =>
        have hn := HK.out.trans (hbad.out (.inl hok))
        have hP := EN.out _ hn
        rw [hok] at HGL
        clear hbad hgood HE HK hn hok htk
        go_wp2_with (go_at_call 26; refine (HGL.out _).mono ?_; rintro y w2 ⟨g, hg, rfl, m2⟩; clear hg)
        (try go_returns)
        rw [hP]
        exact ⟨.slice none 0 0, rfl, gv_nil _, M1.out.trans (HB.out.trans (m2.alloc _))⟩
      | true =>
        rw [hok] at HGL
        cases he : endB ws with
        | true =>
          have hn := Lib.hid (HK.out.trans (hgood.out hok (.inl he)))
          clear hbad hgood HE HK hok
          have HT := Lib.hid (htk)
          go_wp2_with (first
          | (go_at_call 26; refine (HGL.out _).mono ?_; rintro y w2 ⟨g, hg, rfl, m2⟩; have HGE := Lib.hid (hg rfl); clear hg; have hz2 : w1.heap.size ≤ w2.heap.size := Nat.le_trans HB.out.size m2.size; have HRow := Lib.hid ((HR.out.bl m2).bl ((Bl.refl w2).alloc (.cells #[.int .i64 g.n, .string g.name, .int .i64 g.r, .int .i64 g.g, .int .i64 g.b] 33))); have HB2 := Lib.hid ((HB.out.trans m2).alloc (.cells #[.int .i64 g.n, .string g.name, .int .i64 g.r, .int .i64 g.g, .int .i64 g.b] 33)); clear m2)
          | (at_builtin; refine app_gel rfl _ _ rfl w1.heap.size _ _ L g HRow.out rfl (by rw [World.size_alloc]; rfl) (by omega) (by rw [World.size_alloc]; omega) ?_; intro v' w3 hrow3 hg3; obtain ⟨ao, ln, cp, rfl⟩ := hrow3.form; have HR3 := Lib.hid hrow3; have HB3 := Lib.hid (Below.trans HB2.out (below_own HRow.out (by rw [World.size_alloc]; omega) hg3)); clear hrow3 hg3))
          refine ⟨⟨k + 1, by omega, by go_num, fun h => (by first | cases h | (rw [he] at h; cases h)), hn.out, by rw [htk.out, ← HGE.out]; exact HR3.out, HB3.out⟩, by simp [intOf]; omega⟩
        | false =>
          by_cases hl1 : k + 1 < M
          · have hn := Lib.hid (HK.out.trans (hgood.out hok (.inr hl1)))
            clear hbad hgood HE HK hok
            have hwr : IntKind.i64.wrap ((M : Int) - 1) = (M : Int) - 1 := IntWalk.i64_in _ (by omega)
            have t9 : ((k : Int) == (M : Int) - 1) = false := by rw [beq_eq_false_iff_ne]; omega
            go_wp2_with (first
          | (go_at_call 26; refine (HGL.out _).mono ?_; rintro y w2 ⟨g, hg, rfl, m2⟩; have HGE := Lib.hid (hg rfl); clear hg; have hz2 : w1.heap.size ≤ w2.heap.size := Nat.le_trans HB.out.size m2.size; have HRow := Lib.hid ((HR.out.bl m2).bl ((Bl.refl w2).alloc (.cells #[.int .i64 g.n, .string g.name, .int .i64 g.r, .int .i64 g.g, .int .i64 g.b] 33))); have HB2 := Lib.hid ((HB.out.trans m2).alloc (.cells #[.int .i64 g.n, .string g.name, .int .i64 g.r, .int .i64 g.g, .int .i64 g.b] 33)); clear m2)
          | (at_builtin; refine app_gel rfl _ _ rfl w1.heap.size _ _ L g HRow.out rfl (by rw [World.size_alloc]; rfl) (by omega) (by rw [World.size_alloc]; omega) ?_; intro v' w3 hrow3 hg3; obtain ⟨ao, ln, cp, rfl⟩ := hrow3.form; have HR3 := Lib.hid hrow3; have HB3 := Lib.hid (Below.trans HB2.out (below_own HRow.out (by rw [World.size_alloc]; omega) hg3)); clear hrow3 hg3))
            refine ⟨⟨k + 1, by omega, by go_num, fun _ => hl1, hn.out, by rw [htk.out, ← HGE.out]; exact HR3.out, HB3.out⟩, by simp [intOf]; omega⟩
          · obtain rfl : M = k + 1 := by omega
            have hn := HK.out.trans (hbad.out (.inr ⟨he, rfl⟩))
            have hP := EN.out _ hn
            clear hbad hgood HE HK hn hok htk
            go_wp2_with (go_at_call 26; refine (HGL.out _).mono ?_; rintro y w2 ⟨g, hg, rfl, m2⟩; clear hg)
            (try go_returns)
            rw [hP]
            exact ⟨.slice none 0 0, rfl, gv_nil _, M1.out.trans (HB.out.trans (m2.alloc _))⟩
    · obtain rfl : k = (lnsOf ws).length := by omega
      have he : endB ws = true := by
        cases he : endB ws with
        | true => rfl
        | false => exact absurd (HE.out he) (Nat.lt_irrefl _)
      obtain ⟨d1, d2⟩ := rdl_done ws he hws0
      have hn := HK.out.trans d1
      rw [List.take_length, d2] at HR
      have HV := Lib.hid HR.out.val
      obtain ⟨vo, vl, vc, rfl⟩ := HR.out.form
      have HCK := Lib.hid (fun w' (m : Bl wr w') => checkBook_ref (.slice vo vl vc) (ws.dropLast.map lnGel) w' (HV.out.bl m))
      by_cases hc : ckBook (ws.dropLast.map lnGel) = 0
      · have hP := EG.out hn hc
        rw [hc] at HCK
        clear HE HK hn d1 d2 HX HR
        go_wp2_with (go_at_call 7; refine (HCK.out _ (Bl.refl _)).mono ?_; rintro e w2 ⟨rfl, m2⟩)
        (try go_returns)
        rw [hP]
        exact ⟨.slice vo vl vc, rfl, HV.out.bl m2, M1.out.trans (HB.out.trans m2)⟩
      · have hP := EB.out hn hc
        clear HE HK hn d1 d2 HX HR
        obtain ⟨F, hF⟩ : ∃ F, F = ckBook (ws.dropLast.map lnGel) := ⟨_, rfl⟩
        rw [← hF] at hP HCK hc
        have t1 : (F != 0) = true := by simpa using hc
        clear hF
        go_wp2_with (go_at_call 7; refine (HCK.out _ (Bl.refl _)).mono ?_; rintro e w2 ⟨rfl, m2⟩)
        (try go_returns)
        rw [hP]
        exact ⟨.slice none 0 0, rfl, gv_nil _, M1.out.trans (HB.out.trans m2)⟩
theorem readBookR_any (s : ByteArray) (w : World) (hm : MxAt w) :
    Calls Tryz.prog 9 #[.string s] w fun e w' => ∃ v, e = .returned (.tuple #[v, .int .i64 (rbN s.data.toList), .int .i64 (rbF s.data.toList)]) ∧ GelVal w' v (rbL s.data.toList) ∧ Bl w w' := by
  have hsz := Lib.size_eq s
  by_cases h6 : 60000 < s.size
  · have e1 : rbN s.data.toList = 0 := by unfold rbN; rw [if_pos (by omega)]
    have e2 : rbF s.data.toList = 2 := by unfold rbF; rw [if_pos (by omega)]
    have e3 : rbL s.data.toList = [] := by unfold rbL; rw [e2, if_neg (by decide)]
    rw [e1, e2, e3]
    refine (readBookR_large s w h6).mono ?_
    rintro e w' ⟨rfl, hb⟩
    exact ⟨_, rfl, gv_nil _, hb⟩
  · exact readBookR_small s w (by omega) hm
end Go.Proofs.YtfamnaekelmkpaaGreatDoor

/- slices.Equal of two books that read the same. -/
namespace Go.Proofs.YtfamnaekelmkpaaGreatDoor
open Go.RowKit Go.Sort

set_option maxRecDepth 100000 in
set_option maxHeartbeats 3200000 in
theorem equal_gels (v u : Value) (L : List Gel) (w : World) (hv : GelVal w v L) (hu : GelVal w u L) :
    Calls Tryz.prog 10 #[v, u] w fun e w' => e = .returned (.bool true) ∧ ∃ q, w' = w.drewN q := by
  obtain ⟨o, cap, rfl, hm, hp⟩ := hv
  obtain ⟨o2, cap2, rfl, _, hp2⟩ := hu
  have HP := Lib.hid hp
  have HP2 := Lib.hid hp2
  clear hp hp2
  go_enter Tryz.func10, Tryz.ntmps10
  go_wp2
  go_loopw [13] (fun vi wr => ∃ k q : Nat, k ≤ L.length ∧ vi = .int .i64 k ∧ wr = w.drewN q) (fun vi _ => L.length - (intOf vi).toNat)
  case atStart => exact ⟨0, 0, Nat.zero_le _, rfl, (World.drewN_zero w).symm⟩
  case round =>
    obtain ⟨k, q, hk, rfl, rfl⟩ := hrel
    by_cases hlt : k < L.length
    · obtain ⟨b, off, rfl, hL⟩ := HP.out (by omega)
      obtain ⟨b2, off2, rfl, hL2⟩ := HP2.out (by omega)
      obtain ⟨c0, c1, c2, c3, c4⟩ := hL k hlt
      obtain ⟨d0, d1, d2, d3, d4⟩ := hL2 k hlt
      obtain ⟨x, hx⟩ : ∃ x, x = L[k] := ⟨_, rfl⟩
      rw [← hx] at c0 c1 c2 c3 c4 d0 d1 d2 d3 d4
      clear hx hL hL2
      have k1 : (k : Int) < (L.length : Int) := by omega
      have t1 : (x.n == x.n) = true := by simp
      have t2 : (x.name.toList == x.name.toList) = true := by simp
      have t3 : (x.r == x.r) = true := by simp
      have t4 : (x.g == x.g) = true := by simp
      have t5 : (x.b == x.b) = true := by simp
      go_wp2
      go_quiet (fail)
      go_wp2
      exact ⟨⟨k + 1, q + nq, by omega, by congr 1, rfl⟩, by simp [intOf]; omega⟩
    · obtain rfl : k = L.length := by omega
      go_wp2
      go_ret
      exact ⟨rfl, q, rfl⟩
end Go.Proofs.YtfamnaekelmkpaaGreatDoor

/- The row's last step, where it is known that nothing below the heap's size has turned. -/
namespace Go.Proofs.YtfamnaekelmkpaaGreatDoor
open Go.RowKit Go.ChangeShapes Go.WideShapes Go.ChangeAt
section
variable {H : Type} {enc : TypeId × Value → H} {P : Program}
/-- 'post' of a call that has changed nothing that was there, read again. -/
theorem post_of_old {f : Func} {s : ChangeSpec} {apart fresh handsOn again : Bool} {W W' : World} {args : Array Value} {v : Value} {ds gs : List (DataW H)} {before pa pv : List MemPlace}
    (hW : DataW.Whole enc P f.params.toList s.vars apart W args.toList ds gs before)
    (hres : ∀ (b : Nat) (sp : Nat → Bool) (hd : Bool), DataW.TrodAll enc P W' b sp hd f.resultTypes.toList (v.resultList f.resultTypes.size) (s.fn H (ds ++ gs)).results [])
    (hargs : ∀ sp : Nat → Bool, (∀ p ∈ before, sp p.block = true) → DataW.TrodAll enc P W' 0 sp true f.params.toList args.toList (s.fn H (ds ++ gs)).args pa)
    (hvars : ∀ sp : Nat → Bool, (∀ p ∈ before, sp p.block = true) → DataW.TrodVars enc P W' sp s.vars (s.fn H (ds ++ gs)).vars pv)
    (hps : before = pa ++ pv) (hg : Below W.heap.size W W')
    (hok : ∀ (j : Nat) (t : TypeId) (r : Value), f.resultTypes[j]? = some t → (v.resultList f.resultTypes.size)[j]? = some r → Value.okWide P W' .any 0 t r) :
    s.post enc P f apart fresh handsOn again W args v W' := by
  have old : ∀ p ∈ before, p.block < W.heap.size := fun p hp => hW.lt p hp
  have allowed : ∀ p ∈ before, (fun b => decide (b < W.heap.size)) p.block = true := fun p hp => by simpa using old p hp
  refine ⟨ds, gs, before, [], pa, pv, hW, hres _ _ _, hargs _ allowed, hvars _ allowed, World.keptBut_mono (fun p hp => ⟨hp, ?_⟩) (hg.frame (· ∈ before)), fun _ => ?_⟩
  · rw [hps, List.mem_append] at hp; exact Or.inr hp
  · obtain ⟨_, _, _, _, _, hz, hn⟩ := hW
    refine ⟨hok, _, _, ([] ++ pa) ++ pv, ⟨[] ++ pa, pv, trodAll_append (hargs _ (fun _ _ => rfl)) (hres _ _ _), hvars _ (fun _ _ => rfl), rfl, ?_, ?_⟩, ?_⟩
    · intro b off hp
      have hin : MemPlace.cell b off ∈ before := by rw [hps]; simpa using hp
      rw [hg.frozen (old _ hin)]
      exact hz b off hin
    · intro ha
      have := hn ha
      rw [hps] at this
      simpa using this
    · intro p hp _
      rw [hps]
      simpa using hp
theorem post_of_gr {f : Func} {s : ChangeSpec} {apart fresh handsOn again : Bool} {W W' : World} {args : Array Value} {v : Value} {ds gs : List (DataW H)} {before pa pv : List MemPlace}
    (hW : DataW.Whole enc P f.params.toList s.vars apart W args.toList ds gs before)
    (hres : ∀ (b : Nat) (sp : Nat → Bool) (hd : Bool), DataW.TrodAll enc P W' b sp hd f.resultTypes.toList (v.resultList f.resultTypes.size) (s.fn H (ds ++ gs)).results [])
    (hargs : ∀ sp : Nat → Bool, (∀ p ∈ before, sp p.block = true) → DataW.TrodAll enc P W' 0 sp true f.params.toList args.toList (s.fn H (ds ++ gs)).args pa)
    (hvars : ∀ sp : Nat → Bool, (∀ p ∈ before, sp p.block = true) → DataW.TrodVars enc P W' sp s.vars (s.fn H (ds ++ gs)).vars pv)
    (hps : before = pa ++ pv) (hg : Gr W W')
    (hok : ∀ (j : Nat) (t : TypeId) (r : Value), f.resultTypes[j]? = some t → (v.resultList f.resultTypes.size)[j]? = some r → Value.okWide P W' .any 0 t r) :
    s.post enc P f apart fresh handsOn again W args v W' := post_of_old hW hres hargs hvars hps hg.1 hok
end
end Go.Proofs.YtfamnaekelmkpaaGreatDoor

/- What all laws' proofs share: the row's last step, for a law that leaves what was there. -/
namespace Go.Proofs.YtfamnaekelmkpaaGreatDoor
open Go.RowKit Go.ChangeShapes Go.WideShapes Go.ChangeAt Go.Deep
section
variable {H : Type} {enc : TypeId × Value → H} {P : Program}

theorem trodAll_stays (hl : laidOutB P = true) {W W' : World} {sp : Nat → Bool} (hb : Below W.heap.size W W') : ∀ (ts : List TypeId) (vs : List Value) (ds : List (DataW H)) (p : List MemPlace),
    (∀ t ∈ ts, P.readableRec t = true ∧ t < P.types.size) → DataW.TrodAll enc P W 0 (fun _ => true) true ts vs ds p → (∀ x ∈ p, x.block < W.heap.size) → (∀ x ∈ p, sp x.block = true) →
    DataW.TrodAll enc P W' 0 sp true ts vs ds p
  | [], [], [], _, _, h, _, _ => h
  | t :: ts, v :: vs, d :: ds, p, hr, h, hlt, hs => by
    obtain ⟨p1, q1, h1, h2, rfl⟩ := h
    exact ⟨p1, q1, WideElems.Trod_stays hl (hr t (by simp)).1 (hr t (by simp)).2 h1 (fun x hx => hb.same (hlt x (by simp [hx]))) (fun x hx => hs x (by simp [hx])),
      trodAll_stays hl hb ts vs ds q1 (fun t ht => hr t (by simp [ht])) h2 (fun x hx => hlt x (by simp [hx])) (fun x hx => hs x (by simp [hx])), rfl⟩
  | [], [], _ :: _, _, _, h, _, _ => h.elim
  | [], _ :: _, _, _, _, h, _, _ => h.elim
  | _ :: _, [], _, _, _, h, _, _ => h.elim
  | _ :: _, _ :: _, [], _, _, h, _, _ => h.elim

/-- 'post' of a law that has answered true and has changed nothing that was there. -/
theorem law_old {f : Func} {s : ChangeSpec} {apart fresh handsOn again : Bool} {W W' : World} {args : Array Value} {ds gs : List (DataW H)} {before : List MemPlace} {tb : TypeId}
    (hW : DataW.Whole enc P f.params.toList s.vars apart W args.toList ds gs before) (hv : s.vars = []) (hs : s.fn H (ds ++ gs) = { results := [.lit (.bool true)], args := ds })
    (hr : f.resultTypes = #[tb]) (htb : P.underlying tb = some .bool) (hl : laidOutB P = true) (hp : (f.params.toList.all fun t => P.readableRec t && decide (t < P.types.size)) = true) (hg : Below W.heap.size W W') :
    s.post enc P f apart fresh handsOn again W args (.bool true) W' := by
  have hW0 := hW
  obtain ⟨p, q, hA, hV, hbef, _, _⟩ := hW0
  rw [hv] at hV
  obtain ⟨_, rfl⟩ := trodVars_none hV
  obtain rfl : before = p := by simpa using hbef
  refine post_of_old (pa := before) (pv := []) hW (fun b sp hd => ?_) (fun sp hsp => ?_) (fun sp hsp => ?_) (by simp) hg (ok_one hr rfl (okWide_bool_mk htb _))
  · rw [hs, hr]
    exact trodAll_cons_mk (shut_bool htb _) trodAll_mk0
  · rw [hs]
    exact trodAll_stays hl hg _ _ _ _ (fun t ht => by simpa using List.all_eq_true.1 hp t ht) hA (fun x hx => hW.lt x hx) hsp
  · rw [hs, hv]
    rfl
theorem law_post {f : Func} {s : ChangeSpec} {apart fresh handsOn again : Bool} {W W' : World} {args : Array Value} {ds gs : List (DataW H)} {before : List MemPlace} {tb : TypeId}
    (hW : DataW.Whole enc P f.params.toList s.vars apart W args.toList ds gs before) (hv : s.vars = []) (hs : s.fn H (ds ++ gs) = { results := [.lit (.bool true)], args := ds })
    (hr : f.resultTypes = #[tb]) (htb : P.underlying tb = some .bool) (hl : laidOutB P = true) (hp : (f.params.toList.all fun t => P.readableRec t && decide (t < P.types.size)) = true) (hg : Gr W W') :
    s.post enc P f apart fresh handsOn again W args (.bool true) W' := law_old hW hv hs hr htb hl hp hg.1
end
end Go.Proofs.YtfamnaekelmkpaaGreatDoor

/- Gels that come in, opened. -/
namespace Go.Proofs.YtfamnaekelmkpaaGreatDoor
open Go.RowKit Go.ChangeShapes Go.WideShapes Go.ChangeAt Go.Deep
section
variable {H : Type} {enc : TypeId × Value → H} {w : World} {base : Nat} {spare : Nat → Bool} {held : Bool}

theorem cellsG5 : Tryz.prog.cellsOf 33 = 5 := by kernel_rfl
theorem cellsG3 : Tryz.prog.cellsOf 31 = 3 := by kernel_rfl
theorem cellsGS : Tryz.prog.cellsOf 9 = 1 := by kernel_rfl
theorem cellsGI : Tryz.prog.cellsOf 3 = 1 := by kernel_rfl
set_option maxRecDepth 100000 in
/-- The three cells of a colour. -/
theorem open_col3g {n : Nat} {cs : List Value} {y : DataW H × List MemPlace} (h : DataW.trod enc Tryz.prog w base spare held n 31 cs = some y) :
    ∃ r g b : Int, cs = [.int .i64 r, .int .i64 g, .int .i64 b] := by
  obtain ⟨ys, n2, _, _, hcl, hyl, hf⟩ := DataW.trod_struct Tryz.underlying31 h
  rw [cellsG3] at hcl
  match cs, hcl with
  | [c0, c1, c2], _ =>
    have f0 : DataW.trod enc Tryz.prog w base spare held n2 3 (([c0, c1, c2].drop 0).take (Tryz.prog.cellsOf 3)) = ys[0]? := hf 0 _ rfl
    have f1 : DataW.trod enc Tryz.prog w base spare held n2 3 (([c0, c1, c2].drop 1).take (Tryz.prog.cellsOf 3)) = ys[1]? := hf 1 _ rfl
    have f2 : DataW.trod enc Tryz.prog w base spare held n2 3 (([c0, c1, c2].drop 2).take (Tryz.prog.cellsOf 3)) = ys[2]? := hf 2 _ rfl
    simp only [cellsGI, List.drop_zero, List.take_succ_cons, List.take_zero, List.drop_succ_cons] at f0 f1 f2
    have hyl2 : ys.length = 3 := hyl
    rw [List.getElem?_eq_getElem (by omega)] at f0 f1 f2
    obtain ⟨z0, e0, _, _⟩ := DataW.trod_int Tryz.underlying3 f0
    obtain ⟨z1, e1, _, _⟩ := DataW.trod_int Tryz.underlying3 f1
    obtain ⟨z2, e2, _, _⟩ := DataW.trod_int Tryz.underlying3 f2
    simp only [List.cons.injEq, and_true] at e0 e1 e2
    subst e0 e1 e2
    exact ⟨z0, z1, z2, rfl⟩
set_option maxRecDepth 100000 in
/-- The five cells of a gel. -/
theorem open_gel5 {n : Nat} {cs : List Value} {y : DataW H × List MemPlace} (h : DataW.trod enc Tryz.prog w base spare held n 33 cs = some y) :
    ∃ e : Gel, cs = [.int .i64 e.n, .string e.name, .int .i64 e.r, .int .i64 e.g, .int .i64 e.b] ∧ e.name.size ≤ 9223372036854775807 := by
  obtain ⟨ys, n2, _, _, hcl, hyl, hf⟩ := DataW.trod_struct Tryz.underlying33 h
  rw [cellsG5] at hcl
  match cs, hcl with
  | [c0, c1, c2, c3, c4], _ =>
    have f0 : DataW.trod enc Tryz.prog w base spare held n2 3 (([c0, c1, c2, c3, c4].drop 0).take (Tryz.prog.cellsOf 3)) = ys[0]? := hf 0 _ rfl
    have f1 : DataW.trod enc Tryz.prog w base spare held n2 9 (([c0, c1, c2, c3, c4].drop 1).take (Tryz.prog.cellsOf 9)) = ys[1]? := hf 1 _ rfl
    have f2 : DataW.trod enc Tryz.prog w base spare held n2 31 (([c0, c1, c2, c3, c4].drop 2).take (Tryz.prog.cellsOf 31)) = ys[2]? := hf 2 _ rfl
    simp only [cellsGS, cellsG3, cellsGI, List.drop_zero, List.take_succ_cons, List.take_zero, List.drop_succ_cons] at f0 f1 f2
    have hyl2 : ys.length = 3 := hyl
    rw [List.getElem?_eq_getElem (by omega)] at f0 f1 f2
    obtain ⟨z0, e0, _, _⟩ := DataW.trod_int Tryz.underlying3 f0
    obtain ⟨s0, e1, _, w0⟩ := DataW.trod_string Tryz.underlying9 f1
    obtain ⟨r, g, b, e2⟩ := open_col3g f2
    simp only [List.cons.injEq, and_true] at e0 e1 e2
    obtain ⟨e2, e3, e4⟩ := e2
    subst e0 e1 e2 e3 e4
    exact ⟨⟨z0, s0, r, g, b⟩, rfl, by unfold maxLen at w0; simp only; omega⟩
set_option maxRecDepth 100000 in
theorem open_gels0 {n : Nat} {v : Value} {y : DataW H × List MemPlace} (h : DataW.trod enc Tryz.prog w base spare held n 22 [v] = some y) : ∃ L, GelVal w v L ∧ GelsOk L := by
  rcases open_slice Tryz.underlying22 h with ⟨hv, _⟩ | ⟨a, len, cap, m, n', D, Pl, hcs, _, hl, hm, hmm, _, hi⟩
  · obtain rfl : v = .slice none 0 0 := by simpa using hv
    exact ⟨[], ⟨none, 0, rfl, by simp, fun h => absurd h (by simp)⟩, fun x hx => by cases hx⟩
  · obtain rfl : v = .slice (some a) len cap := by simpa using hcs
    have hle : len ≤ m := by rw [hmm]; split <;> omega
    have each : ∀ i, i < len → ∃ e : Gel, w.cell? (a.add (i * 5)) = some (.int .i64 e.n) ∧ w.cell? ((a.add (i * 5)).add 1) = some (.string e.name) ∧ w.cell? ((a.add (i * 5)).add 2) = some (.int .i64 e.r) ∧ w.cell? ((a.add (i * 5)).add 3) = some (.int .i64 e.g) ∧ w.cell? ((a.add (i * 5)).add 4) = some (.int .i64 e.b) ∧ e.name.size ≤ 9223372036854775807 := by
      intro i hil
      obtain ⟨cs', h1, h2⟩ := hi i (by omega)
      rw [cellsG5] at h1
      obtain ⟨_, hlen, hget⟩ := World.cells?_some h1
      obtain ⟨e, rfl, he⟩ := open_gel5 h2
      refine ⟨e, ?_, hget 1 (by omega), hget 2 (by omega), hget 3 (by omega), hget 4 (by omega), he⟩
      have := hget 0 (by omega); simpa [Addr.add] using this
    rcases Nat.eq_zero_or_pos len with h0 | h0
    · subst h0
      exact ⟨[], ⟨_, _, rfl, by simp, fun h => absurd h (by simp)⟩, fun x hx => by cases hx⟩
    · obtain ⟨x0, _⟩ := each 0 h0
      have : Inhabited Gel := ⟨x0⟩
      obtain ⟨f, hf⟩ := choose_lt each
      obtain ⟨b, off, spot⟩ := a
      have hspot : spot = none := by simpa [Addr.add] using World.cell?_spot (hf 0 h0).1
      subst hspot
      have hlen : ((List.range len).map f).length = len := by simp
      refine ⟨(List.range len).map f, ⟨some ⟨b, off, none⟩, cap, by rw [hlen], by rw [hlen]; unfold maxLen at hm; omega, fun _ => ⟨b, off, rfl, fun i hi => ?_⟩⟩, fun x hx => ?_⟩
      · rw [hlen] at hi
        have hget : ((List.range len).map f)[i]'(by rw [hlen]; exact hi) = f i := by simp
        rw [hget]
        obtain ⟨h1, h2, h3, h4, h5, _⟩ := hf i hi
        rw [add_plain] at h1 h2 h3 h4 h5
        rw [add_plain] at h2 h3 h4 h5
        exact ⟨h1, h2, h3, h4, h5⟩
      · obtain ⟨i, hi, rfl⟩ := List.mem_map.1 hx
        exact (hf i (List.mem_range.1 hi)).2.2.2.2.2
set_option maxRecDepth 100000 in
theorem open_gels {r : Reach} {b0 : Nat} {v : Value} {d : DataW H} {p : List MemPlace} (hv : Value.okWide Tryz.prog w r b0 22 v) (h : DataW.Trod enc Tryz.prog w base spare held 22 v d p) : ∃ L, GelVal w v L ∧ GelsOk L := by
  obtain ⟨n, hn⟩ := h
  obtain ⟨o, len, cap, rfl⟩ := okWide_slice Tryz.underlying22 hv
  exact open_gels0 hn
end
end Go.Proofs.YtfamnaekelmkpaaGreatDoor

/- What the rows of tied cards share: the builder that hands on both the listed variables and the world's shape. -/
namespace Go.Proofs.YtfamnaekelmkpaaGreatDoor
open Go.RowKit Go.ChangeShapes Go.WideShapes Go.ChangeAt Go.Lib

section
variable {H : Type} {enc : TypeId × Value → H}
theorem lift_tied {a : Assume} {C : Checked} {os : Os} {f : FuncId} {fn : Func} {s : ChangeSpec} {conds : List PathCond} {apart fresh handsOn again : Bool} {X : World → Array Value → Prop}
    (hX : ∀ (w w' : World) (args : Array Value), w.heap = w'.heap → X w args → X w' args)
    (own : ownKnob C.prog.godebug = none) (started : os.Started) (noInit : C.prog.inits.idxOf? f = none) (hfn : C.prog.funcs[f]? = some fn)
    (witness : ∃ (w : World) (tape : Tape) (i : Input), w.os = os ∧ (w.forCall tape i).Shaped C.prog ∧ i.vars = [] ∧ Input.okWide C.prog (w.forCall tape i) .any w.heap.size f i ∧
      ((s.pre enc C.prog fn conds apart (w.forCall tape i).memory i.args ∧ X (w.forCall tape i).memory i.args) ∧ sizedMet enc C.prog fn (OpenSpec.ofChange s) apart (w.forCall tape i).memory i.args) ∧ a.holds C.prog (lone (Frame.enter C.prog f i.args .normal) [] (w.forCall tape i)))
    (contract : ∀ (W : World) (base : Nat) (args : Array Value) (ds gs : List (DataW H)) (before : List MemPlace),
      (∀ (j : Nat) t v, fn.params[j]? = some t → args[j]? = some v → Value.okWide C.prog W .any base t v) →
      DataW.Whole enc C.prog fn.params.toList s.vars apart W args.toList ds gs before →
      (DataW.weightsEach C.prog (fn.params.toList ++ s.plain.varTypes C.prog) (ds ++ gs)).all (· ≤ reachBytes) = true → X W args → W.ShapedOpen C.prog →
      Calls C.prog f args W fun e W' => ∃ v, e = .returned v ∧ s.post enc C.prog fn apart fresh handsOn again W args v W') :
    ReturnsInHanded a C os f .any (fun w args => (s.pre enc C.prog fn conds apart w args ∧ X w args) ∧ sizedMet enc C.prog fn (OpenSpec.ofChange s) apart w args) (s.post enc C.prog fn apart fresh handsOn again) := by
  refine returnsInHanded_of_calls own started noInit witness ?_
  intro w tape i _ hsh _ hok hpre _
  obtain ⟨_, _, _, fn', hfn', _, _, _, _, hval⟩ := hok
  have e : fn' = fn := Option.some.inj (hfn'.symm.trans hfn)
  subst e
  obtain ⟨⟨⟨ds, gs, before, hw, hc⟩, hx⟩, hz⟩ := hpre
  have hw' := DataW.Whole.of_heap (w' := w.forCall tape i) (by rfl) hw
  refine (contract (w.forCall tape i) w.heap.size i.args ds gs before hval hw' (hz.weights hw) (hX _ _ _ (by rfl) hx) hsh).mono fun e W' ⟨v, he, hp⟩ => ?_
  subst he
  exact ChangeSpec.post_blind hp
end
end Go.Proofs.YtfamnaekelmkpaaGreatDoor

/- What the rows of texts of colours list: the place in the table of zeros, the library's error of form. -/
namespace Go.Proofs.YtfamnaekelmkpaaGreatDoor
open Go.RowKit Go.ChangeShapes Go.WideShapes Go.ChangeAt Go.Lib

def tabDb : List Int := [0, 1, 56, 2, 57, 49, 28, 3, 61, 58, 42, 50, 38, 29, 17, 4, 62, 47, 59, 36, 45, 43, 51, 22, 53, 39, 33, 30, 24, 18, 12, 5, 63, 55, 48, 27, 60, 41, 37, 16, 46, 35, 44, 21, 52, 32, 23, 11, 54, 26, 40, 15, 34, 20, 31, 10, 25, 14, 19, 9, 13, 8, 7, 6]
theorem laid_tabDb : (Rows.laid_math_bits_deBruijn64tab : DataW Unit) = tabData .u8 tabDb := rfl
theorem db_at {W : World} {rest : List (String × DataW Unit)} (h : laidMet Tryz.prog (("math/bits.deBruijn64tab", Rows.laid_math_bits_deBruijn64tab) :: rest) W) : DbAt W := by
  rw [laid_tabDb] at h
  have ht := tabIs_of_head (g := 7) (t := 146) (e := 5) (n := 64) (by kernel_rfl) (by kernel_rfl) Tryz.underlying146 Tryz.underlying5 (by kernel_rfl) (by kernel_rfl) h
  unfold TabIs at ht
  have hg : Tryz.prog.globalNamed "math/bits.deBruijn64tab" = some 7 := by kernel_rfl
  exact World.var?_cell hg ht 15
theorem star_row (u : TypeId) (h : Tryz.prog.typeName? 3 u = some "*errors.errorString") : u = 147 :=
  typeName_ptr_named (nm := "errors.errorString") (by kernel_rfl) (by kernel_rfl) (by decide) u h
theorem ev_at {W : World} {rest : List (String × DataW Unit)} (h : laidMet Tryz.prog (("strconv.ErrSyntax", Rows.laid_strconv_ErrSyntax) :: rest) W) : EvAt W := by
  have hg : Tryz.prog.globalNamed "strconv.ErrSyntax" = some 4 := by kernel_rfl
  obtain ⟨a, s, hv, _, _, _⟩ := laid_sentinel (g := 4) (ti := 40) (tp := 147) (te := 149) (ts := 9) h hg (by kernel_rfl) Tryz.underlying40 star_row Tryz.underlying147 Tryz.underlying149 rfl rfl Tryz.underlying9 (by kernel_rfl) (by kernel_rfl)
  exact ⟨_, World.var?_cell hg hv 0, .inr ⟨_, _, rfl⟩⟩
end Go.Proofs.YtfamnaekelmkpaaGreatDoor

namespace Go.Proofs.YtfamnaekelmkpaaGreatDoor.booksmatch
open Go.ChangeShapes Go.WideShapes Go.ChangeAt Go.RowKit Go.Sort Go.Lib

theorem maxLen_at {W : World} (h : W.ShapedOpen Tryz.prog) : MxAt W :=
  cell_of_shapedOpen_int (P := Tryz.prog) (g := 1) (t := 3) (zero := #[.int .i64 0]) h (of_decide_eq_true (by kernel_rfl)) (by kernel_rfl) rfl (by kernel_rfl) (by kernel_rfl) Tryz.underlying3
theorem pow_at3 {W : World} {rest : List (String × DataW Unit)} (h : laidMet Tryz.prog (("internal/strconv.uint64pow10", Rows.laid_internal_strconv_uint64pow10) :: rest) W) : PowAt W :=
  tabIs_of_head (g := 0) (t := 116) (e := 89) (n := 20) (by kernel_rfl) (by kernel_rfl) Tryz.underlying116 Tryz.underlying89 (by kernel_rfl) (by kernel_rfl) h
def btT (L : List Gel) : ByteArray := if ckBook L = 0 then bs (bkTxt L) else ⟨#[]⟩
theorem bt_any (v : Value) (L : List Gel) (w : World) (hv : GelVal w v L) (hok : GelsOk L) (hpw : PowAt w) (hdb : DbAt w) :
    Calls Tryz.prog 4 #[v] w fun e w' => e = .returned (.tuple #[.string (btT L), .int .i64 (ckBook L)]) ∧ Bl w w' := by
  by_cases h : ckBook L = 0
  · rw [show btT L = bs (bkTxt L) by unfold btT; rw [if_pos h], h]; exact bookText_ok v L w hv hok h hpw hdb
  · rw [show btT L = ⟨#[]⟩ by unfold btT; rw [if_neg h]]; exact bookText_no v L w hv hok h
theorem btR_any (v : Value) (L : List Gel) (w : World) (hv : GelVal w v L) (hpw : PowAt w) (hdb : DbAt w) :
    Calls Tryz.prog 5 #[v] w fun e w' => e = .returned (.tuple #[.string (btT L), .int .i64 (ckBook L)]) ∧ Bl w w' := by
  by_cases h : ckBook L = 0
  · rw [show btT L = bs (bkTxt L) by unfold btT; rw [if_pos h], h]; exact bookTextR_ok v L w hv h hpw hdb
  · rw [show btT L = ⟨#[]⟩ by unfold btT; rw [if_neg h]]; exact bookTextR_no v L w hv h
set_option maxRecDepth 100000 in
set_option maxHeartbeats 3200000 in
theorem walk (v : Value) (L : List Gel) (s : ByteArray) (w : World) (hv : GelVal w v L) (hok : GelsOk L) (hpw : PowAt w) (hd : DbAt w) (hev : EvAt w) (hm : MxAt w) :
    Calls Tryz.prog 3 #[v, .string s] w fun e w' => e = .returned (.bool true) ∧ Bl w w' := by
  have H1 := Lib.hid (fun w' (m : Bl w w') => bt_any v L w' (hv.bl m) hok (hpw.bl m) (hd.bl m))
  have H2 := Lib.hid (fun w' (m : Bl w w') => btR_any v L w' (hv.bl m) (hpw.bl m) (hd.bl m))
  have H3 := Lib.hid (fun w' (m : Bl w w') => checkBook_any v L w' (hv.bl m) hok)
  have H4 := Lib.hid (fun w' (m : Bl w w') => checkBook_ref v L w' (hv.bl m))
  have H5 := Lib.hid (fun w' (m : Bl w w') => readBook_any s w' (hm.bl m) (hev.bl m))
  have H6 := Lib.hid (fun w' (m : Bl w w') => readBookR_any s w' (hm.bl m))
  have HE := Lib.hid (fun v1 v2 w' (h1 : GelVal w' v1 (rbL s.data.toList)) (h2 : GelVal w' v2 (rbL s.data.toList)) => equal_gels v1 v2 (rbL s.data.toList) w' h1 h2)
  clear hpw hd hev hm hok hv
  generalize btT L = T at *
  generalize ckBook L = X at *
  generalize rbL s.data.toList = R at *
  generalize rbN s.data.toList = Nn at *
  generalize rbF s.data.toList = Y at *
  go_enter Tryz.func3, Tryz.ntmps3
  go_wp2_with (first
    | (go_at_call 4; refine (H1.out _ (Bl.refl w)).mono ?_; rintro e w1 ⟨rfl, b1⟩)
    | (go_at_call 5; refine (H2.out _ b1).mono ?_; rintro e w2 ⟨rfl, m2⟩; have b2 := b1.trans m2; clear b1 m2)
    | (go_at_call 6; refine (H3.out _ b2).mono ?_; rintro e w3 ⟨rfl, m3⟩; have b3 := b2.trans m3; clear b2 m3)
    | (go_at_call 7; refine (H4.out _ b3).mono ?_; rintro e w4 ⟨rfl, m4⟩; have b4 := b3.trans m4; clear b3 m4)
    | (go_at_call 8; refine (H5.out _ b4).mono ?_; rintro e w5 ⟨v5, rfl, hv5, m5⟩; have b5 := b4.trans m5; have HV5 := Lib.hid hv5; clear b4 m5 hv5)
    | (go_at_call 9; refine (H6.out _ b5).mono ?_; rintro e w6 ⟨v6, rfl, hv6, m6⟩; have HV5 := Lib.hid (HV5.out.bl m6); have b6 := b5.trans m6; have HV6 := Lib.hid hv6; clear b5 m6 hv6)
    | (go_at_call 10; refine (HE.out _ _ _ HV5.out HV6.out).mono ?_; rintro e w7 ⟨rfl, q, rfl⟩))
  go_returns
  exact ⟨rfl, b6.drewN _⟩

theorem own : ownKnob Tryz.prog.godebug = none := by kernel_rfl
theorem laid : laidOutB Tryz.prog = true := by kernel_rfl

set_option maxRecDepth 100000 in
theorem lifted (os : Os) (started : os.Started) (H : Type) (enc : TypeId × Value → H) :
    ReturnsInHanded {} Tryz.checked os 3 .any (fun w args => (Rows.colourBooksMatchSpecSpec.pre enc Tryz.prog Tryz.f3 Rows.colourBooksMatchSpecRow.domain false w args ∧ laidMetH Tryz.prog Rows.colourBooksMatchSpecRow.laid w) ∧ sizedMet enc Tryz.prog Tryz.f3 (OpenSpec.ofChange Rows.colourBooksMatchSpecSpec) false w args) (Rows.colourBooksMatchSpecSpec.post enc Tryz.prog Tryz.f3 false true false false) := by
  refine lift_tied (C := Tryz.checked) (X := fun w _ => laidMetH Tryz.prog Rows.colourBooksMatchSpecRow.laid w) (fun _ _ _ hh h => h.of_heap hh) own started (by kernel_rfl) Tryz.func3
    (ChangeSpec.witness_shaped (enc := enc) (C := Tryz.checked) (os := os) (X := fun w _ => laidMetH Tryz.prog Rows.colourBooksMatchSpecRow.laid w) false (World.laidAll Tryz.prog os Rows.colourBooksMatchSpecRow.laid) #[.slice none 0 0, .string ⟨#[]⟩] 8 (World.laidAll_os _ _ _)
      (World.shaped_of_ZipB (by kernel_rfl) (by kernel_rfl)) (by kernel_rfl) (by kernel_rfl) (by kernel_rfl)
      (by rw [MakeChecks.laidMetH_plain _ _ _ (by kernel_rfl)]; exact laidMet_laidAll _ (by kernel_rfl) (by kernel_rfl))) ?_
  intro W base args ds gs before hval0 hW hsz0 hL0 hsh
  have hm0 := maxLen_at hsh
  have hL : laidMetH Tryz.prog Rows.colourBooksMatchSpecRow.laid W := hL0
  rw [MakeChecks.laidMetH_plain _ _ _ (by kernel_rfl)] at hL
  have hd0 := db_at hL.tail
  have hp0 := pow_at3 hL.tail.tail
  have hv0 := ev_at hL.tail.tail.tail.tail.tail
  have hval : ∀ (j : Nat) t v, Tryz.f3.params[j]? = some t → args[j]? = some v → Value.okWide Tryz.prog W .any base t v := hval0
  have hW' := hW
  obtain ⟨p, q, hA0, hV, rfl, hfz, hnd⟩ := hW
  have hA : DataW.TrodAll enc Tryz.prog W 0 (fun _ => true) true Tryz.f3.params.toList args.toList ds p := hA0
  rw [Tryz.params3] at hA hval
  obtain ⟨v0, vs0, d0, ds0, p0, q0, hargs, rfl, rfl, h0, r0⟩ := trodAll_cons hA
  obtain ⟨v1, vs1, d1, ds1, p1, q1, rfl, rfl, rfl, h1, r1⟩ := trodAll_cons r0
  obtain ⟨rfl, rfl, rfl⟩ := trodAll_nil r1
  obtain rfl : args = #[v0, v1] := by cases args; simp_all
  obtain ⟨rfl, rfl⟩ := trodVars_none hV
  obtain ⟨L0, he0, ho0⟩ := open_gels (hval 0 22 v0 rfl rfl) h0
  obtain ⟨s1, rfl, rfl, rfl, w1⟩ := Go.ChangeMaps.open_string Tryz.underlying9 (hval 1 9 v1 rfl rfl) h1
  have z1 := Go.sized_string hsz0 (j := 1) (t := 9) (by rw [Tryz.params3]; rfl) rfl
  clear hA0 hval0
  refine (walk v0 L0 s1 W he0 ho0 hp0 hd0 hv0 hm0).mono fun e W' ⟨he, hg⟩ => ?_
  subst he
  exact ⟨_, rfl, law_old hW' rfl rfl (by kernel_rfl) Tryz.underlying4 laid (by kernel_rfl) hg⟩

theorem over : Rows.colourBooksMatchSpecRow.holds Tryz.pinned (OpenSpec.ofChange Rows.colourBooksMatchSpecSpec) :=
  OpenClaim.holds_of_wide 3 Tryz.f3 rfl rfl rfl rfl rfl rfl rfl ⟨rfl, rfl, rfl, rfl, rfl⟩ rfl rfl rfl rfl rfl (by kernel_rfl) Tryz.func3 (by kernel_rfl)
    (of_decide_eq_true (by kernel_rfl)) (by unfold Func.isWrapper; first | (rw [if_pos (by decide +kernel)]; kernel_rfl) | (rw [if_neg (by decide +kernel)]; exact ⟨rfl, rfl⟩))
    (fun os started H enc _ => lifted os started H enc)

/-- The card: the statement. -/
theorem proved : Rows.ColourBooksMatchSpecCardSaid :=
  Claim7.holds_tied_plain_at .later [] [.data, .data, .data, .data, .sentinel, .sentinel, .pinned] true (true, "3bf930651a48f7bd2b877ca5b69e918fa000d75f2db5083748819d2b05705cc8") true over (fun _ h => by cases h) (by kernel_rfl) (fun _ h => by cases h) colourBooksMatchSpec_row_tie rfl ⟨rfl, rfl⟩ (by kernel_rfl) rfl
    (fun f fn hf hfn => by
      obtain rfl : f = 3 := Option.some.inj ((show Tryz.prog.funcNamed "cyclorama/cycloramalaw3.ColourBooksMatchSpec" = some 3 by kernel_rfl).symm.trans hf) |>.symm
      obtain rfl : fn = Tryz.f3 := (Option.some.inj (Tryz.func3.symm.trans hfn)).symm
      exact ⟨by kernel_rfl, fun j t ht => by
        rw [Tryz.params3] at ht
        have hm := Array.mem_of_getElem? ht
        have hall : ((#[22, 9] : Array TypeId).toList.all fun u => !Tryz.prog.wantsStandIn u) = true := by kernel_rfl
        exact (show Tryz.prog.wantsStandIn t = false by simpa using List.all_eq_true.1 hall t (by simpa using hm))⟩)
    (by kernel_rfl)
end Go.Proofs.YtfamnaekelmkpaaGreatDoor.booksmatch

