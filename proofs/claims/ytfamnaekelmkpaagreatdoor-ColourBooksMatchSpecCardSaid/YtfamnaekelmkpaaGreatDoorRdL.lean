/- ReadLines of the program, as ReadBook uses it. -/
import Derived.Test.YtfamnaekelmkpaaGreatDoorBkCl
import Derived.Test.YtfamnaekelmkpaaGreatDoorTxM
import Derived.Test.YtfamnaekelmkpaaGreatDoorDecP
namespace Go.Proofs.YtfamnaekelmkpaaGreatDoor
open Go.RowKit Go.Lib Go.Sort

/-- The number of the first line that is wrong. -/
def rdl (ok : List UInt8 → Bool) : Nat → List (List UInt8) → Option Nat
  | _, [] => none
  | n, [x] => if x = [] then none else some n
  | n, x :: y :: t => if ok x = true then rdl ok (n + 1) (y :: t) else some n
theorem rdl_end (ok : List UInt8 → Bool) (n : Nat) : rdl ok n (split1 10 []) = none := rfl
theorem rdl_open (ok : List UInt8 → Bool) (n : Nat) {T : List UInt8} (h : (10 : UInt8) ∉ T) (hT : T ≠ []) : rdl ok n (split1 10 T) = some n := by
  rw [split_plain h]
  show (if T = [] then none else some n) = _
  rw [if_neg hT]
theorem rdl_cut (ok : List UInt8 → Bool) (n : Nat) {a b : List UInt8} (h : (10 : UInt8) ∉ a) : rdl ok n (split1 10 (a ++ 10 :: b)) = if ok a = true then rdl ok (n + 1) (split1 10 b) else some n := by
  rw [split_app h]
  obtain ⟨x, t, e⟩ := split1_ne 10 b
  rw [e]; rfl
theorem gels_cut (f : List UInt8 → Gel) {a b : List UInt8} (h : (10 : UInt8) ∉ a) : (split1 10 (a ++ 10 :: b)).dropLast.map f = f a :: (split1 10 b).dropLast.map f := by
  rw [split_app h]
  obtain ⟨x, t, e⟩ := split1_ne 10 b
  rw [e]; rfl
def szOf : Value → Nat
  | .string s => s.size
  | _ => 0
theorem cut10 (T : List UInt8) (w : World) (h : T.length ≤ 1000000) :
    Calls Tryz.prog 35 #[.string (bs T), .string ⟨#[10]⟩] w fun e w' => e = .returned (.tuple #[.string (bs (cut1 10 T).1), .string (bs (cut1 10 T).2.1), .bool (cut1 10 T).2.2]) ∧ Bl w w' := by
  refine (cut_any (bs T) 10 w (by rw [bs_size]; omega)).mono ?_
  rintro e w' ⟨rfl, g⟩
  unfold cutR
  rw [bs_list]
  exact ⟨rfl, g.bl⟩
/-- What ReadLines hands back, and where the book stands behind it. -/
def RdPost (l : List UInt8) (nb : Nat) (w : World) (e : Ending) (w' : World) : Prop := Below nb w w' ∧
  ((rdl lnOk 1 (split1 10 l) = none ∧ e = .returned (.tuple #[.int .i64 0, .int .i64 0]) ∧ BoxV w' nb ((split1 10 l).dropLast.map lnGel)) ∨
    ∃ n : Nat, rdl lnOk 1 (split1 10 l) = some n ∧ e = .returned (.tuple #[.int .i64 n, .int .i64 9]))
set_option maxRecDepth 100000 in
set_option maxHeartbeats 3200000 in
theorem readLines_any (s : ByteArray) (nb : Nat) (w : World) (hs : s.size ≤ 60000) (hb : BoxV w nb [])
    (HG : ∀ line : List UInt8, line.length ≤ 60000 → line ∈ (split1 10 s.data.toList).dropLast → ∀ w', Below nb w w' → Calls Tryz.prog 24 #[.string (bs line)] w' fun x w'' => ∃ e, (lnOk line = true → e = lnGel line) ∧ x = .returned (.tuple #[gelV e, .bool (lnOk line)]) ∧ Bl w' w'') :
    Calls Tryz.prog 22 #[.string s, .int .i64 60000, .func (.func 23) #[] #[.pointer (some ⟨nb, 0, none⟩)]] w (RdPost s.data.toList nb w) := by
  have hsz := Lib.hid (Lib.size_eq s)
  have z1 : (s.size : Int) ≤ 60000 := by omega
  have HGG := Lib.hid HG
  have HB := Lib.hid hb
  clear HG hb
  go_enter Tryz.func22, Tryz.ntmps22
  go_wp2
  go_loopw [0, 8] (fun vt vn wr => ∃ (k : Nat) (T : List UInt8) (acc : List Gel), vt = .string (bs T) ∧ vn = .int .i64 ((k + 1 : Nat) : Int) ∧ T.length + k ≤ 60000 ∧ acc.length ≤ k ∧ Hid (rdl lnOk 1 (split1 10 s.data.toList) = rdl lnOk (k + 1) (split1 10 T)) ∧
      Hid ((split1 10 s.data.toList).dropLast.map lnGel = acc ++ (split1 10 T).dropLast.map lnGel) ∧ Hid (∀ x ∈ (split1 10 T).dropLast, x ∈ (split1 10 s.data.toList).dropLast) ∧ Hid (BoxV wr nb acc) ∧ Hid (Below nb w wr)) (fun vt _ _ => szOf vt)
  case atStart => exact ⟨0, s.data.toList, [], by rw [bs_of], rfl, by rw [← hsz.out]; omega, Nat.le_refl _, rfl, rfl, fun x hx => hx, HB.out, Below.refl _ _⟩
  case round =>
    obtain ⟨k, T, acc, rfl, rfl, hk, hac, HK, HA, HM, HBX, HW⟩ := hrel
    rename World => wr
    cases hT : T with
    | nil =>
      subst hT
      have e1 : rdl lnOk 1 (split1 10 s.data.toList) = none := HK.out
      have e2 : (split1 10 s.data.toList).dropLast.map lnGel = acc := by rw [HA.out]; exact List.append_nil _
      have hnil : (bs []).toList = [] := by rw [Lib.toList_data, bs_list]
      have E1 := Lib.hid e1
      have E2 := Lib.hid e2
      clear e1 e2 HK HA HM
      go_wp2
      go_ret2
      exact ⟨HW.out, .inl ⟨E1.out, rfl, by rw [E2.out]; exact HBX.out⟩⟩
    | cons c0 t0 =>
      have hne : T ≠ [] := by rw [hT]; simp
      have hsz2 : (bs T).toList.isEmpty = false := by rw [Lib.toList_data, bs_list, hT]; rfl
      have hnil : ¬ (bs T).toList = [] := by rw [Lib.toList_data, bs_list, hT]; simp
      rw [← hT]
      clear hT
      have HC := Lib.hid (fun w' => cut10 T w' (by omega))
      rcases cut1_spec 10 T with ⟨hc, hno⟩ | ⟨a, b, hab, hno, hc⟩
      · have e1 : rdl lnOk 1 (split1 10 s.data.toList) = some (k + 1) := by rw [HK.out]; exact rdl_open _ _ hno hne
        rw [hc] at HC
        have E1 := Lib.hid e1
        clear e1 HK HA HM hc hno hne
        generalize bs T = S at *
        go_wp2_with (go_at_call 35; refine (HC.out _).mono ?_; rintro e w1 ⟨rfl, m1⟩)
        go_ret2
        exact ⟨Below.trans HW.out (Below.mono m1 (Nat.le_of_lt HBX.out.lt)), .inr ⟨k + 1, E1.out, rfl⟩⟩
      · rw [hc] at HC
        simp only at HC
        have hla : a.length + b.length + 1 = T.length := by rw [hab]; simp; omega
        have hmem : a ∈ (split1 10 s.data.toList).dropLast := HM.out a (by
          rw [hab, split_app hno]
          obtain ⟨x, t, e⟩ := split1_ne 10 b
          rw [e]; simp)
        have hsub : ∀ x ∈ (split1 10 b).dropLast, x ∈ (split1 10 s.data.toList).dropLast := fun x hx => HM.out x (by
          rw [hab, split_app hno]
          obtain ⟨y, t, e⟩ := split1_ne 10 b
          rw [e] at hx ⊢
          exact List.mem_cons_of_mem _ hx)
        have hk1 : rdl lnOk 1 (split1 10 s.data.toList) = if lnOk a = true then rdl lnOk (k + 1 + 1) (split1 10 b) else some (k + 1) := by rw [HK.out, hab, rdl_cut _ _ hno]
        have ha1 : (split1 10 s.data.toList).dropLast.map lnGel = (acc ++ [lnGel a]) ++ (split1 10 b).dropLast.map lnGel := by rw [HA.out, hab, gels_cut _ hno]; simp
        cases hok : lnOk a with
        | true =>
          rw [hok, if_pos rfl] at hk1
          have E1 := Lib.hid hk1
          have E2 := Lib.hid ha1
          have E3 := Lib.hid hsub
          have HCC : Hid (∀ w', Bl wr w' → Calls Tryz.prog 23 #[.string (bs a), .pointer (some ⟨nb, 0, none⟩)] w' fun x w'' => x = .returned (.bool true) ∧ BoxV w'' nb (acc ++ [lnGel a]) ∧ Below nb w' w'') := fun w' m => by
            have hbelow : Below nb w w' := Below.trans HW.out (Below.mono m (Nat.le_of_lt HBX.out.lt))
            have hbx := HBX.out.bl m
            refine (closure_any nb acc (lnGel a) true (bs a) w' hbx (by omega) (fun w2 m2 => ?_)).mono ?_
            · have hcall := HGG.out a (by omega) hmem w2 (Below.trans hbelow (Below.mono m2 (Nat.le_of_lt hbx.lt)))
              rw [hok] at hcall
              exact hcall
            · rintro x w2 ⟨rfl, ⟨e, he, hb2⟩, hc2⟩
              rw [he rfl] at hb2
              exact ⟨rfl, hb2, hc2⟩
          have hlb : szOf (.string (bs b)) < szOf (.string (bs T)) := by show (bs b).size < (bs T).size; rw [bs_size, bs_size]; omega
          have HLB := Lib.hid hlb
          have hk2 : b.length + (k + 1) ≤ 60000 := by omega
          clear hk1 ha1 hsub hmem HK HA HM hok hc hno hne hab hlb hla
          generalize bs T = S at *
          go_wp2_with (first
            | (go_at_call 35; refine (HC.out _).mono ?_; rintro e w1 ⟨rfl, m1⟩)
            | (go_at_call 23; refine (HCC.out _ m1).mono ?_; rintro e w2 ⟨rfl, hbx2, hb2⟩))
          refine ⟨⟨k + 1, b, acc ++ [lnGel a], rfl, by congr 1, hk2, by rw [List.length_append, List.length_singleton]; omega, E1, E2, E3, hbx2, Below.trans (Below.trans HW.out (Below.mono m1 (Nat.le_of_lt HBX.out.lt))) hb2⟩, HLB.out⟩
        | false =>
          rw [hok, if_neg (by decide)] at hk1
          have E1 := Lib.hid hk1
          have HCC : Hid (∀ w', Bl wr w' → Calls Tryz.prog 23 #[.string (bs a), .pointer (some ⟨nb, 0, none⟩)] w' fun x w'' => x = .returned (.bool false) ∧ Below nb w' w'') := fun w' m => by
            have hbelow : Below nb w w' := Below.trans HW.out (Below.mono m (Nat.le_of_lt HBX.out.lt))
            have hbx := HBX.out.bl m
            refine (closure_any nb acc (lnGel a) false (bs a) w' hbx (by omega) (fun w2 m2 => ?_)).mono ?_
            · have hcall := HGG.out a (by omega) hmem w2 (Below.trans hbelow (Below.mono m2 (Nat.le_of_lt hbx.lt)))
              rw [hok] at hcall
              exact hcall
            · rintro x w2 ⟨rfl, _, hc2⟩
              exact ⟨rfl, hc2⟩
          clear hk1 ha1 hsub hmem HK HA HM hok hc hno hne hab hla
          generalize bs T = S at *
          go_wp2_with (first
            | (go_at_call 35; refine (HC.out _).mono ?_; rintro e w1 ⟨rfl, m1⟩)
            | (go_at_call 23; refine (HCC.out _ m1).mono ?_; rintro e w2 ⟨rfl, hb2⟩))
          go_ret2
          exact ⟨Below.trans (Below.trans HW.out (Below.mono m1 (Nat.le_of_lt HBX.out.lt))) hb2, .inr ⟨k + 1, E1.out, rfl⟩⟩
end Go.Proofs.YtfamnaekelmkpaaGreatDoor
