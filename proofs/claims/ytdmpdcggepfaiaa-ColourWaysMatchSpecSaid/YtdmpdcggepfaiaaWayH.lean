/- Between, of the program. -/
import Derived.Test.YtdmpdcggepfaiaaWayG
namespace Go.Proofs.Ytdmpdcggepfaiaa
open Go.RowKit Go.Sort

/-- How far the hue turns. -/
def turnW (k h1 s1 h2 s2 : Int) : Int := if k = 2 then shortT (upH h1 s1 h2 s2) else longT (upH h1 s1 h2 s2)
theorem turnW_bd (k h1 s1 h2 s2 : Int) : -393210 ≤ turnW k h1 s1 h2 s2 ∧ turnW k h1 s1 h2 s2 ≤ 393210 := by
  have h : 0 ≤ upH h1 s1 h2 s2 ∧ upH h1 s1 h2 s2 ≤ 393209 := by unfold upH; omega
  unfold turnW shortT longT
  split
  · split <;> omega
  · split <;> omega
/-- The colour on the way. -/
def btwC (k r g b x y z p q : Int) : Int × Int × Int :=
  if k = 1 then (mxV r x p q, mxV g y p q, mxV b z p q)
  else fromT (hueW (hueA (toneC r g b).1 (toneC r g b).2.1 (toneC x y z).1) (turnW k (toneC r g b).1 (toneC r g b).2.1 (toneC x y z).1 (toneC x y z).2.1) p q)
    (mxV (toneC r g b).2.1 (toneC x y z).2.1 p q) (mxV (toneC r g b).2.2 (toneC x y z).2.2 p q)

/-- A call that gives a journey which comes to this colour. -/
def PJ (c : Int × Int × Int) (p q : Int) (w : World) (e : Ending) (w' : World) : Prop := ∃ (G : FuncId) (caps : Array Value), e = .returned (.func (.func G) #[] caps) ∧ (∀ args w, (callFunc G args).run Try.prog w = .ok (.enter G args) w) ∧
  (isPt p q = true → ∀ w2, Gr w' w2 → Calls Try.prog G (#[.int .i64 p, .int .i64 q] ++ caps) w2 fun e w3 => e = .returned (.agg #[.int .i64 c.1, .int .i64 c.2.1, .int .i64 c.2.2]) ∧ Gr w2 w3) ∧ Gr w w'

theorem hueA_bd {h1 s1 h2 : Int} (a0 : 0 ≤ h1) (a1 : h1 ≤ 393209) (b0 : 0 ≤ h2) (b1 : h2 ≤ 393209) : 0 ≤ hueA h1 s1 h2 ∧ hueA h1 s1 h2 ≤ 393209 := by
  unfold hueA; split <;> omega
theorem journey_all (k r g b x y z p q : Int) (w : World) (k1 : 1 ≤ k) (k3 : k ≤ 3) (ha : isCol r g b = true) (hc : isCol x y z = true) :
    Calls Try.prog 31 #[.int .i64 k, .agg #[.int .i64 r, .int .i64 g, .int .i64 b], .agg #[.int .i64 x, .int .i64 y, .int .i64 z]] w (PJ (btwC k r g b x y z p q) p q w) := by
  obtain ⟨hr, hg, hb⟩ := isCol_iff.1 ha
  obtain ⟨hx, hy, hz⟩ := isCol_iff.1 hc
  have t1 := (tone_bd hr hg hb).1
  have t2 := (tone_bd hx hy hz).1
  have hA := hueA_bd (s1 := (toneC r g b).2.1) t1.1 t1.2 t2.1 t2.2
  rcases (show k = 1 ∨ k = 2 ∨ k = 3 by omega) with rfl | rfl | rfl
  · refine (journey_straight r g b x y z w).mono ?_
    rintro e w' ⟨b1, b2, rfl, ⟨c1, c2⟩, g1⟩
    exact ⟨_, _, rfl, enters_of Try.func70 (by kernel_rfl) rfl, fun _ w2 g2 => straight_call r g b x y z p q b1 b2 w2 (c1.gr g2) (c2.gr g2), g1⟩
  · refine (journey_short r g b x y z w hr hg hb hx hy hz).mono ?_
    rintro e w' ⟨b1, b2, b3, rfl, ⟨c1, c2, c3⟩, g1⟩
    have tb := turnW_bd 2 (toneC r g b).1 (toneC r g b).2.1 (toneC x y z).1 (toneC x y z).2.1
    exact ⟨_, _, rfl, enters_of Try.func73 (by kernel_rfl) rfl, fun hp w2 g2 => around_call _ _ _ _ _ _ _ p q b1 b2 b3 w2 hA.1 hA.2 tb.1 tb.2 hp (c1.gr g2) (g2.cell c2) (c3.gr g2), g1⟩
  · refine (journey_long r g b x y z w hr hg hb hx hy hz).mono ?_
    rintro e w' ⟨b1, b2, b3, rfl, ⟨c1, c2, c3⟩, g1⟩
    have tb := turnW_bd 3 (toneC r g b).1 (toneC r g b).2.1 (toneC x y z).1 (toneC x y z).2.1
    exact ⟨_, _, rfl, enters_of Try.func73 (by kernel_rfl) rfl, fun hp w2 g2 => around_call _ _ _ _ _ _ _ p q b1 b2 b3 w2 hA.1 hA.2 tb.1 tb.2 hp (c1.gr g2) (g2.cell c2) (c3.gr g2), g1⟩

theorem run_eqIn_func {P : Program} (w : World) (d : Nat) (t : TypeId) {a b : Array TypeId} {c : Bool} (h : P.underlying t = some (.func a b c)) (f : Fn) (p q : Array Value) :
    (Op.equalIn (d + 1) t (.func f p q) .nilFunc).run P w = .ok false w := by simp [Op.equalIn, run_underlying h]
theorem run_eqIn_nils {P : Program} (w : World) (d : Nat) (t : TypeId) {a b : Array TypeId} {c : Bool} (h : P.underlying t = some (.func a b c)) :
    (Op.equalIn (d + 1) t .nilFunc .nilFunc).run P w = .ok true w := by simp [Op.equalIn, run_underlying h]
theorem run_eql_func {P : Program} (w : World) (t : TypeId) {a b : Array TypeId} {c : Bool} (h : P.underlying t = some (.func a b c)) (f : Fn) (p q : Array Value) :
    (binOp .eql t (.func f p q) .nilFunc).run P w = .ok (.bool false) w := by
  simp only [binOp]
  simp [Op.equal, Op.maxDepth, run_eqIn_func w 9999 t h f p q]
theorem run_eql_nils {P : Program} (w : World) (t : TypeId) {a b : Array TypeId} {c : Bool} (h : P.underlying t = some (.func a b c)) :
    (binOp .eql t .nilFunc .nilFunc).run P w = .ok (.bool true) w := by
  simp only [binOp]
  simp [Op.equal, Op.maxDepth, run_eqIn_nils w 9999 t h]

/-- What Between gives. -/
def betV (k r g b x y z p q : Int) : Int × Int × Int :=
  if (isCol r g b && isCol x y z) = false then (0, 0, 0) else if ¬(1 ≤ k ∧ k ≤ 3) then (0, 0, 0) else if isPt p q = false then (0, 0, 0) else if p = 0 then (r, g, b) else if p = q then (x, y, z) else btwC k r g b x y z p q
def betX (k r g b x y z p q : Int) : Int :=
  if (isCol r g b && isCol x y z) = false then 1 else if ¬(1 ≤ k ∧ k ≤ 3) then 4 else if isPt p q = false then 1 else 0

set_option maxRecDepth 100000 in
set_option maxHeartbeats 3200000 in
theorem between_col (k r g b x y z p q : Int) (w : World) :
    Calls Try.prog 16 #[.agg #[.int .i64 r, .int .i64 g, .int .i64 b], .agg #[.int .i64 x, .int .i64 y, .int .i64 z], .int .i64 k, .int .i64 p, .int .i64 q] w fun e w' =>
      e = .returned (.tuple #[.agg #[.int .i64 (betV k r g b x y z p q).1, .int .i64 (betV k r g b x y z p q).2.1, .int .i64 (betV k r g b x y z p q).2.2], .int .i64 (betX k r g b x y z p q)]) ∧ Gr w w' := by
  have hC := fun w => checkBoth_any r g b x y z w
  have hP := fun w => isPart_any p q w
  have HK := Lib.hid (fun w' (m : Gr (((w.alloc (.cells #[.int .i64 r, .int .i64 g, .int .i64 b] 23)).alloc (.cells #[.int .i64 x, .int .i64 y, .int .i64 z] 23)).alloc (.cells #[.int .i64 0, .int .i64 0, .int .i64 0] 23)) w') =>
    (show (Cel3 w' w.heap.size r g b ∧ Cel3 w' (w.heap.size + 1) x y z) ∧ Cel3 w' (w.heap.size + 1 + 1) 0 0 0 ∧ w'.frozen? ⟨w.heap.size + 1 + 1, 0, none⟩ = false ∧ w'.frozen? ⟨w.heap.size + 1 + 1, 1, none⟩ = false ∧ w'.frozen? ⟨w.heap.size + 1 + 1, 2, none⟩ = false from by
      obtain ⟨a, _⟩ := own3g (n := w.heap.size) rfl ((((Gr.refl (w.alloc (.cells #[.int .i64 r, .int .i64 g, .int .i64 b] 23))).alloc _).alloc _).trans m)
      obtain ⟨c, _⟩ := own3g (n := w.heap.size + 1) (by simp) (((Gr.refl ((w.alloc (.cells #[.int .i64 r, .int .i64 g, .int .i64 b] 23)).alloc (.cells #[.int .i64 x, .int .i64 y, .int .i64 z] 23))).alloc _).trans m)
      obtain ⟨d, f⟩ := own3g (n := w.heap.size + 1 + 1) (by simp) m
      exact ⟨⟨a, c⟩, d, f⟩))
  have hv0 : betV k r g b x y z p q = if (isCol r g b && isCol x y z) = false then (0, 0, 0) else if ¬(1 ≤ k ∧ k ≤ 3) then (0, 0, 0) else if isPt p q = false then (0, 0, 0) else if p = 0 then (r, g, b) else if p = q then (x, y, z) else btwC k r g b x y z p q := rfl
  have hx0 : betX k r g b x y z p q = if (isCol r g b && isCol x y z) = false then 1 else if ¬(1 ≤ k ∧ k ≤ 3) then 4 else if isPt p q = false then 1 else 0 := rfl
  have hJ := fun w a c => fun k1 k3 => journey_all k r g b x y z p q w k1 k3 a c
  have hN := fun w n1 n2 n3 => journey_none k r g b x y z w n1 n2 n3
  generalize betV k r g b x y z p q = V at *
  generalize betX k r g b x y z p q = X at *
  generalize btwC k r g b x y z p q = C at *
  have q1 := fun w f pr cs => run_eql_func w 51 Try.underlying51 f pr cs
  have q2 := fun w => run_eql_nils w 51 Try.underlying51
  have h0 : Gr w (((w.alloc (.cells #[.int .i64 r, .int .i64 g, .int .i64 b] 23)).alloc (.cells #[.int .i64 x, .int .i64 y, .int .i64 z] 23)).alloc (.cells #[.int .i64 0, .int .i64 0, .int .i64 0] 23)) := (((Gr.refl w).alloc _).alloc _).alloc _
  cases hab : (isCol r g b && isCol x y z) with
  | false =>
    rw [hab] at hC
    have hv : Hid (V = (0, 0, 0) ∧ X = 1) := by show _ ∧ _; rw [hv0, hx0, if_pos hab, if_pos hab]; exact ⟨rfl, rfl⟩
    have HC := Lib.hid hC
    clear hC hP hJ hN hv0 hx0 hab
    rw [hv.out.1, hv.out.2]
    go_enter Try.func16, Try.ntmps16
    go_wp2_with fail
    refine (HC.out _).mono ?_
    rintro e w1 ⟨rfl, g1⟩
    obtain ⟨⟨⟨c0, c1, c2⟩, d0, d1, d2⟩, ⟨k0, k1, k2⟩, f0, f1, f2⟩ := HK.out _ g1
    go_wp2_with fail
    refine bodyPost_ret (v := .tuple #[.agg #[.int .i64 0, .int .i64 0, .int .i64 0], .int .i64 1]) ?_ rfl ⟨rfl, ?_⟩
    · simp [results, Try.results16, go_sem, k0, k1, k2]
    · exact set3g (by omega) (by ((repeat (first | with_reducible exact Gr.refl _ | with_reducible assumption | with_reducible refine Gr.drew ?_ | with_reducible refine Gr.alloc ?_ _ | with_reducible refine Gr.trans ?_ (by assumption))); done)) _ _ _
  | true =>
    rw [hab] at hC
    have hab2 : isCol r g b = true ∧ isCol x y z = true := by simpa using hab
    have HC := Lib.hid hC
    rw [if_neg (by rw [hab]; decide)] at hv0 hx0
    clear hC hab
    by_cases hk : 1 ≤ k ∧ k ≤ 3
    · have HJ := Lib.hid (fun w => hJ w hab2.1 hab2.2 hk.1 hk.2)
      rw [if_neg (by simpa using hk)] at hv0 hx0
      clear hJ hN hab2 hk
      cases hp : isPt p q with
      | false =>
        rw [hp] at hP
        have HP := Lib.hid hP
        have hv : Hid (V = (0, 0, 0) ∧ X = 1) := by show _ ∧ _; rw [hv0, hx0, if_pos hp, if_pos hp]; exact ⟨rfl, rfl⟩
        clear hP hv0 hx0 hp
        rw [hv.out.1, hv.out.2]
        go_enter Try.func16, Try.ntmps16
        go_wp2_with fail
        refine (HC.out _).mono ?_
        rintro e w1 ⟨rfl, g1⟩
        obtain ⟨⟨⟨c0, c1, c2⟩, d0, d1, d2⟩, ⟨k0, k1, k2⟩, f0, f1, f2⟩ := HK.out _ g1
        go_wp2_with fail
        refine (HJ.out _).mono ?_
        rintro e w2 ⟨G, caps, rfl, eg, hcall, g2⟩
        have HCa := Lib.hid hcall
        clear c0 c1 c2 d0 d1 d2 k0 k1 k2 f0 f1 f2 hcall
        obtain ⟨⟨⟨c0, c1, c2⟩, d0, d1, d2⟩, ⟨k0, k1, k2⟩, f0, f1, f2⟩ := HK.out _ (g1.trans g2)
        go_wp2_with fail
        refine (HP.out _).mono ?_
        rintro e w' ⟨rfl, rfl⟩
        go_wp2_with fail
        refine bodyPost_ret (v := .tuple #[.agg #[.int .i64 0, .int .i64 0, .int .i64 0], .int .i64 1]) ?_ rfl ⟨rfl, ?_⟩
        · simp [results, Try.results16, go_sem, k0, k1, k2]
        · exact set3g (by omega) (by ((repeat (first | with_reducible exact Gr.refl _ | with_reducible assumption | with_reducible refine Gr.drew ?_ | with_reducible refine Gr.alloc ?_ _ | with_reducible refine Gr.trans ?_ (by assumption))); done)) _ _ _
      | true =>
        rw [hp] at hP
        have HP := Lib.hid hP
        rw [if_neg (by rw [hp]; decide)] at hv0 hx0
        have HPt := Lib.hid hp
        clear hP hp
        by_cases hp0 : p = 0
        · have hv : Hid (V = (r, g, b) ∧ X = 0) := by show _ ∧ _; rw [hv0, hx0, if_pos hp0]; exact ⟨rfl, rfl⟩
          have t1 : (p == 0) = true := by simpa using hp0
          clear hv0 hx0 hp0
          rw [hv.out.1, hv.out.2]
          go_enter Try.func16, Try.ntmps16
          go_wp2_with fail
          refine (HC.out _).mono ?_
          rintro e w1 ⟨rfl, g1⟩
          obtain ⟨⟨⟨c0, c1, c2⟩, d0, d1, d2⟩, ⟨k0, k1, k2⟩, f0, f1, f2⟩ := HK.out _ g1
          go_wp2_with fail
          refine (HJ.out _).mono ?_
          rintro e w2 ⟨G, caps, rfl, eg, hcall, g2⟩
          have HCa := Lib.hid hcall
          clear c0 c1 c2 d0 d1 d2 k0 k1 k2 f0 f1 f2 hcall
          obtain ⟨⟨⟨c0, c1, c2⟩, d0, d1, d2⟩, ⟨k0, k1, k2⟩, f0, f1, f2⟩ := HK.out _ (g1.trans g2)
          go_wp2_with fail
          refine (HP.out _).mono ?_
          rintro e w' ⟨rfl, rfl⟩
          go_wp2_with fail
          refine bodyPost_ret (v := .tuple #[.agg #[.int .i64 r, .int .i64 g, .int .i64 b], .int .i64 0]) ?_ rfl ⟨rfl, ?_⟩
          · simp [results, Try.results16, go_sem, k0, k1, k2]
          · exact set3g (by omega) (by ((repeat (first | with_reducible exact Gr.refl _ | with_reducible assumption | with_reducible refine Gr.drew ?_ | with_reducible refine Gr.alloc ?_ _ | with_reducible refine Gr.trans ?_ (by assumption))); done)) _ _ _
        · have t1 : (p == 0) = false := by simpa using hp0
          rw [if_neg hp0] at hv0
          clear hp0
          by_cases hpq : p = q
          · have hv : Hid (V = (x, y, z) ∧ X = 0) := by show _ ∧ _; rw [hv0, hx0, if_pos hpq]; exact ⟨rfl, rfl⟩
            have t2 : (p == q) = true := by simpa using hpq
            clear hv0 hx0 hpq
            rw [hv.out.1, hv.out.2]
            go_enter Try.func16, Try.ntmps16
            go_wp2_with fail
            refine (HC.out _).mono ?_
            rintro e w1 ⟨rfl, g1⟩
            obtain ⟨⟨⟨c0, c1, c2⟩, d0, d1, d2⟩, ⟨k0, k1, k2⟩, f0, f1, f2⟩ := HK.out _ g1
            go_wp2_with fail
            refine (HJ.out _).mono ?_
            rintro e w2 ⟨G, caps, rfl, eg, hcall, g2⟩
            have HCa := Lib.hid hcall
            clear c0 c1 c2 d0 d1 d2 k0 k1 k2 f0 f1 f2 hcall
            obtain ⟨⟨⟨c0, c1, c2⟩, d0, d1, d2⟩, ⟨k0, k1, k2⟩, f0, f1, f2⟩ := HK.out _ (g1.trans g2)
            go_wp2_with fail
            refine (HP.out _).mono ?_
            rintro e w' ⟨rfl, rfl⟩
            go_wp2_with fail
            refine bodyPost_ret (v := .tuple #[.agg #[.int .i64 x, .int .i64 y, .int .i64 z], .int .i64 0]) ?_ rfl ⟨rfl, ?_⟩
            · simp [results, Try.results16, go_sem, k0, k1, k2]
            · exact set3g (by omega) (by ((repeat (first | with_reducible exact Gr.refl _ | with_reducible assumption | with_reducible refine Gr.drew ?_ | with_reducible refine Gr.alloc ?_ _ | with_reducible refine Gr.trans ?_ (by assumption))); done)) _ _ _
          · have hv : Hid (V = C ∧ X = 0) := by show _ ∧ _; rw [hv0, hx0, if_neg hpq]; exact ⟨rfl, rfl⟩
            have t2 : (p == q) = false := by simpa using hpq
            clear hv0 hx0 hpq
            rw [hv.out.1, hv.out.2]
            go_enter Try.func16, Try.ntmps16
            go_wp2_with fail
            refine (HC.out _).mono ?_
            rintro e w1 ⟨rfl, g1⟩
            obtain ⟨⟨⟨c0, c1, c2⟩, d0, d1, d2⟩, ⟨k0, k1, k2⟩, f0, f1, f2⟩ := HK.out _ g1
            go_wp2_with fail
            refine (HJ.out _).mono ?_
            rintro e w2 ⟨G, caps, rfl, eg, hcall, g2⟩
            have HCa := Lib.hid hcall
            clear c0 c1 c2 d0 d1 d2 k0 k1 k2 f0 f1 f2 hcall
            obtain ⟨⟨⟨c0, c1, c2⟩, d0, d1, d2⟩, ⟨k0, k1, k2⟩, f0, f1, f2⟩ := HK.out _ (g1.trans g2)
            go_wp2_with fail
            refine (HP.out _).mono ?_
            rintro e w' ⟨rfl, rfl⟩
            go_wp2_with fail
            refine (HCa.out HPt.out _ (Gr.refl _)).mono ?_
            rintro e w3 ⟨rfl, g3⟩
            clear c0 c1 c2 d0 d1 d2 k0 k1 k2 f0 f1 f2
            obtain ⟨⟨⟨c0, c1, c2⟩, d0, d1, d2⟩, ⟨k0, k1, k2⟩, f0, f1, f2⟩ := HK.out _ ((g1.trans g2).trans g3)
            go_wp2_with fail
            refine bodyPost_ret (v := .tuple #[.agg #[.int .i64 C.1, .int .i64 C.2.1, .int .i64 C.2.2], .int .i64 0]) ?_ rfl ⟨rfl, ?_⟩
            · simp [results, Try.results16, go_sem, k0, k1, k2]
            · exact set3g (by omega) (by ((repeat (first | with_reducible exact Gr.refl _ | with_reducible assumption | with_reducible refine Gr.drew ?_ | with_reducible refine Gr.alloc ?_ _ | with_reducible refine Gr.trans ?_ (by assumption))); done)) _ _ _
    · have HN := Lib.hid (fun w => hN w (by omega) (by omega) (by omega))
      have hv : Hid (V = (0, 0, 0) ∧ X = 4) := by show _ ∧ _; rw [hv0, hx0, if_pos hk, if_pos hk]; exact ⟨rfl, rfl⟩
      clear hJ hN hP hv0 hx0 hk hab2
      rw [hv.out.1, hv.out.2]
      go_enter Try.func16, Try.ntmps16
      go_wp2_with fail
      refine (HC.out _).mono ?_
      rintro e w1 ⟨rfl, g1⟩
      obtain ⟨⟨⟨c0, c1, c2⟩, d0, d1, d2⟩, ⟨k0, k1, k2⟩, f0, f1, f2⟩ := HK.out _ g1
      go_wp2_with fail
      refine (HN.out _).mono ?_
      rintro e w2 ⟨rfl, g2⟩
      clear c0 c1 c2 d0 d1 d2 k0 k1 k2 f0 f1 f2
      obtain ⟨⟨⟨c0, c1, c2⟩, d0, d1, d2⟩, ⟨k0, k1, k2⟩, f0, f1, f2⟩ := HK.out _ (g1.trans g2)
      go_wp2_with fail
      refine bodyPost_ret (v := .tuple #[.agg #[.int .i64 0, .int .i64 0, .int .i64 0], .int .i64 4]) ?_ rfl ⟨rfl, ?_⟩
      · simp [results, Try.results16, go_sem, k0, k1, k2]
      · exact set3g (by omega) (by ((repeat (first | with_reducible exact Gr.refl _ | with_reducible assumption | with_reducible refine Gr.drew ?_ | with_reducible refine Gr.alloc ?_ _ | with_reducible refine Gr.trans ?_ (by assumption))); done)) _ _ _
end Go.Proofs.Ytdmpdcggepfaiaa
