/- Facts for LevelCurvesComeBack: what is read back. -/
import Derived.Test.YtfeeolfekfkdiaaDoorCvS
import Derived.Test.YtfeeolfekfkdiaaDoorSame
import Derived.Test.YtfeeolfekfkdiaaDoorInvK
namespace Go.Proofs.YtfeeolfekfkdiaaDoor
open Go.RowKit Go.Lib

/-- What ReadCurve answers to the text of a curve that keeps the rules. -/
theorem rc_text {k : Int} {l : List (Int × Int)} (h : ckCurve k l = 0) : rcX (cvText k l) = 0 ∧ rcK (cvText k l) = k ∧ rcL (cvText k l) = l ∧ (cvText k l).length ≤ 100000000 := by
  obtain ⟨k1, k6⟩ := ck_kind h
  have hl : k = 6 ∨ l = [] := by
    by_cases h6 : k = 6
    · exact Or.inl h6
    · exact Or.inr (ck_empty h h6)
  have hr : ∀ i, i < l.length → 0 ≤ (l[i]?.getD (0, 0)).1 ∧ (l[i]?.getD (0, 0)).1 ≤ 1000 ∧ 0 ≤ (l[i]?.getD (0, 0)).2 ∧ (l[i]?.getD (0, 0)).2 ≤ 1000 := by
    intro i hi
    rcases hl with rfl | rfl
    · have := (ck_tab h).range i hi
      omega
    · cases hi
  have hn : l.length ≤ 1000 := by
    rcases hl with rfl | rfl
    · have := (ck_tab h).most
      omega
    · simp
  have hp : ptsIn l := by
    intro p hp
    obtain ⟨i, hi, rfl⟩ := List.mem_iff_getElem.1 hp
    have := hr i hi
    rw [List.getElem?_eq_getElem hi, Option.getD_some] at this
    omega
  obtain ⟨a1, a2, a3⟩ := cv_show k1 k6 hl hp
  have hx : rcX (cvText k l) = 0 := by unfold rcX; rw [if_pos a1, a2, a3, h]
  obtain ⟨b1, b2⟩ := rc_yes hx
  refine ⟨hx, by rw [b1, a2], by rw [b2, a3], ?_⟩
  have := preT_len k l (fun i hi => ⟨(hr i hi).2.1, (hr i hi).2.2.2⟩) l.length (Nat.le_refl _)
  rw [preT_all] at this
  omega
/-- What CurveText answers to a curve that was read. -/
theorem ct_read {s : ByteArray} (h : rcX s.data.toList = 0) : ctR (rcK s.data.toList) (rcL s.data.toList) = .returned (.tuple #[.string s, .int .i64 0]) := by
  obtain ⟨b1, b2⟩ := rc_yes h
  have hok : cvOk s.data.toList = true := by
    cases hc : cvOk s.data.toList with
    | true => rfl
    | false =>
      unfold rcX at h
      rw [hc] at h
      cases h
  have hck : ckCurve (kindOf (cvW s.data.toList)) (ppV (cvWs s.data.toList)) = 0 := by
    unfold rcX at h
    rwa [if_pos hok] at h
  obtain ⟨e, _, _⟩ := cv_read hok
  unfold ctR
  rw [b1, b2, hck, if_pos rfl, ← e]
  have : bs s.data.toList = s := bs_of s
  rw [this]
/-- The inverse of the inverse. -/
theorem iv_twice {k : Int} {l : List (Int × Int)} (h : ckCurve k l = 0) (h5 : k ≠ 5) : ivX (invK k) (if k = 6 then invL l else []) = 0 ∧ ivK (invK k) (if k = 6 then invL l else []) = k ∧ ivL (invK k) (if k = 6 then invL l else []) = l := by
  have hc := ck_inv h h5
  obtain ⟨k1, k6⟩ := ck_kind h
  have h5' : invK k ≠ 5 := by unfold invK; omega
  obtain ⟨e1, e2, e3⟩ := iv_ok hc h5'
  refine ⟨e1, by rw [e2]; exact inv_inv_curve h5, ?_⟩
  rw [e3]
  by_cases h6 : k = 6
  · subst h6
    rw [if_pos (by decide), if_pos rfl, inv_inv]
  · have : invK k ≠ 6 := by unfold invK; omega
    rw [if_neg this, ck_empty h h6]

def RcOk (k : Int) (l : List (Int × Int)) (w : World) (e : Ending) (w' : World) : Prop := ∃ v, e = .returned (.tuple #[.agg #[.int .i64 k, v], .int .i64 0]) ∧ PtsAny w' v l ∧ Bl w w'
def RcNo (k x : Int) (w : World) (e : Ending) (w' : World) : Prop := ∃ o c, e = .returned (.tuple #[.agg #[.int .i64 k, .slice o 0 c], .int .i64 x]) ∧ Bl w w'
def CtIs (t : ByteArray) (x : Int) (w : World) (e : Ending) (w' : World) : Prop := e = .returned (.tuple #[.string t, .int .i64 x]) ∧ Bl w w'
theorem no_pts {w : World} {v : Value} (h : PtsAny w v []) : ∃ o c, v = .slice o 0 c := by
  rcases h with ⟨o2, cap2, rfl, _⟩ | ⟨b, off, cap2, rfl, _⟩
  · exact ⟨_, _, rfl⟩
  · exact ⟨_, _, rfl⟩
end Go.Proofs.YtfeeolfekfkdiaaDoor
