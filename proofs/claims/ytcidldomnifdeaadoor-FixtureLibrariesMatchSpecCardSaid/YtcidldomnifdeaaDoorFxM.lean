/- Profiles of fixtures: how they lie in memory, and what the checks say of them. -/
import Derived.Test.YtcidldomnifdeaaDoorBl
import Derived.Test.YtcidldomnifdeaaDoorNameM
import Derived.Test.YtcidldomnifdeaaDoorLevI
namespace Go.Proofs.YtcidldomnifdeaaDoor
open Go.RowKit

/-- A range of levels. -/
structure Rng where
  lo : Int
  hi : Int
  name : ByteArray
/-- A parameter. -/
structure Par where
  name : ByteArray
  grp : Int
  slot : Int
  fine : Int
  dflt : Int
  snap : Bool
  rs : List Rng
/-- A profile. -/
structure Prof where
  name : ByteArray
  size : Int
  ps : List Par
def nmR (r : Rng) : List UInt8 := r.name.data.toList
def nmP (p : Par) : List UInt8 := p.name.data.toList
def nmF (f : Prof) : List UInt8 := f.name.data.toList

/-- The cells of a range. -/
def CelR (w : World) (b off : Nat) (e : Rng) : Prop := w.cell? ⟨b, off, none⟩ = some (.int .i64 e.lo) ∧ w.cell? ⟨b, off + 1, none⟩ = some (.int .i64 e.hi) ∧ w.cell? ⟨b, off + 2, none⟩ = some (.string e.name)
theorem CelR.bl {w w' : World} {b off : Nat} {e : Rng} (h : CelR w b off e) (g : Bl w w') : CelR w' b off e := ⟨g.cell h.1, g.cell h.2.1, g.cell h.2.2⟩
theorem CelR.new (w : World) (t : TypeId) (e : Rng) : CelR (w.alloc (.cells #[.int .i64 e.lo, .int .i64 e.hi, .string e.name] t)) w.heap.size 0 e := ⟨by simp, by simp, by simp⟩
def RngsAt (w : World) (b off : Nat) (L : List Rng) : Prop := ∀ i (hi : i < L.length), CelR w b (off + i * 3) L[i]
theorem RngsAt.bl {w w' : World} {b off : Nat} {L : List Rng} (h : RngsAt w b off L) (g : Bl w w') : RngsAt w' b off L := fun i hi => (h i hi).bl g
/-- v reads as the ranges L. -/
def RngVal (w : World) (v : Value) (L : List Rng) : Prop := ∃ (o : Option Addr) (cap : Nat), v = .slice o L.length cap ∧ (L.length ≤ cap ∧ cap ≤ 9223372036854775807) ∧ (0 < L.length → ∃ b off, o = some ⟨b, off, none⟩ ∧ RngsAt w b off L)
theorem RngVal.bl {w w' : World} {v : Value} {L : List Rng} (h : RngVal w v L) (g : Bl w w') : RngVal w' v L := by
  obtain ⟨o, cap, h1, h2, h3⟩ := h
  exact ⟨o, cap, h1, h2, fun hp => by obtain ⟨b, off, h4, h5⟩ := h3 hp; exact ⟨b, off, h4, h5.bl g⟩⟩

/-- The cells of a parameter, with its ranges at v. -/
def CelP (w : World) (b off : Nat) (e : Par) (v : Value) : Prop := w.cell? ⟨b, off, none⟩ = some (.string e.name) ∧ w.cell? ⟨b, off + 1, none⟩ = some (.int .i64 e.grp) ∧ w.cell? ⟨b, off + 2, none⟩ = some (.int .i64 e.slot) ∧ w.cell? ⟨b, off + 3, none⟩ = some (.int .i64 e.fine) ∧ w.cell? ⟨b, off + 4, none⟩ = some (.int .i64 e.dflt) ∧ w.cell? ⟨b, off + 5, none⟩ = some (.bool e.snap) ∧ w.cell? ⟨b, off + 6, none⟩ = some v
theorem CelP.bl {w w' : World} {b off : Nat} {e : Par} {v : Value} (h : CelP w b off e v) (g : Bl w w') : CelP w' b off e v := ⟨g.cell h.1, g.cell h.2.1, g.cell h.2.2.1, g.cell h.2.2.2.1, g.cell h.2.2.2.2.1, g.cell h.2.2.2.2.2.1, g.cell h.2.2.2.2.2.2⟩
theorem CelP.new (w : World) (t : TypeId) (e : Par) (v : Value) : CelP (w.alloc (.cells #[.string e.name, .int .i64 e.grp, .int .i64 e.slot, .int .i64 e.fine, .int .i64 e.dflt, .bool e.snap, v] t)) w.heap.size 0 e v := ⟨by simp, by simp, by simp, by simp, by simp, by simp, by simp⟩
def ParsAt (w : World) (b off : Nat) (L : List Par) : Prop := ∀ i (hi : i < L.length), ∃ v, CelP w b (off + i * 7) L[i] v ∧ RngVal w v L[i].rs
theorem ParsAt.bl {w w' : World} {b off : Nat} {L : List Par} (h : ParsAt w b off L) (g : Bl w w') : ParsAt w' b off L := fun i hi => by
  obtain ⟨v, h1, h2⟩ := h i hi
  exact ⟨v, h1.bl g, h2.bl g⟩
/-- v reads as the parameters L. -/
def ParVal (w : World) (v : Value) (L : List Par) : Prop := ∃ (o : Option Addr) (cap : Nat), v = .slice o L.length cap ∧ (L.length ≤ cap ∧ cap ≤ 9223372036854775807) ∧ (0 < L.length → ∃ b off, o = some ⟨b, off, none⟩ ∧ ParsAt w b off L)
theorem ParVal.bl {w w' : World} {v : Value} {L : List Par} (h : ParVal w v L) (g : Bl w w') : ParVal w' v L := by
  obtain ⟨o, cap, h1, h2, h3⟩ := h
  exact ⟨o, cap, h1, h2, fun hp => by obtain ⟨b, off, h4, h5⟩ := h3 hp; exact ⟨b, off, h4, h5.bl g⟩⟩
/-- The cells of a profile, with its parameters at v. -/
def CelF (w : World) (b off : Nat) (e : Prof) (v : Value) : Prop := w.cell? ⟨b, off, none⟩ = some (.string e.name) ∧ w.cell? ⟨b, off + 1, none⟩ = some (.int .i64 e.size) ∧ w.cell? ⟨b, off + 2, none⟩ = some v
theorem CelF.bl {w w' : World} {b off : Nat} {e : Prof} {v : Value} (h : CelF w b off e v) (g : Bl w w') : CelF w' b off e v := ⟨g.cell h.1, g.cell h.2.1, g.cell h.2.2⟩
theorem CelF.new (w : World) (t : TypeId) (e : Prof) (v : Value) : CelF (w.alloc (.cells #[.string e.name, .int .i64 e.size, v] t)) w.heap.size 0 e v := ⟨by simp, by simp, by simp⟩
def ProfsAt (w : World) (b off : Nat) (L : List Prof) : Prop := ∀ i (hi : i < L.length), ∃ v, CelF w b (off + i * 3) L[i] v ∧ ParVal w v L[i].ps
theorem ProfsAt.bl {w w' : World} {b off : Nat} {L : List Prof} (h : ProfsAt w b off L) (g : Bl w w') : ProfsAt w' b off L := fun i hi => by
  obtain ⟨v, h1, h2⟩ := h i hi
  exact ⟨v, h1.bl g, h2.bl g⟩
/-- v reads as the profiles L. -/
def ProfVal (w : World) (v : Value) (L : List Prof) : Prop := ∃ (o : Option Addr) (cap : Nat), v = .slice o L.length cap ∧ (L.length ≤ cap ∧ cap ≤ 9223372036854775807) ∧ (0 < L.length → ∃ b off, o = some ⟨b, off, none⟩ ∧ ProfsAt w b off L)
theorem ProfVal.bl {w w' : World} {v : Value} {L : List Prof} (h : ProfVal w v L) (g : Bl w w') : ProfVal w' v L := by
  obtain ⟨o, cap, h1, h2, h3⟩ := h
  exact ⟨o, cap, h1, h2, fun hp => by obtain ⟨b, off, h4, h5⟩ := h3 hp; exact ⟨b, off, h4, h5.bl g⟩⟩
/-- Texts that are no longer than any text. -/
def RngsOk (L : List Rng) : Prop := ∀ e ∈ L, e.name.size ≤ 9223372036854775807
def ParOk (p : Par) : Prop := p.name.size ≤ 9223372036854775807 ∧ RngsOk p.rs
def ProfOk (f : Prof) : Prop := f.name.size ≤ 9223372036854775807 ∧ ∀ p ∈ f.ps, ParOk p

/-- What is wrong with a range behind those that end at a and have these names. -/
def ckRng (a : Int) (seen : List (List UInt8)) (r : Rng) : Int :=
  if isLev r.lo = false ∨ isLev r.hi = false ∨ r.hi < r.lo then 1 else if r.lo ≤ a then 7 else if isNm (nmR r) = false then 5 else if seen.contains (nmR r) = true then 6 else 0
def ckRngs : Int → List (List UInt8) → List Rng → Int
  | _, _, [] => 0
  | a, seen, r :: t => if ckRng a seen r = 0 then ckRngs r.hi (seen ++ [nmR r]) t else ckRng a seen r
theorem ckRngs_at (L : List Rng) (k : Nat) (h : k < L.length) (a : Int) (seen : List (List UInt8)) : ckRngs a seen (L.drop k) = if ckRng a seen L[k] = 0 then ckRngs L[k].hi (seen ++ [nmR L[k]]) (L.drop (k + 1)) else ckRng a seen L[k] := by
  rw [List.drop_eq_getElem_cons h]; rfl
def slotsOf (p : Par) : List Int := if p.fine = 0 then [p.slot] else [p.slot, p.fine]
/-- What is wrong with a parameter behind those that have these names and slots. -/
def ckPar (size : Int) (ns : List (List UInt8)) (ss : List Int) (p : Par) : Int :=
  if isNm (nmP p) = false then 5 else if ns.contains (nmP p) = true then 6 else if p.grp < 1 ∨ 4 < p.grp then 4 else if p.slot < 1 ∨ size < p.slot ∨ p.fine < 0 ∨ size < p.fine ∨ isLev p.dflt = false then 1
  else if p.slot = p.fine ∨ ss.contains p.slot = true ∨ ss.contains p.fine = true then 12 else if 30 < p.rs.length then 2 else ckRngs (-1) [] p.rs
def ckPars (size : Int) : List (List UInt8) → List Int → List Par → Int
  | _, _, [] => 0
  | ns, ss, p :: t => if ckPar size ns ss p = 0 then ckPars size (ns ++ [nmP p]) (ss ++ slotsOf p) t else ckPar size ns ss p
theorem ckPars_at (L : List Par) (k : Nat) (h : k < L.length) (size : Int) (ns : List (List UInt8)) (ss : List Int) : ckPars size ns ss (L.drop k) = if ckPar size ns ss L[k] = 0 then ckPars size (ns ++ [nmP L[k]]) (ss ++ slotsOf L[k]) (L.drop (k + 1)) else ckPar size ns ss L[k] := by
  rw [List.drop_eq_getElem_cons h]; rfl
/-- What is wrong with a profile. -/
def ckProf (f : Prof) : Int :=
  if isNm (nmF f) = false then 5 else if f.size < 1 ∨ 512 < f.size then 1 else if f.ps.length = 0 then 8 else if 40 < f.ps.length then 2 else ckPars f.size [] [] f.ps
def ckPr (ns : List (List UInt8)) (f : Prof) : Int := if ckProf f = 0 then (if ns.contains (nmF f) = true then 6 else 0) else ckProf f
def ckProfs : List (List UInt8) → List Prof → Int
  | _, [] => 0
  | ns, f :: t => if ckPr ns f = 0 then ckProfs (ns ++ [nmF f]) t else ckPr ns f
theorem ckProfs_at (L : List Prof) (k : Nat) (h : k < L.length) (ns : List (List UInt8)) : ckProfs ns (L.drop k) = if ckPr ns L[k] = 0 then ckProfs (ns ++ [nmF L[k]]) (L.drop (k + 1)) else ckPr ns L[k] := by
  rw [List.drop_eq_getElem_cons h]; rfl
/-- What is wrong with a library. -/
def ckLib (L : List Prof) : Int := if 60 < L.length then 2 else ckProfs [] L

/-- Sound ranges, parameters, profiles. -/
def RngGood (r : Rng) : Prop := (0 ≤ r.lo ∧ r.lo ≤ r.hi ∧ r.hi ≤ 65535) ∧ isNm (nmR r) = true
theorem ckRng_good {a : Int} {seen : List (List UInt8)} {r : Rng} (h : ckRng a seen r = 0) : RngGood r := by
  unfold ckRng at h
  split at h
  · cases h
  split at h
  · cases h
  split at h
  · cases h
  rename_i h1 _ h3
  have q1 : isLev r.lo = true := by cases hq : isLev r.lo with
    | true => rfl
    | false => exact absurd (.inl hq) h1
  have q2 : isLev r.hi = true := by cases hq : isLev r.hi with
    | true => rfl
    | false => exact absurd (.inr (.inl hq)) h1
  have q3 : ¬ r.hi < r.lo := fun hq => h1 (.inr (.inr hq))
  have q1 := isLev_iff.1 q1
  have q2 := isLev_iff.1 q2
  refine ⟨by omega, ?_⟩
  cases hq : isNm (nmR r) with
  | true => rfl
  | false => exact absurd hq h3
theorem ckRngs_good : ∀ (L : List Rng) (a : Int) (seen : List (List UInt8)), ckRngs a seen L = 0 → ∀ r ∈ L, RngGood r
  | [], _, _, _, r, hr => by cases hr
  | x :: t, a, seen, h, r, hr => by
    have e1 : ckRngs a seen (x :: t) = if ckRng a seen x = 0 then ckRngs x.hi (seen ++ [nmR x]) t else ckRng a seen x := rfl
    rw [e1] at h
    by_cases hx : ckRng a seen x = 0
    · rw [if_pos hx] at h
      rcases List.mem_cons.1 hr with rfl | hr
      · exact ckRng_good hx
      · exact ckRngs_good t _ _ h r hr
    · rw [if_neg hx] at h; exact absurd h hx
def ParGood (size : Int) (p : Par) : Prop := isNm (nmP p) = true ∧ (1 ≤ p.grp ∧ p.grp ≤ 4) ∧ (1 ≤ p.slot ∧ p.slot ≤ size) ∧ (0 ≤ p.fine ∧ p.fine ≤ size) ∧ (0 ≤ p.dflt ∧ p.dflt ≤ 65535) ∧ p.rs.length ≤ 30 ∧ ∀ r ∈ p.rs, RngGood r
theorem ckPar_good {size : Int} {ns : List (List UInt8)} {ss : List Int} {p : Par} (h : ckPar size ns ss p = 0) : ParGood size p ∧ p.slot ≠ p.fine := by
  unfold ckPar at h
  split at h
  · cases h
  split at h
  · cases h
  split at h
  · cases h
  split at h
  · cases h
  split at h
  · cases h
  split at h
  · cases h
  rename_i h1 h2 h3 h4 h5 h6
  have q5 : isLev p.dflt = true := by cases hq : isLev p.dflt with
    | true => rfl
    | false => exact absurd (.inr (.inr (.inr (.inr hq)))) h4
  have q5 := isLev_iff.1 q5
  have a1 : ¬ p.slot < 1 := fun q => h4 (.inl q)
  have a2 : ¬ size < p.slot := fun q => h4 (.inr (.inl q))
  have a3 : ¬ p.fine < 0 := fun q => h4 (.inr (.inr (.inl q)))
  have a4 : ¬ size < p.fine := fun q => h4 (.inr (.inr (.inr (.inl q))))
  refine ⟨⟨?_, by omega, by omega, by omega, q5, by omega, ckRngs_good _ _ _ h⟩, fun q => h5 (.inl q)⟩
  cases hq : isNm (nmP p) with
  | true => rfl
  | false => exact absurd hq h1
theorem ckPars_good : ∀ (L : List Par) (size : Int) (ns : List (List UInt8)) (ss : List Int), ckPars size ns ss L = 0 → ∀ p ∈ L, ParGood size p
  | [], _, _, _, _, p, hp => by cases hp
  | x :: t, size, ns, ss, h, p, hp => by
    have e1 : ckPars size ns ss (x :: t) = if ckPar size ns ss x = 0 then ckPars size (ns ++ [nmP x]) (ss ++ slotsOf x) t else ckPar size ns ss x := rfl
    rw [e1] at h
    by_cases hx : ckPar size ns ss x = 0
    · rw [if_pos hx] at h
      rcases List.mem_cons.1 hp with rfl | hp
      · exact (ckPar_good hx).1
      · exact ckPars_good t _ _ _ h p hp
    · rw [if_neg hx] at h; exact absurd h hx
def ProfGood (f : Prof) : Prop := isNm (nmF f) = true ∧ (1 ≤ f.size ∧ f.size ≤ 512) ∧ (0 < f.ps.length ∧ f.ps.length ≤ 40) ∧ ∀ p ∈ f.ps, ParGood f.size p
theorem ckProf_good {f : Prof} (h : ckProf f = 0) : ProfGood f := by
  unfold ckProf at h
  split at h
  · cases h
  split at h
  · cases h
  split at h
  · cases h
  split at h
  · cases h
  rename_i h1 h2 h3 h4
  refine ⟨?_, by omega, by omega, ckPars_good _ _ _ _ h⟩
  cases hq : isNm (nmF f) with
  | true => rfl
  | false => exact absurd hq h1
theorem ckProfs_good : ∀ (L : List Prof) (ns : List (List UInt8)), ckProfs ns L = 0 → ∀ f ∈ L, ProfGood f
  | [], _, _, f, hf => by cases hf
  | x :: t, ns, h, f, hf => by
    have e1 : ckProfs ns (x :: t) = if ckPr ns x = 0 then ckProfs (ns ++ [nmF x]) t else ckPr ns x := rfl
    rw [e1] at h
    by_cases hx : ckPr ns x = 0
    · rw [if_pos hx] at h
      rcases List.mem_cons.1 hf with rfl | hf
      · unfold ckPr at hx
        by_cases h2 : ckProf f = 0
        · exact ckProf_good h2
        · rw [if_neg h2] at hx; exact absurd hx h2
      · exact ckProfs_good t _ h f hf
    · rw [if_neg hx] at h; exact absurd h hx
theorem ckLib_good {L : List Prof} (h : ckLib L = 0) : L.length ≤ 60 ∧ ∀ f ∈ L, ProfGood f := by
  unfold ckLib at h
  split at h
  · cases h
  · exact ⟨by omega, ckProfs_good L _ h⟩
end Go.Proofs.YtcidldomnifdeaaDoor
