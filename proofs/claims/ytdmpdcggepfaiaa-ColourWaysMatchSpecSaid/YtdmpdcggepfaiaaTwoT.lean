/- Two tones in blocks of the reference's own, wherever they were laid. -/
import Derived.Test.YtdmpdcggepfaiaaRefB3
namespace Go.Proofs.Ytdmpdcggepfaiaa
open Go.RowKit Go.Sort

/-- Two tones in blocks of the call's own. -/
def TwoT (w1 : World) (t u : Int × Int × Int) (s19 s20 : Value) (wx : World) : Prop := ∃ b1 b2 : Nat, s19 = .pointer (some ⟨b1, 0, none⟩) ∧ s20 = .pointer (some ⟨b2, 0, none⟩) ∧ (w1.heap.size ≤ b1 ∧ w1.heap.size ≤ b2 ∧ b1 ≠ b2) ∧
  (Cel3 wx b1 t.1 t.2.1 t.2.2 ∧ Cel3 wx b2 u.1 u.2.1 u.2.2) ∧ (wx.frozen? ⟨b1, 0, none⟩ = false ∧ wx.frozen? ⟨b2, 0, none⟩ = false) ∧ Bl w1 wx

theorem oth {W : World} {b i j : Nat} {v : Value} (h : i ≠ j) : (W.setCell ⟨b, i, none⟩ v).cell? ⟨b, j, none⟩ = W.cell? ⟨b, j, none⟩ := World.cell?_setCell_other _ _ _ _ (fun e => h (by cases e; rfl))
theorem sam {W : World} {a : Addr} {u v : Value} (h : W.cell? a = some u) : (W.setCell a v).cell? a = some v := World.cell?_setCell_same _ _ _ h
theorem Cel3.far {W : World} {b : Nat} {x y z : Int} (h : Cel3 W b x y z) {p : Addr} (hne : p.block ≠ b) (v : Value) : Cel3 (W.setCell p v) b x y z := by
  obtain ⟨h0, h1, h2⟩ := h
  have e : ∀ j, (W.setCell p v).cell? ⟨b, j, none⟩ = W.cell? ⟨b, j, none⟩ := fun j => World.cell?_setCell_other _ _ _ _ (fun e => hne (by rw [e]))
  exact ⟨(e 0).trans h0, (e 1).trans h1, (e 2).trans h2⟩
theorem Cel3.set3 {W : World} {b : Nat} {x0 y0 z0 : Int} (h : Cel3 W b x0 y0 z0) (x y z : Int) : Cel3 (((W.setCell ⟨b, 0, none⟩ (.int .i64 x)).setCell ⟨b, 1, none⟩ (.int .i64 y)).setCell ⟨b, 2, none⟩ (.int .i64 z)) b x y z := by
  obtain ⟨h0, h1, h2⟩ := h
  exact ⟨(oth (by decide)).trans ((oth (by decide)).trans (sam h0)), (oth (by decide)).trans (sam ((oth (by decide)).trans h1)), sam ((oth (by decide)).trans ((oth (by decide)).trans h2))⟩
theorem Cel3.far3 {W : World} {b n : Nat} {x y z : Int} (h : Cel3 W b x y z) (hne : n ≠ b) (u v w : Value) : Cel3 (((W.setCell ⟨n, 0, none⟩ u).setCell ⟨n, 1, none⟩ v).setCell ⟨n, 2, none⟩ w) b x y z :=
  ((h.far (p := ⟨n, 0, none⟩) hne u).far (p := ⟨n, 1, none⟩) hne v).far (p := ⟨n, 2, none⟩) hne w
theorem Cel3.bl {w w' : World} {b : Nat} {x y z : Int} (h : Cel3 w b x y z) (g : Bl w w') : Cel3 w' b x y z := ⟨g.cell h.1, g.cell h.2.1, g.cell h.2.2⟩
theorem cel0 {w : World} {b : Nat} (h0 : w.cell? ⟨b, 0, none⟩ = some (.int .i64 0)) (h1 : w.cell? ⟨b, 1, none⟩ = some (.int .i64 0)) (h2 : w.cell? ⟨b, 2, none⟩ = some (.int .i64 0)) : Cel3 w b 0 0 0 := ⟨h0, h1, h2⟩
theorem Cel3.lt {w : World} {b : Nat} {x y z : Int} (h : Cel3 w b x y z) : b < w.heap.size := World.block_lt_of_cell? _ _ h.1
theorem Cel3.new (w : World) (t : TypeId) (x y z : Int) : Cel3 (w.alloc (.cells #[.int .i64 x, .int .i64 y, .int .i64 z] t)) w.heap.size x y z := ⟨by simp, by simp, by simp⟩

section
variable {w1 W : World} {T U : Int × Int × Int} {t : TypeId} (hB : Bl w1 W)
include hB
theorem two_aa : TwoT w1 T U (.pointer (some ⟨W.heap.size, 0, none⟩)) (.pointer (some ⟨W.heap.size + 1, 0, none⟩)) ((W.alloc (.cells #[.int .i64 T.1, .int .i64 T.2.1, .int .i64 T.2.2] t)).alloc (.cells #[.int .i64 U.1, .int .i64 U.2.1, .int .i64 U.2.2] t)) := by
  have hs := hB.size
  refine ⟨_, _, rfl, rfl, ⟨hs, by omega, by omega⟩, ⟨(Cel3.new W t _ _ _).bl ((Bl.refl _).alloc _), ?_⟩, ⟨by go_simp, by go_simp⟩, (hB.alloc _).alloc _⟩
  have := Cel3.new (W.alloc (.cells #[.int .i64 T.1, .int .i64 T.2.1, .int .i64 T.2.2] t)) t U.1 U.2.1 U.2.2
  simpa using this
theorem two_aa' : TwoT w1 T U (.pointer (some ⟨W.heap.size + 1, 0, none⟩)) (.pointer (some ⟨W.heap.size, 0, none⟩)) ((W.alloc (.cells #[.int .i64 U.1, .int .i64 U.2.1, .int .i64 U.2.2] t)).alloc (.cells #[.int .i64 T.1, .int .i64 T.2.1, .int .i64 T.2.2] t)) := by
  obtain ⟨b1, b2, e1, e2, ⟨h1, h2, h3⟩, ⟨c1, c2⟩, ⟨f1, f2⟩, h⟩ := two_aa (T := U) (U := T) (t := t) hB
  exact ⟨b2, b1, e2, e1, ⟨h2, h1, Ne.symm h3⟩, ⟨c2, c1⟩, ⟨f2, f1⟩, h⟩
theorem two_sa {b : Nat} (hb : w1.heap.size ≤ b) (hc : Cel3 W b 0 0 0) (hf : W.frozen? ⟨b, 0, none⟩ = false) :
    TwoT w1 T U (.pointer (some ⟨b, 0, none⟩)) (.pointer (some ⟨W.heap.size, 0, none⟩)) ((((W.setCell ⟨b, 0, none⟩ (.int .i64 T.1)).setCell ⟨b, 1, none⟩ (.int .i64 T.2.1)).setCell ⟨b, 2, none⟩ (.int .i64 T.2.2)).alloc (.cells #[.int .i64 U.1, .int .i64 U.2.1, .int .i64 U.2.2] t)) := by
  have hs := hB.size
  have hl := hc.lt
  refine ⟨_, _, rfl, rfl, ⟨hb, hs, by omega⟩, ⟨(hc.set3 _ _ _).bl ((Bl.refl _).alloc _), ?_⟩, ⟨?_, ?_⟩, (set3b hb hB _ _ _).alloc _⟩
  · have := Cel3.new (((W.setCell ⟨b, 0, none⟩ (.int .i64 T.1)).setCell ⟨b, 1, none⟩ (.int .i64 T.2.1)).setCell ⟨b, 2, none⟩ (.int .i64 T.2.2)) t U.1 U.2.1 U.2.2
    simpa using this
  · rw [((Bl.refl (((W.setCell ⟨b, 0, none⟩ (.int .i64 T.1)).setCell ⟨b, 1, none⟩ (.int .i64 T.2.1)).setCell ⟨b, 2, none⟩ (.int .i64 T.2.2))).alloc _).frozen (by simpa using hl)]; simpa using hf
  · have := (own3b (W := ((W.setCell ⟨b, 0, none⟩ (.int .i64 T.1)).setCell ⟨b, 1, none⟩ (.int .i64 T.2.1)).setCell ⟨b, 2, none⟩ (.int .i64 T.2.2)) rfl (Bl.refl (World.alloc _ (.cells #[.int .i64 U.1, .int .i64 U.2.1, .int .i64 U.2.2] t)))).2.1
    simpa using this
theorem two_as {b : Nat} (hb : w1.heap.size ≤ b) (hc : Cel3 W b 0 0 0) (hf : W.frozen? ⟨b, 0, none⟩ = false) :
    TwoT w1 T U (.pointer (some ⟨W.heap.size, 0, none⟩)) (.pointer (some ⟨b, 0, none⟩)) ((((W.setCell ⟨b, 0, none⟩ (.int .i64 U.1)).setCell ⟨b, 1, none⟩ (.int .i64 U.2.1)).setCell ⟨b, 2, none⟩ (.int .i64 U.2.2)).alloc (.cells #[.int .i64 T.1, .int .i64 T.2.1, .int .i64 T.2.2] t)) := by
  obtain ⟨b1, b2, e1, e2, ⟨h1, h2, h3⟩, ⟨c1, c2⟩, ⟨f1, f2⟩, h⟩ := two_sa (T := U) (U := T) (t := t) hB hb hc hf
  exact ⟨b2, b1, e2, e1, ⟨h2, h1, Ne.symm h3⟩, ⟨c2, c1⟩, ⟨f2, f1⟩, h⟩
theorem two_ss {b n : Nat} (hb : w1.heap.size ≤ b) (hc : Cel3 W b 0 0 0) (hf : W.frozen? ⟨b, 0, none⟩ = false) (hn : w1.heap.size ≤ n) (hcn : Cel3 W n 0 0 0) (hfn : W.frozen? ⟨n, 0, none⟩ = false) (hne : b ≠ n) :
    TwoT w1 T U (.pointer (some ⟨b, 0, none⟩)) (.pointer (some ⟨n, 0, none⟩)) ((((((W.setCell ⟨b, 0, none⟩ (.int .i64 T.1)).setCell ⟨b, 1, none⟩ (.int .i64 T.2.1)).setCell ⟨b, 2, none⟩ (.int .i64 T.2.2)).setCell ⟨n, 0, none⟩ (.int .i64 U.1)).setCell ⟨n, 1, none⟩ (.int .i64 U.2.1)).setCell ⟨n, 2, none⟩ (.int .i64 U.2.2)) :=
  ⟨_, _, rfl, rfl, ⟨hb, hn, hne⟩, ⟨(hc.set3 _ _ _).far3 (Ne.symm hne) _ _ _, (hcn.far3 hne _ _ _).set3 _ _ _⟩, ⟨by simpa using hf, by simpa using hfn⟩, set3b hn (set3b hb hB _ _ _) _ _ _⟩
end
theorem keep6 {w' : World} {n m : Nat} {r g b x y z : Int} (h : Cel3 w' n r g b ∧ Cel3 w' m x y z) : w'.cell? ⟨n, 0, none⟩ = some (.int .i64 r) ∧ w'.cell? ⟨n, 1, none⟩ = some (.int .i64 g) ∧ w'.cell? ⟨n, 2, none⟩ = some (.int .i64 b) ∧ w'.cell? ⟨m, 0, none⟩ = some (.int .i64 x) ∧ w'.cell? ⟨m, 1, none⟩ = some (.int .i64 y) ∧ w'.cell? ⟨m, 2, none⟩ = some (.int .i64 z) :=
  ⟨h.1.1, h.1.2.1, h.1.2.2, h.2.1, h.2.2.1, h.2.2.2⟩

end Go.Proofs.Ytdmpdcggepfaiaa
