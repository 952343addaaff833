/- The tables of package pick, out of what a row lists. -/
import Derived.Test.YtgpblgalklegkaaDoorPkC
import Derived.Test.YtgpblgalklegkaaDoorShoA
import Derived.Test.YtgpblgalklegkaaDoorCardL
namespace Go.Proofs.YtgpblgalklegkaaDoor
open Go.RowKit Go.ChangeShapes Go.WideShapes Go.ChangeAt Go.Lib

theorem arr_cells {H : Type} {enc : TypeId × Value → H} {P : Program} {w : World} {base : Nat} {sp : Nat → Bool} {held : Bool} {fuel : Nat} {t e : TypeId} {n m : Nat} {cs : List Value} {Ds : List (DataW H)} {p : List MemPlace}
    (ht : P.underlying t = some (.array n e)) (hce : P.cellsOf e = m) (hct : P.cellsOf t = n * m)
    (h : DataW.trod enc P w base sp held fuel t cs = some (.agg Ds, p)) : cs.length = n * m ∧ Ds.length = n ∧ ∀ i (hi : i < Ds.length), ∃ (f : Nat) (pl : List MemPlace), DataW.trod enc P w base sp held f e ((cs.drop (i * m)).take m) = some (Ds[i], pl) := by
  cases fuel with
  | zero => simp [DataW.trod] at h
  | succ fuel =>
    simp only [DataW.trod, ht, hce, hct] at h
    split at h
    · rename_i hl
      obtain ⟨xs, hm, hx⟩ := Option.map_eq_some_iff.1 h
      have hxs : xs.map (·.1) = Ds := by
        have := congrArg Prod.fst hx
        simpa using this
      have hxl : xs.length = n := by simpa using mapM_length hm
      refine ⟨hl, by rw [← hxs, List.length_map]; exact hxl, fun i hi => ?_⟩
      have hin : i < n := by rw [← hxs, List.length_map, hxl] at hi; exact hi
      obtain ⟨b, hb, hf⟩ := mapM_at hm i i (by simp [hin])
      refine ⟨fuel, b.2, ?_⟩
      rw [hf]
      congr 1
      refine Prod.ext ?_ rfl
      show b.1 = Ds[i]
      have h2 : (xs.map (·.1))[i]? = some b.1 := by simp [hb]
      rw [hxs, List.getElem?_eq_getElem hi] at h2
      exact (Option.some.inj h2).symm
    · cases h

def tbS : List (Int × Int × Int × Int) := [(0, 0, 0, 0), (9999, 9999, 0, 0), (999, 0, 0, 0), (999, 0, 0, 0), (0, 0, 2, 200), (0, 0, 2, 2), (0, 0, 1, 1), (0, 0, 1, 1), (0, 0, 1, 1), (9999, 9999, 1, 1)]
theorem laid_tbS {H : Type} : (Rows.laid_cyclorama_pick_shapes : DataW H) = .agg (tbS.map fun x => .agg [.lit (.int .i64 x.1), .lit (.int .i64 x.2.1), .lit (.int .i64 x.2.2.1), .lit (.int .i64 x.2.2.2)]) := rfl
theorem cellsSh4 : Tryd.prog.cellsOf 135 = 4 := by kernel_rfl
theorem cellsSh40 : Tryd.prog.cellsOf 136 = 10 * 4 := by kernel_rfl
theorem cellsShI : Tryd.prog.cellsOf 3 = 1 := by kernel_rfl
set_option maxRecDepth 100000 in
theorem sh_elem {H : Type} {enc : TypeId × Value → H} {w : World} {base : Nat} {sp : Nat → Bool} {held : Bool} {fuel : Nat} {cs : List Value} {x : Int × Int × Int × Int} {pl : List MemPlace}
    (h : DataW.trod enc Tryd.prog w base sp held fuel 135 cs = some (.agg [.lit (.int .i64 x.1), .lit (.int .i64 x.2.1), .lit (.int .i64 x.2.2.1), .lit (.int .i64 x.2.2.2)], pl)) :
    cs = [.int .i64 x.1, .int .i64 x.2.1, .int .i64 x.2.2.1, .int .i64 x.2.2.2] := by
  obtain ⟨ys, n2, _, hy, hcl, hyl, hf⟩ := DataW.trod_struct Tryd.underlying135 h
  rw [cellsSh4] at hcl
  match cs, hcl with
  | [c0, c1, c2, c3], _ =>
    have f0 : DataW.trod enc Tryd.prog w base sp held n2 3 (([c0, c1, c2, c3].drop 0).take (Tryd.prog.cellsOf 3)) = ys[0]? := hf 0 _ rfl
    have f1 : DataW.trod enc Tryd.prog w base sp held n2 3 (([c0, c1, c2, c3].drop 1).take (Tryd.prog.cellsOf 3)) = ys[1]? := hf 1 _ rfl
    have f2 : DataW.trod enc Tryd.prog w base sp held n2 3 (([c0, c1, c2, c3].drop 2).take (Tryd.prog.cellsOf 3)) = ys[2]? := hf 2 _ rfl
    have f3 : DataW.trod enc Tryd.prog w base sp held n2 3 (([c0, c1, c2, c3].drop 3).take (Tryd.prog.cellsOf 3)) = ys[3]? := hf 3 _ rfl
    simp only [cellsShI, List.drop_zero, List.take_succ_cons, List.take_zero, List.drop_succ_cons] at f0 f1 f2 f3
    have hyl2 : ys.length = 4 := hyl
    match ys, hyl2 with
    | [y0, y1, y2, y3], _ =>
      obtain ⟨z0, e0, d0, _⟩ := DataW.trod_int Tryd.underlying3 f0
      obtain ⟨z1, e1, d1, _⟩ := DataW.trod_int Tryd.underlying3 f1
      obtain ⟨z2, e2, d2, _⟩ := DataW.trod_int Tryd.underlying3 f2
      obtain ⟨z3, e3, d3, _⟩ := DataW.trod_int Tryd.underlying3 f3
      subst d0 d1 d2 d3
      have hh := congrArg Prod.fst hy
      simp only [List.map_cons, List.map_nil, DataW.agg.injEq, List.cons.injEq, DataW.lit.injEq, Lit.int.injEq, true_and, and_true] at hh
      obtain ⟨h0, h1, h2, h3⟩ := hh
      simp only [List.cons.injEq, and_true] at e0 e1 e2 e3
      rw [e0, e1, e2, e3, ← h0, ← h1, ← h2, ← h3]
set_option maxRecDepth 100000 in
theorem sh_at {W : World} {rest : List (String × DataW Unit)} (h : laidMet Tryd.prog (("cyclorama/pick.shapes", Rows.laid_cyclorama_pick_shapes) :: rest) W) : ShAt W := by
  obtain ⟨ps, ⟨g', t', cs, fuel, p, q, hg', ht', hvar, hd, _, _⟩, _⟩ := h
  have hg : Tryd.prog.globalNamed "cyclorama/pick.shapes" = some 1 := by kernel_rfl
  have ht : (Tryd.prog.globals[1]?).map (·.type) = some 136 := by kernel_rfl
  obtain rfl := Option.some.inj (hg.symm.trans hg')
  obtain rfl := Option.some.inj (ht.symm.trans ht')
  rw [laid_tbS] at hd
  obtain ⟨hl, hD, hel⟩ := arr_cells Tryd.underlying136 cellsSh4 cellsSh40 hd
  intro k h1 h9
  have hk : k < (tbS.map fun x => (DataW.agg [.lit (.int .i64 x.1), .lit (.int .i64 x.2.1), .lit (.int .i64 x.2.2.1), .lit (.int .i64 x.2.2.2)] : DataW Unit)).length := by rw [List.length_map]; show k < 10; omega
  obtain ⟨f, pl, hf⟩ := hel k hk
  rw [List.getElem_map] at hf
  have he := sh_elem hf
  have hx : tbS[k]'(by simpa using hk) = shp k := by
    have key : k = 1 ∨ k = 2 ∨ k = 3 ∨ k = 4 ∨ k = 5 ∨ k = 6 ∨ k = 7 ∨ k = 8 ∨ k = 9 := by omega
    rcases key with rfl | rfl | rfl | rfl | rfl | rfl | rfl | rfl | rfl <;> rfl
  rw [hx] at he
  have cell : ∀ j (hj : j < 4), W.cell? ⟨1, k * 4 + j, none⟩ = [Value.int .i64 (shp k).1, .int .i64 (shp k).2.1, .int .i64 (shp k).2.2.1, .int .i64 (shp k).2.2.2][j]? := fun j hj => by
    rw [World.var?_cell hg hvar (k * 4 + j), ← he]
    simp [hj, ← Array.getElem?_toList]
  exact ⟨cell 0 (by decide), cell 1 (by decide), cell 2 (by decide), cell 3 (by decide)⟩

def tbW : List (List UInt8) := [[], [], [103, 114, 111, 117, 112], [112, 114, 101, 115, 101, 116], [], [], [111, 100, 100], [101, 118, 101, 110], [98, 97, 99, 107], [101, 118, 101, 114, 121]]
theorem laid_tbW {H : Type} : (Rows.laid_cyclorama_pick_kindWords : DataW H) = .agg (tbW.map fun x => .lit (.string x)) := rfl
theorem cellsKw1 : Tryd.prog.cellsOf 9 = 1 := by kernel_rfl
theorem cellsKw10 : Tryd.prog.cellsOf 132 = 10 * 1 := by kernel_rfl
set_option maxRecDepth 100000 in
theorem kw_at {W : World} {rest : List (String × DataW Unit)} (h : laidMet Tryd.prog (("cyclorama/pick.kindWords", Rows.laid_cyclorama_pick_kindWords) :: rest) W) : KwAt W := by
  obtain ⟨ps, ⟨g', t', cs, fuel, p, q, hg', ht', hvar, hd, _, _⟩, _⟩ := h
  have hg : Tryd.prog.globalNamed "cyclorama/pick.kindWords" = some 0 := by kernel_rfl
  have ht : (Tryd.prog.globals[0]?).map (·.type) = some 132 := by kernel_rfl
  obtain rfl := Option.some.inj (hg.symm.trans hg')
  obtain rfl := Option.some.inj (ht.symm.trans ht')
  rw [laid_tbW] at hd
  obtain ⟨hl, hD, hel⟩ := arr_cells Tryd.underlying132 cellsKw1 cellsKw10 hd
  intro k h9
  have hk : k < (tbW.map fun x => (DataW.lit (.string x) : DataW Unit)).length := by rw [List.length_map]; show k < 10; omega
  obtain ⟨f, pl, hf⟩ := hel k hk
  rw [List.getElem_map] at hf
  obtain ⟨s, hc, hy, _⟩ := DataW.trod_string Tryd.underlying9 hf
  have hs : s.data.toList = tbW[k]'(by simpa using hk) := by
    have := congrArg Prod.fst hy
    simpa using this.symm
  have hx : tbW[k]'(by simpa using hk) = kWord k := by
    have key : k = 0 ∨ k = 1 ∨ k = 2 ∨ k = 3 ∨ k = 4 ∨ k = 5 ∨ k = 6 ∨ k = 7 ∨ k = 8 ∨ k = 9 := by omega
    rcases key with rfl | rfl | rfl | rfl | rfl | rfl | rfl | rfl | rfl | rfl <;> rfl
  have hb : bs (kWord k) = s := by rw [← hx, ← hs, bs_of]
  rw [World.var?_cell hg hvar k, hb]
  have := congrArg (·[0]?) hc
  simpa [← Array.getElem?_toList] using this
theorem pow_at {W : World} {rest : List (String × DataW Unit)} (h : laidMet Tryd.prog (("internal/strconv.uint64pow10", Rows.laid_internal_strconv_uint64pow10) :: rest) W) : PowAt W :=
  tabIs_of_head (g := 2) (t := 264) (e := 212) (n := 20) (by kernel_rfl) (by kernel_rfl) Tryd.underlying264 Tryd.underlying212 (by kernel_rfl) (by kernel_rfl) h
end Go.Proofs.YtgpblgalklegkaaDoor
