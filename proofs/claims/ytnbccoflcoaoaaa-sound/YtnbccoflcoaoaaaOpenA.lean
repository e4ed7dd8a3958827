import Derived.Test.YtnbccoflcoaoaaaGOpn
import Derived.Test.YtnbccoflcoaoaaaGAcc
namespace Go.Proofs.Ytnbccoflcoaoaaa
open Go.ChangeShapes Go.WideShapes Go.ChangeAt Go.RowKit Go.Deep
set_option linter.unusedSimpArgs false
set_option linter.unusedVariables false

set_option maxRecDepth 100000 in
theorem cellsAnswer : Try.prog.cellsOf 36 = 6 := by kernel_rfl
set_option maxRecDepth 100000 in
theorem cellsInts : Try.prog.cellsOf 22 = 1 := by kernel_rfl
set_option maxRecDepth 100000 in
theorem array6 {α : Type} {cs : Array α} (h : cs.size = 6) : ∃ c0 c1 c2 c3 c4 c5, cs = #[c0, c1, c2, c3, c4, c5] := by
  obtain ⟨l⟩ := cs
  match l, h with
  | [c0, c1, c2, c3, c4, c5], _ => exact ⟨c0, c1, c2, c3, c4, c5, rfl⟩

section
variable {H : Type} {enc : TypeId × Value → H} {w : World}
set_option maxRecDepth 100000 in
/-- An answer that came in. -/
theorem open_answer {base : Nat} {v : Value} {d : DataW H} {p : List MemPlace} (hv : Value.okWide Try.prog w .any base 36 v) (h : DataW.Trod enc Try.prog w 0 (fun _ => true) true 36 v d p) (hw : Light 36 d) :
    ∃ kd cs fa fn fc pa pn pc ca cn cc ra rn rc fl po cu ci, v = .agg #[.int .i64 kd, .int .i64 cs, .slice fa fn fc, .slice pa pn pc, .slice ca cn cc, .slice ra rn rc] ∧ Ans w fa pa ca ra fn pn cn rn fl po cu ci ∧ rn ≤ rc := by
  obtain ⟨vs, rfl, hsz⟩ := okWide_struct Try.underlying36 hv
  obtain ⟨c0, c1, c2, c3, c4, c5, rfl⟩ := array6 (hsz.trans cellsAnswer)
  obtain ⟨fuel, hf⟩ := h
  obtain ⟨ys, n, _, hxy, _, hxl, hfd⟩ := DataW.trod_struct Try.underlying36 hf
  match ys, hxl with
  | [y0, y1, y2, y3, y4, y5], _ =>
    have g0 := hfd 0 _ rfl
    have g1 := hfd 1 _ rfl
    have g2 := hfd 2 _ rfl
    have g3 := hfd 3 _ rfl
    have g4 := hfd 4 _ rfl
    have g5 := hfd 5 _ rfl
    simp [Value.cells, cellsInt, cellsInts] at g0 g1 g2 g3 g4 g5
    simp only [Prod.mk.injEq] at hxy
    obtain ⟨rfl, rfl⟩ := hxy
    simp only [Light, DataW.weights, Try.underlying36, List.map_cons, List.map_nil, DataW.weightsEach, List.append_nil, List.all_append, Bool.and_eq_true] at hw
    obtain ⟨-, -, w2, w3, w4, w5⟩ := hw
    obtain ⟨kd, e0, _, _⟩ := DataW.trod_int Try.underlying3 g0
    obtain ⟨cs, e1, _, _⟩ := DataW.trod_int Try.underlying3 g1
    obtain ⟨d2, p2⟩ := y2
    obtain ⟨d3, p3⟩ := y3
    obtain ⟨d4, p4⟩ := y4
    obtain ⟨d5, p5⟩ := y5
    obtain ⟨fa, fn, fc, fl, e2, i2, -⟩ := open_intsIn g2 w2
    obtain ⟨pa, pn, pc, po, e3, i3, -⟩ := open_intsIn g3 w3
    obtain ⟨ca, cn, cc, cu, e4, i4, -⟩ := open_intsIn g4 w4
    obtain ⟨ra, rn, rc, ci, e5, i5, hle⟩ := open_intsIn g5 w5
    simp only [List.cons.injEq, and_true] at e0 e1 e2 e3 e4 e5
    subst e0 e1 e2 e3 e4 e5
    exact ⟨kd, cs, fa, fn, fc, pa, pn, pc, ca, cn, cc, ra, rn, rc, fl, po, cu, ci, rfl, ⟨i2, i3, i4, i5⟩, hle⟩
end
end Go.Proofs.Ytnbccoflcoaoaaa
