import Derived.Test.YtnbccoflcoaoaaaGreatAllA
import Derived.Test.YtnbccoflcoaoaaaGreatGAcc
import Derived.Test.YtnbccoflcoaoaaaGreatGSol
namespace Go.Proofs.YtnbccoflcoaoaaaGreat
open Go.RowKit Go.Deep
set_option linter.unusedSimpArgs false
set_option linter.unusedVariables false

/-! ### ownAnswer: four rows of the call's own -/
/-- Four rows of numbers of the call's own. -/
structure Row4 (w : World) (base : Nat) (fa : Option Addr) (fc : Nat) (pa : Option Addr) (pc : Nat) (ca : Option Addr) (cc : Nat) (ra : Option Addr) (rc : Nat) (fn pn cn rn : Nat) (fl po cu ci : List Int) : Prop where
  fl : w.ownsRow base 3 1 (.slice fa fn fc) fn (intCells fl)
  po : w.ownsRow base 3 1 (.slice pa pn pc) pn (intCells po)
  cu : w.ownsRow base 3 1 (.slice ca cn cc) cn (intCells cu)
  ci : w.ownsRow base 3 1 (.slice ra rn rc) rn (intCells ci)
theorem own_shape {w : World} {base : Nat} {e : TypeId} {v : Value} {n : Nat} {xs : List Value} (h : w.ownsRow base e 1 v n xs) : ∃ a c, v = .slice a n c := by
  rcases h.2 with ⟨rfl, h0⟩ | ⟨g, cap, cur, rfl, _⟩
  · exact ⟨none, 0, by rw [h0]⟩
  · exact ⟨_, _, rfl⟩
theorem own_none (v : Value) (r : Option Nat) (h : r = none := by rfl) : v.ownBlock = none ∨ v.ownBlock ≠ r := by
  subst h
  cases v.ownBlock with
  | none => exact .inl rfl
  | some b => exact .inr (by simp)

set_option maxHeartbeats 4000000 in
theorem ownAnswer_own (fa pa ca ra : Option Addr) (fn fc pn pc cn cc rn rc : Nat) (kd cs : Int) (fl po cu ci : List Int) (w : World) (ha : Ans w fa pa ca ra fn pn cn rn fl po cu ci) :
    Calls Tryz.prog 5 #[.agg #[.int .i64 kd, .int .i64 cs, .slice fa fn fc, .slice pa pn pc, .slice ca cn cc, .slice ra rn rc]] w fun e w' =>
      ∃ fa' fc' pa' pc' ca' cc' ra' rc', e = .returned (.agg #[.int .i64 kd, .int .i64 cs, .slice fa' fn fc', .slice pa' pn pc', .slice ca' cn cc', .slice ra' rn rc']) ∧ Row4 w' w.heap.size fa' fc' pa' pc' ca' cc' ra' rc' fn pn cn rn fl po cu ci ∧ Below w.heap.size w w' := by
  go_enter Tryz.func5, Tryz.ntmps5
  go_wp2_with fail
  have w0 : Way w (((w.alloc (.cells #[.int .i64 kd, .int .i64 cs, .slice fa fn fc, .slice pa pn pc, .slice ca cn cc, .slice ra rn rc] 35)).alloc (.cells #[.int .i64 0, .int .i64 0, .slice none 0 0, .slice none 0 0, .slice none 0 0, .slice none 0 0] 35)).alloc (.cells #[.int .i64 kd, .int .i64 cs, .slice none 0 0, .slice none 0 0, .slice none 0 0, .slice none 0 0] 35))
      (ansRow (.int .i64 kd) (.int .i64 cs) (.slice fa fn fc) (.slice pa pn pc) (.slice ca cn cc) (.slice ra rn rc)) (ansRow (.int .i64 0) (.int .i64 0) (.slice none 0 0) (.slice none 0 0) (.slice none 0 0) (.slice none 0 0)) (ansRow (.int .i64 kd) (.int .i64 cs) (.slice none 0 0) (.slice none 0 0) (.slice none 0 0) (.slice none 0 0)) := by
    refine ⟨((ansRow_alloc _ _ _ _ _ _ _ _).alloc _).alloc _, ?_, ?_, Joins.below_alloc3 _ _ _ _⟩
    · have := (ansRow_alloc (w.alloc (.cells #[.int .i64 kd, .int .i64 cs, .slice fa fn fc, .slice pa pn pc, .slice ca cn cc, .slice ra rn rc] 35)) (.int .i64 0) (.int .i64 0) (.slice none 0 0) (.slice none 0 0) (.slice none 0 0) (.slice none 0 0) 35).alloc (.cells #[.int .i64 kd, .int .i64 cs, .slice none 0 0, .slice none 0 0, .slice none 0 0, .slice none 0 0] 35)
      simp at this
      exact this
    · have := ansRow_alloc ((w.alloc (.cells #[.int .i64 kd, .int .i64 cs, .slice fa fn fc, .slice pa pn pc, .slice ca cn cc, .slice ra rn rc] 35)).alloc (.cells #[.int .i64 0, .int .i64 0, .slice none 0 0, .slice none 0 0, .slice none 0 0, .slice none 0 0] 35)) (.int .i64 kd) (.int .i64 cs) (.slice none 0 0) (.slice none 0 0) (.slice none 0 0) (.slice none 0 0) 35
      simp at this
      exact this
  refine (own_own fa fn fc fl _ (ha.fl.below w0.b)).mono ?_
  rintro e w1 ⟨vF, rfl, hF, hb1⟩
  obtain ⟨fa', fc', rfl⟩ := own_shape hF
  have y1 := hide (w0.below hb1)
  have sz1 := y1.out.c.lt
  have hF := ownsRow_mono (base' := w.heap.size + 1 + 1 + 1) hF (by simp [World.setCell] <;> omega)
  have hF1 := hide hF
  obtain ⟨⟨a0, a1, a2, a3, a4, a5⟩, -⟩ := row6 y1.out.a
  obtain ⟨⟨c0, c1, c2, c3, c4, c5⟩, ⟨d0, d1, d2, d3, d4, d5⟩⟩ := row6 y1.out.c
  clear hb1 w0 hF
  go_wp2_with fail
  have y2 := y1.out.set 2 (.slice fa' fn fc') (C' := ansRow (.int .i64 kd) (.int .i64 cs) (.slice fa' fn fc') (.slice none 0 0) (.slice none 0 0) (.slice none 0 0)) (fun i hi => by match i, hi with | 0, _ => rfl | 1, _ => rfl | 2, _ => rfl | 3, _ => rfl | 4, _ => rfl | 5, _ => rfl)
  have hF2 := ownsRow_setCell_below hF1.out (a := ⟨w.heap.size + 1 + 1, 2, none⟩) (by show w.heap.size + 1 + 1 < w.heap.size + 1 + 1 + 1; omega) (.slice fa' fn fc')
  refine (own_own pa pn pc po _ (ha.po.below y2.b)).mono ?_
  rintro e w2 ⟨vP, rfl, hP, hb2⟩
  obtain ⟨pa', pc', rfl⟩ := own_shape hP
  have hF3 := hide (hF2.kept (grown_of_below hb2 none) (own_none _ _))
  have hP := ownsRow_mono (base' := w.heap.size + 1 + 1 + 1) hP (by simp [World.setCell] <;> omega)
  have hP1 := hide hP
  have y3 := hide (y2.below hb2)
  clear a0 a1 a2 a3 a4 a5 c0 c1 c2 c3 c4 c5 d0 d1 d2 d3 d4 d5 y1 y2 hF1 hF2 hb2 sz1 hP
  have sz1 := y3.out.c.lt
  obtain ⟨⟨a0, a1, a2, a3, a4, a5⟩, -⟩ := row6 y3.out.a
  obtain ⟨⟨c0, c1, c2, c3, c4, c5⟩, ⟨d0, d1, d2, d3, d4, d5⟩⟩ := row6 y3.out.c
  go_wp2_with fail
  have y4 := y3.out.set 3 (.slice pa' pn pc') (C' := ansRow (.int .i64 kd) (.int .i64 cs) (.slice fa' fn fc') (.slice pa' pn pc') (.slice none 0 0) (.slice none 0 0)) (fun i hi => by match i, hi with | 0, _ => rfl | 1, _ => rfl | 2, _ => rfl | 3, _ => rfl | 4, _ => rfl | 5, _ => rfl)
  have hF4 := ownsRow_setCell_below hF3.out (a := ⟨w.heap.size + 1 + 1, 3, none⟩) (by show w.heap.size + 1 + 1 < w.heap.size + 1 + 1 + 1; omega) (.slice pa' pn pc')
  have hP2 := ownsRow_setCell_below hP1.out (a := ⟨w.heap.size + 1 + 1, 3, none⟩) (by show w.heap.size + 1 + 1 < w.heap.size + 1 + 1 + 1; omega) (.slice pa' pn pc')
  refine (own_own ca cn cc cu _ (ha.cu.below y4.b)).mono ?_
  rintro e w3 ⟨vC, rfl, hC, hb3⟩
  obtain ⟨ca', cc', rfl⟩ := own_shape hC
  have hF5 := hide (hF4.kept (grown_of_below hb3 none) (own_none _ _))
  have hP3 := hide (hP2.kept (grown_of_below hb3 none) (own_none _ _))
  have hC := ownsRow_mono (base' := w.heap.size + 1 + 1 + 1) hC (by simp [World.setCell] <;> omega)
  have hC1 := hide hC
  have y5 := hide (y4.below hb3)
  clear a0 a1 a2 a3 a4 a5 c0 c1 c2 c3 c4 c5 d0 d1 d2 d3 d4 d5 y3 y4 hF3 hF4 hP1 hP2 hb3 sz1 hC
  have sz1 := y5.out.c.lt
  obtain ⟨⟨a0, a1, a2, a3, a4, a5⟩, -⟩ := row6 y5.out.a
  obtain ⟨⟨c0, c1, c2, c3, c4, c5⟩, ⟨d0, d1, d2, d3, d4, d5⟩⟩ := row6 y5.out.c
  go_wp2_with fail
  have y6 := y5.out.set 4 (.slice ca' cn cc') (C' := ansRow (.int .i64 kd) (.int .i64 cs) (.slice fa' fn fc') (.slice pa' pn pc') (.slice ca' cn cc') (.slice none 0 0)) (fun i hi => by match i, hi with | 0, _ => rfl | 1, _ => rfl | 2, _ => rfl | 3, _ => rfl | 4, _ => rfl | 5, _ => rfl)
  have hF6 := ownsRow_setCell_below hF5.out (a := ⟨w.heap.size + 1 + 1, 4, none⟩) (by show w.heap.size + 1 + 1 < w.heap.size + 1 + 1 + 1; omega) (.slice ca' cn cc')
  have hP4 := ownsRow_setCell_below hP3.out (a := ⟨w.heap.size + 1 + 1, 4, none⟩) (by show w.heap.size + 1 + 1 < w.heap.size + 1 + 1 + 1; omega) (.slice ca' cn cc')
  have hC2 := ownsRow_setCell_below hC1.out (a := ⟨w.heap.size + 1 + 1, 4, none⟩) (by show w.heap.size + 1 + 1 < w.heap.size + 1 + 1 + 1; omega) (.slice ca' cn cc')
  refine (own_own ra rn rc ci _ (ha.ci.below y6.b)).mono ?_
  rintro e w4 ⟨vR, rfl, hR, hb4⟩
  obtain ⟨ra', rc', rfl⟩ := own_shape hR
  have hF7 := hide (hF6.kept (grown_of_below hb4 none) (own_none _ _))
  have hP5 := hide (hP4.kept (grown_of_below hb4 none) (own_none _ _))
  have hC3 := hide (hC2.kept (grown_of_below hb4 none) (own_none _ _))
  have hR := ownsRow_mono (base' := w.heap.size + 1 + 1 + 1) hR (by simp [World.setCell] <;> omega)
  have hR1 := hide hR
  have y7 := hide (y6.below hb4)
  clear a0 a1 a2 a3 a4 a5 c0 c1 c2 c3 c4 c5 d0 d1 d2 d3 d4 d5 y5 y6 hF5 hF6 hP3 hP4 hC1 hC2 hb4 sz1 hR ha
  have sz1 := y7.out.c.lt
  obtain ⟨⟨c0, c1, c2, c3, c4, c5⟩, ⟨d0, d1, d2, d3, d4, d5⟩⟩ := row6 y7.out.c
  obtain ⟨⟨z0, z1, z2, z3, z4, z5⟩, ⟨g0, g1, g2, g3, g4, g5⟩⟩ := row6 y7.out.z
  go_wp2
  have r0 := y7.out.z.setOther (a := ⟨w.heap.size + 1 + 1, 5, none⟩) (by show w.heap.size + 1 ≠ w.heap.size + 1 + 1; omega) (.slice ra' rn rc')
  have r1 := r0.set 0 (.int .i64 kd)
  have r2 := r1.set 1 (.int .i64 cs)
  have r3 := r2.set 2 (.slice fa' fn fc')
  have r4 := r3.set 3 (.slice pa' pn pc')
  have r5 := r4.set 4 (.slice ca' cn cc')
  have r6 := r5.set 5 (.slice ra' rn rc')
  have q0 := r1.cell (i := 0) (by omega)
  have q1 := r2.cell (i := 1) (by omega)
  have q2 := r3.cell (i := 2) (by omega)
  have q3 := r4.cell (i := 3) (by omega)
  have q4 := r5.cell (i := 4) (by omega)
  have q5 := r6.cell (i := 5) (by omega)
  simp only [if_true] at q0 q1 q2 q3 q4 q5
  clear r0 r1 r2 r3 r4 r5 r6
  refine bodyPost_ret (v := .agg #[.int .i64 kd, .int .i64 cs, .slice fa' fn fc', .slice pa' pn pc', .slice ca' cn cc', .slice ra' rn rc']) (by simp [results, Tryz.results5, go_sem, q0, q1, q2, q3, q4, q5]) rfl ⟨fa', fc', pa', pc', ca', cc', ra', rc', rfl, ?_, ?_⟩
  · have keepI : ∀ {v : Value} {n : Nat} {l : List Int}, w4.ownsRow (w.heap.size + 1 + 1 + 1) 3 1 v n (intCells l) → (((((((w4.setCell ⟨w.heap.size + 1 + 1, 5, none⟩ (.slice ra' rn rc')).setCell ⟨w.heap.size + 1, 0, none⟩ (.int .i64 kd)).setCell ⟨w.heap.size + 1, 1, none⟩ (.int .i64 cs)).setCell ⟨w.heap.size + 1, 2, none⟩ (.slice fa' fn fc')).setCell ⟨w.heap.size + 1, 3, none⟩ (.slice pa' pn pc')).setCell ⟨w.heap.size + 1, 4, none⟩ (.slice ca' cn cc')).setCell ⟨w.heap.size + 1, 5, none⟩ (.slice ra' rn rc')).ownsRow w.heap.size 3 1 v n (intCells l) := by
      intro v n l hI
      have g : w.heap.size + 1 < w.heap.size + 1 + 1 + 1 := by omega
      have g' : w.heap.size + 1 + 1 < w.heap.size + 1 + 1 + 1 := by omega
      exact ownsRow_mono (ownsRow_setCell_below (ownsRow_setCell_below (ownsRow_setCell_below (ownsRow_setCell_below (ownsRow_setCell_below (ownsRow_setCell_below (ownsRow_setCell_below hI (a := ⟨w.heap.size + 1 + 1, 5, none⟩) g' _) (a := ⟨w.heap.size + 1, 0, none⟩) g _) (a := ⟨w.heap.size + 1, 1, none⟩) g _) (a := ⟨w.heap.size + 1, 2, none⟩) g _) (a := ⟨w.heap.size + 1, 3, none⟩) g _) (a := ⟨w.heap.size + 1, 4, none⟩) g _) (a := ⟨w.heap.size + 1, 5, none⟩) g _) (by omega)
    exact ⟨keepI hF7.out, keepI hP5.out, keepI hC3.out, keepI hR1.out⟩
  · have g : w.heap.size ≤ w.heap.size + 1 := by omega
    have g' : w.heap.size ≤ w.heap.size + 1 + 1 := by omega
    exact ((((((y7.out.b.setCell (p := ⟨w.heap.size + 1 + 1, 5, none⟩) g' _).setCell (p := ⟨w.heap.size + 1, 0, none⟩) g _).setCell (p := ⟨w.heap.size + 1, 1, none⟩) g _).setCell (p := ⟨w.heap.size + 1, 2, none⟩) g _).setCell (p := ⟨w.heap.size + 1, 3, none⟩) g _).setCell (p := ⟨w.heap.size + 1, 4, none⟩) g _).setCell (p := ⟨w.heap.size + 1, 5, none⟩) g _
end Go.Proofs.YtnbccoflcoaoaaaGreat
