import Derived.Test.YtampcheafdlomaaAccL
namespace Go.Proofs.Ytampcheafdlomaa
open Go.RowKit Go.Deep
set_option linter.unusedSimpArgs false
set_option linter.unusedVariables false

/-- The six cells of an answer. -/
def ansRow (v0 v1 v2 v3 v4 v5 : Value) : Nat → Value
  | 0 => v0
  | 1 => v1
  | 2 => v2
  | 3 => v3
  | 4 => v4
  | _ => v5
theorem ansRow_alloc (w : World) (v0 v1 v2 v3 v4 v5 : Value) (t : TypeId) : (w.alloc (.cells #[v0, v1, v2, v3, v4, v5] t)).rowIs w.heap.size t 6 (ansRow v0 v1 v2 v3 v4 v5) := by
  have := World.rowIs_alloc w #[v0, v1, v2, v3, v4, v5] t (ansRow v0 v1 v2 v3 v4 v5) (fun i hi => by
    match i, hi with
    | 0, _ => rfl
    | 1, _ => rfl
    | 2, _ => rfl
    | 3, _ => rfl
    | 4, _ => rfl
    | 5, _ => rfl)
  simpa using this

/-- The cells and the marks of a row of six. -/
theorem row6 {w : World} {g : Nat} {t : TypeId} {v0 v1 v2 v3 v4 v5 : Value} (h : w.rowIs g t 6 (ansRow v0 v1 v2 v3 v4 v5)) :
    (w.cell? ⟨g, 0, none⟩ = some v0 ∧ w.cell? ⟨g, 1, none⟩ = some v1 ∧ w.cell? ⟨g, 2, none⟩ = some v2 ∧ w.cell? ⟨g, 3, none⟩ = some v3 ∧ w.cell? ⟨g, 4, none⟩ = some v4 ∧ w.cell? ⟨g, 5, none⟩ = some v5) ∧
    (w.frozen? ⟨g, 0, none⟩ = false ∧ w.frozen? ⟨g, 1, none⟩ = false ∧ w.frozen? ⟨g, 2, none⟩ = false ∧ w.frozen? ⟨g, 3, none⟩ = false ∧ w.frozen? ⟨g, 4, none⟩ = false ∧ w.frozen? ⟨g, 5, none⟩ = false) :=
  ⟨⟨h.cell (i := 0) (by omega), h.cell (i := 1) (by omega), h.cell (i := 2) (by omega), h.cell (i := 3) (by omega), h.cell (i := 4) (by omega), h.cell (i := 5) (by omega)⟩,
   ⟨h.frozen 0, h.frozen 1, h.frozen 2, h.frozen 3, h.frozen 4, h.frozen 5⟩⟩

theorem Ints.setCell {w : World} {a : Option Addr} {n lo : Nat} {xs : List Int} (h : Ints w a n xs) (hf : Fresh lo n a) {p : Addr} (hp : p.block < lo) (v : Value) : Ints (w.setCell p v) a n xs :=
  h.keep hf (by simp [World.setCell]) (fun b off hlo _ => World.cell?_of_block (Below.heap_setCell _ _ _ _ (by show b ≠ p.block; omega)))
theorem Fresh.le {lo lo' n : Nat} {a : Option Addr} (h : Fresh lo n a) (hl : lo' ≤ lo) : Fresh lo' n a := h.imp id fun ⟨b, off, e, hb⟩ => ⟨b, off, e, by omega⟩

/-- What the call holds on its way: the answer handed in, the result's place, the copy. -/
structure Way (W w : World) (A Z C : Nat → Value) : Prop where
  a : w.rowIs W.heap.size 36 6 A
  z : w.rowIs (W.heap.size + 1) 36 6 Z
  c : w.rowIs (W.heap.size + 1 + 1) 36 6 C
  b : Below W.heap.size W w
theorem Way.below {W w w' : World} {A Z C : Nat → Value} (h : Way W w A Z C) (hb : Below w.heap.size w w') : Way W w' A Z C :=
  ⟨blockBelow hb h.a.lt h.a, blockBelow hb h.z.lt h.z, blockBelow hb h.c.lt h.c, h.b.trans (hb.mono h.b.size)⟩
theorem Way.set {W w : World} {A Z C C' : Nat → Value} (h : Way W w A Z C) (j : Nat) (v : Value) (hC : ∀ i, i < 6 → (if i = j then v else C i) = C' i) : Way W (w.setCell ⟨W.heap.size + 1 + 1, j, none⟩ v) A Z C' :=
  ⟨h.a.setOther (by show W.heap.size ≠ W.heap.size + 1 + 1; omega) _, h.z.setOther (by show W.heap.size + 1 ≠ W.heap.size + 1 + 1; omega) _, (h.c.set j v).congr hC, h.b.setCell (by show W.heap.size ≤ W.heap.size + 1 + 1; omega) _⟩

set_option maxHeartbeats 4000000 in
theorem ownAnswer_any (fa pa ca ra : Option Addr) (fn fc pn pc cn cc rn rc : Nat) (kd cs : Int) (fl po cu ci : List Int) (w : World) (ha : Ans w fa pa ca ra fn pn cn rn fl po cu ci) :
    Calls Try.prog 19 #[.agg #[.int .i64 kd, .int .i64 cs, .slice fa fn fc, .slice pa pn pc, .slice ca cn cc, .slice ra rn rc]] w fun e w' =>
      ∃ fa' fc' pa' pc' ca' cc' ra' rc', e = .returned (.agg #[.int .i64 kd, .int .i64 cs, .slice fa' fn fc', .slice pa' pn pc', .slice ca' cn cc', .slice ra' rn rc']) ∧ Ans w' fa' pa' ca' ra' fn pn cn rn fl po cu ci ∧ Below w.heap.size w w' := by
  go_enter Try.func19, Try.ntmps19
  go_wp2_with fail
  have w0 : Way w (((w.alloc (.cells #[.int .i64 kd, .int .i64 cs, .slice fa fn fc, .slice pa pn pc, .slice ca cn cc, .slice ra rn rc] 36)).alloc (.cells #[.int .i64 0, .int .i64 0, .slice none 0 0, .slice none 0 0, .slice none 0 0, .slice none 0 0] 36)).alloc (.cells #[.int .i64 kd, .int .i64 cs, .slice none 0 0, .slice none 0 0, .slice none 0 0, .slice none 0 0] 36))
      (ansRow (.int .i64 kd) (.int .i64 cs) (.slice fa fn fc) (.slice pa pn pc) (.slice ca cn cc) (.slice ra rn rc)) (ansRow (.int .i64 0) (.int .i64 0) (.slice none 0 0) (.slice none 0 0) (.slice none 0 0) (.slice none 0 0)) (ansRow (.int .i64 kd) (.int .i64 cs) (.slice none 0 0) (.slice none 0 0) (.slice none 0 0) (.slice none 0 0)) := by
    refine ⟨((ansRow_alloc _ _ _ _ _ _ _ _).alloc _).alloc _, ?_, ?_, Joins.below_alloc3 _ _ _ _⟩
    · have := (ansRow_alloc (w.alloc (.cells #[.int .i64 kd, .int .i64 cs, .slice fa fn fc, .slice pa pn pc, .slice ca cn cc, .slice ra rn rc] 36)) (.int .i64 0) (.int .i64 0) (.slice none 0 0) (.slice none 0 0) (.slice none 0 0) (.slice none 0 0) 36).alloc (.cells #[.int .i64 kd, .int .i64 cs, .slice none 0 0, .slice none 0 0, .slice none 0 0, .slice none 0 0] 36)
      simp at this
      exact this
    · have := ansRow_alloc ((w.alloc (.cells #[.int .i64 kd, .int .i64 cs, .slice fa fn fc, .slice pa pn pc, .slice ca cn cc, .slice ra rn rc] 36)).alloc (.cells #[.int .i64 0, .int .i64 0, .slice none 0 0, .slice none 0 0, .slice none 0 0, .slice none 0 0] 36)) (.int .i64 kd) (.int .i64 cs) (.slice none 0 0) (.slice none 0 0) (.slice none 0 0) (.slice none 0 0) 36
      simp at this
      exact this
  refine (own_any fa fn fc fl _ (ha.fl.below w0.b)).mono ?_
  rintro e w1 ⟨fa', fc', rfl, hF, fF, hb1⟩
  have y1 := hide (w0.below hb1)
  have sz1 := y1.out.c.lt
  have fF1 : Hid (Fresh (w.heap.size + 1 + 1 + 1) fn fa') := fF.le (by simp)
  have hF1 := hide hF
  obtain ⟨⟨a0, a1, a2, a3, a4, a5⟩, -⟩ := row6 y1.out.a
  obtain ⟨⟨c0, c1, c2, c3, c4, c5⟩, ⟨d0, d1, d2, d3, d4, d5⟩⟩ := row6 y1.out.c
  clear hb1 w0 hF fF
  go_wp2_with fail
  have y2 := y1.out.set 2 (.slice fa' fn fc') (C' := ansRow (.int .i64 kd) (.int .i64 cs) (.slice fa' fn fc') (.slice none 0 0) (.slice none 0 0) (.slice none 0 0)) (fun i hi => by match i, hi with | 0, _ => rfl | 1, _ => rfl | 2, _ => rfl | 3, _ => rfl | 4, _ => rfl | 5, _ => rfl)
  have hF2 := hF1.out.setCell fF1.out (p := ⟨w.heap.size + 1 + 1, 2, none⟩) (by show w.heap.size + 1 + 1 < w.heap.size + 1 + 1 + 1; omega) (.slice fa' fn fc')
  refine (own_any pa pn pc po _ (ha.po.below y2.b)).mono ?_
  rintro e w2 ⟨pa', pc', rfl, hP, fP, hb2⟩
  have hF3 := hide (hF2.below hb2)
  have hP1 := hide hP
  have fP1 : Hid (Fresh (w.heap.size + 1 + 1 + 1) pn pa') := fP.le (by simp [World.setCell]; omega)
  have y3 := hide (y2.below hb2)
  clear a0 a1 a2 a3 a4 a5 c0 c1 c2 c3 c4 c5 d0 d1 d2 d3 d4 d5 y1 y2 hF1 hF2 hb2 sz1 hP fP
  have sz1 := y3.out.c.lt
  obtain ⟨⟨a0, a1, a2, a3, a4, a5⟩, -⟩ := row6 y3.out.a
  obtain ⟨⟨c0, c1, c2, c3, c4, c5⟩, ⟨d0, d1, d2, d3, d4, d5⟩⟩ := row6 y3.out.c
  go_wp2_with fail
  have y4 := y3.out.set 3 (.slice pa' pn pc') (C' := ansRow (.int .i64 kd) (.int .i64 cs) (.slice fa' fn fc') (.slice pa' pn pc') (.slice none 0 0) (.slice none 0 0)) (fun i hi => by match i, hi with | 0, _ => rfl | 1, _ => rfl | 2, _ => rfl | 3, _ => rfl | 4, _ => rfl | 5, _ => rfl)
  have hF4 := hF3.out.setCell fF1.out (p := ⟨w.heap.size + 1 + 1, 3, none⟩) (by show w.heap.size + 1 + 1 < w.heap.size + 1 + 1 + 1; omega) (.slice pa' pn pc')
  have hP2 := hP1.out.setCell fP1.out (p := ⟨w.heap.size + 1 + 1, 3, none⟩) (by show w.heap.size + 1 + 1 < w.heap.size + 1 + 1 + 1; omega) (.slice pa' pn pc')
  refine (own_any ca cn cc cu _ (ha.cu.below y4.b)).mono ?_
  rintro e w3 ⟨ca', cc', rfl, hC, fC, hb3⟩
  have hF5 := hide (hF4.below hb3)
  have hP3 := hide (hP2.below hb3)
  have hC1 := hide hC
  have fC1 : Hid (Fresh (w.heap.size + 1 + 1 + 1) cn ca') := fC.le (by simp [World.setCell]; omega)
  have y5 := hide (y4.below hb3)
  clear a0 a1 a2 a3 a4 a5 c0 c1 c2 c3 c4 c5 d0 d1 d2 d3 d4 d5 y3 y4 hF3 hF4 hP1 hP2 hb3 sz1 hC fC
  have sz1 := y5.out.c.lt
  obtain ⟨⟨a0, a1, a2, a3, a4, a5⟩, -⟩ := row6 y5.out.a
  obtain ⟨⟨c0, c1, c2, c3, c4, c5⟩, ⟨d0, d1, d2, d3, d4, d5⟩⟩ := row6 y5.out.c
  go_wp2_with fail
  have y6 := y5.out.set 4 (.slice ca' cn cc') (C' := ansRow (.int .i64 kd) (.int .i64 cs) (.slice fa' fn fc') (.slice pa' pn pc') (.slice ca' cn cc') (.slice none 0 0)) (fun i hi => by match i, hi with | 0, _ => rfl | 1, _ => rfl | 2, _ => rfl | 3, _ => rfl | 4, _ => rfl | 5, _ => rfl)
  have hF6 := hF5.out.setCell fF1.out (p := ⟨w.heap.size + 1 + 1, 4, none⟩) (by show w.heap.size + 1 + 1 < w.heap.size + 1 + 1 + 1; omega) (.slice ca' cn cc')
  have hP4 := hP3.out.setCell fP1.out (p := ⟨w.heap.size + 1 + 1, 4, none⟩) (by show w.heap.size + 1 + 1 < w.heap.size + 1 + 1 + 1; omega) (.slice ca' cn cc')
  have hC2 := hC1.out.setCell fC1.out (p := ⟨w.heap.size + 1 + 1, 4, none⟩) (by show w.heap.size + 1 + 1 < w.heap.size + 1 + 1 + 1; omega) (.slice ca' cn cc')
  refine (own_any ra rn rc ci _ (ha.ci.below y6.b)).mono ?_
  rintro e w4 ⟨ra', rc', rfl, hR, fR, hb4⟩
  have hF7 := hide (hF6.below hb4)
  have hP5 := hide (hP4.below hb4)
  have hC3 := hide (hC2.below hb4)
  have hR1 := hide hR
  have fR1 : Hid (Fresh (w.heap.size + 1 + 1 + 1) rn ra') := fR.le (by simp [World.setCell]; omega)
  have y7 := hide (y6.below hb4)
  clear a0 a1 a2 a3 a4 a5 c0 c1 c2 c3 c4 c5 d0 d1 d2 d3 d4 d5 y5 y6 hF5 hF6 hP3 hP4 hC1 hC2 hb4 sz1 hR fR ha
  have sz1 := y7.out.c.lt
  obtain ⟨⟨c0, c1, c2, c3, c4, c5⟩, ⟨d0, d1, d2, d3, d4, d5⟩⟩ := row6 y7.out.c
  obtain ⟨⟨z0, z1, z2, z3, z4, z5⟩, ⟨g0, g1, g2, g3, g4, g5⟩⟩ := row6 y7.out.z
  go_wp2
  have r0 := y7.out.z.setOther (a := ⟨w.heap.size + 1 + 1, 5, none⟩) (by show w.heap.size + 1 ≠ w.heap.size + 1 + 1; omega) (.slice ra' rn rc')
  have r1 := r0.set 0 (.int .i64 kd)
  have r2 := r1.set 1 (.int .i64 cs)
  have r3 := r2.set 2 (.slice fa' fn fc')
  have r4 := r3.set 3 (.slice pa' pn pc')
  have r5 := r4.set 4 (.slice ca' cn cc')
  have r6 := r5.set 5 (.slice ra' rn rc')
  have q0 := r1.cell (i := 0) (by omega)
  have q1 := r2.cell (i := 1) (by omega)
  have q2 := r3.cell (i := 2) (by omega)
  have q3 := r4.cell (i := 3) (by omega)
  have q4 := r5.cell (i := 4) (by omega)
  have q5 := r6.cell (i := 5) (by omega)
  simp only [if_true] at q0 q1 q2 q3 q4 q5
  clear r0 r1 r2 r3 r4 r5 r6
  refine bodyPost_ret (v := .agg #[.int .i64 kd, .int .i64 cs, .slice fa' fn fc', .slice pa' pn pc', .slice ca' cn cc', .slice ra' rn rc']) (by simp [results, Try.results19, go_sem, q0, q1, q2, q3, q4, q5]) rfl ⟨fa', fc', pa', pc', ca', cc', ra', rc', rfl, ?_, ?_⟩
  · have keepI : ∀ {a : Option Addr} {n : Nat} {l : List Int}, Ints w4 a n l → Fresh (w.heap.size + 1 + 1 + 1) n a → Ints (((((((w4.setCell ⟨w.heap.size + 1 + 1, 5, none⟩ (.slice ra' rn rc')).setCell ⟨w.heap.size + 1, 0, none⟩ (.int .i64 kd)).setCell ⟨w.heap.size + 1, 1, none⟩ (.int .i64 cs)).setCell ⟨w.heap.size + 1, 2, none⟩ (.slice fa' fn fc')).setCell ⟨w.heap.size + 1, 3, none⟩ (.slice pa' pn pc')).setCell ⟨w.heap.size + 1, 4, none⟩ (.slice ca' cn cc')).setCell ⟨w.heap.size + 1, 5, none⟩ (.slice ra' rn rc')) a n l := by
      intro a n l hI hf
      have g : w.heap.size + 1 < w.heap.size + 1 + 1 + 1 := by omega
      have g' : w.heap.size + 1 + 1 < w.heap.size + 1 + 1 + 1 := by omega
      exact ((((((hI.setCell hf (p := ⟨w.heap.size + 1 + 1, 5, none⟩) g' _).setCell hf (p := ⟨w.heap.size + 1, 0, none⟩) g _).setCell hf (p := ⟨w.heap.size + 1, 1, none⟩) g _).setCell hf (p := ⟨w.heap.size + 1, 2, none⟩) g _).setCell hf (p := ⟨w.heap.size + 1, 3, none⟩) g _).setCell hf (p := ⟨w.heap.size + 1, 4, none⟩) g _).setCell hf (p := ⟨w.heap.size + 1, 5, none⟩) g _
    exact ⟨keepI hF7.out fF1.out, keepI hP5.out fP1.out, keepI hC3.out fC1.out, keepI hR1.out fR1.out⟩
  · have g : w.heap.size ≤ w.heap.size + 1 := by omega
    have g' : w.heap.size ≤ w.heap.size + 1 + 1 := by omega
    exact ((((((y7.out.b.setCell (p := ⟨w.heap.size + 1 + 1, 5, none⟩) g' _).setCell (p := ⟨w.heap.size + 1, 0, none⟩) g _).setCell (p := ⟨w.heap.size + 1, 1, none⟩) g _).setCell (p := ⟨w.heap.size + 1, 2, none⟩) g _).setCell (p := ⟨w.heap.size + 1, 3, none⟩) g _).setCell (p := ⟨w.heap.size + 1, 4, none⟩) g _).setCell (p := ⟨w.heap.size + 1, 5, none⟩) g _
end Go.Proofs.Ytampcheafdlomaa
