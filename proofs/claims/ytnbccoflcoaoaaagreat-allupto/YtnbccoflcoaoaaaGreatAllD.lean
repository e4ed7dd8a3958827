import Derived.Test.YtnbccoflcoaoaaaGreatAllC
import Derived.Lib.QuietBelow
namespace Go.Proofs.YtnbccoflcoaoaaaGreat
open Go.RowKit Go.Deep
set_option linter.unusedSimpArgs false
set_option linter.unusedVariables false

/-! ### netStill -/
set_option maxHeartbeats 2000000 in
theorem aNetStill_any (gs gc ga gd : Nat) (sa aa : Option Addr) (sn sc an ac base : Nat) (xs : List Int) (es : List A5) (w : World) (hx : Ints w sa sn xs) (he : Arcs w aa an es)
    (hrs : Roomy w base (.slice (some ⟨gs, 0, none⟩) sn gc) xs) (hra : RoomyA w base (.slice (some ⟨ga, 0, none⟩) an gd) es) (hns : ∀ b off, sa = some ⟨b, off, none⟩ → b < base) (hna : ∀ b off, aa = some ⟨b, off, none⟩ → b < base) (hs : sn + 2 ≤ 17592186044416) (ha : an + 2 ≤ 3518437208883) :
    Calls Tryz.prog 19 #[.agg #[.slice (some ⟨gs, 0, none⟩) sn gc, .slice (some ⟨ga, 0, none⟩) an gd], .agg #[.slice sa sn sc, .slice aa an ac]] w fun e w' => e = .returned (.bool true) ∧ ∃ wm, w.grownBy wm (some gs) ∧ wm.grownBy w' (some ga) := by
  have hL : Hid (es.length = an) := he.len
  have hLx : Hid (xs.length = sn) := hx.len
  have hgs : base ≤ gs ∧ gs < w.heap.size := by
    obtain ⟨g, c, e, ho⟩ := hrs
    have := ho.lt g rfl
    simp at e
    omega
  obtain ⟨g', cap', e', hown⟩ := hra
  obtain ⟨rfl, rfl⟩ : ga = g' ∧ gd = cap' := by simp at e'; exact ⟨e'.1, e'.2.2⟩
  clear e'
  rw [hL.out] at hown
  have hga := hown.lt ga rfl
  rcases hown.2 with ⟨h0, _⟩ | ⟨g1, cap1, cur, e1, hg1, hg2, hg3, hg4, hg5, hg6⟩
  · cases h0
  obtain ⟨rfl, rfl⟩ : ga = g1 ∧ gd = cap1 := by simpa using e1
  clear e1
  have hne : Hid (ga ≠ gs) := by
    intro e
    obtain ⟨g, c, e', ho⟩ := hrs
    rcases ho.2 with ⟨h0, _⟩ | ⟨g2, cap2, cur2, e2, _, h2, _⟩
    · cases h0
    · simp at e' e2
      rw [← e2.1, ← e'.1, ← e, hg2] at h2
      simp at h2
  have hb0 : Below w.heap.size w ((w.alloc (.cells #[.slice (some ⟨gs, 0, none⟩) sn gc, .slice (some ⟨ga, 0, none⟩) an gd] 48)).alloc (.cells #[.slice sa sn sc, .slice aa an ac] 48)) := ((Below.refl _ _).alloc (Nat.le_refl _) _).alloc (by simp) _
  have hrow : Hid (w.rowIs ga 67 (gd * 5) (fun i => cur.getD i undef)) := ⟨cur, hg2, by omega, fun i hi => by simp [Array.getD, show i < cur.size by omega]⟩
  have hcur : Hid (∀ i j, i < an + 2 → j < 5 → cur.getD (i * 5 + j) undef = .int .i64 (((es ++ [farA, farA]).getD i zA).at j)) := by
    intro i j hi hj
    have h1 := arcCells_at (es ++ [farA, farA]) i j (by simp [hL.out]; omega) hj
    rw [← hg6, List.getElem?_take, if_pos (by omega)] at h1
    rw [Array.getElem?_toList] at h1
    simp only [Array.getD]
    obtain ⟨h2, h3⟩ := Array.getElem?_eq_some_iff.1 h1
    rw [dif_pos h2]; exact h3
  have hrs2 : Roomy ((w.alloc (.cells #[.slice (some ⟨gs, 0, none⟩) sn gc, .slice (some ⟨ga, 0, none⟩) an gd] 48)).alloc (.cells #[.slice sa sn sc, .slice aa an ac] 48)) base (.slice (some ⟨gs, 0, none⟩) sn gc) xs := by
    obtain ⟨g, c, e, ho⟩ := hrs
    exact ⟨g, c, e, (ho.alloc _).alloc _⟩
  have hcap : ((an : Int) + 2) ≤ (gd : Int) := by omega
  have HX := hide hx
  have HE := hide he
  have HR2 := hide hrs2
  clear hown hg5 hg6 hg2 hrs hx he hrs2
  go_enter Tryz.func19, Tryz.ntmps19
  go_wp2_with fail
  refine (aStill_any gs gc sa sn sc base xs _ (HX.out.below hb0) HR2.out (fun b off e => by have := hns b off e; omega) hs).mono ?_
  rintro e w1 ⟨rfl, hgr⟩
  have hbk : ∀ k, k < w.heap.size + 1 + 1 → k ≠ gs → w1.heap[k]? = ((w.alloc (.cells #[.slice (some ⟨gs, 0, none⟩) sn gc, .slice (some ⟨ga, 0, none⟩) an gd] 48)).alloc (.cells #[.slice sa sn sc, .slice aa an ac] 48)).heap[k]? := fun k h1 h2 => hgr.block k (by simpa using h1) (by simpa using h2)
  have c0 : w1.cell? ⟨w.heap.size, 0, none⟩ = some (.slice (some ⟨gs, 0, none⟩) sn gc) := (World.cell?_of_block (hbk w.heap.size (by omega) (by omega))).trans (by go_simp)
  have c1 : w1.cell? ⟨w.heap.size, 1, none⟩ = some (.slice (some ⟨ga, 0, none⟩) an gd) := (World.cell?_of_block (hbk w.heap.size (by omega) (by omega))).trans (by go_simp)
  have d0 : w1.cell? ⟨w.heap.size + 1, 0, none⟩ = some (.slice sa sn sc) := (World.cell?_of_block (hbk (w.heap.size + 1) (by omega) (by omega))).trans (by go_simp)
  have d1 : w1.cell? ⟨w.heap.size + 1, 1, none⟩ = some (.slice aa an ac) := (World.cell?_of_block (hbk (w.heap.size + 1) (by omega) (by omega))).trans (by go_simp)
  have hz1 : w.heap.size + 1 < w1.heap.size := by have := hgr.size; simp at this; omega
  have hz0 : w.heap.size < w1.heap.size := by omega
  have HG1 : Hid (w.grownBy w1 (some gs)) := ((World.grownBy_alloc _ _ _).trans (World.grownBy_alloc _ _ _)).trans hgr
  have hrow1 : Hid (w1.rowIs ga 67 (gd * 5) (fun i => cur.getD i undef)) := hrow.out.of_block (HG1.out.block ga hga.2 (by have := hne.out; simpa using this))
  have HE1 : Hid (Arcs w1 aa an es) := by
    refine ⟨HE.out.len, HE.out.small, HE.out.wf, HE.out.lies.imp id ?_⟩
    rintro ⟨b, off, e, hl, hc⟩
    refine ⟨b, off, e, by omega, fun i hi j hj => ?_⟩
    rw [World.cell?_of_block (HG1.out.block b hl (by have := hna b off e; simp; omega))]
    exact hc i hi j hj
  clear hgr hbk hb0 HX HR2
  go_wp2
  have hz2 : w1.heap.size < (w1.alloc (.cells #[.int .i64 (-3000000), .int .i64 0, .int .i64 0, .int .i64 0, .int .i64 0] 67)).heap.size := by simp
  have HG2 : Hid (w1.grownBy (w1.alloc (.cells #[.int .i64 (-3000000), .int .i64 0, .int .i64 0, .int .i64 0, .int .i64 0] 67)) (some ga)) := World.grownBy_alloc _ _ _
  have hzr : Hid ((w1.alloc (.cells #[.int .i64 (-3000000), .int .i64 0, .int .i64 0, .int .i64 0, .int .i64 0] 67)).rowIs w1.heap.size 67 5 (fun j => .int .i64 (farA.at j))) := by
    refine ⟨_, heap_alloc_new _ _, rfl, ?_⟩
    intro i hi
    match i, hi with
    | 0, _ => rfl
    | 1, _ => rfl
    | 2, _ => rfl
    | 3, _ => rfl
    | 4, _ => rfl
  have hrow2 : Hid ((w1.alloc (.cells #[.int .i64 (-3000000), .int .i64 0, .int .i64 0, .int .i64 0, .int .i64 0] 67)).rowIs ga 67 (gd * 5) (fun i => cur.getD i undef)) := hrow1.out.of_block ((World.grownBy_alloc _ _ none).block ga hrow1.out.lt (by simp))
  have d1' : (w1.alloc (.cells #[.int .i64 (-3000000), .int .i64 0, .int .i64 0, .int .i64 0, .int .i64 0] 67)).cell? ⟨w.heap.size + 1, 1, none⟩ = some (.slice aa an ac) := by go_simp
  have HE2 : Hid (Arcs (w1.alloc (.cells #[.int .i64 (-3000000), .int .i64 0, .int .i64 0, .int .i64 0, .int .i64 0] 67)) aa an es) := HE1.out.below ((Below.refl _ _).alloc (Nat.le_refl _) _)
  generalize (w1.alloc (.cells #[.int .i64 (-3000000), .int .i64 0, .int .i64 0, .int .i64 0, .int .i64 0] 67)) = w2 at *
  clear c0 c1 d0 d1 hrow hrow1 HE HE1
  go_loopw [5, 8, 9, 10] (fun ok i p s wr => ∃ k : Nat, k ≤ an + 2 ∧ i = .int .i64 k ∧ ok = .bool true ∧ Hid (∃ f, wr.rowIs ga 67 (gd * 5) f ∧ ∀ j, k * 5 ≤ j → f j = cur.getD j undef) ∧ Hid (w2.grownBy wr (some ga))) (fun _ i _ _ _ => an + 2 - (intOf i).toNat)
  case atStart => exact ⟨0, Nat.zero_le _, rfl, rfl, ⟨_, hrow2.out, fun j _ => rfl⟩, ⟨rfl, rfl, rfl, Nat.le_refl _, fun _ _ _ => rfl⟩⟩
  case round =>
    obtain ⟨k, hk, rfl, rfl, hf, hG⟩ := hrel
    by_cases hlt : k < an + 2
    · obtain ⟨f, hfr, hfe⟩ := hf.out
      have hbk : ∀ b, b < w2.heap.size → b ≠ ga → wr.heap[b]? = w2.heap[b]? := fun b h1 h2 => hG.out.block b h1 (by simpa using h2)
      have zr := hzr.out.of_block (hbk w1.heap.size hz2 (by omega))
      have z0 := zr.cell (show 0 < 5 by decide)
      have z1 := zr.cell (show 1 < 5 by decide)
      have z2 := zr.cell (show 2 < 5 by decide)
      have z3 := zr.cell (show 3 < 5 by decide)
      have z4 := zr.cell (show 4 < 5 by decide)
      simp only [A5.at, farA] at z0 z1 z2 z3 z4
      have n1 := (World.cell?_of_block (a := ⟨w.heap.size + 1, 1, none⟩) (hbk (w.heap.size + 1) (by omega) (by omega))).trans d1'
      have hwr := hG.out.size
      have hz3 : w1.heap.size < wr.heap.size := by omega
      have hz4 : w.heap.size + 1 < wr.heap.size := by omega
      have hlt3 : (k : Int) < (an : Int) + 2 := by omega
      have y : ∀ j, j < 5 → wr.cell? ⟨ga, k * 5 + j, none⟩ = some (.int .i64 (((es ++ [farA, farA]).getD k zA).at j)) := by
        intro j hj
        rw [hfr.cell (show k * 5 + j < gd * 5 by omega), hfe _ (by omega), hcur.out k j hlt hj]
      have y0 := y 0 (by decide)
      have y1 := y 1 (by decide)
      have y2 := y 2 (by decide)
      have y3 := y 3 (by decide)
      have y4 := y 4 (by decide)
      clear y
      rw [Nat.add_zero] at y0
      have hgl := hfr.lt
      have HF := hide hfr
      have HFE := hide hfe
      clear hfr hfe zr hbk hf
      by_cases hka : k < an
      · obtain ⟨b, off, ef, et, el, ec, eq, rfl, hA, hbb, e0, e1, e2, e3, e4⟩ := HE2.out.get hka
        have hX : (es ++ [farA, farA]).getD k zA = ⟨ef, et, el, ec, eq⟩ := by
          rw [List.getD, List.getElem?_append_left (by rw [hL.out]; exact hka)]; exact hA
        rw [hX] at y0 y1 y2 y3 y4
        simp only [A5.at] at y0 y1 y2 y3 y4
        clear hX hA
        have hbe : wr.heap[b]? = w2.heap[b]? := hG.out.block b hbb (by have := hna b off rfl; simp; omega)
        have a0 := (World.cell?_of_block (a := ⟨b, off + k * 5, none⟩) hbe).trans e0
        have a1 := (World.cell?_of_block (a := ⟨b, off + k * 5 + 1, none⟩) hbe).trans e1
        have a2 := (World.cell?_of_block (a := ⟨b, off + k * 5 + 2, none⟩) hbe).trans e2
        have a3 := (World.cell?_of_block (a := ⟨b, off + k * 5 + 3, none⟩) hbe).trans e3
        have a4 := (World.cell?_of_block (a := ⟨b, off + k * 5 + 4, none⟩) hbe).trans e4
        have hbw : b < wr.heap.size := by omega
        clear e0 e1 e2 e3 e4 hbe
        have hka3 : (k : Int) < (an : Int) := by omega
        go_wp2_with fail
        have hbx : Below wr.heap.size wr (wr.alloc (.cells #[.int .i64 ef, .int .i64 et, .int .i64 el, .int .i64 ec, .int .i64 eq] 67)) := (Below.refl _ _).alloc (Nat.le_refl _) _
        have hpx : wr.heap.size < ((wr.alloc (.cells #[.int .i64 ef, .int .i64 et, .int .i64 el, .int .i64 ec, .int .i64 eq] 67))).heap.size := by simp
        have Y0 := cell_regrown ((hbx.cell (p := ⟨ga, k * 5, none⟩) hgl).trans y0)
        have Y1 := cell_regrown ((hbx.cell (p := ⟨ga, k * 5 + 1, none⟩) hgl).trans y1)
        have Y2 := cell_regrown ((hbx.cell (p := ⟨ga, k * 5 + 2, none⟩) hgl).trans y2)
        have Y3 := cell_regrown ((hbx.cell (p := ⟨ga, k * 5 + 3, none⟩) hgl).trans y3)
        have Y4 := cell_regrown ((hbx.cell (p := ⟨ga, k * 5 + 4, none⟩) hgl).trans y4)
        have P0 : ((wr.alloc (.cells #[.int .i64 ef, .int .i64 et, .int .i64 el, .int .i64 ec, .int .i64 eq] 67))).cell? ⟨wr.heap.size, 0, none⟩ = some (.int .i64 ef) := by go_simp
        have P1 : ((wr.alloc (.cells #[.int .i64 ef, .int .i64 et, .int .i64 el, .int .i64 ec, .int .i64 eq] 67))).cell? ⟨wr.heap.size, 1, none⟩ = some (.int .i64 et) := by go_simp
        have P2 : ((wr.alloc (.cells #[.int .i64 ef, .int .i64 et, .int .i64 el, .int .i64 ec, .int .i64 eq] 67))).cell? ⟨wr.heap.size, 2, none⟩ = some (.int .i64 el) := by go_simp
        have P3 : ((wr.alloc (.cells #[.int .i64 ef, .int .i64 et, .int .i64 el, .int .i64 ec, .int .i64 eq] 67))).cell? ⟨wr.heap.size, 3, none⟩ = some (.int .i64 ec) := by go_simp
        have P4 : ((wr.alloc (.cells #[.int .i64 ef, .int .i64 et, .int .i64 el, .int .i64 ec, .int .i64 eq] 67))).cell? ⟨wr.heap.size, 4, none⟩ = some (.int .i64 eq) := by go_simp
        have Z0 := (hbx.cell (p := ⟨w1.heap.size, 0, none⟩) hz3).trans z0
        have Z1 := (hbx.cell (p := ⟨w1.heap.size, 1, none⟩) hz3).trans z1
        have Z2 := (hbx.cell (p := ⟨w1.heap.size, 2, none⟩) hz3).trans z2
        have Z3 := (hbx.cell (p := ⟨w1.heap.size, 3, none⟩) hz3).trans z3
        have Z4 := (hbx.cell (p := ⟨w1.heap.size, 4, none⟩) hz3).trans z4
        generalize (wr.alloc (.cells #[.int .i64 ef, .int .i64 et, .int .i64 el, .int .i64 ec, .int .i64 eq] 67)) = wx at *
        have Q0 := cell_regrown P0
        have Q1 := cell_regrown P1
        have Q2 := cell_regrown P2
        have Q3 := cell_regrown P3
        have Q4 := cell_regrown P4
        have cQ : ∀ d os, Calls Tryz.prog 40 #[.agg #[.int .i64 ef, .int .i64 et, .int .i64 el, .int .i64 ec, .int .i64 eq], .agg #[.int .i64 ef, .int .i64 et, .int .i64 el, .int .i64 ec, .int .i64 eq]] (Sort.grow (redrawn wx d) os) fun e w'' => e = .returned (.bool true) ∧ ∃ p : Regrown, w'' = Sort.grow (redrawn wx p.d) p.os := fun d os => Calls.regrown_of (by have h := aSameArc_any ⟨ef, et, el, ec, eq⟩ ⟨ef, et, el, ec, eq⟩ (Sort.grow (redrawn wx d) os); rw [sameA_self] at h; exact h)
        clear P0 P1 P2 P3 P4 y0 y1 y2 y3 y4 z0 z1 z2 z3 z4
        refine wp_region_quiet_below (by kernel_rfl) (by kernel_rfl) ?_
        repeat (quiet_step (first | exact cQ _ _))
        refine wpQuiet_nil ?_
        intro _ hw'
        obtain ⟨⟨dq, osq⟩, hw''⟩ := hw'
        subst hw''
        have hbr := below_regrown wx dq osq
        generalize Sort.grow (redrawn wx dq) osq = w9 at *
        have hb9 : Below wr.heap.size wr w9 := hbx.trans (hbr.mono hbx.size)
        have z0 := (hbr.cell (p := ⟨w1.heap.size, 0, none⟩) (by show w1.heap.size < wx.heap.size; omega)).trans Z0
        have z1 := (hbr.cell (p := ⟨w1.heap.size, 1, none⟩) (by show w1.heap.size < wx.heap.size; omega)).trans Z1
        have z2 := (hbr.cell (p := ⟨w1.heap.size, 2, none⟩) (by show w1.heap.size < wx.heap.size; omega)).trans Z2
        have z3 := (hbr.cell (p := ⟨w1.heap.size, 3, none⟩) (by show w1.heap.size < wx.heap.size; omega)).trans Z3
        have z4 := (hbr.cell (p := ⟨w1.heap.size, 4, none⟩) (by show w1.heap.size < wx.heap.size; omega)).trans Z4
        have hf9 := HF.out.of_block (hb9.block ga hgl)
        have y0 := hf9.cell (show k * 5 < gd * 5 by omega)
        have x0 := hf9.frozen (k * 5)
        have y1 := hf9.cell (show k * 5 + 1 < gd * 5 by omega)
        have x1 := hf9.frozen (k * 5 + 1)
        have y2 := hf9.cell (show k * 5 + 2 < gd * 5 by omega)
        have x2 := hf9.frozen (k * 5 + 2)
        have y3 := hf9.cell (show k * 5 + 3 < gd * 5 by omega)
        have x3 := hf9.frozen (k * 5 + 3)
        have y4 := hf9.cell (show k * 5 + 4 < gd * 5 by omega)
        have x4 := hf9.frozen (k * 5 + 4)
        have hgl9 := hf9.lt
        have hz9 : w1.heap.size < w9.heap.size := by have := hb9.size; omega
        have HF9 := hide (((((hf9.set (k * 5) (.int .i64 (-3000000))).set (k * 5 + 1) (.int .i64 0)).set (k * 5 + 2) (.int .i64 0)).set (k * 5 + 3) (.int .i64 0)).set (k * 5 + 4) (.int .i64 0))
        have HG9 := hide (grown_setB (o := k * 5 + 4) (u := .int .i64 0) (grown_setB (o := k * 5 + 3) (u := .int .i64 0) (grown_setB (o := k * 5 + 2) (u := .int .i64 0) (grown_setB (o := k * 5 + 1) (u := .int .i64 0) (grown_setB (o := k * 5) (u := .int .i64 (-3000000)) (hG.out.trans (grown_of_below hb9 (some ga))))))))
        clear Y0 Y1 Y2 Y3 Y4 Z0 Z1 Z2 Z3 Z4 Q0 Q1 Q2 Q3 Q4 cQ hbr hbx hb9 hf9 hG HF n1 a0 a1 a2 a3 a4
        go_wp2
        go_roundw
        case rel =>
          refine ⟨k + 1, by omega, by go_num, rfl, ⟨_, HF9.out, ?_⟩, HG9⟩
          intro j hj
          have hj' := HFE.out j (by omega)
          rw [← hj']
          rw [if_neg (by omega), if_neg (by omega), if_neg (by omega), if_neg (by omega), if_neg (by omega)]
        case measure => simp [intOf]; omega
      · have hX : (es ++ [farA, farA]).getD k zA = farA := by
          rw [List.getD, List.getElem?_append_right (by rw [hL.out]; omega), hL.out]
          obtain h | h : k - an = 0 ∨ k - an = 1 := by omega
          · rw [h]; rfl
          · rw [h]; rfl
        rw [hX] at y0 y1 y2 y3 y4
        simp only [A5.at, farA] at y0 y1 y2 y3 y4
        have hnk : ¬ (k : Int) < (an : Int) := by omega
        go_wp2_with fail
        have hbx : Below wr.heap.size wr (wr.alloc (.cells #[.int .i64 (-3000000), .int .i64 0, .int .i64 0, .int .i64 0, .int .i64 0] 67)) := (Below.refl _ _).alloc (Nat.le_refl _) _
        have hpx : wr.heap.size < ((wr.alloc (.cells #[.int .i64 (-3000000), .int .i64 0, .int .i64 0, .int .i64 0, .int .i64 0] 67))).heap.size := by simp
        have Y0 := cell_regrown ((hbx.cell (p := ⟨ga, k * 5, none⟩) hgl).trans y0)
        have Y1 := cell_regrown ((hbx.cell (p := ⟨ga, k * 5 + 1, none⟩) hgl).trans y1)
        have Y2 := cell_regrown ((hbx.cell (p := ⟨ga, k * 5 + 2, none⟩) hgl).trans y2)
        have Y3 := cell_regrown ((hbx.cell (p := ⟨ga, k * 5 + 3, none⟩) hgl).trans y3)
        have Y4 := cell_regrown ((hbx.cell (p := ⟨ga, k * 5 + 4, none⟩) hgl).trans y4)
        have P0 : ((wr.alloc (.cells #[.int .i64 (-3000000), .int .i64 0, .int .i64 0, .int .i64 0, .int .i64 0] 67))).cell? ⟨wr.heap.size, 0, none⟩ = some (.int .i64 (-3000000)) := by go_simp
        have P1 : ((wr.alloc (.cells #[.int .i64 (-3000000), .int .i64 0, .int .i64 0, .int .i64 0, .int .i64 0] 67))).cell? ⟨wr.heap.size, 1, none⟩ = some (.int .i64 0) := by go_simp
        have P2 : ((wr.alloc (.cells #[.int .i64 (-3000000), .int .i64 0, .int .i64 0, .int .i64 0, .int .i64 0] 67))).cell? ⟨wr.heap.size, 2, none⟩ = some (.int .i64 0) := by go_simp
        have P3 : ((wr.alloc (.cells #[.int .i64 (-3000000), .int .i64 0, .int .i64 0, .int .i64 0, .int .i64 0] 67))).cell? ⟨wr.heap.size, 3, none⟩ = some (.int .i64 0) := by go_simp
        have P4 : ((wr.alloc (.cells #[.int .i64 (-3000000), .int .i64 0, .int .i64 0, .int .i64 0, .int .i64 0] 67))).cell? ⟨wr.heap.size, 4, none⟩ = some (.int .i64 0) := by go_simp
        have Z0 := (hbx.cell (p := ⟨w1.heap.size, 0, none⟩) hz3).trans z0
        have Z1 := (hbx.cell (p := ⟨w1.heap.size, 1, none⟩) hz3).trans z1
        have Z2 := (hbx.cell (p := ⟨w1.heap.size, 2, none⟩) hz3).trans z2
        have Z3 := (hbx.cell (p := ⟨w1.heap.size, 3, none⟩) hz3).trans z3
        have Z4 := (hbx.cell (p := ⟨w1.heap.size, 4, none⟩) hz3).trans z4
        generalize (wr.alloc (.cells #[.int .i64 (-3000000), .int .i64 0, .int .i64 0, .int .i64 0, .int .i64 0] 67)) = wx at *
        have Q0 := cell_regrown P0
        have Q1 := cell_regrown P1
        have Q2 := cell_regrown P2
        have Q3 := cell_regrown P3
        have Q4 := cell_regrown P4
        have cQ : ∀ d os, Calls Tryz.prog 40 #[.agg #[.int .i64 (-3000000), .int .i64 0, .int .i64 0, .int .i64 0, .int .i64 0], .agg #[.int .i64 (-3000000), .int .i64 0, .int .i64 0, .int .i64 0, .int .i64 0]] (Sort.grow (redrawn wx d) os) fun e w'' => e = .returned (.bool true) ∧ ∃ p : Regrown, w'' = Sort.grow (redrawn wx p.d) p.os := fun d os => Calls.regrown_of (by have h := aSameArc_any ⟨(-3000000), 0, 0, 0, 0⟩ ⟨(-3000000), 0, 0, 0, 0⟩ (Sort.grow (redrawn wx d) os); rw [sameA_self] at h; exact h)
        clear P0 P1 P2 P3 P4 y0 y1 y2 y3 y4 z0 z1 z2 z3 z4
        refine wp_region_quiet_below (by kernel_rfl) (by kernel_rfl) ?_
        repeat (quiet_step (first | exact cQ _ _))
        refine wpQuiet_nil ?_
        intro _ hw'
        obtain ⟨⟨dq, osq⟩, hw''⟩ := hw'
        subst hw''
        have hbr := below_regrown wx dq osq
        generalize Sort.grow (redrawn wx dq) osq = w9 at *
        have hb9 : Below wr.heap.size wr w9 := hbx.trans (hbr.mono hbx.size)
        have z0 := (hbr.cell (p := ⟨w1.heap.size, 0, none⟩) (by show w1.heap.size < wx.heap.size; omega)).trans Z0
        have z1 := (hbr.cell (p := ⟨w1.heap.size, 1, none⟩) (by show w1.heap.size < wx.heap.size; omega)).trans Z1
        have z2 := (hbr.cell (p := ⟨w1.heap.size, 2, none⟩) (by show w1.heap.size < wx.heap.size; omega)).trans Z2
        have z3 := (hbr.cell (p := ⟨w1.heap.size, 3, none⟩) (by show w1.heap.size < wx.heap.size; omega)).trans Z3
        have z4 := (hbr.cell (p := ⟨w1.heap.size, 4, none⟩) (by show w1.heap.size < wx.heap.size; omega)).trans Z4
        have hf9 := HF.out.of_block (hb9.block ga hgl)
        have y0 := hf9.cell (show k * 5 < gd * 5 by omega)
        have x0 := hf9.frozen (k * 5)
        have y1 := hf9.cell (show k * 5 + 1 < gd * 5 by omega)
        have x1 := hf9.frozen (k * 5 + 1)
        have y2 := hf9.cell (show k * 5 + 2 < gd * 5 by omega)
        have x2 := hf9.frozen (k * 5 + 2)
        have y3 := hf9.cell (show k * 5 + 3 < gd * 5 by omega)
        have x3 := hf9.frozen (k * 5 + 3)
        have y4 := hf9.cell (show k * 5 + 4 < gd * 5 by omega)
        have x4 := hf9.frozen (k * 5 + 4)
        have hgl9 := hf9.lt
        have hz9 : w1.heap.size < w9.heap.size := by have := hb9.size; omega
        have HF9 := hide (((((hf9.set (k * 5) (.int .i64 (-3000000))).set (k * 5 + 1) (.int .i64 0)).set (k * 5 + 2) (.int .i64 0)).set (k * 5 + 3) (.int .i64 0)).set (k * 5 + 4) (.int .i64 0))
        have HG9 := hide (grown_setB (o := k * 5 + 4) (u := .int .i64 0) (grown_setB (o := k * 5 + 3) (u := .int .i64 0) (grown_setB (o := k * 5 + 2) (u := .int .i64 0) (grown_setB (o := k * 5 + 1) (u := .int .i64 0) (grown_setB (o := k * 5) (u := .int .i64 (-3000000)) (hG.out.trans (grown_of_below hb9 (some ga))))))))
        clear Y0 Y1 Y2 Y3 Y4 Z0 Z1 Z2 Z3 Z4 Q0 Q1 Q2 Q3 Q4 cQ hbr hbx hb9 hf9 hG HF n1
        go_wp2
        go_roundw
        case rel =>
          refine ⟨k + 1, by omega, by go_num, rfl, ⟨_, HF9.out, ?_⟩, HG9⟩
          intro j hj
          have hj' := HFE.out j (by omega)
          rw [← hj']
          rw [if_neg (by omega), if_neg (by omega), if_neg (by omega), if_neg (by omega), if_neg (by omega)]
        case measure => simp [intOf]; omega
    · have hkn : k = an + 2 := by omega
      subst hkn
      go_wp2
      go_ret
      exact ⟨rfl, w1, HG1.out, HG2.out.trans hG.out⟩
end Go.Proofs.YtnbccoflcoaoaaaGreat
