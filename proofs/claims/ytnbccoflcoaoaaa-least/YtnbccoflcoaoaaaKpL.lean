import Derived.Test.YtnbccoflcoaoaaaGKpa
namespace Go.Proofs.Ytnbccoflcoaoaaa
open Go.RowKit Go.Deep
set_option linter.unusedSimpArgs false
set_option linter.unusedVariables false

theorem least_best {xs : List Int} {es : List A5} (hn : NetOK xs es) {a : A6} (h : okB xs es a = true) (hk : a.kind = 1) {x : List Int} (hf : flowErr xs es x = 0) : a.cost ≤ costTo es x es.length := by
  unfold okB at h
  rw [if_pos hk] at h
  unfold bestB holdsB at h
  simp only [Bool.and_eq_true, decide_eq_true_eq] at h
  obtain ⟨⟨⟨⟨h3, h4⟩, _⟩, _⟩, ⟨_, h5⟩⟩ := h
  rw [← h4]
  exact dual hn (fits_of h3) (fits_of hf) h5
theorem least_none {xs : List Int} {es : List A5} (hn : NetOK xs es) {a : A6} (h : okB xs es a = true) {x : List Int} (hf : flowErr xs es x = 0) : a.kind ≠ 2 := by
  intro hk
  unfold okB at h
  rw [if_neg (by omega), if_pos hk] at h
  unfold noneB at h
  simp only [Bool.and_eq_true, decide_eq_true_eq] at h
  obtain ⟨⟨⟨⟨⟨h3, _⟩, _⟩, _⟩, _⟩, h4⟩ := h
  exact none_fits hn h3 h4 x hf
theorem least_some {xs : List Int} {es : List A5} (hn : NetOK xs es) {fl cu : List Int} {err : Int} (h : SomeAns xs es fl cu err) {x : List Int} (hf : flowErr xs es x = 0) : flowErr xs es fl = 0 := by
  rcases h with ⟨h, _⟩ | ⟨_, _, ⟨_, h1, _⟩ | ⟨_, _, _, h1, h2⟩⟩
  · rw [hn.zero] at h; exact absurd rfl h
  · exact h1
  · exact absurd hf (none_fits hn h1 h2 x)

set_option maxRecDepth 100000 in
set_option maxHeartbeats 4000000 in
theorem keepLeast_any (hS : SolveC) (hM : SomeC) (sa aa xa : Option Addr) (sn sc an ac xn xc : Nat) (xs : List Int) (es : List A5) (x : List Int) (w : World) (hx : Ints w sa sn xs) (he : Arcs w aa an es) (hxx : Ints w xa xn x) :
    Calls Try.prog 10 #[.agg #[.slice sa sn sc, .slice aa an ac], .slice xa xn xc] w fun e w' => e = .returned (.bool true) ∧ Below w.heap.size w w' := by
  have HX := hide hx
  have HE := hide he
  have HXX := hide hxx
  have hb0 : Below w.heap.size w (w.alloc (.cells #[.slice sa sn sc, .slice aa an ac] 25)) := (Below.refl _ _).alloc (Nat.le_refl _) _
  clear hx he hxx
  go_enter Try.func10, Try.ntmps10
  go_wp2_with fail
  refine (refused_any hS hM sa aa sn sc an ac xs es _ (HX.out.below hb0) (HE.out.below hb0)).mono ?_
  rintro e w1 ⟨rfl, hb1⟩
  have k0 : w1.cell? ⟨w.heap.size, 0, none⟩ = some (.slice sa sn sc) := (hb1.cell (by simp)).trans (by go_simp)
  have k1 : w1.cell? ⟨w.heap.size, 1, none⟩ = some (.slice aa an ac) := (hb1.cell (by simp)).trans (by go_simp)
  have hz1 : w.heap.size < w1.heap.size := by have := hb1.size; simp at this; omega
  have hB1 : Below w.heap.size w w1 := hb0.trans (hb1.mono (by simp))
  clear hb0 hb1
  cases hck : ((checkS xs es).1 == 0) with
  | false =>
    go_wp2
    go_ret
    exact ⟨rfl, hB1⟩
  | true =>
    have hn := netOK_of (show (checkS xs es).1 = 0 by simpa using hck)
    clear hck
    go_wp2_with fail
    refine (solved_any hS sa aa sn sc an ac xs es _ (HX.out.below hB1) (HE.out.below hB1) hn).mono ?_
    rintro e w2 ⟨a, v, rfl, hO, hok, hb2⟩
    have hB2 : Below w.heap.size w w2 := hB1.trans (hb2.mono hB1.size)
    have hz2 : w.heap.size < w2.heap.size := Nat.lt_of_lt_of_le hz1 hb2.size
    have l0 := (hb2.cell (p := ⟨w.heap.size, 0, none⟩) hz1).trans k0
    have l1 := (hb2.cell (p := ⟨w.heap.size, 1, none⟩) hz1).trans k1
    obtain ⟨fa, fc, pa, pc, ca, cc, ra, rc, rfl, -⟩ := hO
    have HOK := hide hok
    have hcb := ok_cost hn hok
    have hb3 := Joins.below_alloc1 w2 (.cells #[.int .i64 a.kind, .int .i64 a.cost, .slice fa a.flow.length fc, .slice pa a.pots.length pc, .slice ca a.cut.length cc, .slice ra a.circ.length rc] 36)
    have hB3 := hB2.trans (hb3.mono hB2.size)
    clear k0 k1 hb2 hok hB1
    go_wp2_with fail
    refine (refCopy_any sa aa sn sc an ac xs es _ (HX.out.below hB3) (HE.out.below hB3)).mono ?_
    rintro e w4 ⟨sa1, sc1, aa1, ac1, rfl, hI, hA, -, -, hb4⟩
    have hB4 : Below w.heap.size w w4 := hB3.trans (hb4.mono hB3.size)
    have hz4 : w2.heap.size < w4.heap.size := by have := hb4.size; simp at this; omega
    have m0 : w4.cell? ⟨w.heap.size, 0, none⟩ = some (.slice sa sn sc) := (hb4.cell (by simp; omega)).trans ((hb3.cell (p := ⟨w.heap.size, 0, none⟩) hz2).trans l0)
    have m1 : w4.cell? ⟨w.heap.size, 1, none⟩ = some (.slice aa an ac) := (hb4.cell (by simp; omega)).trans ((hb3.cell (p := ⟨w.heap.size, 1, none⟩) hz2).trans l1)
    have q0 : w4.cell? ⟨w2.heap.size, 0, none⟩ = some (.int .i64 a.kind) := (hb4.cell (by simp)).trans (by go_simp)
    have q1 : w4.cell? ⟨w2.heap.size, 1, none⟩ = some (.int .i64 a.cost) := (hb4.cell (by simp)).trans (by go_simp)
    clear l0 l1 hb3 hb4 hB3 hB2
    go_wp2_with fail
    refine (hM sa1 aa1 sn sc1 an ac1 xs es _ hI hA).mono ?_
    rintro e w5 ⟨fv, cv, fl, cu, err, rfl, hOf, -, -, hans, hb5⟩
    obtain rfl : err = 0 := by
      rcases hans with ⟨h, _⟩ | ⟨_, h, _⟩
      · rw [hn.zero] at h; exact absurd rfl h
      · exact h
    obtain ⟨oa, oc, rfl, hof⟩ := hOf
    have HIF := hide (own_ints hof (by have := hans.wf.1.1; omega) hans.wf.1.2)
    have HANS := hide hans
    have hB5 : Below w.heap.size w w5 := hB4.trans (hb5.mono hB4.size)
    have hz5 : w2.heap.size < w5.heap.size := Nat.lt_of_lt_of_le hz4 hb5.size
    have l0 := (hb5.cell (p := ⟨w.heap.size, 0, none⟩) (by show w.heap.size < w4.heap.size; omega)).trans m0
    have l1 := (hb5.cell (p := ⟨w.heap.size, 1, none⟩) (by show w.heap.size < w4.heap.size; omega)).trans m1
    have p0 := (hb5.cell (p := ⟨w2.heap.size, 0, none⟩) hz4).trans q0
    have p1 := (hb5.cell (p := ⟨w2.heap.size, 1, none⟩) hz4).trans q1
    clear m0 m1 q0 q1 hb5 hI hA hof hans hB4
    go_wp2_with fail
    refine (refCopy_any sa aa sn sc an ac xs es _ (HX.out.below hB5) (HE.out.below hB5)).mono ?_
    rintro e w6 ⟨sa2, sc2, aa2, ac2, rfl, hI, hA, -, -, hb6⟩
    have hB6 : Below w.heap.size w w6 := hB5.trans (hb6.mono hB5.size)
    have hz6 : w2.heap.size < w6.heap.size := Nat.lt_of_lt_of_le hz5 hb6.size
    have m0 := (hb6.cell (p := ⟨w.heap.size, 0, none⟩) (by show w.heap.size < w5.heap.size; omega)).trans l0
    have m1 := (hb6.cell (p := ⟨w.heap.size, 1, none⟩) (by show w.heap.size < w5.heap.size; omega)).trans l1
    have q0 := (hb6.cell (p := ⟨w2.heap.size, 0, none⟩) hz5).trans p0
    have q1 := (hb6.cell (p := ⟨w2.heap.size, 1, none⟩) hz5).trans p1
    have HIF6 := hide (HIF.out.below hb6)
    clear l0 l1 p0 p1 hb6 hB5 HIF
    go_wp2_with fail
    refine (cost_any sa2 aa2 xa sn sc2 an ac2 xn xc xs es x _ hI hA (HXX.out.below hB6)).mono ?_
    rintro e w7 ⟨rfl, hb7⟩
    have hB7 : Below w.heap.size w w7 := hB6.trans (hb7.mono hB6.size)
    have hz7 : w2.heap.size < w7.heap.size := Nat.lt_of_lt_of_le hz6 hb7.size
    have l0 := (hb7.cell (p := ⟨w.heap.size, 0, none⟩) (by show w.heap.size < w6.heap.size; omega)).trans m0
    have l1 := (hb7.cell (p := ⟨w.heap.size, 1, none⟩) (by show w.heap.size < w6.heap.size; omega)).trans m1
    have p0 := (hb7.cell (p := ⟨w2.heap.size, 0, none⟩) hz6).trans q0
    have p1 := (hb7.cell (p := ⟨w2.heap.size, 1, none⟩) hz6).trans q1
    have HIF7 := hide (HIF6.out.below hb7)
    clear m0 m1 q0 q1 hb7 hB6 HIF6 hI hA
    go_wp2_with fail
    refine (refCopy_any sa aa sn sc an ac xs es _ (HX.out.below hB7) (HE.out.below hB7)).mono ?_
    rintro e w8 ⟨sa3, sc3, aa3, ac3, rfl, hI, hA, -, -, hb8⟩
    have hB8 : Below w.heap.size w w8 := hB7.trans (hb8.mono hB7.size)
    have hz8 : w2.heap.size < w8.heap.size := Nat.lt_of_lt_of_le hz7 hb8.size
    have q0 := (hb8.cell (p := ⟨w2.heap.size, 0, none⟩) hz7).trans p0
    have q1 := (hb8.cell (p := ⟨w2.heap.size, 1, none⟩) hz7).trans p1
    have HIF8 := hide (HIF7.out.below hb8)
    clear l0 l1 p0 p1 hb8 hB7 HIF7
    go_wp2_with fail
    refine (cost_any sa3 aa3 oa sn sc3 an ac3 fl.length oc xs es fl _ hI hA HIF8.out).mono ?_
    rintro e w9 ⟨rfl, hb9⟩
    have hB9 : Below w.heap.size w w9 := hB8.trans (hb9.mono hB8.size)
    have p0 := (hb9.cell (p := ⟨w2.heap.size, 0, none⟩) hz8).trans q0
    have p1 := (hb9.cell (p := ⟨w2.heap.size, 1, none⟩) hz8).trans q1
    clear q0 q1 hb9 hB8 HIF8 hI hA
    rcases costS_cases x hn with ⟨g1, g2⟩ | ⟨g1, g2⟩
    · rw [g2]
      generalize flowErr xs es x = fx at *
      have hfb : (fx == 0) = false := by simpa using g1
      have hfc : (fx != 0) = true := by simpa using g1
      clear g1 g2
      generalize (costS xs es fl).1 = c3
      generalize (costS xs es fl).2 = c4
      go_wp2
      go_ret
      exact ⟨ret_b (by simp), hB9⟩
    · rw [g2, costS_ok hn (least_some hn HANS.out g1)]
      have hk2 := least_none hn HOK.out g1
      have hkb : (a.kind == 2) = false := by simpa using hk2
      have hle := fun h => least_best hn HOK.out h g1
      generalize a.kind = ak at *
      generalize a.cost = ac0 at *
      generalize costTo es x es.length = cx at *
      generalize costTo es fl es.length = cf at *
      have HLE := hide hle
      clear g1 g2 hk2 hle
      by_cases hk1 : ak = 1
      · subst hk1
        have hle := HLE.out rfl
        go_wp2
        go_ret
        exact ⟨ret_b (by simp), hB9⟩
      · have hkc : (ak != 1) = true := by simpa using hk1
        clear hk1
        go_wp2
        go_ret
        exact ⟨ret_b (by simp), hB9⟩
end Go.Proofs.Ytnbccoflcoaoaaa
