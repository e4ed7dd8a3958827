import Derived.Test.YtampcheafdlomaaSolC
import Derived.Test.YtampcheafdlomaaLChk
namespace Go.Proofs.Ytampcheafdlomaa
open Go.RowKit Go.Deep
set_option linter.unusedSimpArgs false
set_option linter.unusedVariables false

theorem own_cap {w : World} {base : Nat} {e : TypeId} {size : Nat} {oa : Option Addr} {n oc : Nat} {xs : List Value} (h : w.ownsRow base e size (.slice oa n oc) n xs) : n ≤ oc := by
  rcases h.2 with ⟨e, h0⟩ | ⟨g, cap, cur, e, _, _, hn, _⟩
  · omega
  · cases e; exact hn

set_option maxHeartbeats 2000000 in
theorem refSolveFits_any (sa aa fa pa ca ra : Option Addr) (sn sc an ac fc pc cc rc : Nat) (xs : List Int) (es : List A5) (kd cs : Int) (fl po cu ci : List Int) (err : Int) (w : World) (hx : Ints w sa sn xs) (he : Arcs w aa an es)
    (ha : Ans w fa pa ca ra fl.length po.length cu.length ci.length fl po cu ci) (hle : ci.length ≤ rc) (hA : SolveAns xs es ⟨kd, cs, fl, po, cu, ci⟩ err) :
    Calls Try.prog 24 #[.agg #[.slice sa sn sc, .slice aa an ac], .agg #[.int .i64 kd, .int .i64 cs, .slice fa fl.length fc, .slice pa po.length pc, .slice ca cu.length cc, .slice ra ci.length rc], .int .i64 err] w fun e w' => e = .returned (.bool true) ∧ Below w.heap.size w w' := by
  have HX := hide hx
  have HE := hide he
  have HN := hide ha
  have HA := hide hA
  have hbx := boxed_new w (.slice sa sn sc) (.slice aa an ac) (.int .i64 kd) (.int .i64 cs) (.slice fa fl.length fc) (.slice pa po.length pc) (.slice ca cu.length cc) (.slice ra ci.length rc) 25 36
  have hb0 := Joins.below_alloc2 w (.cells #[.slice sa sn sc, .slice aa an ac] 25) (.cells #[.int .i64 kd, .int .i64 cs, .slice fa fl.length fc, .slice pa po.length pc, .slice ca cu.length cc, .slice ra ci.length rc] 36)
  have HBX := hide hbx
  clear hx he ha hA hbx
  go_enter Try.func24, Try.ntmps24
  go_wp2_with fail
  refine (refCheck_any sa aa sn sc an ac xs es _ (HX.out.below hb0) (HE.out.below hb0)).mono ?_
  rintro e w1 ⟨rfl, hb1⟩
  have hB1 : Below w.heap.size w w1 := hb0.trans (hb1.mono (by simp; omega))
  obtain ⟨k0, k1, k2, k3, k4, k5, k6, k7, hz1⟩ := HBX.out.below hb1
  clear hb0 hb1
  obtain ⟨wn, hwn⟩ : ∃ wn, (checkS xs es).1 = wn := ⟨_, rfl⟩
  have HWN := hide hwn
  rw [hwn]
  generalize (checkS xs es).2 = pl
  clear hwn
  rcases HA.out with ⟨h1, h2, h3⟩ | ⟨h1, rfl, h2⟩
  · rw [HWN.out] at h1 h2
    subst h2
    cases h3
    have hwb : (err != 0) = true := by simpa using h1
    clear h1 HA
    go_wp2
    go_ret
    exact ⟨ret_b (by simp), hB1⟩
  · have hn := netOK_of h1
    rw [HWN.out] at h1
    subst h1
    have CA : n0 (Calls Try.prog 35 #[.agg #[.slice sa sn sc, .slice aa an ac], .agg #[.int .i64 kd, .int .i64 cs, .slice fa fl.length fc, .slice pa po.length pc, .slice ca cu.length cc, .slice ra ci.length rc]] w1 fun e w' => e = .returned (.bool true) ∧ Below w1.heap.size w1 w') := by
      rw [← h2]; exact refAccepted_any sa aa fa pa ca ra sn sc an ac _ fc _ pc _ cc _ rc kd cs xs es fl po cu ci w1 (HX.out.below hB1) (HE.out.below hB1) hn (HN.out.below hB1) hle
    clear h2 HA
    go_wp2_with fail
    refine Calls.mono CA.out ?_
    rintro e w2 ⟨rfl, hb2⟩
    have hB2 : Below w.heap.size w w2 := hB1.trans (hb2.mono hB1.size)
    clear CA hb2
    go_wp2
    go_ret
    exact ⟨ret_b (by simp), hB2⟩

theorem OwnA.open_ {w : World} {base : Nat} {v : Value} {a : A6} {xs : List Int} {es : List A5} {err : Int} (h : OwnA w base v a) (hs : SolveAns xs es a err) :
    ∃ fa fc pa pc ca cc ra rc, v = .agg #[.int .i64 a.kind, .int .i64 a.cost, .slice fa a.flow.length fc, .slice pa a.pots.length pc, .slice ca a.cut.length cc, .slice ra a.circ.length rc] ∧ Ans w fa pa ca ra a.flow.length a.pots.length a.cut.length a.circ.length a.flow a.pots a.cut a.circ ∧ a.circ.length ≤ rc := by
  obtain ⟨fa, fc, pa, pc, ca, cc, ra, rc, rfl, h1, h2, h3, h4⟩ := h
  obtain ⟨s1, s2, s3, s4⟩ := hs.small
  exact ⟨fa, fc, pa, pc, ca, cc, ra, rc, rfl, ⟨s1.ints h1, s2.ints h2, s3.ints h3, s4.ints h4⟩, own_cap h4⟩

/-- The box of an answer. -/
def ansAt (w : World) (g : Nat) (kd cs : Int) (v2 v3 v4 v5 : Value) : Prop := w.cell? ⟨g, 0, none⟩ = some (.int .i64 kd) ∧ w.cell? ⟨g, 1, none⟩ = some (.int .i64 cs) ∧ w.cell? ⟨g, 2, none⟩ = some v2 ∧ w.cell? ⟨g, 3, none⟩ = some v3 ∧ w.cell? ⟨g, 4, none⟩ = some v4 ∧ w.cell? ⟨g, 5, none⟩ = some v5

set_option maxHeartbeats 1000000 in
theorem lawSolves_any (hS : SolveC) (sa aa : Option Addr) (sn sc an ac : Nat) (xs : List Int) (es : List A5) (w : World) (hx : Ints w sa sn xs) (he : Arcs w aa an es) :
    Calls Try.prog 7 #[.agg #[.slice sa sn sc, .slice aa an ac]] w fun e w' => e = .returned (.bool true) ∧ Below w.heap.size w w' := by
  have HX := hide hx
  have HE := hide he
  have hb0 : Below w.heap.size w (w.alloc (.cells #[.slice sa sn sc, .slice aa an ac] 25)) := (Below.refl _ _).alloc (Nat.le_refl _) _
  clear hx he
  go_enter Try.func7, Try.ntmps7
  go_wp2_with fail
  refine (refCopy_any sa aa sn sc an ac xs es _ (HX.out.below hb0) (HE.out.below hb0)).mono ?_
  rintro e w1 ⟨sa', sc', aa', ac', rfl, hI, hA, -, -, hb1⟩
  have k0 : w1.cell? ⟨w.heap.size, 0, none⟩ = some (.slice sa sn sc) := (hb1.cell (by simp)).trans (by go_simp)
  have k1 : w1.cell? ⟨w.heap.size, 1, none⟩ = some (.slice aa an ac) := (hb1.cell (by simp)).trans (by go_simp)
  have hz1 : w.heap.size < w1.heap.size := by have := hb1.size; simp at this; omega
  have hB1 : Below w.heap.size w w1 := hb0.trans (hb1.mono (by simp))
  clear hb0 hb1
  go_wp2_with fail
  refine (hS sa' aa' sn sc' an ac' xs es _ hI hA).mono ?_
  rintro e w2 ⟨a, err, v, rfl, hO, hans, hb2⟩
  have l0 := (hb2.cell (p := ⟨w.heap.size, 0, none⟩) hz1).trans k0
  have l1 := (hb2.cell (p := ⟨w.heap.size, 1, none⟩) hz1).trans k1
  have hB2 : Below w.heap.size w w2 := hB1.trans (hb2.mono hB1.size)
  have hz2 : w.heap.size < w2.heap.size := Nat.lt_of_lt_of_le hz1 hb2.size
  obtain ⟨fa, fc, pa, pc, ca, cc, ra, rc, rfl, hN, hle⟩ := hO.open_ hans
  obtain ⟨kd, cs, fl, po, cu, ci⟩ := a
  simp only [] at hN hle
  have HN := hide hN
  have HA := hide hans
  clear k0 k1 hb2 hI hA hN hans hO
  go_wp2_with fail
  have hb3 := Joins.below_alloc1 w2 (.cells #[.int .i64 kd, .int .i64 cs, .slice fa fl.length fc, .slice pa po.length pc, .slice ca cu.length cc, .slice ra ci.length rc] 36)
  have hB3 := hB2.trans (hb3.mono hB2.size)
  refine (refSolveFits_any sa aa fa pa ca ra sn sc an ac fc pc cc rc xs es kd cs fl po cu ci err _ (HX.out.below hB3) (HE.out.below hB3) (HN.out.below hb3) hle HA.out).mono ?_
  rintro e w3 ⟨rfl, hb4⟩
  have hB4 : Below w.heap.size w w3 := hB3.trans (hb4.mono hB3.size)
  clear l0 l1
  go_wp2
  go_ret
  exact ⟨rfl, hB4⟩
end Go.Proofs.Ytampcheafdlomaa
