import Derived.Test.YtnbccoflcoaoaaaGreatGSol
import Derived.Test.YtnbccoflcoaoaaaGreatGAca
import Derived.Test.YtnbccoflcoaoaaaGreatGFlo
import Derived.Test.YtnbccoflcoaoaaaGreatGBas
namespace Go.Proofs.YtnbccoflcoaoaaaGreat
open Go.RowKit Go.Deep
set_option linter.unusedSimpArgs false
set_option linter.unusedVariables false

set_option maxHeartbeats 2000000 in
theorem refSomeFits_any (sa aa fa ca : Option Addr) (sn sc an ac fc cc : Nat) (xs : List Int) (es : List A5) (fl cu : List Int) (err : Int) (w : World) (hx : Ints w sa sn xs) (he : Arcs w aa an es) (hf : Ints w fa fl.length fl) (hc : Ints w ca cu.length cu) (hA : SomeAns xs es fl cu err) :
    Calls Tryz.prog 35 #[.agg #[.slice sa sn sc, .slice aa an ac], .slice fa fl.length fc, .slice ca cu.length cc, .int .i64 err] w fun e w' => e = .returned (.bool true) ∧ Below w.heap.size w w' := by
  have HX := hide hx
  have HE := hide he
  have HF := hide hf
  have HC := hide hc
  have HA := hide hA
  have hxl : Hid (xs.length = sn) := hx.len
  have hb0 : Below w.heap.size w (w.alloc (.cells #[.slice sa sn sc, .slice aa an ac] 48)) := (Below.refl _ _).alloc (Nat.le_refl _) _
  clear hx he hf hc hA
  go_enter Tryz.func35, Tryz.ntmps35
  go_wp2_with fail
  refine (refCheck_any sa aa sn sc an ac xs es _ (HX.out.below hb0) (HE.out.below hb0)).mono ?_
  rintro e w1 ⟨rfl, hb1⟩
  have k0 : w1.cell? ⟨w.heap.size, 0, none⟩ = some (.slice sa sn sc) := (hb1.cell (by simp)).trans (by go_simp)
  have k1 : w1.cell? ⟨w.heap.size, 1, none⟩ = some (.slice aa an ac) := (hb1.cell (by simp)).trans (by go_simp)
  have hz1 : w.heap.size < w1.heap.size := by have := hb1.size; simp at this; omega
  have hB1 : Below w.heap.size w w1 := hb0.trans (hb1.mono (by simp))
  clear hb0 hb1
  obtain ⟨wn, hwn⟩ : ∃ wn, (checkS xs es).1 = wn := ⟨_, rfl⟩
  have HWN := hide hwn
  rw [hwn]
  generalize (checkS xs es).2 = pl
  clear hwn
  rcases HA.out with ⟨h1, h2, rfl, rfl⟩ | ⟨h1, rfl, h2⟩
  · rw [HWN.out] at h1 h2
    subst h2
    have hwb : (err != 0) = true := by simpa using h1
    clear h1 HA
    go_wp2
    go_ret
    exact ⟨ret_b (by simp), hB1⟩
  · have hn := netOK_of h1
    rw [HWN.out] at h1
    subst h1
    rcases h2 with ⟨rfl, hfe, hfl, _⟩ | ⟨rfl, hc0, hc1, hr, hv⟩
    · have HFE := hide hfe
      have cF := refFlowError_any sa aa fa sn sc an ac fl.length fc xs es fl w1 (HX.out.below hB1) (HE.out.below hB1) (HF.out.below hB1) hn
      rw [HFE.out] at cF
      have CF : n0 (Calls Tryz.prog 49 #[.agg #[.slice sa sn sc, .slice aa an ac], .slice fa fl.length fc] w1 fun e w' => e = .returned (.int .i64 0) ∧ Below w1.heap.size w1 w') := cF
      clear hfe cF
      go_wp2_with fail
      refine Calls.mono CF.out ?_
      rintro e w2 ⟨rfl, hb2⟩
      have hB2 : Below w.heap.size w w2 := hB1.trans (hb2.mono hB1.size)
      clear CF hb2
      go_wp2
      go_ret
      exact ⟨ret_b (by simp), hB2⟩
    · have cR := refRising_any ca cu.length cc (sn : Int) cu w1 (HC.out.below hB1)
      rw [show risB cu (sn : Int) = true from by rw [← hxl.out]; exact hr] at cR
      have CR : n0 (Calls Tryz.prog 43 #[.slice ca cu.length cc, .int .i64 sn] w1 fun e w' => e = .returned (.bool true) ∧ Below w1.heap.size w1 w') := cR
      have CV : n0 (∀ w2, Below w.heap.size w w2 → Calls Tryz.prog 53 #[.agg #[.slice sa sn sc, .slice aa an ac], .slice ca cu.length cc] w2 fun e w' => e = .returned (.bool true) ∧ Below w2.heap.size w2 w') := fun w2 h => by
        rw [← hv]; exact refViolated_any sa aa ca sn sc an ac cu.length cc xs es cu w2 (HX.out.below h) (HE.out.below h) (HC.out.below h) hn hr
      have hcb : ((cu.length : Int) == 0) = false := by simp only [beq_eq_false_iff_ne, ne_eq]; omega
      clear cR hr hv
      generalize hcl : cu.length = cl at *
      clear hcl
      go_wp2_with fail
      refine Calls.mono CR.out ?_
      rintro e w2 ⟨rfl, hb2⟩
      have hB2 : Below w.heap.size w w2 := hB1.trans (hb2.mono hB1.size)
      have l0 := (hb2.cell (p := ⟨w.heap.size, 0, none⟩) hz1).trans k0
      have l1 := (hb2.cell (p := ⟨w.heap.size, 1, none⟩) hz1).trans k1
      clear CR hb2 k0 k1
      go_wp2_with fail
      refine Calls.mono (CV.out _ hB2) ?_
      rintro e w3 ⟨rfl, hb3⟩
      have hB3 : Below w.heap.size w w3 := hB2.trans (hb3.mono hB2.size)
      clear CV hb3
      go_wp2
      go_ret
      exact ⟨ret_b (by simp), hB3⟩

end Go.Proofs.YtnbccoflcoaoaaaGreat
