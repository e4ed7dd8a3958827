import Derived.Test.YtnbccoflcoaoaaaGAcc
import Derived.Deep.RegionWith
namespace Go.Proofs.Ytnbccoflcoaoaaa
open Go.RowKit Go.Deep
set_option linter.unusedSimpArgs false
set_option linter.unusedVariables false

set_option maxHeartbeats 4000000 in
theorem lawAccepts_any (sa aa fa pa ca ra : Option Addr) (sn sc an ac fn fc pn pc cn cc rn rc : Nat) (kd cs : Int) (xs : List Int) (es : List A5) (fl po cu ci : List Int) (w : World) (hx : Ints w sa sn xs) (he : Arcs w aa an es)
    (ha : Ans w fa pa ca ra fn pn cn rn fl po cu ci) (hle : rn ≤ rc) :
    Calls Try.prog 5 #[.agg #[.slice sa sn sc, .slice aa an ac], .agg #[.int .i64 kd, .int .i64 cs, .slice fa fn fc, .slice pa pn pc, .slice ca cn cc, .slice ra rn rc]] w fun e w' => e = .returned (.bool true) ∧ Below w.heap.size w w' := by
  have hbx := boxed_new w (.slice sa sn sc) (.slice aa an ac) (.int .i64 kd) (.int .i64 cs) (.slice fa fn fc) (.slice pa pn pc) (.slice ca cn cc) (.slice ra rn rc) 25 36
  have hb0 := Joins.below_alloc2 w (.cells #[.slice sa sn sc, .slice aa an ac] 25) (.cells #[.int .i64 kd, .int .i64 cs, .slice fa fn fc, .slice pa pn pc, .slice ca cn cc, .slice ra rn rc] 36)
  have HX := hide hx
  have HE := hide he
  have HA := hide ha
  clear hx he ha
  go_enter Try.func5, Try.ntmps5
  go_wp2
  obtain ⟨wa, hwa⟩ : ∃ wa, (w.alloc (.cells #[.slice sa sn sc, .slice aa an ac] 25)).alloc (.cells #[.int .i64 kd, .int .i64 cs, .slice fa fn fc, .slice pa pn pc, .slice ca cn cc, .slice ra rn rc] 36) = wa := ⟨_, rfl⟩
  rw [hwa] at hbx hb0 ⊢
  clear hwa
  have hBX := hide hbx
  have hb0d : Below w.heap.size w wa.drew := hb0.drew
  obtain ⟨m0, m1, m2, m3, m4, m5, m6, m7, m8⟩ := hbx
  go_region_with (first
    | (go_at_call 15; refine (refCopy_any sa aa sn sc an ac xs es _ ?_ ?_).mono ?_; exact HX.out.below hb0d; exact HE.out.below hb0d; rintro e w1 ⟨sa', sc', aa', ac', rfl, hI, hA, -, -, hb1⟩; have hB1 : Below w.heap.size w w1 := hb0d.trans (hb1.mono hb0d.size); have hx1 := hBX.out.below (((Below.refl _ _).drew).trans hb1); obtain ⟨p0, p1, p2, p3, p4, p5, p6, p7, p8⟩ := hx1)
    | (go_at_call 21; refine (ownAnswer_any fa pa ca ra fn fc pn pc cn cc rn rc kd cs fl po cu ci _ ?_).mono ?_; exact HA.out.below hB1; rintro e w2 ⟨fa', fc', pa', pc', ca', cc', ra', rc', rfl, hAn, hb2⟩; have hB2 : Below w.heap.size w w2 := hB1.trans (hb2.mono hB1.size); have hx2 := (Boxed.mk p0 p1 p2 p3 p4 p5 p6 p7 p8).below hb2; obtain ⟨q0, q1, q2, q3, q4, q5, q6, q7, q8⟩ := hx2)
    | (go_at_call 20; refine (accept_any sa' aa' fa' pa' ca' ra' sn sc' an ac' fn fc' pn pc' cn cc' rn rc' kd cs xs es fl po cu ci _ ?_ ?_ ?_).mono ?_; exact hI.below hb2; exact hA.below hb2; exact hAn; rintro e w3 ⟨rfl, hb3⟩; have hB3 : Below w.heap.size w w3 := hB2.trans (hb3.mono hB2.size); have hx3 := (Boxed.mk q0 q1 q2 q3 q4 q5 q6 q7 q8).below hb3; obtain ⟨s0, s1, s2, s3, s4, s5, s6, s7, s8⟩ := hx3))
  all_goals
    clear m0 m1 m2 m3 m4 m5 m6 m7 m8 p0 p1 p2 p3 p4 p5 p6 p7 p8 q0 q1 q2 q3 q4 q5 q6 q7 q8 hb1 hb2 hb3 hI hA hAn hb0d hb0
    go_wp2_with fail
    refine (refAccept_any sa aa fa pa ca ra sn sc an ac fn fc pn pc cn cc rn rc kd cs xs es fl po cu ci _ (HX.out.below hB3) (HE.out.below hB3) (HA.out.below hB3) hle).mono ?_
    rintro e w4 ⟨rfl, hb4⟩
    have hB4 : Below w.heap.size w w4 := hB3.trans (hb4.mono hB3.size)
    clear s0 s1 s2 s3 s4 s5 s6 s7 s8 hb4
    generalize accS xs es ⟨kd, cs, fl, po, cu, ci⟩ = r
    obtain ⟨p, q⟩ := r
    go_wp2
    go_ret
    exact ⟨rfl, hB4⟩
end Go.Proofs.Ytnbccoflcoaoaaa
