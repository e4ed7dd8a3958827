import Derived.Test.YtampcheafdlomaaRtI
import Derived.Test.YtampcheafdlomaaRtJ
import Derived.Test.YtampcheafdlomaaRtK
namespace Go.Proofs.Ytampcheafdlomaa
open Go.RowKit Go.Deep
set_option linter.unusedSimpArgs false
set_option linter.unusedVariables false

/-- Potentials that the stiff net's cheapest ways cost: no unlimited arc has a drift below 0. -/
theorem stiff_drift {xs : List Int} {es : List A5} (hn : NetOK xs es) {n : Nat} (hxn : xs.length = n) {seen : Nat → Bool} {cost : Nat → Int} {last : Nat → St} {T R : Nat → Nat} {c : Nat} {done : St → Prop} (h : WInv (stiffL es) (lowsL (stiffL es)) n (fun _ => true) seen cost last T R c (n + 1) done) (hN : New n R n (-1)) :
    ∀ i, i < es.length → (es.getD i zA).cap = -1 → 0 ≤ driftAt es (costL cost n) i := by
  intro i hi hc
  have hi2 : i < (stiffL es).length := by rw [stiffL_len]; exact hi
  have e := hn.ends i hi
  have ha := arcB_out (hn.arc i hi)
  have hroom : 0 < roomOf (stiffL es) (lowsL (stiffL es)) ⟨i, false⟩ := by
    unfold roomOf
    simp only [Bool.false_eq_true, if_false]
    rw [lowsL_at _ hi2, stiffL_at, if_pos hc, if_pos hc]
    omega
  have hs := st_ends (stiff_ok hn) (s := ⟨i, false⟩) hi2
  rw [hxn] at hs
  have hcl := (h.closed hN rfl ⟨i, false⟩ hi2 hroom (h.start _ hs.2.2.1 rfl) hs.2.2.1).2
  simp only [St.srcN, St.dstN, St.src, St.dst, priceOf, stiffL_at, hc, if_true, Bool.false_eq_true, if_false] at hcl
  unfold driftAt
  rw [costL_at _ _ (by omega), costL_at _ _ (by omega)]
  omega
theorem none_ok {xs : List Int} {es : List A5} {cut : List Int} (h1 : risB cut xs.length = true) (h2 : violB xs es cut = true) : okB xs es ⟨2, 0, [], [], cut, []⟩ = true := by
  unfold okB
  rw [if_neg (show ¬ ((2 : Int) = 1) by decide), if_pos rfl]
  unfold noneB
  rw [h1, h2]
  rfl
theorem end_ok {xs : List Int} {es : List A5} {fl ci : List Int} (h1 : flowErr xs es fl = 0) (h2 : goodB es ci = true) : okB xs es ⟨3, 0, fl, [], [], ci⟩ = true := by
  unfold okB
  rw [if_neg (show ¬ ((3 : Int) = 1) by decide), if_neg (show ¬ ((3 : Int) = 2) by decide), if_pos rfl]
  unfold endB
  rw [h2, h1]
  rfl
theorem OwnL.own {w : World} {base : Nat} {a : Option Addr} {n c : Nat} {l : List Int} (h : OwnL w base (.slice a n c) l) : n = l.length ∧ w.ownsRow base 3 1 (.slice a l.length c) l.length (intCells l) := by
  obtain ⟨oa, oc, e, ho⟩ := h
  cases e
  exact ⟨rfl, ho⟩

set_option maxRecDepth 100000 in
set_option maxHeartbeats 4000000 in
theorem rSolve_any (sa aa : Option Addr) (sn sc an ac : Nat) (xs : List Int) (es : List A5) (w : World) (hx : Ints w sa sn xs) (he : Arcs w aa an es) :
    Calls Try.prog 39 #[.agg #[.slice sa sn sc, .slice aa an ac]] w fun e w' => ∃ (a : A6) (err : Int) (v : Value), e = .returned (.tuple #[v, .int .i64 err]) ∧ OwnA w' w.heap.size v a ∧ SolveAns xs es a err ∧ Below w.heap.size w w' := by
  have hxn := hx.len
  have hen := he.len
  obtain ⟨W0, hW0⟩ : ∃ W0, (w.alloc (.cells #[.slice sa sn sc, .slice aa an ac] 25)).alloc (.cells #[.int .i64 0, .int .i64 0, .slice none 0 0, .slice none 0 0, .slice none 0 0, .slice none 0 0] 36) = W0 := ⟨_, rfl⟩
  have hF0 := Fr.start w sa aa sn sc an ac
  rw [hW0] at hF0
  have hz0 : W0.heap.size = w.heap.size + 2 := by rw [← hW0]; simp
  have HX0 := hide (hx.below hF0.be)
  have HE0 := hide (he.below hF0.be)
  have HW0 := hide hW0
  have cS : n0 (Calls Try.prog 36 #[.agg #[.slice sa sn sc, .slice aa an ac]] W0 fun e w' => ∃ fv cv fl cu err, e = .returned (.tuple #[fv, cv, .int .i64 err]) ∧ OwnL w' W0.heap.size fv fl ∧ OwnL w' W0.heap.size cv cu ∧ (fv = .slice none 0 0 ∨ cv = .slice none 0 0) ∧ SomeAns xs es fl cu err ∧ Below W0.heap.size W0 w') :=
    rSome_any sa aa sn sc an ac xs es W0 HX0.out HE0.out
  have HXN := hide hxn
  have HEN := hide hen
  have HF0 := hide hF0
  have HZ0 := hide hz0
  clear hx he hW0 hxn hen hF0 hz0
  go_enter Try.func39, Try.ntmps39
  go_wp2_with fail
  rw [HW0.out]
  refine Calls.mono cS.out ?_
  rintro e w1 ⟨fv, cv, fl, cu, err, rfl, hO1, hO2, hO3, hans, hb1⟩
  clear cS HW0
  have hF1 := HF0.out.grow (by rw [HZ0.out]; exact Nat.le_refl _) hb1
  have HF1 := hide hF1
  obtain ⟨⟨s0, s1, s2, s3, s4, s5⟩, sf⟩ := hF1.cells
  have sf0 := sf 0
  have sf1 := sf 1
  have sf2 := sf 2
  have sf3 := sf 3
  have sf4 := sf 4
  have sf5 := sf 5
  have HSF := hide sf
  have HANS := hide hans
  rw [HZ0.out] at hO1 hO2
  obtain ⟨fa, fc, rfl, o1⟩ := hO1
  obtain ⟨ca, cc, rfl, o2⟩ := hO2
  have HO1 := hide o1
  have HO2 := hide o2
  clear sf o1 o2 hO3
  rcases hans with ⟨h1, h2, rfl, rfl⟩ | ⟨h1, rfl, h2⟩
  · have heb : (err != 0) = true := by rw [h2]; simpa using h1
    have HPU := hide (hF1.put6 (.int .i64 0) (.int .i64 0) (.slice none 0 0) (.slice none 0 0) (.slice none 0 0) (.slice none 0 0))
    have HOA : Hid (OwnA (put6 w1 (w.heap.size + 1) (.int .i64 0) (.int .i64 0) (.slice none 0 0) (.slice none 0 0) (.slice none 0 0) (.slice none 0 0)) w.heap.size (.agg #[.int .i64 0, .int .i64 0, .slice none 0 0, .slice none 0 0, .slice none 0 0, .slice none 0 0]) ⟨0, 0, [], [], [], []⟩) :=
      ⟨none, 0, none, 0, none, 0, none, 0, rfl, World.ownsRow_nil _ _ _ _, World.ownsRow_nil _ _ _ _, World.ownsRow_nil _ _ _ _, World.ownsRow_nil _ _ _ _⟩
    have HA : Hid (SolveAns xs es ⟨0, 0, [], [], [], []⟩ err) := .inl ⟨h1, h2, rfl⟩
    clear h1 h2 hF1 HF1 HF0 HO1 HO2 HANS
    go_wp2
    obtain ⟨hbz, z0, z1, z2, z3, z4, z5⟩ := HPU.out
    unfold put6 at z0 z1 z2 z3 z4 z5 hbz
    refine bodyPost_ret (v := .tuple #[.agg #[.int .i64 0, .int .i64 0, .slice none 0 0, .slice none 0 0, .slice none 0 0, .slice none 0 0], .int .i64 err]) (by simp [results, Try.results39, go_sem, z0, z1, z2, z3, z4, z5]) rfl ⟨_, _, _, rfl, HOA.out, HA.out, hbz⟩
  · have hn := netOK_of h1
    have h10 : sn ≤ 10 := by rw [← HXN.out]; exact hn.ten
    have h24 : an ≤ 24 := by rw [← HEN.out]; exact hn.arcs
    rcases h2 with ⟨rfl, hfe, hfl, hfb⟩ | ⟨rfl, hc0, hc1, hr, hv⟩
    · have hz1 := HF1.out.sz
      have m0 := HF1.out.n0
      have m1 := HF1.out.n1
      have HFE := hide hfe
      have cL : n0 (Calls Try.prog 56 #[.agg #[.slice sa sn sc, .slice aa an ac]] w1 fun e w' => ∃ ca cc, e = .returned (.agg #[.slice sa sn sc, .slice ca an cc]) ∧ Arcs w' ca an (stiffL es) ∧ Below w1.heap.size w1 w') :=
        rStiff_any sa aa sn sc an ac xs es w1 hn (HE0.out.below hb1)
      have hn' := stiff_ok hn
      clear hF1 s0 s1 s2 s3 s4 s5 sf0 sf1 sf2 sf3 sf4 sf5 HSF hfe
      go_wp2_with fail
      refine Calls.mono cL.out ?_
      rintro e w2 ⟨ga, gc, rfl, hA2, hb2⟩
      clear cL m0 m1
      have hB2 : Below W0.heap.size W0 w2 := hb1.trans (hb2.mono hb1.size)
      have HA2 := hide hA2
      have cA : n0 (Calls Try.prog 52 #[.agg #[.slice sa sn sc, .slice ga an gc]] w2 fun e w' => ∃ lb fb vb, e = .returned (.pointer (some ⟨lb, 0, none⟩)) ∧ Load w' lb fb vb sa sn sc ga an gc (lowsL (stiffL es)) (leftOf xs (stiffL es) (lowsL (stiffL es))) ∧ (w2.heap.size ≤ lb ∧ w2.heap.size ≤ fb ∧ w2.heap.size ≤ vb) ∧ Below w2.heap.size w2 w') :=
        rAtLows_any sa ga sn sc an gc xs (stiffL es) w2 hn' (HX0.out.below hB2) hA2
      clear hA2
      go_wp2_with fail
      refine Calls.mono cA.out ?_
      rintro e w3 ⟨lb, fb, vb, rfl, hL3, hge, hb3⟩
      clear cA
      have HL3 := hide hL3
      have hB3 : Below W0.heap.size W0 w3 := hB2.trans (hb3.mono hB2.size)
      have hF3 := HF0.out.grow (by rw [HZ0.out]; exact Nat.le_refl _) hB3
      have m0 := hF3.n0
      have m1 := hF3.n1
      have cE : n0 (Calls Try.prog 58 #[.agg #[.slice sa sn sc, .slice aa an ac]] w3 fun e w' => ∃ tb, e = .returned (.slice (some ⟨tb, 0, none⟩) sn sn) ∧ w'.rowIs tb 4 sn (fun _ => .bool true) ∧ w3.heap.size ≤ tb ∧ Below w3.heap.size w3 w') :=
        rEverywhere_any sa aa sn sc an ac w3 h10
      clear hL3 hF3
      go_wp2_with fail
      refine Calls.mono cE.out ?_
      rintro e w4 ⟨tb, rfl, hT, -, hb4⟩
      clear cE m0 m1
      have hB4 : Below W0.heap.size W0 w4 := hB3.trans (hb4.mono hB3.size)
      have hB24 : Below w2.heap.size w2 w4 := hb3.trans (hb4.mono hb3.size)
      have hLI := lows_inv hn'
      have cC : n0 (Calls Try.prog 57 #[.pointer (some ⟨lb, 0, none⟩), .slice (some ⟨tb, 0, none⟩) sn sn] w4 fun e w' => ∃ rb, e = .returned (.pointer (some ⟨rb, 0, none⟩)) ∧ Below w4.heap.size w4 w' ∧ Cheap (stiffL es) (lowsL (stiffL es)) sn (fun _ => true) w4.heap.size rb w') :=
        rCheapest_any lb fb vb sa ga sn sc an gc xs (lowsL (stiffL es)) (leftOf xs (stiffL es) (lowsL (stiffL es))) (stiffL es) (fun _ => true) tb w2 w4 hn' HXN.out (HL3.out.grow hb4) HA2.out hB24 (hLI.mild hn') (fun s hs => (hLI.room hn' s hs).1) hT
      clear hT hLI
      go_wp2_with fail
      refine Calls.mono cC.out ?_
      rintro e w5 ⟨rb, rfl, hb5, sb, cb, ab, seen, cost, last, T, R, c, nw, hW, hI, hN, hc⟩
      clear cC
      have hB5 : Below W0.heap.size W0 w5 := hB4.trans (hb5.mono hB4.size)
      have cC2 : n0 (Calls Try.prog 59 #[.pointer (some ⟨lb, 0, none⟩), .pointer (some ⟨rb, 0, none⟩)] w5 fun e w' => ∃ v, e = .returned v ∧ Circled (stiffL es) last sn T nw w5.heap.size v w' ∧ Below w5.heap.size w5 w') :=
        rCircle_any w4.heap.size rb sb cb ab (fun _ => true) seen cost last nw T R c (fun _ => False) lb fb vb sa ga sn sc an gc xs (lowsL (stiffL es)) (leftOf xs (stiffL es) (lowsL (stiffL es))) (stiffL es) w5 hn' HXN.out ((HL3.out.grow hb4).grow hb5) (HA2.out.below (hB24.trans (hb5.mono hB24.size))) hW hI hN
      have HW := hide hW
      have HI := hide hI
      have HN := hide hN
      clear hW hI hN HL3
      go_wp2_with fail
      refine Calls.mono cC2.out ?_
      rintro e w6 ⟨vc, rfl, hcir, hb6⟩
      clear cC2
      have hB6 : Below W0.heap.size W0 w6 := hB5.trans (hb6.mono hB5.size)
      have hF6 := HF0.out.grow (by rw [HZ0.out]; exact Nat.le_refl _) hB6
      have HF6 := hide hF6
      have hO6 : w6.ownsRow (w.heap.size + 2) 3 1 (.slice fa fl.length fc) fl.length (intCells fl) := HO1.out.kept (grown_of_below ((hb2.trans (hb3.mono hb2.size)).trans ((hb4.trans ((hb5.mono hb4.size).trans ((hb6.mono hb5.size).mono hb4.size))).mono (Nat.le_trans hb2.size hb3.size))) none) (by cases fa <;> simp [Value.ownBlock])
      have HO6 := hide hO6
      clear hO6
      rcases hcir with ⟨rfl, rfl⟩ | ⟨hnw, f, m, hC, hOc⟩
      · have hpoA : ∀ i, i < sn → -24000 ≤ cost i ∧ cost i ≤ 24000 := fun i hi => by have := HI.out.bd i hi; omega
        have hpo : ∀ w0, Below w6.heap.size w6 w0 → Ints w0 (some ⟨cb, 0, none⟩) sn (costL cost sn) := fun w0 h0 => (row_ints (l := costL cost sn) ((HW.out.grow hb6).rc.congr (fun i hi => by rw [costL_at _ _ hi])) (costL_len _ _) (by omega) (fun i hi => by rw [costL_at _ _ hi]; have := hpoA i hi; omega)).below h0
        have hdr := stiff_drift hn HXN.out HI.out HN.out
        have cB : n0 (∀ w0, Below w6.heap.size w6 w0 → Calls Try.prog 60 #[.agg #[.slice sa sn sc, .slice aa an ac], .slice (some ⟨cb, 0, none⟩) sn sn] w0 fun e w' => ∃ v a, e = .returned v ∧ OwnA w' w0.heap.size v a ∧ okB xs es a = true ∧ Below w0.heap.size w0 w') := fun w0 h0 =>
          rBest_any sa aa (some ⟨cb, 0, none⟩) sn sc an ac sn xs (costL cost sn) es w0 hn ((HX0.out.below hB6).below h0) ((HE0.out.below hB6).below h0) (hpo w0 h0) (fun i hi => by rw [costL_at _ _ hi]; have := hpoA i hi; omega) hdr ⟨fl, fits_of HFE.out⟩
        have m0 := hF6.n0
        have m1 := hF6.n1
        have q1 := (HW.out.grow hb6).c1
        clear hpo hpoA hdr HI HN HW HF0 hF6
        go_wp2_with fail
        go_region_with (first
          | (go_at_call 60; refine (cB.out _ ?_).mono ?_; exact (Below.refl _ _).drew; rintro e w7 ⟨v, a, rfl, hOA, hok, hb7⟩; have hF7 := HF6.out.grow (K := w6.heap.size) HF6.out.sz (((Below.refl w6.heap.size w6).drew).trans hb7); obtain ⟨fa', fc', pa', pc', ca', cc', ra', rc', rfl, a1, a2, a3, a4⟩ := hOA; obtain ⟨⟨s0, s1, s2, s3, s4, s5⟩, sf⟩ := hF7.cells; have sf0 := sf 0; have sf1 := sf 1; have sf2 := sf 2; have sf3 := sf 3; have sf4 := sf 4; have sf5 := sf 5; have HF7 := hide hF7; have HOK := hide hok; have HA1 := hide a1; have HA2 := hide a2; have HA3 := hide a3; have HA4 := hide a4; clear sf hF7 hok a1 a2 a3 a4))
        all_goals
          have HPU := hide (HF7.out.put6 (.int .i64 a.kind) (.int .i64 a.cost) (.slice fa' a.flow.length fc') (.slice pa' a.pots.length pc') (.slice ca' a.cut.length cc') (.slice ra' a.circ.length rc'))
          have hle : w.heap.size + 2 ≤ w6.drew.heap.size := HF6.out.sz
          have HOA := hide (((OwnA.mono ⟨fa', fc', pa', pc', ca', cc', ra', rc', rfl, HA1.out, HA2.out, HA3.out, HA4.out⟩ hle).put6 (b := w.heap.size + 1) (by omega) (.int .i64 a.kind) (.int .i64 a.cost) (.slice fa' a.flow.length fc') (.slice pa' a.pots.length pc') (.slice ca' a.cut.length cc') (.slice ra' a.circ.length rc')).mono (base' := w.heap.size) (by omega))
          clear HA1 HA2 HA3 HA4 HF7 HF6 HF1 HO1 HO2 HO6 cB
          go_wp2
          obtain ⟨hbz, z0, z1, z2, z3, z4, z5⟩ := HPU.out
          unfold put6 at z0 z1 z2 z3 z4 z5 hbz
          refine bodyPost_ret (v := .tuple #[.agg #[.int .i64 a.kind, .int .i64 a.cost, .slice fa' a.flow.length fc', .slice pa' a.pots.length pc', .slice ca' a.cut.length cc', .slice ra' a.circ.length rc'], .int .i64 0]) (by simp [results, Try.results39, go_sem, z0, z1, z2, z3, z4, z5]) rfl ⟨a, 0, _, rfl, HOA.out, .inr ⟨h1, rfl, HOK.out⟩, hbz⟩
      · have hgood := good_circle hn HXN.out HI.out hC
        have HOK := hide (end_ok HFE.out hgood)
        have hlen : (backL (stiffL es) last f m).reverse.length = m := by rw [List.length_reverse, backL_len]
        have hmp := hC.pos
        have hml := hC.le
        obtain ⟨ra, rc, rfl, hOr⟩ := hOc
        obtain ⟨ci, hci⟩ : ∃ ci, (backL (stiffL es) last f m).reverse = ci := ⟨_, rfl⟩
        rw [hci] at hOr hlen HOK
        rw [hci, hlen]
        rw [hlen] at hOr
        obtain ⟨⟨s0, s1, s2, s3, s4, s5⟩, sf⟩ := hF6.cells
        have sf0 := sf 0
        have sf1 := sf 1
        have sf2 := sf 2
        have sf3 := sf 3
        have sf4 := sf 4
        have sf5 := sf 5
        have HPU := hide (hF6.put6 (.int .i64 3) (.int .i64 0) (.slice fa fl.length fc) (.slice none 0 0) (.slice none 0 0) (.slice ra m rc))
        have hOA : OwnA w6 (w.heap.size + 2) (.agg #[.int .i64 3, .int .i64 0, .slice fa fl.length fc, .slice none 0 0, .slice none 0 0, .slice ra m rc]) ⟨3, 0, fl, [], [], ci⟩ :=
          ⟨fa, fc, none, 0, none, 0, ra, rc, by simp only [List.length_nil, hlen], HO6.out, World.ownsRow_nil _ _ _ _, World.ownsRow_nil _ _ _ _, by simp only [hlen]; exact ownsRow_mono hOr (by have := hB5.size; rw [HZ0.out] at this; exact this)⟩
        have HOA := hide ((hOA.put6 (b := w.heap.size + 1) (by omega) (.int .i64 3) (.int .i64 0) (.slice fa fl.length fc) (.slice none 0 0) (.slice none 0 0) (.slice ra m rc)).mono (base' := w.heap.size) (by omega))
        have hmb : ((m : Int) != 0) = true := by simp only [bne_iff_ne, ne_eq]; omega
        have hm10 : m ≤ 10 := by omega
        clear hgood hC hOr hOA sf hF6 HF6 HF1 HF0 HO1 HO2 HO6 HI HN HW hci
        go_wp2
        all_goals first
          | (obtain ⟨hbz, z0, z1, z2, z3, z4, z5⟩ := HPU.out
             unfold put6 at z0 z1 z2 z3 z4 z5 hbz
             refine bodyPost_ret (v := .tuple #[.agg #[.int .i64 3, .int .i64 0, .slice fa fl.length fc, .slice none 0 0, .slice none 0 0, .slice ra m rc], .int .i64 0]) (by simp [results, Try.results39, go_sem, z0, z1, z2, z3, z4, z5]) rfl ⟨_, 0, _, rfl, HOA.out, .inr ⟨h1, rfl, HOK.out⟩, hbz⟩)
          | (exfalso; omega)
    · have HOK := hide (none_ok hr hv)
      have HPU := hide (hF1.put6 (.int .i64 2) (.int .i64 0) (.slice none 0 0) (.slice none 0 0) (.slice ca cu.length cc) (.slice none 0 0))
      have hOA : OwnA w1 (w.heap.size + 2) (.agg #[.int .i64 2, .int .i64 0, .slice none 0 0, .slice none 0 0, .slice ca cu.length cc, .slice none 0 0]) ⟨2, 0, [], [], cu, []⟩ :=
        ⟨none, 0, none, 0, ca, cc, none, 0, rfl, World.ownsRow_nil _ _ _ _, World.ownsRow_nil _ _ _ _, HO2.out, World.ownsRow_nil _ _ _ _⟩
      have HOA := hide ((hOA.put6 (b := w.heap.size + 1) (by omega) (.int .i64 2) (.int .i64 0) (.slice none 0 0) (.slice none 0 0) (.slice ca cu.length cc) (.slice none 0 0)).mono (base' := w.heap.size) (by omega))
      have hcb : ((cu.length : Int) != 0) = true := by simp only [bne_iff_ne, ne_eq]; omega
      clear hr hv hF1 HF1 HF0 HO1 HO2 HANS hOA
      go_wp2
      all_goals first
        | (obtain ⟨hbz, z0, z1, z2, z3, z4, z5⟩ := HPU.out
           unfold put6 at z0 z1 z2 z3 z4 z5 hbz
           refine bodyPost_ret (v := .tuple #[.agg #[.int .i64 2, .int .i64 0, .slice none 0 0, .slice none 0 0, .slice ca cu.length cc, .slice none 0 0], .int .i64 0]) (by simp [results, Try.results39, go_sem, z0, z1, z2, z3, z4, z5]) rfl ⟨_, 0, _, rfl, HOA.out, .inr ⟨h1, rfl, HOK.out⟩, hbz⟩)
        | (exfalso; omega)

set_option maxHeartbeats 1000000 in
theorem solve_any : SolveC := by
  intro sa aa sn sc an ac xs es w hx he
  obtain ⟨W0, hW0⟩ : ∃ W0, (w.alloc (.cells #[.slice sa sn sc, .slice aa an ac] 25)).alloc (.cells #[.int .i64 0, .int .i64 0, .slice none 0 0, .slice none 0 0, .slice none 0 0, .slice none 0 0] 36) = W0 := ⟨_, rfl⟩
  have hF0 := Fr.start w sa aa sn sc an ac
  rw [hW0] at hF0
  have hz0 : W0.heap.size = w.heap.size + 2 := by rw [← hW0]; simp
  have HW0 := hide hW0
  have cS : n0 (Calls Try.prog 39 #[.agg #[.slice sa sn sc, .slice aa an ac]] W0 fun e w' => ∃ (a : A6) (err : Int) (v : Value), e = .returned (.tuple #[v, .int .i64 err]) ∧ OwnA w' W0.heap.size v a ∧ SolveAns xs es a err ∧ Below W0.heap.size W0 w') :=
    rSolve_any sa aa sn sc an ac xs es W0 (hx.below hF0.be) (he.below hF0.be)
  have HF0 := hide hF0
  have HZ0 := hide hz0
  clear hx he hW0 hF0 hz0
  go_enter Try.func23, Try.ntmps23
  go_wp2_with fail
  rw [HW0.out]
  refine Calls.mono cS.out ?_
  rintro e w1 ⟨a, err, v, rfl, hOA, hans, hb1⟩
  clear cS HW0
  have hF1 := HF0.out.grow (by rw [HZ0.out]; exact Nat.le_refl _) hb1
  obtain ⟨⟨s0, s1, s2, s3, s4, s5⟩, sf⟩ := hF1.cells
  have sf0 := sf 0
  have sf1 := sf 1
  have sf2 := sf 2
  have sf3 := sf 3
  have sf4 := sf 4
  have sf5 := sf 5
  rw [HZ0.out] at hOA
  have hOA0 := hOA
  obtain ⟨fa, fc, pa, pc, ca, cc, ra, rc, rfl, -⟩ := hOA0
  have HOA := hide ((hOA.put6 (b := w.heap.size + 1) (by omega) (.int .i64 a.kind) (.int .i64 a.cost) (.slice fa a.flow.length fc) (.slice pa a.pots.length pc) (.slice ca a.cut.length cc) (.slice ra a.circ.length rc)).mono (base' := w.heap.size) (by omega))
  have HPU := hide (hF1.put6 (.int .i64 a.kind) (.int .i64 a.cost) (.slice fa a.flow.length fc) (.slice pa a.pots.length pc) (.slice ca a.cut.length cc) (.slice ra a.circ.length rc))
  have HANS := hide hans
  clear hOA hans sf hF1 HF0
  go_wp2
  obtain ⟨hbz, z0, z1, z2, z3, z4, z5⟩ := HPU.out
  unfold put6 at z0 z1 z2 z3 z4 z5 hbz
  refine bodyPost_ret (v := .tuple #[.agg #[.int .i64 a.kind, .int .i64 a.cost, .slice fa a.flow.length fc, .slice pa a.pots.length pc, .slice ca a.cut.length cc, .slice ra a.circ.length rc], .int .i64 err]) (by simp [results, Try.results23, go_sem, z0, z1, z2, z3, z4, z5]) rfl ⟨a, err, _, rfl, HOA.out, HANS.out, hbz⟩
end Go.Proofs.Ytampcheafdlomaa
