import Derived.Test.YtampcheafdlomaaRtF
import Derived.Test.YtampcheafdlomaaRtG
import Derived.Test.YtampcheafdlomaaRtH
import Derived.Test.YtampcheafdlomaaChkB
namespace Go.Proofs.Ytampcheafdlomaa
open Go.RowKit Go.Deep
set_option linter.unusedSimpArgs false
set_option linter.unusedVariables false

theorem sup_bd {xs : List Int} {es : List A5} (hn : NetOK xs es) : ∀ v, v < xs.length → -100 ≤ xs.getD v 0 ∧ xs.getD v 0 ≤ 100 := fun v _ => getD_bd hn v

theorem lows_inv {xs : List Int} {es : List A5} (hn : NetOK xs es) : LInv xs es (lowsL es) (leftOf xs es (lowsL es)) (posTo (leftOf xs es (lowsL es)) xs.length) :=
  linv_of hn (lowsL_len es) (fun i hi => by have := arcB_out (hn.arc i hi); rw [lowsL_at _ hi]; omega)

set_option maxHeartbeats 2000000 in
theorem rSome_any (sa aa : Option Addr) (sn sc an ac : Nat) (xs : List Int) (es : List A5) (w : World) (hx : Ints w sa sn xs) (he : Arcs w aa an es) :
    Calls Try.prog 36 #[.agg #[.slice sa sn sc, .slice aa an ac]] w fun e w' => ∃ fv cv fl cu err, e = .returned (.tuple #[fv, cv, .int .i64 err]) ∧ OwnL w' w.heap.size fv fl ∧ OwnL w' w.heap.size cv cu ∧ (fv = .slice none 0 0 ∨ cv = .slice none 0 0) ∧ SomeAns xs es fl cu err ∧ Below w.heap.size w w' := by
  have HX := hide hx
  have HE := hide he
  have hxl : Hid (xs.length = sn ∧ es.length = an) := ⟨hx.len, he.len⟩
  have hb0 : Below w.heap.size w (w.alloc (.cells #[.slice sa sn sc, .slice aa an ac] 25)) := (Below.refl _ _).alloc (Nat.le_refl _) _
  clear hx he
  go_enter Try.func36, Try.ntmps36
  go_wp2_with fail
  refine (gCheck_any sa aa sn sc an ac xs es _ (HX.out.below hb0) (HE.out.below hb0)).mono ?_
  rintro e w1 ⟨rfl, hb1⟩
  have k0 : w1.cell? ⟨w.heap.size, 0, none⟩ = some (.slice sa sn sc) := (hb1.cell (by simp)).trans (by go_simp)
  have k1 : w1.cell? ⟨w.heap.size, 1, none⟩ = some (.slice aa an ac) := (hb1.cell (by simp)).trans (by go_simp)
  have hz1 : w.heap.size < w1.heap.size := by have := hb1.size; simp at this; omega
  have hB1 : Below w.heap.size w w1 := hb0.trans (hb1.mono (by simp))
  clear hb0 hb1
  obtain ⟨wn, hwn⟩ : ∃ wn, (checkS xs es).1 = wn := ⟨_, rfl⟩
  have HWN := hide hwn
  rw [hwn]
  generalize (checkS xs es).2 = pl
  clear hwn
  by_cases hw0 : wn = 0
  · subst hw0
    have hn := netOK_of HWN.out
    have h10 : sn ≤ 10 := by rw [← hxl.out.1]; exact hn.ten
    have h24 : an ≤ 24 := by rw [← hxl.out.2]; exact hn.arcs
    have cS : n0 (Calls Try.prog 50 #[.slice sa sn sc] w1 fun e w' => e = .returned (.int .i64 (sumTo (fun v => xs.getD v 0) sn)) ∧ w' = w1) :=
      rSum_any sa sn sc xs w1 (HX.out.below hB1) h10 (fun v hv => getD_bd hn v)
    go_wp2_with fail
    refine Calls.mono cS.out ?_
    rintro e w2 ⟨rfl, rfl⟩
    clear cS
    obtain ⟨sm, hsm⟩ : ∃ sm, sumTo (fun v => xs.getD v 0) sn = sm := ⟨_, rfl⟩
    have HSM := hide hsm
    rw [hsm]
    clear hsm
    by_cases hs0 : sm = 0
    · subst hs0
      have cL : n0 (Calls Try.prog 53 #[.agg #[.slice sa sn sc, .slice aa an ac]] w2 fun e w' => ∃ ca cc, e = .returned (.agg #[.slice sa sn sc, .slice ca an cc]) ∧ Arcs w' ca an (costlessL es) ∧ Below w2.heap.size w2 w') :=
        rCostless_any sa aa sn sc an ac xs es w2 hn (HE.out.below hB1)
      have hn' := costless_ok hn
      have hlen' : Hid ((costlessL es).length = an) := by show _ = _; rw [costlessL_len]; exact hxl.out.2
      go_wp2_with fail
      refine Calls.mono cL.out ?_
      rintro e w2a ⟨ca, cc, rfl, hA2, hb2a⟩
      clear cL
      have hBa : Below w.heap.size w w2a := hB1.trans (hb2a.mono hB1.size)
      have HA2 := hide hA2
      have cA : n0 (Calls Try.prog 52 #[.agg #[.slice sa sn sc, .slice ca an cc]] w2a fun e w' => ∃ lb fb vb, e = .returned (.pointer (some ⟨lb, 0, none⟩)) ∧ Load w' lb fb vb sa sn sc ca an cc (lowsL (costlessL es)) (leftOf xs (costlessL es) (lowsL (costlessL es))) ∧ (w2a.heap.size ≤ lb ∧ w2a.heap.size ≤ fb ∧ w2a.heap.size ≤ vb) ∧ Below w2a.heap.size w2a w') :=
        rAtLows_any sa ca sn sc an cc xs (costlessL es) w2a hn' (HX.out.below hBa) hA2
      clear hA2
      go_wp2_with fail
      refine Calls.mono cA.out ?_
      rintro e w3 ⟨lb, fb, vb, rfl, hLd, hge, hb3⟩
      clear cA
      have cT : n0 (Calls Try.prog 54 #[.pointer (some ⟨lb, 0, none⟩)] w3 fun e w' => ∃ v, e = .returned v ∧ Settled xs (costlessL es) lb fb vb sa sn sc ca an cc w2a.heap.size v w' ∧ Below w2a.heap.size w2a w') :=
        rSettle_any lb fb vb sa ca sn sc an cc xs (lowsL (costlessL es)) (costlessL es) w2a w3 hn' hxl.out.1 (by rw [hxl.out.1]; exact HSM.out) (by rw [← hxl.out.1]; exact lows_inv hn') ⟨_, costless_pot es _⟩ hLd hge HA2.out hb3
      clear hLd hb3
      go_wp2_with fail
      refine Calls.mono cT.out ?_
      rintro e w4 ⟨v, rfl, ⟨fl', hL', hfl0, hans0⟩, hb4⟩
      clear cT
      have hfl : fl'.length = es.length := by rw [hfl0, costlessL_len]
      have hans : (v = .slice none 0 0 ∧ Fits xs es fl') ∨ ∃ cut, OwnL w4 w2a.heap.size v cut ∧ 0 < cut.length ∧ cut.length ≤ 10 ∧ risB cut xs.length = true ∧ violB xs es cut = true := by
        rcases hans0 with ⟨h1, h2, _⟩ | ⟨cut, h1, h2, h3, h4, h5⟩
        · exact .inl ⟨h1, costless_fits h2⟩
        · exact .inr ⟨cut, h1, h2, h3, h4, by rw [← costless_viol]; exact h5⟩
      clear hans0 hfl0
      have hB4 : Below w.heap.size w w4 := hBa.trans (hb4.mono hBa.size)
      have hz2 : w.heap.size < w2a.heap.size := Nat.lt_of_lt_of_le hz1 hb2a.size
      have q2 := hL'.c2
      rcases hans with ⟨rfl, hfit⟩ | ⟨cut, hO, hc0, hc1, hr, hv⟩
      · have HF := hide hfit
        have HO := hide (row_own (base := w.heap.size) hL'.rf (by rw [hfl]; exact hxl.out.2) (by omega) (by omega))
        clear hfit hL'
        go_wp2
        go_ret3
        refine ⟨_, _, fl', [], 0, rfl, HO.out, OwnL.nil _ _, .inr rfl, .inr ⟨HWN.out, rfl, .inl ⟨rfl, of_fits HF.out, by rw [hfl]; exact hn.arcs, fun x hx => ?_⟩⟩, hB4⟩
        obtain ⟨i, hi, rfl⟩ := mem_of_getD 0 fl' x hx
        have h1 := HF.out.bd i (by omega)
        have h2 := arcB_out (hn.arc i (by omega))
        omega
      · have HC := hide (show SomeAns xs es [] cut 0 from .inr ⟨HWN.out, rfl, .inr ⟨rfl, hc0, hc1, hr, hv⟩⟩)
        have HO := hide hO
        obtain ⟨oa, oc, rfl, _⟩ := hO
        clear hr hv hL' q2
        have hcb : ((cut.length : Int) != 0) = true := by simp only [bne_iff_ne, ne_eq]; omega
        go_wp2
        all_goals first
          | (go_ret3
             exact ⟨_, _, [], cut, 0, rfl, OwnL.nil _ _, HO.out.mono (Nat.le_of_lt hz2), .inl rfl, HC.out, hB4⟩)
          | (exfalso; omega)
    · have hsb : (sm != 0) = true := by simpa using hs0
      have HS0 := hide hs0
      have cE : n0 (Calls Try.prog 51 #[.int .i64 sn] w2 fun e w' => ∃ v, e = .returned v ∧ OwnL w' w2.heap.size v (seenTo (fun _ => true) sn) ∧ Below w2.heap.size w2 w') := rEvery_any sn w2 h10
      clear hs0
      go_wp2_with fail
      refine Calls.mono cE.out ?_
      rintro e w3 ⟨v, rfl, hO, hb3⟩
      clear cE
      have hB3 : Below w.heap.size w w3 := hB1.trans (hb3.mono hB1.size)
      have hav := all_viol hn (by rw [hxl.out.1, HSM.out]; exact HS0.out)
      have hlen := seen_len (fun _ => true) sn
      rw [hxl.out.1] at hav
      have HC := hide (show SomeAns xs es [] (seenTo (fun _ => true) sn) 0 from .inr ⟨HWN.out, rfl, .inr ⟨rfl, hav.1, by omega, by rw [hxl.out.1]; exact hav.2.1, hav.2.2⟩⟩)
      have HO := hide hO
      clear hav hO
      go_wp2
      go_ret3
      exact ⟨_, _, [], _, 0, rfl, OwnL.nil _ _, HO.out.mono (Nat.le_of_lt hz1), .inl rfl, HC.out, hB3⟩
  · have hwb : (wn != 0) = true := by simpa using hw0
    have HW0 := hide hw0
    clear hw0
    go_wp2
    go_ret3
    exact ⟨_, _, [], [], wn, rfl, OwnL.nil _ _, OwnL.nil _ _, .inl rfl, .inl ⟨by rw [HWN.out]; exact HW0.out, HWN.out.symm, rfl, rfl⟩, hB1⟩

set_option maxHeartbeats 1000000 in
theorem some_any : SomeC := by
  intro sa aa sn sc an ac xs es w hx he
  have hb0 : Below w.heap.size w (w.alloc (.cells #[.slice sa sn sc, .slice aa an ac] 25)) := (Below.refl _ _).alloc (Nat.le_refl _) _
  have HX := hide hx
  have HE := hide he
  clear hx he
  go_enter Try.func21, Try.ntmps21
  go_wp2_with fail
  refine (rSome_any sa aa sn sc an ac xs es _ (HX.out.below hb0) (HE.out.below hb0)).mono ?_
  rintro e w1 ⟨fv, cv, fl, cu, err, rfl, h1, h2, h3, h4, hb1⟩
  have hB1 : Below w.heap.size w w1 := hb0.trans (hb1.mono (by simp))
  have H1 := hide (h1.mono (base' := w.heap.size) (by simp))
  have H2 := hide (h2.mono (base' := w.heap.size) (by simp))
  have H4 := hide h4
  have H3 := hide h3
  clear h1 h2 h3 h4 hb1 hb0
  go_wp2
  go_ret3
  exact ⟨fv, cv, fl, cu, err, rfl, H1.out, H2.out, H3.out, H4.out, hB1⟩
end Go.Proofs.Ytampcheafdlomaa
