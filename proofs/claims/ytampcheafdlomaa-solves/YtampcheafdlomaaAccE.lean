import Derived.Test.YtampcheafdlomaaAccD
namespace Go.Proofs.Ytampcheafdlomaa
open Go.RowKit
set_option linter.unusedSimpArgs false
set_option linter.unusedVariables false

set_option maxHeartbeats 2000000 in
theorem gDrift_any (pa : Option Addr) (pn pc : Nat) (f t : Nat) (l c q : Int) (p : List Int) (w : World) (hp : Ints w pa pn p) (hf : f < pn) (ht : t < pn) (hq : -50 ≤ q ∧ q ≤ 50) (hpot : ∀ i, i < pn → -1000000 ≤ p.getD i 0 ∧ p.getD i 0 ≤ 1000000) :
    Calls Try.prog 81 #[.agg #[.int .i64 (f : Int), .int .i64 (t : Int), .int .i64 l, .int .i64 c, .int .i64 q], .slice pa pn pc] w fun e w' => e = .returned (.int .i64 (q + p.getD f 0 - p.getD t 0)) ∧ Below w.heap.size w w' := by
  have bf := hpot f hf
  have bt := hpot t ht
  obtain ⟨b2, off2, pf, rfl, hF, hb2, ef⟩ := hp.get hf
  obtain ⟨b3, off3, pt, e5, hT, hb3, et⟩ := hp.get ht
  obtain ⟨rfl, rfl⟩ : b2 = b3 ∧ off2 = off3 := by simpa using e5
  rw [hF] at bf
  rw [hT] at bt
  rw [hF, hT]
  clear hF hT e5 hp hpot
  obtain ⟨q1, q2⟩ := hq
  obtain ⟨f1, f2⟩ := bf
  obtain ⟨t1, t2⟩ := bt
  have hlt4 : (f : Int) < (pn : Int) := by omega
  have hlt5 : (t : Int) < (pn : Int) := by omega
  obtain ⟨wa, hwa⟩ : ∃ wa, w.alloc (.cells #[.int .i64 (f : Int), .int .i64 (t : Int), .int .i64 l, .int .i64 c, .int .i64 q] 54) = wa := ⟨_, rfl⟩
  have ef' : wa.cell? ⟨b2, off2 + f, none⟩ = some (.int .i64 pf) := by rw [← hwa]; exact (World.cell?_alloc_lt _ _ _ hb2).trans ef
  have et' : wa.cell? ⟨b2, off2 + t, none⟩ = some (.int .i64 pt) := by rw [← hwa]; exact (World.cell?_alloc_lt _ _ _ hb3).trans et
  have n0' : wa.cell? ⟨w.heap.size, 0, none⟩ = some (.int .i64 (f : Int)) := by rw [← hwa]; simp
  have n1 : wa.cell? ⟨w.heap.size, 1, none⟩ = some (.int .i64 (t : Int)) := by rw [← hwa]; simp
  have n4 : wa.cell? ⟨w.heap.size, 4, none⟩ = some (.int .i64 q) := by rw [← hwa]; simp
  have hba : Below w.heap.size w wa := by rw [← hwa]; exact (Below.refl _ _).alloc (Nat.le_refl _) _
  have HWA := hide hwa
  clear hwa ef et
  go_enter Try.func81, Try.ntmps81
  go_wp2_with fail
  rw [HWA.out]
  go_quiet (fail)
  go_wp2
  go_ret
  exact ⟨rfl, hba.trans (Joins.below_draws w.heap.size wa nq)⟩

set_option maxHeartbeats 2000000 in
theorem gHold_any (sa aa fa pa : Option Addr) (sn sc an ac fc pn pc : Nat) (xs : List Int) (es : List A5) (fl p : List Int) (w : World) (he : Arcs w aa an es) (hf : Ints w fa an fl) (hp : Ints w pa pn p) (hn : NetOK xs es) (hlen : xs.length = pn) (hpot : potB p = true) :
    Calls Try.prog 65 #[.agg #[.slice sa sn sc, .slice aa an ac], .slice pa pn pc, .slice fa an fc] w fun e w' => e = .returned (.bool (holdB es fl p)) ∧ Below w.heap.size w w' := by
  have hL : Hid (xs.length = pn ∧ es.length = an ∧ p.length = pn) := ⟨hlen, he.len, hp.len⟩
  have hN := hide hn
  have HP := hide hpot
  have h24 : an ≤ 24 := by rw [← he.len]; exact hn.arcs
  have h10 : pn ≤ 10 := by rw [← hlen]; exact hn.ten
  clear hn hpot hlen
  go_enter Try.func65, Try.ntmps65
  go_wp2
  go_loopw [13] (fun i wr => ∃ m : Nat, m ≤ an ∧ i = .int .i64 m ∧ Hid (∀ j, j < m → heldAt es fl p j = true) ∧ Below w.heap.size w wr) (fun i _ => an - (intOf i).toNat)
  case atStart => exact ⟨0, Nat.zero_le _, rfl, fun j hj => absurd hj (Nat.not_lt_zero j), (Below.refl _ _).alloc (Nat.le_refl _) _⟩
  case round =>
    obtain ⟨m, hm, rfl, hg, hbel⟩ := hrel
    by_cases hlt : m < an
    · have ba := arcB_out (hN.out.arc m (by rw [hL.out.2.1]; exact hlt))
      rw [hL.out.1] at ba
      obtain ⟨b, off, f, t, l, c, q, rfl, hA, hb, e0, e1, e2, e3, e4⟩ := (he.below hbel).get hlt
      rw [hA] at ba
      simp only [] at ba
      obtain ⟨f, rfl⟩ := nat_of ba.1
      obtain ⟨t, rfl⟩ := nat_of ba.2.2.1
      obtain ⟨-, ba1, -, ba2, -, -, -, ba3, ba4⟩ := ba
      obtain ⟨b', off', x, rfl, hX, hb', ex⟩ := (hf.below hbel).get hlt
      obtain ⟨b2, off2, pf, rfl, hF, hb2, ef⟩ := (hp.below hbel).get (show f < pn by omega)
      obtain ⟨b3, off3, pt, e5, hT, hb3, et⟩ := (hp.below hbel).get (show t < pn by omega)
      obtain ⟨rfl, rfl⟩ : b2 = b3 ∧ off2 = off3 := by simpa using e5
      have bf := pot_out HP.out (i := f) (by rw [hL.out.2.2]; omega)
      have bt := pot_out HP.out (i := t) (by rw [hL.out.2.2]; omega)
      rw [hF] at bf
      rw [hT] at bt
      have hlt4' : f < pn := by omega
      have hlt5' : t < pn := by omega
      have hlt3 : (m : Int) < (an : Int) := by omega
      have hlt4 : (f : Int) < (pn : Int) := by omega
      have hlt5 : (t : Int) < (pn : Int) := by omega
      have cD : n0 (∀ w0, Ints w0 (some ⟨b2, off2, none⟩) pn p → Calls Try.prog 81 #[.agg #[.int .i64 (f : Int), .int .i64 (t : Int), .int .i64 l, .int .i64 c, .int .i64 q], .slice (some ⟨b2, off2, none⟩) pn pc] w0 fun e w' => e = .returned (.int .i64 (q + pf - pt)) ∧ Below w0.heap.size w0 w') := by
        intro w0 h0
        have h1 := gDrift_any (some ⟨b2, off2, none⟩) pn pc f t l c q p w0 h0 hlt4' hlt5' ⟨ba3, ba4⟩ (fun i hi => pot_out HP.out (by rw [hL.out.2.2]; exact hi))
        rw [hF, hT] at h1
        exact h1
      have HH := hide (heldAt_eq hA hX hF hT)
      clear hA hX hF hT e5
      obtain ⟨wa, hwa⟩ : ∃ wa, wr.alloc (.cells #[.int .i64 (f : Int), .int .i64 (t : Int), .int .i64 l, .int .i64 c, .int .i64 q] 54) = wa := ⟨_, rfl⟩
      have hba : Below w.heap.size w wa := by rw [← hwa]; exact hbel.alloc hbel.size _
      have hpa := hp.below hba
      have HWA := hide hwa
      clear hwa
      go_wp2_with fail
      rw [HWA.out]
      refine (cD.out _ hpa).mono ?_
      rintro e wb ⟨rfl, hbd⟩
      have hszz : wa.heap.size = wr.heap.size + 1 := by rw [← HWA.out]; simp
      have kx0 : wb.cell? ⟨b', off' + m, none⟩ = some (.int .i64 x) := by rw [hbd.cell (p := ⟨b', off' + m, none⟩) (by show b' < wa.heap.size; omega), ← HWA.out]; exact (World.cell?_alloc_lt _ _ _ hb').trans ex
      have n0' : wb.cell? ⟨wr.heap.size, 0, none⟩ = some (.int .i64 (f : Int)) := by rw [hbd.cell (p := ⟨wr.heap.size, 0, none⟩) (by show wr.heap.size < wa.heap.size; omega), ← HWA.out]; simp
      have n1 : wb.cell? ⟨wr.heap.size, 1, none⟩ = some (.int .i64 (t : Int)) := by rw [hbd.cell (p := ⟨wr.heap.size, 1, none⟩) (by show wr.heap.size < wa.heap.size; omega), ← HWA.out]; simp
      have n2 : wb.cell? ⟨wr.heap.size, 2, none⟩ = some (.int .i64 l) := by rw [hbd.cell (p := ⟨wr.heap.size, 2, none⟩) (by show wr.heap.size < wa.heap.size; omega), ← HWA.out]; simp
      have n3 : wb.cell? ⟨wr.heap.size, 3, none⟩ = some (.int .i64 c) := by rw [hbd.cell (p := ⟨wr.heap.size, 3, none⟩) (by show wr.heap.size < wa.heap.size; omega), ← HWA.out]; simp
      have n4 : wb.cell? ⟨wr.heap.size, 4, none⟩ = some (.int .i64 q) := by rw [hbd.cell (p := ⟨wr.heap.size, 4, none⟩) (by show wr.heap.size < wa.heap.size; omega), ← HWA.out]; simp
      have hba' : Below w.heap.size w wb := hba.trans (hbd.mono hba.size)
      have kx := cell_regrown (w := wb) (a := ⟨b', off' + m, none⟩) (v := .int .i64 x) kx0
      have l0 := cell_regrown (w := wb) (a := ⟨wr.heap.size, 0, none⟩) (v := .int .i64 (f : Int)) n0'
      have l1 := cell_regrown (w := wb) (a := ⟨wr.heap.size, 1, none⟩) (v := .int .i64 (t : Int)) n1
      have l2 := cell_regrown (w := wb) (a := ⟨wr.heap.size, 2, none⟩) (v := .int .i64 l) n2
      have l3 := cell_regrown (w := wb) (a := ⟨wr.heap.size, 3, none⟩) (v := .int .i64 c) n3
      have l4 := cell_regrown (w := wb) (a := ⟨wr.heap.size, 4, none⟩) (v := .int .i64 q) n4
      clear n0' n1 n2 n3 n4 bf bt ba3 ba4 hba hbd HWA hpa cD kx0 e0 e1 e2 e3 e4 ex ef et hbel
      go_wp2_with fail
      generalize q + pf - pt = d at *
      obtain ⟨B, hB⟩ : ∃ B, heldB ⟨f, t, l, c, q⟩ d x = B := ⟨_, rfl⟩
      have cQ : ∀ d' os, Calls Try.prog 82 #[.agg #[.int .i64 (f : Int), .int .i64 (t : Int), .int .i64 l, .int .i64 c, .int .i64 q], .int .i64 d, .int .i64 x] (Sort.grow (redrawn wb d') os) fun e w'' => e = .returned (.bool B) ∧ ∃ p : Regrown, w'' = Sort.grow (redrawn wb p.d) p.os := fun d' os => Calls.regrown_of (by rw [← hB]; exact gHeld_any f t l c q d x _)
      have HB := hide hB
      clear hB
      refine wp_region_quiet_below (by kernel_rfl) (by kernel_rfl) ?_
      repeat (quiet_step (first | exact cQ _ _))
      refine wpQuiet_nil ?_
      intro _ hw'
      obtain ⟨⟨dq, osq⟩, hw''⟩ := hw'
      subst hw''
      have hbr := below_regrown wb dq osq
      generalize Sort.grow (redrawn wb dq) osq = w2 at *
      clear kx l0 l1 l2 l3 l4 cQ
      have hb2 : Below w.heap.size w w2 := hba'.trans (hbr.mono hba'.size)
      clear hbr
      cases B with
      | true =>
        go_wp2
        go_roundw
        case rel =>
          refine ⟨m + 1, by omega, by go_num, ?_, hb2⟩
          intro j hj
          by_cases hjk : j = m
          · subst hjk; rw [HH.out]; exact HB.out
          · exact hg.out j (by omega)
        case measure => simp [intOf]; omega
      | false =>
        go_wp2
        go_ret
        exact ⟨ret_b (all_f (k := m) (by rw [hL.out.2.1]; exact hlt) (by rw [HH.out]; exact HB.out)).symm, hb2⟩
    · have hkn : m = an := by omega
      subst hkn
      go_wp2
      go_ret
      exact ⟨ret_b (all_t (by rw [hL.out.2.1]; exact hg.out)).symm, hbel⟩

end Go.Proofs.Ytampcheafdlomaa
