import Derived.Test.YtojiemadoogjlaaAccD
namespace Go.Proofs.Ytojiemadoogjlaa
open Go.RowKit
set_option linter.unusedSimpArgs false
set_option linter.unusedVariables false

set_option maxHeartbeats 2000000 in
theorem gHold_any (sa aa fa pa : Option Addr) (sn sc an ac fc pn pc : Nat) (xs : List Int) (es : List A5) (fl p : List Int) (w : World) (he : Arcs w aa an es) (hf : Ints w fa an fl) (hp : Ints w pa pn p) (hn : NetOK xs es) (hlen : xs.length = pn) (hpot : potB p = true) :
    Calls Try.prog 48 #[.agg #[.slice sa sn sc, .slice aa an ac], .slice pa pn pc, .slice fa an fc] w fun e w' => e = .returned (.bool (holdB es fl p)) ∧ Below w.heap.size w w' := by
  have hL : Hid (xs.length = pn ∧ es.length = an ∧ p.length = pn) := ⟨hlen, he.len, hp.len⟩
  have hN := hide hn
  have HP := hide hpot
  have h24 : an ≤ 24 := by rw [← he.len]; exact hn.arcs
  have h10 : pn ≤ 10 := by rw [← hlen]; exact hn.ten
  clear hn hpot hlen
  go_enter Try.func48, Try.ntmps48
  go_wp2
  go_loopw [13] (fun i wr => ∃ m : Nat, m ≤ an ∧ i = .int .i64 m ∧ Hid (∀ j, j < m → heldAt es fl p j = true) ∧ Below w.heap.size w wr) (fun i _ => an - (intOf i).toNat)
  case atStart => exact ⟨0, Nat.zero_le _, rfl, fun j hj => absurd hj (Nat.not_lt_zero j), (Below.refl _ _).alloc (Nat.le_refl _) _⟩
  case round =>
    obtain ⟨m, hm, rfl, hg, hbel⟩ := hrel
    by_cases hlt : m < an
    · have ba := arcB_out (hN.out.arc m (by rw [hL.out.2.1]; exact hlt))
      rw [hL.out.1] at ba
      obtain ⟨b, off, f, t, l, c, q, rfl, hA, hb, e0, e1, e2, e3, e4⟩ := (he.below hbel).get hlt
      rw [hA] at ba
      simp only [] at ba
      obtain ⟨f, rfl⟩ := nat_of ba.1
      obtain ⟨t, rfl⟩ := nat_of ba.2.2.1
      obtain ⟨-, ba1, -, ba2, -, -, -, ba3, ba4⟩ := ba
      obtain ⟨b', off', x, rfl, hX, hb', ex⟩ := (hf.below hbel).get hlt
      obtain ⟨b2, off2, pf, rfl, hF, hb2, ef⟩ := (hp.below hbel).get (show f < pn by omega)
      obtain ⟨b3, off3, pt, e5, hT, hb3, et⟩ := (hp.below hbel).get (show t < pn by omega)
      obtain ⟨rfl, rfl⟩ : b2 = b3 ∧ off2 = off3 := by simpa using e5
      have bf := pot_out HP.out (i := f) (by rw [hL.out.2.2]; omega)
      have bt := pot_out HP.out (i := t) (by rw [hL.out.2.2]; omega)
      rw [hF] at bf
      rw [hT] at bt
      have HH := hide (heldAt_eq hA hX hF hT)
      clear hA hX hF hT e5
      have hlt3 : (m : Int) < (an : Int) := by omega
      have hlt4 : (f : Int) < (pn : Int) := by omega
      have hlt5 : (t : Int) < (pn : Int) := by omega
      go_wp2
      obtain ⟨wa, hwa⟩ : ∃ wa, wr.alloc (.cells #[.int .i64 (f : Int), .int .i64 (t : Int), .int .i64 l, .int .i64 c, .int .i64 q] 48) = wa := ⟨_, rfl⟩
      have ex' : wa.cell? ⟨b', off' + m, none⟩ = some (.int .i64 x) := by rw [← hwa]; exact (World.cell?_alloc_lt _ _ _ hb').trans ex
      have ef' : wa.cell? ⟨b2, off2 + f, none⟩ = some (.int .i64 pf) := by rw [← hwa]; exact (World.cell?_alloc_lt _ _ _ hb2).trans ef
      have et' : wa.cell? ⟨b2, off2 + t, none⟩ = some (.int .i64 pt) := by rw [← hwa]; exact (World.cell?_alloc_lt _ _ _ hb3).trans et
      have n0' : wa.cell? ⟨wr.heap.size, 0, none⟩ = some (.int .i64 (f : Int)) := by rw [← hwa]; simp
      have n1 : wa.cell? ⟨wr.heap.size, 1, none⟩ = some (.int .i64 (t : Int)) := by rw [← hwa]; simp
      have n2 : wa.cell? ⟨wr.heap.size, 2, none⟩ = some (.int .i64 l) := by rw [← hwa]; simp
      have n3 : wa.cell? ⟨wr.heap.size, 3, none⟩ = some (.int .i64 c) := by rw [← hwa]; simp
      have n4 : wa.cell? ⟨wr.heap.size, 4, none⟩ = some (.int .i64 q) := by rw [← hwa]; simp
      have hba : Below w.heap.size w wa := by rw [← hwa]; exact hbel.alloc hbel.size _
      rw [hwa]
      clear hwa e0 e1 e2 e3 e4 ex ef et hbel
      go_quiet (fail)
      go_wp2
      have hba' := hba.trans (Joins.below_draws w.heap.size wa nq)
      have kx := cell_regrown (w := wa.drewN nq) (a := ⟨b', off' + m, none⟩) (v := .int .i64 x) (by simpa using ex')
      have l0 := cell_regrown (w := wa.drewN nq) (a := ⟨wr.heap.size, 0, none⟩) (v := .int .i64 (f : Int)) (by simpa using n0')
      have l1 := cell_regrown (w := wa.drewN nq) (a := ⟨wr.heap.size, 1, none⟩) (v := .int .i64 (t : Int)) (by simpa using n1)
      have l2 := cell_regrown (w := wa.drewN nq) (a := ⟨wr.heap.size, 2, none⟩) (v := .int .i64 l) (by simpa using n2)
      have l3 := cell_regrown (w := wa.drewN nq) (a := ⟨wr.heap.size, 3, none⟩) (v := .int .i64 c) (by simpa using n3)
      have l4 := cell_regrown (w := wa.drewN nq) (a := ⟨wr.heap.size, 4, none⟩) (v := .int .i64 q) (by simpa using n4)
      clear ex' ef' et' n0' n1 n2 n3 n4 bf bt ba3 ba4 hba
      generalize wa.drewN nq = wb at *
      generalize q + pf - pt = d at *
      obtain ⟨B, hB⟩ : ∃ B, heldB ⟨f, t, l, c, q⟩ d x = B := ⟨_, rfl⟩
      have cQ : ∀ d' os, Calls Try.prog 59 #[.agg #[.int .i64 (f : Int), .int .i64 (t : Int), .int .i64 l, .int .i64 c, .int .i64 q], .int .i64 d, .int .i64 x] (Sort.grow (redrawn wb d') os) fun e w'' => e = .returned (.bool B) ∧ ∃ p : Regrown, w'' = Sort.grow (redrawn wb p.d) p.os := fun d' os => Calls.regrown_of (by rw [← hB]; exact gHeld_any f t l c q d x _)
      have HB := hide hB
      clear hB
      refine wp_region_quiet_below (by kernel_rfl) (by kernel_rfl) ?_
      repeat (quiet_step (first | exact cQ _ _))
      refine wpQuiet_nil ?_
      intro _ hw'
      obtain ⟨⟨dq, osq⟩, hw''⟩ := hw'
      subst hw''
      have hbr := below_regrown wb dq osq
      generalize Sort.grow (redrawn wb dq) osq = w2 at *
      clear kx l0 l1 l2 l3 l4 cQ
      have hb2 : Below w.heap.size w w2 := hba'.trans (hbr.mono hba'.size)
      clear hbr
      cases B with
      | true =>
        go_wp2
        go_roundw
        case rel =>
          refine ⟨m + 1, by omega, by go_num, ?_, hb2⟩
          intro j hj
          by_cases hjk : j = m
          · subst hjk; rw [HH.out]; exact HB.out
          · exact hg.out j (by omega)
        case measure => simp [intOf]; omega
      | false =>
        go_wp2
        go_ret
        exact ⟨ret_b (all_f (k := m) (by rw [hL.out.2.1]; exact hlt) (by rw [HH.out]; exact HB.out)).symm, hb2⟩
    · have hkn : m = an := by omega
      subst hkn
      go_wp2
      go_ret
      exact ⟨ret_b (all_t (by rw [hL.out.2.1]; exact hg.out)).symm, hbel⟩

end Go.Proofs.Ytojiemadoogjlaa
