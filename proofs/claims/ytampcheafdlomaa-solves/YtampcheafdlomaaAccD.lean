import Derived.Test.YtampcheafdlomaaAccC
namespace Go.Proofs.Ytampcheafdlomaa
open Go.RowKit
set_option linter.unusedSimpArgs false
set_option linter.unusedVariables false

theorem heldAt_eq {es : List A5} {fl p : List Int} {k f t : Nat} {l c q x pf pt : Int} (hA : es.getD k zA = ⟨f, t, l, c, q⟩) (hX : fl.getD k 0 = x) (hf : p.getD f 0 = pf) (ht : p.getD t 0 = pt) :
    heldAt es fl p k = heldB ⟨f, t, l, c, q⟩ (q + pf - pt) x := by
  simp only [heldAt, driftAt, hA, hX, Int.toNat_natCast, hf, ht]
theorem pot_out {p : List Int} (h : potB p = true) {i : Nat} (hi : i < p.length) : -1000000 ≤ p.getD i 0 ∧ p.getD i 0 ≤ 1000000 := of_decide_eq_true (of_all h i hi)
theorem heldB_t {a : A5} {d x : Int} (h : (0 < d → x = a.lo) ∧ (d < 0 → a.cap ≠ -1 ∧ x = a.cap)) : heldB a d x = true := decide_eq_true h
theorem heldB_f {a : A5} {d x : Int} (h : ¬ ((0 < d → x = a.lo) ∧ (d < 0 → a.cap ≠ -1 ∧ x = a.cap))) : heldB a d x = false := decide_eq_false h

set_option maxHeartbeats 1000000 in
theorem gHeld_any (f t l c k d x : Int) (w : World) :
    Calls Try.prog 82 #[.agg #[.int .i64 f, .int .i64 t, .int .i64 l, .int .i64 c, .int .i64 k], .int .i64 d, .int .i64 x] w fun e w' => e = .returned (.bool (heldB ⟨f, t, l, c, k⟩ d x)) ∧ Below w.heap.size w w' := by
  go_enter Try.func82, Try.ntmps82
  go_wp2
  all_goals
    go_ret
    refine ⟨ret_b ?_, ?_⟩
    · rw [Bool.eq_iff_iff]
      simp only [heldB, decide_eq_true_eq, Bool.false_eq_true, bne_iff_ne, ne_eq, beq_iff_eq, bne_eq_false_iff_eq, true_or, true_and, and_true, Bool.not_eq_true, Bool.not_eq_false, Bool.not_true, Bool.not_false, beq_eq_false_iff_ne, Bool.and_eq_true, Bool.or_eq_true, Bool.or_eq_false_iff, Bool.and_eq_false_iff, decide_eq_false_iff_not, Bool.not_eq_eq_eq_not] at *
      refine ⟨fun h => ?_, fun h => ?_⟩ <;> first | exact h.elim | omega | trivial | (simp at *; omega)
    · first
      | exact (Below.refl _ _).alloc (Nat.le_refl _) _
      | exact ((Below.refl _ _).alloc (Nat.le_refl _) _).alloc (by simp) _

set_option maxHeartbeats 2000000 in
theorem refHolds_any (sa aa fa pa : Option Addr) (sn sc an ac fc pn pc : Nat) (xs : List Int) (es : List A5) (fl p : List Int) (w : World) (hx : Ints w sa sn xs) (he : Arcs w aa an es) (hf : Ints w fa an fl) (hp : Ints w pa pn p) (hn : NetOK xs es) :
    Calls Try.prog 48 #[.agg #[.slice sa sn sc, .slice aa an ac], .slice fa an fc, .slice pa pn pc] w fun e w' => e = .returned (.bool (holdsB xs es fl p)) ∧ Below w.heap.size w w' := by
  have hL : Hid (xs.length = sn ∧ es.length = an ∧ p.length = pn) := ⟨hx.len, he.len, hp.len⟩
  have hN := hide hn
  have h24 : an ≤ 24 := by rw [← he.len]; exact hn.arcs
  have h10 : sn ≤ 10 := by rw [← hx.len]; exact hn.ten
  have hps := hp.small
  clear hn
  by_cases hpn : pn = sn
  · subst hpn
    have HE : Hid (decide (p.length = xs.length) = true) := decide_eq_true (by rw [hL.out.1, hL.out.2.2])
    have hne : ((pn : Int) != (pn : Int)) = false := by simp
    go_enter Try.func48, Try.ntmps48
    go_wp2
    go_loop [7] (fun i => ∃ k : Nat, k ≤ pn ∧ i = .int .i64 k ∧ Hid (∀ j, j < k → potAt p j = true)) (fun i => pn - (intOf i).toNat)
    case atStart => exact ⟨0, Nat.zero_le _, rfl, fun j hj => absurd hj (Nat.not_lt_zero j)⟩
    case round =>
      obtain ⟨k, hk, rfl, hg⟩ := hrel
      by_cases hlt : k < pn
      · obtain ⟨b, off, x, rfl, hX, hb, ex⟩ := hp.get hlt
        have HX := hide hX
        clear hX
        have hlt3 : (k : Int) < (pn : Int) := by omega
        by_cases hbd : -1000000 ≤ x ∧ x ≤ 1000000
        · obtain ⟨hb1, hb2⟩ := hbd
          go_wp2
          refine ⟨⟨k + 1, by omega, by go_num, ?_⟩, by simp [intOf]; omega⟩
          intro j hj
          by_cases hjk : j = k
          · subst hjk; unfold potAt; rw [HX.out]; exact decide_eq_true ⟨hb1, hb2⟩
          · exact hg.out j (by omega)
        · have HF : Hid (potB p = false) := all_f (k := k) (by rw [hL.out.2.2]; exact hlt) (by unfold potAt; rw [HX.out]; exact decide_eq_false hbd)
          go_wp2
          all_goals first
            | (go_ret
               exact ⟨ret_b (by unfold holdsB; rw [HF.out]; simp), (Below.refl _ _).alloc (Nat.le_refl _) _⟩)
            | (exfalso; omega)
      · have hkn : k = pn := by omega
        subst hkn
        have HP : Hid (potB p = true) := all_t (by rw [hL.out.2.2]; exact hg.out)
        clear hg
        go_wp2
        go_loopw [8] (fun i wr => ∃ m : Nat, m ≤ an ∧ i = .int .i64 m ∧ Hid (∀ j, j < m → heldAt es fl p j = true) ∧ wr.cell? ⟨w.heap.size, 1, none⟩ = some (.slice aa an ac) ∧ Below w.heap.size w wr ∧ w.heap.size < wr.heap.size) (fun i _ => an - (intOf i).toNat)
        case atStart => exact ⟨0, Nat.zero_le _, rfl, fun j hj => absurd hj (Nat.not_lt_zero j), by simp, (Below.refl _ _).alloc (Nat.le_refl _) _, by simp⟩
        case round =>
          obtain ⟨m, hm, rfl, hg, c1, hbel, hsize⟩ := hrel
          by_cases hlt : m < an
          · have ba := arcB_out (hN.out.arc m (by rw [hL.out.2.1]; exact hlt))
            rw [hL.out.1] at ba
            obtain ⟨b, off, f, t, l, c, q, rfl, hA, hb, e0, e1, e2, e3, e4⟩ := (he.below hbel).get hlt
            rw [hA] at ba
            simp only [] at ba
            obtain ⟨f, rfl⟩ := nat_of ba.1
            obtain ⟨t, rfl⟩ := nat_of ba.2.2.1
            obtain ⟨-, ba1, -, ba2, -, -, -, ba3, ba4⟩ := ba
            obtain ⟨b', off', x, rfl, hX, hb', ex⟩ := (hf.below hbel).get hlt
            obtain ⟨b2, off2, pf, rfl, hF, hb2, ef⟩ := (hp.below hbel).get (show f < k by omega)
            obtain ⟨b3, off3, pt, e5, hT, hb3, et⟩ := (hp.below hbel).get (show t < k by omega)
            obtain ⟨rfl, rfl⟩ : b2 = b3 ∧ off2 = off3 := by simpa using e5
            have bf := pot_out HP.out (i := f) (by rw [hL.out.2.2]; omega)
            have bt := pot_out HP.out (i := t) (by rw [hL.out.2.2]; omega)
            rw [hF] at bf
            rw [hT] at bt
            have HH := hide (heldAt_eq hA hX hF hT)
            clear hA hX hF hT e5
            have hlt3 : (m : Int) < (an : Int) := by omega
            have hlt4 : (f : Int) < (k : Int) := by omega
            have hlt5 : (t : Int) < (k : Int) := by omega
            have bad : heldB ⟨f, t, l, c, q⟩ (q + pf - pt) x = false → Hid (holdsB xs es fl p = false) := fun h => by
              have : holdB es fl p = false := all_f (k := m) (by rw [hL.out.2.1]; exact hlt) (by rw [HH.out]; exact h)
              show holdsB xs es fl p = false
              unfold holdsB; rw [this]; simp
            have good : heldB ⟨f, t, l, c, q⟩ (q + pf - pt) x = true → Hid (∀ j, j < m + 1 → heldAt es fl p j = true) := by
              intro h j hj
              by_cases hjk : j = m
              · subst hjk; rw [HH.out]; exact h
              · exact hg.out j (by omega)
            go_wp2
            obtain ⟨wa, hwa⟩ : ∃ wa, wr.alloc (.cells #[.int .i64 (f : Int), .int .i64 (t : Int), .int .i64 l, .int .i64 c, .int .i64 q] 54) = wa := ⟨_, rfl⟩
            have c1' : wa.cell? ⟨w.heap.size, 1, none⟩ = some (.slice (some ⟨b, off, none⟩) an ac) := by rw [← hwa]; exact (World.cell?_alloc_lt _ _ _ hsize).trans c1
            have ex' : wa.cell? ⟨b', off' + m, none⟩ = some (.int .i64 x) := by rw [← hwa]; exact (World.cell?_alloc_lt _ _ _ hb').trans ex
            have ef' : wa.cell? ⟨b2, off2 + f, none⟩ = some (.int .i64 pf) := by rw [← hwa]; exact (World.cell?_alloc_lt _ _ _ hb2).trans ef
            have et' : wa.cell? ⟨b2, off2 + t, none⟩ = some (.int .i64 pt) := by rw [← hwa]; exact (World.cell?_alloc_lt _ _ _ hb3).trans et
            have n0 : wa.cell? ⟨wr.heap.size, 0, none⟩ = some (.int .i64 (f : Int)) := by rw [← hwa]; simp
            have n1 : wa.cell? ⟨wr.heap.size, 1, none⟩ = some (.int .i64 (t : Int)) := by rw [← hwa]; simp
            have n2 : wa.cell? ⟨wr.heap.size, 2, none⟩ = some (.int .i64 l) := by rw [← hwa]; simp
            have n3 : wa.cell? ⟨wr.heap.size, 3, none⟩ = some (.int .i64 c) := by rw [← hwa]; simp
            have n4 : wa.cell? ⟨wr.heap.size, 4, none⟩ = some (.int .i64 q) := by rw [← hwa]; simp
            have hba : Below w.heap.size w wa := by rw [← hwa]; exact hbel.alloc hbel.size _
            have hsa : w.heap.size < wa.heap.size := by rw [← hwa]; simp; omega
            rw [hwa]
            clear hwa c1 e0 e1 e2 e3 e4 ex ef et hbel hsize HH hg
            go_quiet (fail)
            go_wp2
            clear ef' et' n0 n1 n4 bf bt ba3 ba4
            have hba' := hba.trans (Joins.below_draws w.heap.size wa nq)
            have c1'' : (wa.drewN nq).cell? ⟨w.heap.size, 1, none⟩ = some (.slice (some ⟨b, off, none⟩) an ac) := by simpa using c1'
            have ex'' : (wa.drewN nq).cell? ⟨b', off' + m, none⟩ = some (.int .i64 x) := by simpa using ex'
            have n2' : (wa.drewN nq).cell? ⟨wr.heap.size, 2, none⟩ = some (.int .i64 l) := by simpa using n2
            have n3' : (wa.drewN nq).cell? ⟨wr.heap.size, 3, none⟩ = some (.int .i64 c) := by simpa using n3
            have hsa' : w.heap.size < (wa.drewN nq).heap.size := by simpa using hsa
            clear c1' ex' n2 n3 hba hsa
            generalize wa.drewN nq = wb at *
            generalize q + pf - pt = d at *
            by_cases h1 : 0 < d
            · have d2 : decide (d < 0) = false := decide_eq_false (by omega)
              cases hxl : (x != l) with
              | true =>
                have HB := bad (heldB_f (by simp at hxl; intro h; exact hxl (h.1 h1)))
                clear bad good
                go_quiet (fail)
                go_wp2
                go_ret
                exact ⟨ret_b HB.out.symm, hba'.trans (Joins.below_draws _ _ _)⟩
              | false =>
                have HG := good (heldB_t (by simp at hxl; exact ⟨fun _ => hxl, fun h => by omega⟩))
                clear bad good
                go_quiet (fail)
                go_wp2
                go_quiet (fail)
                go_wp2
                exact ⟨⟨m + 1, by omega, by go_num, HG.out, by simpa using c1'', hba'.trans (Joins.below_draws _ _ _), by simpa using hsa'⟩, by simp [intOf]; omega⟩
            · have d1 : decide (0 < d) = false := decide_eq_false h1
              by_cases h2 : d < 0
              · cases hcc : (c == -1) with
                | true =>
                  have HB := bad (heldB_f (by simp at hcc; intro h; exact (h.2 h2).1 hcc))
                  clear bad good
                  go_quiet (fail)
                  go_wp2
                  go_quiet (fail)
                  go_wp2
                  go_ret
                  exact ⟨ret_b HB.out.symm, (hba'.trans (Joins.below_draws _ _ _)).trans (Joins.below_draws _ _ _)⟩
                | false =>
                  cases hxc : (x != c) with
                  | true =>
                    have HB := bad (heldB_f (by simp at hxc; intro h; exact hxc (h.2 h2).2))
                    clear bad good
                    go_quiet (fail)
                    go_wp2
                    go_quiet (fail)
                    go_wp2
                    go_ret
                    exact ⟨ret_b HB.out.symm, (hba'.trans (Joins.below_draws _ _ _)).trans (Joins.below_draws _ _ _)⟩
                  | false =>
                    have HG := good (heldB_t (by simp at hxc hcc; exact ⟨fun h => by omega, fun _ => ⟨hcc, hxc⟩⟩))
                    clear bad good
                    go_quiet (fail)
                    go_wp2
                    go_quiet (fail)
                    go_wp2
                    exact ⟨⟨m + 1, by omega, by go_num, HG.out, by simpa using c1'', hba'.trans (Joins.below_draws _ _ _), by simpa using hsa'⟩, by simp [intOf]; omega⟩
              · have d2 : decide (d < 0) = false := decide_eq_false h2
                have HG := good (heldB_t ⟨fun h => by omega, fun h => by omega⟩)
                clear bad good
                go_quiet (fail)
                go_wp2
                go_quiet (fail)
                go_wp2
                exact ⟨⟨m + 1, by omega, by go_num, HG.out, by simpa using c1'', hba'.trans (Joins.below_draws _ _ _), by simpa using hsa'⟩, by simp [intOf]; omega⟩
          · have hkn : m = an := by omega
            subst hkn
            go_wp2
            go_ret
            exact ⟨ret_b (by unfold holdsB; rw [HE.out, HP.out]; exact (all_t (by rw [hL.out.2.1]; exact hg.out)).symm), hbel⟩
  · have hne : ((pn : Int) != (sn : Int)) = true := by simp; omega
    have HE : Hid (decide (p.length = xs.length) = false) := decide_eq_false (by rw [hL.out.1, hL.out.2.2]; exact hpn)
    go_enter Try.func48, Try.ntmps48
    go_wp2
    go_ret
    exact ⟨ret_b (by unfold holdsB; rw [HE.out]; rfl), (Below.refl _ _).alloc (Nat.le_refl _) _⟩
end Go.Proofs.Ytampcheafdlomaa
