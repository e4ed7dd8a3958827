import Derived.Test.YtampcheafdlomaaAccH
namespace Go.Proofs.Ytampcheafdlomaa
open Go.RowKit Go.Deep
set_option linter.unusedSimpArgs false
set_option linter.unusedVariables false

theorem Ints.take {w : World} {a : Option Addr} {n k : Nat} {l : List Int} (h : Ints w a n l) (hk : k ≤ n) : Ints w a k (l.take k) := by
  refine ⟨by rw [List.length_take, h.len]; omega, Nat.le_trans hk h.small, fun x hx => h.wf x (List.mem_of_mem_take hx), ?_⟩
  by_cases h0 : k = 0
  · exact .inl h0
  · obtain ⟨b, off, e, hl, hc⟩ := h.lies.resolve_left (by omega)
    refine .inr ⟨b, off, e, hl, fun i hi => ?_⟩
    rw [hc i (by omega)]
    simp [List.getD, List.getElem?_take, hi]

set_option maxHeartbeats 2000000 in
theorem refGood_any (sa aa ca : Option Addr) (sn sc an ac cn cc : Nat) (xs : List Int) (es : List A5) (l : List Int) (w : World) (he : Arcs w aa an es) (hc : Ints w ca cn l) (hn : NetOK xs es) (hle : cn ≤ cc) :
    Calls Try.prog 49 #[.agg #[.slice sa sn sc, .slice aa an ac], .slice ca cn cc] w fun e w' => e = .returned (.bool (goodB es l)) ∧ Below w.heap.size w w' := by
  have hL : Hid (es.length = an ∧ l.length = cn) := ⟨he.len, hc.len⟩
  have hN := hide hn
  have hsm := hc.small
  have h24 : an ≤ 24 := by rw [← he.len]; exact hn.arcs
  clear hn
  go_enter Try.func49, Try.ntmps49
  go_wp2
  go_loopw [5, 6, 7] (fun s i tw wr => ∃ k : Nat, k ≤ cn ∧ i = .int .i64 k ∧ s = .int .i64 (circTo es l k) ∧ Hid (∀ j, j < k → onceAt es.length l j = true) ∧ Hid (∀ j, j < k → unlAt es l j = true) ∧ wr.cell? ⟨w.heap.size, 1, none⟩ = some (.slice aa an ac) ∧ Below w.heap.size w wr) (fun _ i _ _ => cn - (intOf i).toNat)
  case atStart => exact ⟨0, Nat.zero_le _, rfl, rfl, fun j hj => absurd hj (Nat.not_lt_zero j), fun j hj => absurd hj (Nat.not_lt_zero j), by simp, (Below.refl _ _).alloc (Nat.le_refl _) _⟩
  case round =>
    obtain ⟨k, hk, rfl, rfl, hg, hg2, c1, hbel⟩ := hrel
    have bd := circ_bd hN.out l k
    by_cases hlt : k < cn
    · obtain ⟨b, off, x, rfl, hX, hb, ex⟩ := (hc.below hbel).get hlt
      have hO := onceAt_eq (m := es.length) hX
      rw [hL.out.1] at hO
      have HX := hide hX
      have bad : (decide (0 ≤ x ∧ x < (an : Int)) && !inB (l.take k) x) = false → Hid (goodB es l = false) := fun h => by
        have : onceB es.length l = false := all_f (k := k) (by rw [hL.out.2]; exact hlt) (by rw [hL.out.1, hO]; exact h)
        show goodB es l = false
        unfold goodB; rw [this]; rfl
      have good : (decide (0 ≤ x ∧ x < (an : Int)) && !inB (l.take k) x) = true → Hid (∀ j, j < k + 1 → onceAt es.length l j = true) := by
        intro h j hj
        by_cases hjk : j = k
        · subst hjk; rw [hL.out.1, hO]; exact h
        · exact hg.out j (by omega)
      clear hX hO hg
      have hlt3 : (k : Int) < (cn : Int) := by omega
      have hlt6 : (k : Int) ≤ (cc : Int) := by omega
      have hT : Hid (Ints wr (some ⟨b, off, none⟩) k (l.take k)) := (hc.below hbel).take hk
      obtain ⟨I, hI⟩ : ∃ I, inB (l.take k) x = I := ⟨_, rfl⟩
      have cI : n0 (∀ (c' n' : Nat), Calls Try.prog 70 #[.slice (some ⟨b, off, none⟩) k c', .int .i64 x] (wr.drewN n') fun e w' => e = .returned (.bool I) ∧ w' = wr.drewN n') := fun c' n' => by rw [← hI]; exact refIn_any (some ⟨b, off, none⟩) k c' x (l.take k) _ (hT.out.below (Joins.below_draws _ _ _))
      rw [hI] at bad good
      have HI := hide hI
      clear hI
      go_wp2
      go_quiet ((go_at_call 70; exact Calls.quiet_of_same (cI.out _ _)))
      go_wp2
      have hB1 : Below w.heap.size w (wr.drewN nq) := hbel.trans (Joins.below_draws _ _ _)
      have c1' : (wr.drewN nq).cell? ⟨w.heap.size, 1, none⟩ = some (.slice aa an ac) := by simpa using c1
      have ex' : (wr.drewN nq).cell? ⟨b, off + k, none⟩ = some (.int .i64 x) := by simpa using ex
      clear c1 ex hbel hT cI
      generalize wr.drewN nq = wb at *
      by_cases h1 : x < 0
      · have HF := bad (by rw [decide_eq_false (by omega)]; rfl)
        clear bad good
        go_quiet (fail)
        go_wp2
        go_ret
        exact ⟨ret_b HF.out.symm, hB1.trans (Joins.below_draws _ _ _)⟩
      have d1 : decide (x < 0) = false := by simpa using h1
      by_cases h2 : (an : Int) ≤ x
      · have HF := bad (by rw [decide_eq_false (by omega)]; rfl)
        clear bad good
        go_quiet (fail)
        go_wp2
        go_ret
        exact ⟨ret_b HF.out.symm, hB1.trans (Joins.below_draws _ _ _)⟩
      have d2 : decide ((an : Int) ≤ x) = false := by simpa using h2
      cases I with
      | true =>
        have HF := bad (by simp)
        clear bad good
        go_quiet (fail)
        go_wp2
        go_ret
        exact ⟨ret_b HF.out.symm, hB1.trans (Joins.below_draws _ _ _)⟩
      | false =>
        have HG := good (by simp; omega)
        clear bad good
        go_quiet (fail)
        go_wp2
        obtain ⟨v, rfl⟩ := nat_of (show 0 ≤ x by omega)
        have hvs : v < an := by omega
        have hlt4 : (v : Int) < (an : Int) := by omega
        have hB2 : Below w.heap.size w (wb.drewN nq) := hB1.trans (Joins.below_draws _ _ _)
        have c2 : (wb.drewN nq).cell? ⟨w.heap.size, 1, none⟩ = some (.slice aa an ac) := by simpa using c1'
        have ex2 : (wb.drewN nq).cell? ⟨b, off + k, none⟩ = some (.int .i64 (v : Int)) := by simpa using ex'
        clear c1' ex' hB1 d1 d2 h1 h2
        generalize wb.drewN nq = wc at *
        have hq := cost_bd1 hN.out v
        obtain ⟨b', off', f, t, lo, c, q, rfl, hA, hb', e0, e1, e2, e3, e4⟩ := (he.below hB2).get hvs
        rw [hA] at hq
        simp only [] at hq
        have hAr := (arcOf_get (es := es) HX.out).trans hA
        have HS : Hid (circTo es l (k + 1) = circTo es l k + q) := by show circTo es l (k + 1) = _; simp only [circTo, hAr]
        have HU : Hid (unlAt es l k = (c == -1)) := by show unlAt es l k = _; simp only [unlAt, hAr]
        clear hA hAr
        generalize circTo es l k = S at *
        go_quiet (fail)
        go_wp2
        cases hcc : (c == -1) with
        | true =>
          have hcn : (c != -1) = false := by simpa using hcc
          go_quiet (fail)
          go_wp2
          refine ⟨⟨k + 1, by omega, by go_num, val_i HS.out.symm, HG.out, ?_, by simpa using c2, hB2.trans (Joins.below_draws _ _ _)⟩, by simp [intOf]; omega⟩
          intro j hj
          by_cases hjk : j = k
          · subst hjk; rw [HU.out]; exact hcc
          · exact hg2.out j (by omega)
        | false =>
          have hcn : (c != -1) = true := by simpa using hcc
          have HF : Hid (goodB es l = false) := by
            have : unlB es l = false := all_f (k := k) (by rw [hL.out.2]; exact hlt) (by rw [HU.out]; exact hcc)
            show goodB es l = false
            unfold goodB; rw [this]; simp
          go_quiet (fail)
          go_wp2
          go_ret
          exact ⟨ret_b HF.out.symm, (hB2.trans (Joins.below_draws _ _ _)).trans (Joins.below_draws _ _ _)⟩
    · have hkn : k = cn := by omega
      subst hkn
      have HO : Hid (onceB es.length l = true) := all_t (by rw [hL.out.2]; exact hg.out)
      have HU : Hid (unlB es l = true) := all_t (by rw [hL.out.2]; exact hg2.out)
      have HC : Hid (circTo es l l.length = circTo es l k) := by show circTo es l l.length = _; rw [hL.out.2]
      clear hg hg2
      generalize circTo es l k = S at *
      go_wp2
      go_loopw [8, 9] (fun i nx wr => ∃ m : Nat, m ≤ k ∧ i = .int .i64 m ∧ Hid (∀ j, j < m → nextAt es l j = true) ∧ wr.cell? ⟨w.heap.size, 1, none⟩ = some (.slice aa an ac) ∧ Below w.heap.size w wr) (fun i _ _ => k - (intOf i).toNat)
      case atStart => exact ⟨0, Nat.zero_le _, rfl, fun j hj => absurd hj (Nat.not_lt_zero j), c1, hbel⟩
      case round =>
        clear c1 hbel
        obtain ⟨m, hm, rfl, hg, c1, hbel⟩ := hrel
        by_cases hlt : m < k
        · have hri := once_out HO.out (i := m) (by rw [hL.out.2]; exact hlt)
          have hrj := once_out HO.out (i := (m + 1) % k) (by rw [hL.out.2]; exact Nat.mod_lt _ (by omega))
          rw [hL.out.1] at hri hrj
          obtain ⟨b, off, x, rfl, hX, hb, ex⟩ := (hc.below hbel).get hlt
          obtain ⟨b2, off2, y, e5, hY, hb2, ey⟩ := (hc.below hbel).get (k := (m + 1) % k) (Nat.mod_lt _ (by omega))
          obtain ⟨rfl, rfl⟩ : b = b2 ∧ off = off2 := by simpa using e5
          rw [hX] at hri
          rw [hY] at hrj
          obtain ⟨v, rfl⟩ := nat_of hri.1
          obtain ⟨u, rfl⟩ := nat_of hrj.1
          obtain ⟨b', off', f, t, lo, c, q, rfl, hA, hb', g0, g1, g2, g3, g4⟩ := (he.below hbel).get (show v < an by omega)
          obtain ⟨b3, off3, f2, t2, lo2, c2, q2, e6, hA2, hb3, i0, i1, i2, i3, i4⟩ := (he.below hbel).get (show u < an by omega)
          obtain ⟨rfl, rfl⟩ : b' = b3 ∧ off' = off3 := by simpa using e6
          have HP : Hid (nextAt es l m = (t == f2)) := by
            show nextAt es l m = (t == f2)
            simp only [nextAt, hL.out.2, (arcOf_get (es := es) hX).trans hA, (arcOf_get (es := es) hY).trans hA2]
          have hlt3 : (m : Int) < (k : Int) := by omega
          have hlt4 : (v : Int) < (an : Int) := by omega
          have hlt5 : (u : Int) < (an : Int) := by omega
          have hlt7 : (((m + 1) % k : Nat) : Int) < (k : Int) := by have := Nat.mod_lt (m + 1) (show k > 0 by omega); omega
          clear e5 e6 hX hY hA hA2 hri hrj
          have h8 : ((m : Int) + 1) % (k : Int) < (k : Int) := Int.emod_lt_of_pos _ (by omega)
          have h9 : 0 ≤ ((m : Int) + 1) % (k : Int) := Int.emod_nonneg _ (by omega)
          have h11 : ((k : Int) == 0) = false := by simp; omega
          cases hd : (t != f2) with
          | true =>
            have HF : Hid (goodB es l = false) := by
              have : nextB es l = false := all_f (k := m) (by rw [hL.out.2]; exact hlt) (by rw [HP.out]; simpa using hd)
              show goodB es l = false
              unfold goodB; rw [this]; simp
            go_wp2
            go_quiet (fail)
            go_wp2
            go_ret
            exact ⟨ret_b HF.out.symm, hbel.trans (Joins.below_draws _ _ _)⟩
          | false =>
            go_wp2
            go_quiet (fail)
            go_wp2
            refine ⟨⟨m + 1, by omega, by go_num, ?_, by simpa using c1, hbel.trans (Joins.below_draws _ _ _)⟩, by simp [intOf]; omega⟩
            intro j hj
            by_cases hjk : j = m
            · subst hjk; rw [HP.out]; simpa using hd
            · exact hg.out j (by omega)
        · have hkn : m = k := by omega
          subst hkn
          have HT : Hid (nextB es l = true) := all_t (by rw [hL.out.2]; exact hg.out)
          have HE : Hid (goodB es l = (decide (0 < m) && decide (S < 0))) := by
            show goodB es l = _
            unfold goodB; rw [HO.out, HU.out, HT.out, HC.out, hL.out.2]; simp
          by_cases h0 : 0 < m
          · have h12 : (0 : Int) < (m : Int) := by omega
            go_wp2
            go_ret
            exact ⟨ret_b (by rw [HE.out, decide_eq_true h0]; rfl), hbel⟩
          · have h12 : decide ((0 : Int) < (m : Int)) = false := decide_eq_false (by omega)
            have h13 : m = 0 := by omega
            go_wp2
            all_goals
              go_ret
              exact ⟨ret_b (by rw [HE.out, decide_eq_false h0]; rfl), hbel⟩
end Go.Proofs.Ytampcheafdlomaa
