import Derived.Test.YtampcheafdlomaaAccF
namespace Go.Proofs.Ytampcheafdlomaa
open Go.RowKit Go.Deep
set_option linter.unusedSimpArgs false
set_option linter.unusedVariables false

theorem onceAt_eq {m : Nat} {l : List Int} {k : Nat} {x : Int} (hX : l.getD k 0 = x) : onceAt m l k = (decide (0 ≤ x ∧ x < m) && !inB (l.take k) x) := by
  simp only [onceAt, hX]

set_option maxHeartbeats 1000000 in
theorem gNamesArcsOnce_any (ca : Option Addr) (cn cc m : Nat) (l : List Int) (w : World) (hc : Ints w ca cn l) (hm : m ≤ 24) :
    Calls Try.prog 86 #[.int .i64 m, .slice ca cn cc] w fun e w' => e = .returned (.bool (onceB m l)) ∧ Below w.heap.size w w' := by
  have hL : Hid (l.length = cn) := hc.len
  have hsm := hc.small
  have hmk := run_make_row' (P := Try.prog) 75 4 (.bool false) 1 Try.underlying75 infoBool rfl .i64 .i64 m (by omega) (by omega)
  go_enter Try.func86, Try.ntmps86
  go_wp2
  go_loopw [12] (fun i wr => ∃ k : Nat, k ≤ cn ∧ i = .int .i64 k ∧ Hid (wr.rowIs w.heap.size 4 m (fun i => .bool (inB (l.take k) i))) ∧ Hid (∀ j, j < k → onceAt m l j = true) ∧ Below w.heap.size w wr) (fun i _ => cn - (intOf i).toNat)
  case atStart => exact ⟨0, Nat.zero_le _, rfl, World.rowIs_made _ _ _ _, fun j hj => absurd hj (Nat.not_lt_zero j), (Below.refl _ _).alloc (Nat.le_refl _) _⟩
  case round =>
    clear hmk
    obtain ⟨k, hk, rfl, hrow, hg, hbel⟩ := hrel
    by_cases hlt : k < cn
    · obtain ⟨b, off, x, rfl, hX, hb, ex⟩ := (hc.below hbel).get hlt
      have hO := onceAt_eq (m := m) hX
      have HX := hide hX
      have bad : (decide (0 ≤ x ∧ x < (m : Int)) && !inB (l.take k) x) = false → Hid (onceB m l = false) := fun h => all_f (k := k) (by rw [hL.out]; exact hlt) (by rw [hO]; exact h)
      have good : (decide (0 ≤ x ∧ x < (m : Int)) && !inB (l.take k) x) = true → Hid (∀ j, j < k + 1 → onceAt m l j = true) := by
        intro h j hj
        by_cases hjk : j = k
        · subst hjk; rw [hO]; exact h
        · exact hg.out j (by omega)
      clear hX hO
      have hlt3 : (k : Int) < (cn : Int) := by omega
      by_cases hr : 0 ≤ x ∧ x < (m : Int)
      · obtain ⟨h1, h2⟩ := hr
        obtain ⟨v, rfl⟩ := nat_of h1
        have hvm : v < m := by omega
        have cv := hrow.out.cell hvm
        have fv := hrow.out.frozen v
        cases hin : inB (l.take k) (v : Int) with
        | true =>
          rw [hin] at cv bad
          have HB := bad (by simp)
          clear bad good
          go_wp2
          all_goals first
            | (go_ret
               exact ⟨ret_b HB.out.symm, hbel⟩)
            | (exfalso; omega)
        | false =>
          rw [hin] at cv good
          have HG := good (by simp; omega)
          clear bad good hin
          go_wp2
          refine ⟨⟨k + 1, by omega, by go_num, ?_, HG.out, hbel.setCell (Nat.le_refl _) _⟩, by simp [intOf]; omega⟩
          refine (hrow.out.set v (.bool true)).congr ?_
          intro i hi
          rw [inB_take_succ (by rw [hL.out]; exact hlt), HX.out]
          by_cases hiv : i = v
          · subst hiv; simp
          · simp [hiv]; omega
      · have HB := bad (by rw [decide_eq_false hr]; rfl)
        clear bad good
        go_wp2
        all_goals first
          | (go_ret
             exact ⟨ret_b HB.out.symm, hbel⟩)
          | (exfalso; omega)
    · have hkn : k = cn := by omega
      subst hkn
      go_wp2
      go_ret
      exact ⟨ret_b (all_t (by rw [hL.out]; exact hg.out)).symm, hbel⟩

theorem once_out {m : Nat} {l : List Int} (h : onceB m l = true) {i : Nat} (hi : i < l.length) : 0 ≤ l.getD i 0 ∧ l.getD i 0 < m := by
  have := of_all h i hi
  simp only [onceAt, Bool.and_eq_true, decide_eq_true_eq] at this
  exact this.1

/-- The place ahead, round. -/
def prv (n i : Nat) : Nat := if i = 0 then n - 1 else i - 1
def prevAt (es : List A5) (l : List Int) (i : Nat) : Bool := (arcOf es l i).fr == (arcOf es l (prv l.length i)).to
def prevB (es : List A5) (l : List Int) : Bool := (List.range l.length).all (prevAt es l)
theorem next_prev (es : List A5) (l : List Int) : nextB es l = prevB es l := by
  have h1 : nextB es l = true → prevB es l = true := by
    intro h
    refine all_t (fun i hi => ?_)
    have := of_all h (prv l.length i) (by unfold prv; split <;> omega)
    simp only [nextAt] at this
    rw [show (prv l.length i + 1) % l.length = i from by
      unfold prv
      split
      · rename_i h0; subst h0; rw [show l.length - 1 + 1 = l.length from by omega]; exact Nat.mod_self _
      · rw [show i - 1 + 1 = i from by omega]; exact Nat.mod_eq_of_lt hi] at this
    simp only [prevAt]
    simp at this ⊢
    exact this.symm
  have h2 : prevB es l = true → nextB es l = true := by
    intro h
    refine all_t (fun i hi => ?_)
    have := of_all h ((i + 1) % l.length) (Nat.mod_lt _ (by omega))
    simp only [prevAt] at this
    rw [show prv l.length ((i + 1) % l.length) = i from by
      by_cases h0 : i + 1 = l.length
      · rw [h0, Nat.mod_self]; unfold prv; simp; omega
      · rw [Nat.mod_eq_of_lt (by omega)]; unfold prv; simp] at this
    simp only [nextAt]
    simp at this ⊢
    exact this.symm
  cases h3 : nextB es l <;> cases h4 : prevB es l <;> simp_all

/-- An arc by the number that a list names. -/
theorem arcOf_get {es : List A5} {l : List Int} {k v : Nat} (h : l.getD k 0 = (v : Int)) : arcOf es l k = es.getD v zA := by
  unfold arcOf; rw [h]; rfl

set_option maxHeartbeats 1000000 in
theorem gGood_any (sa aa ca : Option Addr) (sn sc an ac cn cc : Nat) (xs : List Int) (es : List A5) (l : List Int) (w : World) (he : Arcs w aa an es) (hc : Ints w ca cn l) (hn : NetOK xs es) (ho : onceB es.length l = true) :
    Calls Try.prog 69 #[.agg #[.slice sa sn sc, .slice aa an ac], .slice ca cn cc] w fun e w' => e = .returned (.bool (unlB es l && decide (circTo es l l.length < 0))) ∧ Below w.heap.size w w' := by
  have hL : Hid (es.length = an ∧ l.length = cn) := ⟨he.len, hc.len⟩
  have hN := hide hn
  have hO := hide ho
  have hsm := hc.small
  have h24 : an ≤ 24 := by rw [← he.len]; exact hn.arcs
  clear hn ho
  go_enter Try.func69, Try.ntmps69
  go_wp2
  go_loopw [5, 11] (fun s i wr => ∃ k : Nat, k ≤ cn ∧ i = .int .i64 k ∧ s = .int .i64 (circTo es l k) ∧ Hid (∀ j, j < k → unlAt es l j = true) ∧ wr.cell? ⟨w.heap.size, 1, none⟩ = some (.slice aa an ac) ∧ Below w.heap.size w wr ∧ w.heap.size < wr.heap.size) (fun _ i _ => cn - (intOf i).toNat)
  case atStart => exact ⟨0, Nat.zero_le _, rfl, rfl, fun j hj => absurd hj (Nat.not_lt_zero j), by simp, (Below.refl _ _).alloc (Nat.le_refl _) _, by simp⟩
  case round =>
    obtain ⟨k, hk, rfl, rfl, hg, c1, hbel, hsize⟩ := hrel
    have bd := circ_bd hN.out l k
    by_cases hlt : k < cn
    · have hri := once_out hO.out (i := k) (by rw [hL.out.2]; exact hlt)
      rw [hL.out.1] at hri
      obtain ⟨b, off, x, rfl, hX, hb, ex⟩ := (hc.below hbel).get hlt
      rw [hX] at hri
      obtain ⟨v, rfl⟩ := nat_of hri.1
      have hvs : v < an := by omega
      have hq := cost_bd1 hN.out v
      obtain ⟨b', off', f, t, lo, c, q, rfl, hA, hb', e0, e1, e2, e3, e4⟩ := (he.below hbel).get hvs
      rw [hA] at hq
      simp only [] at hq
      have hAr := (arcOf_get (es := es) hX).trans hA
      have HS : Hid (circTo es l (k + 1) = circTo es l k + q) := by show circTo es l (k + 1) = _; simp only [circTo, hAr]
      have HU : Hid (unlAt es l k = (c == -1)) := by show unlAt es l k = _; simp only [unlAt, hAr]
      clear hX hA hAr hri
      generalize circTo es l k = S at *
      have hlt3 : (k : Int) < (cn : Int) := by omega
      have hlt4 : (v : Int) < (an : Int) := by omega
      go_wp2_with fail
      refine (gUnlimited_any f t lo c q _).mono ?_
      rintro e w1 ⟨rfl, hb1⟩
      have c1' := (hb1.cell (p := ⟨w.heap.size, 1, none⟩) (by simp; omega)).trans ((World.cell?_alloc_lt _ _ _ hsize).trans c1)
      have hB1 : Below w.heap.size w w1 := (hbel.alloc hbel.size _).trans (hb1.mono (by simp; omega))
      have hs1 : w.heap.size < w1.heap.size := by have := hb1.size; simp at this; omega
      have n4 : w1.cell? ⟨wr.heap.size, 4, none⟩ = some (.int .i64 q) := (hb1.cell (by simp)).trans (by simp)
      clear hb1 c1 e0 e1 e2 e3 e4 ex
      cases hcc : (c == -1) with
      | true =>
        go_wp2
        refine ⟨⟨k + 1, by omega, by go_num, val_i HS.out.symm, ?_, c1', hB1, hs1⟩, by simp [intOf]; omega⟩
        intro j hj
        by_cases hjk : j = k
        · subst hjk; rw [HU.out]; exact hcc
        · exact hg.out j (by omega)
      | false =>
        have HF : Hid (unlB es l = false) := all_f (k := k) (by rw [hL.out.2]; exact hlt) (by rw [HU.out]; exact hcc)
        go_wp2
        go_ret
        exact ⟨ret_b (by rw [HF.out]; rfl), hB1⟩
    · have hkn : k = cn := by omega
      subst hkn
      have HT : Hid (unlB es l = true) := all_t (by rw [hL.out.2]; exact hg.out)
      go_wp2
      go_ret
      exact ⟨ret_b (by rw [HT.out, hL.out.2]; rfl), hbel⟩
end Go.Proofs.Ytampcheafdlomaa
