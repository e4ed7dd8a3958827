import Derived.Test.YtampcheafdlomaaFlow
namespace Go.Proofs.Ytampcheafdlomaa
open Go.RowKit
set_option linter.unusedSimpArgs false
set_option linter.unusedVariables false

theorem boundB_f {f t l c q x : Int} (h : x < l ∨ 1000000 < x ∨ (¬ c = -1 ∧ c < x)) : boundB ⟨f, t, l, c, q⟩ x = false := decide_eq_false (by simp only []; omega)
theorem boundB_t {f t l c q x : Int} (h : l ≤ x ∧ x ≤ 1000000 ∧ (c = -1 ∨ x ≤ c)) : boundB ⟨f, t, l, c, q⟩ x = true := decide_eq_true h

set_option maxHeartbeats 400000 in
theorem gWithinBounds_any (f t l c k x : Int) (w : World) :
    Calls Try.prog 62 #[.agg #[.int .i64 f, .int .i64 t, .int .i64 l, .int .i64 c, .int .i64 k], .int .i64 x] w fun e w' => e = .returned (.bool (boundB ⟨f, t, l, c, k⟩ x)) ∧ Below w.heap.size w w' := by
  go_enter Try.func62, Try.ntmps62
  go_wp2
  all_goals
    go_ret
    refine ⟨ret_b ?_, ?_⟩
    · rw [Bool.eq_iff_iff]
      simp only [boundB, decide_eq_true_eq, Bool.false_eq_true, bne_iff_ne, ne_eq, beq_iff_eq, bne_eq_false_iff_eq, true_or, true_and, and_true, Bool.not_eq_true, Bool.not_eq_false, Bool.not_true, Bool.not_false, beq_eq_false_iff_ne, Bool.and_eq_true, Bool.or_eq_true, Bool.or_eq_false_iff, Bool.and_eq_false_iff, decide_eq_false_iff_not, Bool.not_eq_eq_eq_not] at *
      refine ⟨fun h => ?_, fun h => ?_⟩ <;> first | exact h.elim | omega | trivial | (simp at *; omega)
    · first
      | exact (Below.refl _ _).alloc (Nat.le_refl _) _
      | exact ((Below.refl _ _).alloc (Nat.le_refl _) _).alloc (by simp) _

set_option maxHeartbeats 1000000 in
theorem refBounded_any (sa aa fa : Option Addr) (sn sc an ac fc : Nat) (es : List A5) (fl : List Int) (w : World) (he : Arcs w aa an es) (hf : Ints w fa an fl) (h24 : an ≤ 24) :
    Calls Try.prog 43 #[.agg #[.slice sa sn sc, .slice aa an ac], .slice fa an fc] w fun e w' => e = .returned (.bool (boundedB es fl)) ∧ Below w.heap.size w w' := by
  have hL : Hid (es.length = an) := he.len
  go_enter Try.func43, Try.ntmps43
  go_wp2
  go_loopw [5] (fun i wr => ∃ k : Nat, k ≤ an ∧ i = .int .i64 k ∧ Hid (∀ j, j < k → boundB (es.getD j zA) (fl.getD j 0) = true) ∧ wr.cell? ⟨w.heap.size, 1, none⟩ = some (.slice aa an ac) ∧ Below w.heap.size w wr ∧ w.heap.size < wr.heap.size) (fun i _ => an - (intOf i).toNat)
  case atStart => exact ⟨0, Nat.zero_le _, rfl, fun j hj => absurd hj (Nat.not_lt_zero j), by simp, (Below.refl _ _).alloc (Nat.le_refl _) _, by simp⟩
  case round =>
    obtain ⟨k, hk, rfl, hg, c1, hbel, hsize⟩ := hrel
    by_cases hlt : k < an
    · obtain ⟨b, off, f, t, l, c, q, rfl, hA, hb, e0, e1, e2, e3, e4⟩ := (he.below hbel).get hlt
      obtain ⟨b', off', x, rfl, hX, hb', ex⟩ := (hf.below hbel).get hlt
      have HA := hide hA
      have HX := hide hX
      clear hA hX
      have hlt3 : (k : Int) < (an : Int) := by omega
      have hs2 : w.heap.size < wr.heap.size + 1 := by omega
      go_wp2
      all_goals first
        | (go_ret
           try simp only [bne_iff_ne, bne_eq_false_iff_eq, ne_eq] at *
           exact ⟨ret_b (all_f (k := k) (by rw [hL.out]; exact hlt) (by rw [HA.out, HX.out]; exact boundB_f (by omega))).symm, hbel.alloc hbel.size _⟩)
        | (refine ⟨⟨k + 1, by omega, by go_num, ?_, (World.cell?_alloc_lt _ _ _ hsize).trans c1, hbel.alloc hbel.size _, by simp; omega⟩, by simp [intOf]; omega⟩
           try simp only [bne_iff_ne, bne_eq_false_iff_eq, ne_eq] at *
           intro j hj
           by_cases hjk : j = k
           · subst hjk; rw [HA.out, HX.out]; exact boundB_t (by omega)
           · exact hg.out j (by omega))
    · have hkn : k = an := by omega
      subst hkn
      go_wp2
      go_ret
      exact ⟨ret_b (all_t (by rw [hL.out]; exact hg.out)).symm, hbel⟩
end Go.Proofs.Ytampcheafdlomaa
