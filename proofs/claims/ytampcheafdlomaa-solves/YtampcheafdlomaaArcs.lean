import Derived.Test.YtampcheafdlomaaProg
import Derived.WalkKit
import Derived.WalkSpells
import Derived.WalkLawsBesides
namespace Go.Proofs.Ytampcheafdlomaa
open Go.RowKit
set_option linter.unusedSimpArgs false
set_option linter.unusedVariables false

/-- An arc as plain numbers. -/
structure A5 where
  fr : Int
  to : Int
  lo : Int
  cap : Int
  cost : Int

/-- An arc's value. -/
def A5.val (a : A5) : Value := .agg #[.int .i64 a.fr, .int .i64 a.to, .int .i64 a.lo, .int .i64 a.cap, .int .i64 a.cost]

/-- May it be an arc between n nodes? -/
def arcB (a : A5) (n : Int) : Bool :=
  decide (0 ≤ a.fr ∧ a.fr < n ∧ 0 ≤ a.to ∧ a.to < n ∧ 0 ≤ a.lo ∧ a.lo ≤ 60 ∧ (a.cap = -1 ∨ (a.lo ≤ a.cap ∧ a.cap ≤ 60)) ∧ -50 ≤ a.cost ∧ a.cost ≤ 50)

/-- Two answers are one if the Bools are. -/
theorem ret_b {x y : Bool} (h : x = y) : Ending.returned (.bool x) = .returned (.bool y) := by rw [h]

set_option maxHeartbeats 1000000 in
theorem refArcFits_any (f t l c k n : Int) (w : World) :
    Calls Try.prog 31 #[.agg #[.int .i64 f, .int .i64 t, .int .i64 l, .int .i64 c, .int .i64 k], .int .i64 n] w fun e w' => e = .returned (.bool (arcB ⟨f, t, l, c, k⟩ n)) ∧ Below w.heap.size w w' := by
  go_enter Try.func31, Try.ntmps31
  go_wp2
  all_goals
    go_ret
    refine ⟨ret_b ?_, (Below.refl _ _).alloc (Nat.le_refl _) _⟩
    rw [Bool.eq_iff_iff]
    simp only [arcB, decide_eq_true_eq, Bool.false_eq_true, bne_iff_ne, ne_eq, beq_iff_eq, bne_eq_false_iff_eq, true_or, true_and, Bool.not_eq_true, Bool.not_eq_false, Bool.not_true, Bool.not_false, beq_eq_false_iff_ne, Bool.and_eq_true, Bool.or_eq_true, Bool.or_eq_false_iff, Bool.and_eq_false_iff, decide_eq_false_iff_not, Bool.not_eq_eq_eq_not] at *
    refine ⟨fun h => ?_, fun h => ?_⟩ <;> first | exact h.elim | omega

theorem gUnlimited_any (f t l c k : Int) (w : World) :
    Calls Try.prog 61 #[.agg #[.int .i64 f, .int .i64 t, .int .i64 l, .int .i64 c, .int .i64 k]] w fun e w' => e = .returned (.bool (c == -1)) ∧ Below w.heap.size w w' := by
  go_enter Try.func61, Try.ntmps61
  go_wp2
  go_ret
  exact ⟨rfl, (Below.refl _ _).alloc (Nat.le_refl _) _⟩

set_option maxHeartbeats 1000000 in
theorem gArcMayBe_any (f t l c k n : Int) (w : World) :
    Calls Try.prog 40 #[.agg #[.int .i64 f, .int .i64 t, .int .i64 l, .int .i64 c, .int .i64 k], .int .i64 n] w fun e w' => e = .returned (.bool (arcB ⟨f, t, l, c, k⟩ n)) ∧ Below w.heap.size w w' := by
  go_enter Try.func40, Try.ntmps40
  go_wp2
  all_goals
    go_ret
    refine ⟨ret_b ?_, ?_⟩
    · rw [Bool.eq_iff_iff]
      simp only [arcB, decide_eq_true_eq, Bool.false_eq_true, bne_iff_ne, ne_eq, beq_iff_eq, bne_eq_false_iff_eq, true_or, true_and, Bool.not_eq_true, Bool.not_eq_false, Bool.not_true, Bool.not_false, beq_eq_false_iff_ne, Bool.and_eq_true, Bool.or_eq_true, Bool.or_eq_false_iff, Bool.and_eq_false_iff, decide_eq_false_iff_not, Bool.not_eq_eq_eq_not] at *
      refine ⟨fun h => ?_, fun h => ?_⟩ <;> first | exact h.elim | omega
    · first
      | exact (Below.refl _ _).alloc (Nat.le_refl _) _
      | exact ((Below.refl _ _).alloc (Nat.le_refl _) _).alloc (by simp) _
end Go.Proofs.Ytampcheafdlomaa
