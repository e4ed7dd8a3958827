import Derived.Test.YtnbccoflcoaoaaaGreatAllT
import Derived.Test.YtnbccoflcoaoaaaGreatGAss
namespace Go.Proofs.YtnbccoflcoaoaaaGreat
open Go.RowKit Go.Deep
set_option linter.unusedSimpArgs false
set_option linter.unusedVariables false

/-! ### what Assign tells -/
theorem colCost_bdV {t : List (List Int)} (ht : tabB t = true) {l : List Int} (hl : colsB t l = true) (k : Nat) (hk : k ≤ l.length) : -(k : Int) ≤ colCost t l k ∧ colCost t l k ≤ 50 * (k : Int) := by
  unfold colsB at hl
  simp only [Bool.and_eq_true, decide_eq_true_eq] at hl
  induction k with
  | zero => simp [colCost, sumTo]
  | succ k ih =>
    have i1 := ih (by omega)
    have h1 := of_all hl.2 k (by omega)
    unfold colAt at h1
    simp only [Bool.and_eq_true, decide_eq_true_eq] at h1
    have h2 := (tab_out ht).2.2.2 k (l.getD k 0).toNat (by omega) (by omega)
    have e : colCost t l (k + 1) = colCost t l k + tAt t k (l.getD k 0).toNat := rfl
    rw [e]
    omega
theorem plan_two {t : List (List Int)} {p : P6} {e : Int} (h : planS t p e = true) : (0 ≤ e ∧ e ≤ 9) ∧ -1000 ≤ p.cost ∧ p.cost ≤ 1000 := by
  unfold planS at h
  split at h
  · unfold emptyB at h
    simp only [Bool.and_eq_true, decide_eq_true_eq] at h
    omega
  · rename_i htb
    split at h
    · cases h
    · split at h
      · unfold emptyB at h
        simp only [Bool.and_eq_true, decide_eq_true_eq] at h
        omega
      · simp only [Bool.and_eq_true, decide_eq_true_eq] at h
        have ht : tabB t = true := by cases hb : tabB t <;> simp_all
        have h1 := colCost_bdV ht h.1.1.1 p.cols.length (Nat.le_refl _)
        have h2 := (tab_out ht).2.1
        have h3 := h.1.1.1
        unfold colsB at h3
        simp only [Bool.and_eq_true, decide_eq_true_eq] at h3
        have h4 := h.1.1.2
        omega
def saidP (p : P6) (err : Int) : List Int := (((([p.cost, err] ++ (p.cols.length : Int) :: p.cols) ++ (p.rw.length : Int) :: p.rw) ++ (p.cw.length : Int) :: p.cw) ++ (p.short.length : Int) :: p.short)
def SaidAssign (t : List (List Int)) (s : List Int) : Prop := ∃ p err, AssignRel t p err ∧ s = saidP p err
theorem SaidAssign.same {t : List (List Int)} {s r : List Int} (h : SaidAssign t s) (k : SaidAssign t r) : s = r := by
  obtain ⟨a, e, h1, h2⟩ := h
  obtain ⟨a', e', k1, k2⟩ := k
  obtain ⟨e1, e2⟩ := h1.same k1
  subst e1; subst e2
  rw [h2, k2]
theorem saidP_small {t : List (List Int)} {p : P6} {e : Int} (h : planS t p e = true) : (saidP p e).length ≤ 1000 ∧ ∀ x ∈ saidP p e, -9223372036854775808 ≤ x ∧ x ≤ 9223372036854775807 := by
  obtain ⟨s1, s2, s3, s4⟩ := plan_small h
  have h2 := plan_two h
  have l1 := s1.1
  have l2 := s2.1
  have l3 := s3.1
  have l4 := s4.1
  refine ⟨by simp [saidP]; omega, fun x hx => ?_⟩
  simp only [saidP, List.mem_append, List.mem_cons, List.not_mem_nil, or_false] at hx
  rcases hx with ((((rfl | rfl) | rfl | hx) | rfl | hx) | rfl | hx) | rfl | hx
  · omega
  · omega
  · omega
  · have := s1.2 x hx; omega
  · omega
  · have := s2.2 x hx; omega
  · omega
  · have := s3.2 x hx; omega
  · omega
  · have := s4.2 x hx; omega
end Go.Proofs.YtnbccoflcoaoaaaGreat
