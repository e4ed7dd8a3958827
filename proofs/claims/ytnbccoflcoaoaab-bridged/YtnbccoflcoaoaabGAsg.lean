import Derived.Test.YtnbccoflcoaoaabGTab
import Derived.Test.YtnbccoflcoaoaabGAcc
import Derived.Test.YtnbccoflcoaoaabGAca
namespace Go.Proofs.Ytnbccoflcoaoaab
open Go.RowKit Go.Deep
set_option linter.unusedSimpArgs false
set_option linter.unusedVariables false

theorem colCost_bd {t : List (List Int)} {l : List Int} (ht : tabB t = true) (hc : colsB t l = true) (k : Nat) (hk : k ≤ t.length) : -(50 * (k : Int)) ≤ colCost t l k ∧ colCost t l k ≤ 50 * (k : Int) := by
  obtain ⟨t1, t2, t3, t4⟩ := tab_out ht
  unfold colsB at hc
  simp only [Bool.and_eq_true, decide_eq_true_eq] at hc
  unfold colCost
  induction k with
  | zero => simp [sumTo]
  | succ k ih =>
    have h1 := ih (by omega)
    have h2 := of_all hc.2 k (by omega)
    simp only [colAt, Bool.and_eq_true, decide_eq_true_eq] at h2
    have h3 := t4 k (l.getD k 0).toNat (by omega) (by omega)
    simp only [sumTo]
    omega

end Go.Proofs.Ytnbccoflcoaoaab

namespace Go.Proofs.Ytnbccoflcoaoaab
open Go.RowKit Go.Deep
set_option linter.unusedSimpArgs false
set_option linter.unusedVariables false

/-- The box of a plan. -/
def planBox (p : P6) (ca : Option Addr) (cc : Nat) (ra : Option Addr) (rc : Nat) (wa : Option Addr) (wc : Nat) (sa : Option Addr) (sc : Nat) : Obj :=
  .cells #[.bool p.fits, .slice ca p.cols.length cc, .int .i64 p.cost, .slice ra p.rw.length rc, .slice wa p.cw.length wc, .slice sa p.short.length sc] 46

def openK (t : List (List Int)) (l : List Int) (j : Nat) (k : Nat) : Bool := (List.range k).any (fun i => decide (tAt t (l.getD i 0).toNat j ≠ -1))
theorem openK_succ (t : List (List Int)) (l : List Int) (j k : Nat) : openK t l j (k + 1) = (openK t l j k || decide (tAt t (l.getD k 0).toNat j ≠ -1)) := by
  simp [openK, List.range_succ]
theorem openN_bd (t : List (List Int)) (l : List Int) (k : Nat) : 0 ≤ openN t l k ∧ openN t l k ≤ k := by
  unfold openN
  induction k with
  | zero => simp [sumTo]
  | succ k ih => simp only [sumTo]; split <;> omega

end Go.Proofs.Ytnbccoflcoaoaab

namespace Go.Proofs.Ytnbccoflcoaoaab
open Go.RowKit Go.Deep
set_option linter.unusedSimpArgs false
set_option linter.unusedVariables false

end Go.Proofs.Ytnbccoflcoaoaab
