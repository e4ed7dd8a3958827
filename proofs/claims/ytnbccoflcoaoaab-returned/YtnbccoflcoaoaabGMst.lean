import Derived.Test.YtnbccoflcoaoaabGSol
import Derived.Test.YtnbccoflcoaoaabGDuo
import Derived.Test.YtnbccoflcoaoaabGAca
import Derived.Test.YtnbccoflcoaoaabGBas
import Derived.Test.YtnbccoflcoaoaabGFlo
namespace Go.Proofs.Ytnbccoflcoaoaab
open Go.RowKit Go.Deep
set_option linter.unusedSimpArgs false
set_option linter.unusedVariables false

/-! ### what Most may answer -/
def argB (n f t : Int) : Bool := decide (0 ≤ f ∧ f < n ∧ 0 ≤ t ∧ t < n ∧ f ≠ t)
def zeroB (xs : List Int) : Bool := (List.range xs.length).all fun i => decide (xs.getD i 0 = 0)
def pipeAt (a : A5) : Bool := decide (a.lo = 0 ∧ a.cost = 0 ∧ a.cap ≠ -1)
def pipeB (es : List A5) : Bool := (List.range es.length).all fun i => pipeAt (es.getD i zA)
def mostErr (xs : List Int) (es : List A5) (f t : Int) : Int :=
  if (checkS xs es).1 ≠ 0 then (checkS xs es).1 else if argB xs.length f t = false then 7 else if zeroB xs = false then 8 else if pipeB es = false then 8 else 0
/-- How much goes at node k. -/
def mostAt (es : List A5) (fl : List Int) (f t much : Int) (k : Nat) : Bool := decide (((k : Int) = f → netTo es fl (k : Int) es.length = much) ∧ ((k : Int) ≠ f → (k : Int) ≠ t → netTo es fl (k : Int) es.length = 0))
def MostAns (xs : List Int) (es : List A5) (f t : Int) (much : Int) (fl cu : List Int) (err : Int) : Prop :=
  (mostErr xs es f t ≠ 0 ∧ err = mostErr xs es f t ∧ much = 0 ∧ fl = [] ∧ cu = []) ∨
  (mostErr xs es f t = 0 ∧ err = 0 ∧ fl.length = es.length ∧ boundedB es fl = true ∧ risB cu xs.length = true ∧ (∀ k, k < xs.length → mostAt es fl f t much k = true) ∧ inB cu f = true ∧ inB cu t = false ∧ capsTo es cu false es.length = much)

/-- MOST's CONTRACT. -/
def MostC : Prop := ∀ (sa aa : Option Addr) (sn sc an ac : Nat) (f t : Int) (xs : List Int) (es : List A5) (w : World), Ints w sa sn xs → Arcs w aa an es → (-9223372036854775808 ≤ f ∧ f ≤ 9223372036854775807) → (-9223372036854775808 ≤ t ∧ t ≤ 9223372036854775807) →
  Calls Try.prog 13 #[.agg #[.slice sa sn sc, .slice aa an ac], .int .i64 f, .int .i64 t] w fun e w' => ∃ much fv cv fl cu err, e = .returned (.tuple #[.int .i64 much, fv, cv, .int .i64 err]) ∧ OwnL w' w.heap.size fv fl ∧ OwnL w' w.heap.size cv cu ∧ MostAns xs es f t much fl cu err ∧ Below w.heap.size w w'

theorem mostErr_ok {xs : List Int} {es : List A5} {f t : Int} (h : mostErr xs es f t = 0) : NetOK xs es ∧ argB xs.length f t = true ∧ zeroB xs = true ∧ pipeB es = true := by
  unfold mostErr at h
  split at h
  · omega
  · rename_i h0
    split at h
    · omega
    · split at h
      · omega
      · split at h
        · omega
        · rename_i h1 h2 h3
          exact ⟨netOK_of (by omega), by simpa using h1, by simpa using h2, by simpa using h3⟩
theorem MostAns.wf {xs : List Int} {es : List A5} {f t much : Int} {fl cu : List Int} {err : Int} (h : MostAns xs es f t much fl cu err) : (fl.length ≤ 24 ∧ ∀ x ∈ fl, -9223372036854775808 ≤ x ∧ x ≤ 9223372036854775807) ∧ (cu.length ≤ 1000 ∧ ∀ x ∈ cu, -9223372036854775808 ≤ x ∧ x ≤ 9223372036854775807) := by
  rcases h with ⟨_, _, _, rfl, rfl⟩ | ⟨h0, _, h1, h2, h3, _⟩
  · exact ⟨⟨by simp, fun x hx => by simp at hx⟩, by simp, fun x hx => by simp at hx⟩
  · have hn := (mostErr_ok h0).1
    refine ⟨⟨by rw [h1]; exact hn.arcs, fun x hx => ?_⟩, ?_, fun x hx => ?_⟩
    · obtain ⟨i, hi, rfl⟩ := mem_of_getD 0 fl x hx
      have := hn.mild h2 i (by omega)
      omega
    · by_cases hc : cu.length = 0
      · omega
      · have hr : ∀ i : Nat, i < cu.length → (i : Int) ≤ cu.getD i 0 := by
          intro i
          induction i with
          | zero => intro hi; have := of_decide_eq_true (of_all h3 0 hi); omega
          | succ i ih =>
            intro hi
            have := ih (by omega)
            have := ris_lt h3 (show i < i + 1 by omega) hi
            omega
        have h6 := hr (cu.length - 1) (by omega)
        have h7 := of_decide_eq_true (of_all h3 (cu.length - 1) (by omega))
        have := hn.ten
        omega
    · obtain ⟨i, hi, rfl⟩ := mem_of_getD 0 cu x hx
      have h7 := of_decide_eq_true (of_all h3 i hi)
      have := hn.ten
      omega
theorem mostErr_check {xs : List Int} {es : List A5} {f t : Int} (h : (checkS xs es).1 ≠ 0) : mostErr xs es f t = (checkS xs es).1 := by unfold mostErr; rw [if_pos h]
theorem mostErr_arg {xs : List Int} {es : List A5} {f t : Int} (hn : NetOK xs es) (h : argB xs.length f t = false) : mostErr xs es f t = 7 := by unfold mostErr; rw [hn.zero, if_neg (by simp), if_pos h]
theorem mostErr_sup {xs : List Int} {es : List A5} {f t : Int} (hn : NetOK xs es) (h : argB xs.length f t = true) (h2 : zeroB xs = false) : mostErr xs es f t = 8 := by unfold mostErr; rw [hn.zero, if_neg (by simp), if_neg (by rw [h]; simp), if_pos h2]
theorem mostErr_arc {xs : List Int} {es : List A5} {f t : Int} (hn : NetOK xs es) (h : argB xs.length f t = true) (h2 : zeroB xs = true) (h3 : pipeB es = false) : mostErr xs es f t = 8 := by unfold mostErr; rw [hn.zero, if_neg (by simp), if_neg (by rw [h]; simp), if_neg (by rw [h2]; simp), if_pos h3]
theorem mostErr_fine {xs : List Int} {es : List A5} {f t : Int} (hn : NetOK xs es) (h : argB xs.length f t = true) (h2 : zeroB xs = true) (h3 : pipeB es = true) : mostErr xs es f t = 0 := by unfold mostErr; rw [hn.zero, if_neg (by simp), if_neg (by rw [h]; simp), if_neg (by rw [h2]; simp), if_neg (by rw [h3]; simp)]
end Go.Proofs.Ytnbccoflcoaoaab

namespace Go.Proofs.Ytnbccoflcoaoaab
open Go.RowKit Go.Deep
set_option linter.unusedSimpArgs false
set_option linter.unusedVariables false

theorem ret_n {x y : Int} (h : x = y) : Ending.returned (.int .i64 x) = .returned (.int .i64 y) := by rw [h]

end Go.Proofs.Ytnbccoflcoaoaab

namespace Go.Proofs.Ytnbccoflcoaoaab
open Go.RowKit Go.Deep
set_option linter.unusedSimpArgs false
set_option linter.unusedVariables false

end Go.Proofs.Ytnbccoflcoaoaab
