import Derived.Test.YtnbccoflcoaoaaaGreatAllT
namespace Go.Proofs.YtnbccoflcoaoaaaGreat
open Go.RowKit Go.Deep
set_option linter.unusedSimpArgs false
set_option linter.unusedVariables false

/-! ### a region that draws its order, by an invariant of slots and world -/
def openN2 (n : Nat) (listed : Array Bool) : Nat := (List.range n).countP (fun i => !listed.getD i true)
theorem countP_lt {p q : Nat → Bool} : ∀ (l : List Nat) (i : Nat), i ∈ l → (∀ j ∈ l, q j = true → p j = true) → p i = true → q i = false → l.countP q < l.countP p
  | [], i, hi, _, _, _ => by cases hi
  | x :: l, i, hi, h, hp, hq => by
    have hle : l.countP q ≤ l.countP p := List.countP_mono_left (fun j hj hjq => h j (List.mem_cons_of_mem _ hj) hjq)
    rw [List.countP_cons, List.countP_cons]
    rcases List.mem_cons.1 hi with rfl | hi
    · simp [hp, hq]; omega
    · have ih := countP_lt l i hi (fun j hj => h j (List.mem_cons_of_mem _ hj)) hp hq
      have hx := h x (List.mem_cons_self ..)
      by_cases e : q x = true
      · simp [e, hx e]; omega
      · simp [e]; split <;> omega
theorem wpAny_inv {P : Program} {md : Region.Mode} {ops : Array Oper} {Q : Exit → Act → World → Prop} (I : Array Bool → Act → World → Prop)
    (hstep : ∀ listed a w i, I listed a w → i ∈ Region.ready md ops listed → wpOp P ops Q i (fun a' w' => I (listed.setIfInBounds i true) a' w') a w)
    (hend : ∀ listed a w, I listed a w → Region.ready md ops listed = [] → Q .normal a w) : ∀ (fuel : Nat) (listed : Array Bool) (a : Act) (w : World), openN2 ops.size listed ≤ fuel → I listed a w → wpAny P md ops Q fuel listed a w := by
  have hrd : ∀ {listed : Array Bool} {i : Nat}, i ∈ Region.ready md ops listed → i < ops.size ∧ listed.getD i true = false := by
    intro listed i hi
    simp only [Region.ready, List.mem_filter, List.mem_range, Bool.and_eq_true, Bool.not_eq_true'] at hi
    exact ⟨hi.1, hi.2.1⟩
  have hless : ∀ {listed : Array Bool} {i : Nat}, i ∈ Region.ready md ops listed → openN2 ops.size (listed.setIfInBounds i true) < openN2 ops.size listed := by
    intro listed i hi
    obtain ⟨h1, h2⟩ := hrd hi
    have hlt : i < listed.size := by
      rcases Nat.lt_or_ge i listed.size with h | h
      · exact h
      · simp [Array.getElem?_eq_none h] at h2
    refine countP_lt _ i (List.mem_range.2 h1) (fun j _ hj => ?_) (by simp only [h2]; rfl) (by simp [hlt])
    by_cases e : i = j
    · subst e; simp [hlt] at hj
    · simp only [Array.getD_eq_getD_getElem?, Array.getElem?_setIfInBounds_ne e] at hj ⊢; exact hj
  intro fuel
  induction fuel with
  | zero =>
    intro listed a w hn hI
    have hr : Region.ready md ops listed = [] := by
      cases hr : Region.ready md ops listed with
      | nil => rfl
      | cons x xs =>
        have := hless (listed := listed) (i := x) (by rw [hr]; exact List.mem_cons_self ..)
        omega
    exact ⟨hr, hend listed a w hI hr⟩
  | succ fuel ih =>
    intro listed a w hn hI
    refine ⟨fun hr => hend listed a w hI hr, fun i hi => ?_⟩
    have := hless hi
    exact wpOp_mono (fun a' w' h => ih _ a' w' (by omega) h) (hstep listed a w i hI hi)
theorem wp_region_inv {P : Program} {ops : Array Oper} {Q : Exit → Act → World → Prop} {id : Nat} {a : Act} {w : World} (hm : P.follows .mixedOrders = true) (I : Array Bool → Act → World → Prop)
    (h0 : I (Array.replicate ops.size false) a { w with drawn := w.drawn + 1 })
    (hstep : ∀ listed a w i, I listed a w → i ∈ Region.ready .any ops listed → wpOp P ops Q i (fun a' w' => I (listed.setIfInBounds i true) a' w') a w)
    (hend : ∀ listed a w, I listed a w → Region.ready .any ops listed = [] → Q .normal a w) : (Code.region id ops true).wp P Q a w :=
  wp_region_any hm (wpAny_inv I hstep hend _ _ _ _ (by
    unfold openN2
    refine Nat.le_trans (List.countP_le_length) ?_
    simp) h0)
end Go.Proofs.YtnbccoflcoaoaaaGreat
