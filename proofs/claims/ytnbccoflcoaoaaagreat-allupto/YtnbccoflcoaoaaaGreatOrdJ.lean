import Derived.Test.YtnbccoflcoaoaaaGreatOrdI
namespace Go.Proofs.YtnbccoflcoaoaaaGreat
open Go.RowKit Go.Deep
set_option linter.unusedSimpArgs false
set_option linter.unusedVariables false

/-! ### the same, with the set of the operations that have been -/
def depsOf (md : Region.Mode) (ops : Array Oper) (i : Nat) : List Nat := ((ops[i]?).map (fun o => (o.after.toList.filter (Region.binds md)).map (·.on))).getD []
def backB (md : Region.Mode) (ops : Array Oper) : Bool := (List.range ops.size).all fun i => (depsOf md ops i).all fun e => decide (e < i)
theorem deps_all {md : Region.Mode} {ops : Array Oper} {listed : Array Bool} {i : Nat} {o : Oper} (ho : ops[i]? = some o) :
    (o.after.all fun e => !Region.binds md e || listed.getD e.on false) = true ↔ ∀ e ∈ depsOf md ops i, listed.getD e false = true := by
  unfold depsOf
  rw [ho, ← Array.all_toList, List.all_eq_true]
  simp only [Option.map_some, Option.getD_some, List.mem_map, List.mem_filter, Bool.or_eq_true, Bool.not_eq_true']
  constructor
  · rintro h e ⟨x, ⟨h1, h2⟩, rfl⟩
    rcases h x h1 with h3 | h3
    · rw [h2] at h3; cases h3
    · exact h3
  · intro h x hx
    by_cases hb : Region.binds md x = true
    · exact .inr (h x.on ⟨x, ⟨hx, hb⟩, rfl⟩)
    · exact .inl (by simpa using hb)
theorem wp_region_set {P : Program} {ops : Array Oper} {Q : Exit → Act → World → Prop} {id : Nat} {a : Act} {w : World} (hm : P.follows .mixedOrders = true) (hback : backB .any ops = true) (I : (Nat → Prop) → Act → World → Prop)
    (h0 : I (fun _ => False) a w.drew)
    (hstep : ∀ L a w i, I L a w → (∀ j, L j → ∀ e ∈ depsOf .any ops j, L e) → i < ops.size → ¬ L i → (∀ e ∈ depsOf .any ops i, L e) → wpOp P ops Q i (fun a' w' => I (fun j => L j ∨ j = i) a' w') a w)
    (hend : ∀ L a w, I L a w → (∀ j, j < ops.size → L j) → Q .normal a w) : (Code.region id ops true).wp P Q a w := by
  refine wp_region_inv hm (fun listed a w => listed.size = ops.size ∧ (∀ j, listed.getD j false = true → ∀ e ∈ depsOf .any ops j, listed.getD e false = true) ∧ I (fun j => listed.getD j false = true) a w) ?_ ?_ ?_
  · refine ⟨by simp, fun j hj => ?_, ?_⟩
    · exfalso
      simp only [Array.getD_eq_getD_getElem?, Array.getElem?_replicate] at hj
      split at hj <;> simp at hj
    · have : (fun j => (Array.replicate ops.size false).getD j false = true) = (fun _ => False) := by
        funext j
        refine propext ⟨fun hj => ?_, False.elim⟩
        simp only [Array.getD_eq_getD_getElem?, Array.getElem?_replicate] at hj
        split at hj <;> simp at hj
      rw [this]
      exact h0
  · rintro listed a w i ⟨hsz, hcl, hI⟩ hi
    simp only [Region.ready, List.mem_filter, List.mem_range, Bool.and_eq_true, Bool.not_eq_true'] at hi
    obtain ⟨hi1, hi2, hi3⟩ := hi
    have hil : i < listed.size := by omega
    have hnot : listed.getD i false = false := by
      simpa [Array.getD_eq_getD_getElem?, Array.getElem?_eq_getElem hil] using hi2
    have hdep : ∀ e ∈ depsOf .any ops i, listed.getD e false = true := by
      rw [Array.getElem?_eq_getElem hi1] at hi3
      exact (deps_all (Array.getElem?_eq_getElem hi1)).1 (by simpa using hi3)
    have hL : ∀ j, (listed.setIfInBounds i true).getD j false = true ↔ (listed.getD j false = true ∨ j = i) := by
      intro j
      by_cases e : i = j
      · subst e
        simp [Array.getD_eq_getD_getElem?, hil]
      · simp only [Array.getD_eq_getD_getElem?, Array.getElem?_setIfInBounds_ne e]
        constructor
        · exact .inl
        · rintro (h | h)
          · exact h
          · exact absurd h.symm e
    refine wpOp_mono ?_ (hstep _ a w i hI hcl hi1 (by rw [hnot]; simp) hdep)
    intro a' w' hI'
    refine ⟨by simp [hsz], fun j hj e he => ?_, ?_⟩
    · rw [hL] at hj ⊢
      rcases hj with hj | rfl
      · exact .inl (hcl j hj e he)
      · exact .inl (hdep e he)
    · have : (fun j => (listed.setIfInBounds i true).getD j false = true) = (fun j => listed.getD j false = true ∨ j = i) := by
        funext j
        exact propext (hL j)
      rw [this]
      exact hI'
  · rintro listed a w ⟨hsz, hcl, hI⟩ hr
    refine hend _ a w hI ?_
    intro j
    induction j using Nat.strongRecOn with
    | _ j ih =>
      intro hj
      have hdep : ∀ e ∈ depsOf .any ops j, listed.getD e false = true := fun e he => by
        have h1 := (List.all_eq_true.1 hback) j (List.mem_range.2 hj)
        have h2 := of_decide_eq_true ((List.all_eq_true.1 h1) e he)
        exact ih e h2 (by omega)
      have hjl : j < listed.size := by omega
      by_cases hc : listed.getD j false = true
      · exact hc
      · exfalso
        have hmem : j ∈ Region.ready .any ops listed := by
          simp only [Region.ready, List.mem_filter, List.mem_range, Bool.and_eq_true, Bool.not_eq_true']
          refine ⟨hj, ?_, ?_⟩
          · simpa [Array.getD_eq_getD_getElem?, Array.getElem?_eq_getElem hjl] using hc
          · have h3 := (deps_all (md := .any) (listed := listed) (Array.getElem?_eq_getElem hj)).2 hdep
            rw [Array.getElem?_eq_getElem hj]
            simpa using h3
        rw [hr] at hmem
        cases hmem
theorem mem_deps {md : Region.Mode} {ops : Array Oper} {i e : Nat} (h : (depsOf md ops i).contains e = true) : e ∈ depsOf md ops i := by simpa using h
/-- A frame, the slots ds of which hold s. -/
def withS (a : Act) (ds : List Nat) (s : Nat → Value) : Act := ⟨ds.foldl (fun t d => t.setIfInBounds d (s d)) a.tmps, a.defers⟩
theorem withS_self (a : Act) : ∀ (ds : List Nat), withS a ds (fun d => a.tmps.getD d undef) = a := by
  have key : ∀ (ds : List Nat) (t : Array Value), t = a.tmps → ds.foldl (fun t d => t.setIfInBounds d (a.tmps.getD d undef)) t = a.tmps := by
    intro ds
    induction ds with
    | nil => intro t h; exact h
    | cons d ds ih =>
      intro t h
      rw [List.foldl_cons]
      refine ih _ ?_
      rw [h]
      refine Array.ext (by simp) (fun i h1 h2 => ?_)
      by_cases e : d = i
      · subst e; simp [Array.getD_eq_getD_getElem?, h2]
      · rw [Array.getElem_setIfInBounds_ne _ e]
  intro ds
  unfold withS
  rw [key ds _ rfl]
theorem wp_region_slots {P : Program} {ops : Array Oper} {Q : Exit → Act → World → Prop} {id : Nat} {a : Act} {w : World} (hm : P.follows .mixedOrders = true) (hback : backB .any ops = true) (ds : List Nat) (F : (Nat → Prop) → (Nat → Value) → World → Prop)
    (h0 : ∀ s, F (fun _ => False) s w.drew)
    (hstep : ∀ L s w i, F L s w → (∀ j, L j → ∀ e ∈ depsOf .any ops j, L e) → i < ops.size → ¬ L i → (∀ e ∈ depsOf .any ops i, L e) → wpOp P ops Q i (fun a' w' => ∃ s', a' = withS a ds s' ∧ F (fun j => L j ∨ j = i) s' w') (withS a ds s) w)
    (hend : ∀ L s w, F L s w → (∀ j, j < ops.size → L j) → Q .normal (withS a ds s) w) : (Code.region id ops true).wp P Q a w := by
  refine wp_region_set hm hback (fun L a' w' => ∃ s, a' = withS a ds s ∧ F L s w') ⟨_, (withS_self a ds).symm, h0 _⟩ ?_ ?_
  · rintro L a' w' i ⟨s, rfl, hF⟩ h1 h2 h3 h4
    exact hstep L s w' i hF h1 h2 h3 h4
  · rintro L a' w' ⟨s, rfl, hF⟩ h1
    exact hend L s w' hF h1
end Go.Proofs.YtnbccoflcoaoaaaGreat
