import Derived.Test.YtnbccoflcoaoaaaGOpn
import Derived.Test.YtnbccoflcoaoaaaGTab
namespace Go.Proofs.Ytnbccoflcoaoaaa
open Go.ChangeShapes Go.WideShapes Go.ChangeAt Go.RowKit Go.Deep
set_option linter.unusedSimpArgs false
set_option linter.unusedVariables false

set_option maxRecDepth 100000 in
theorem bytesInts : Try.prog.bytesOf 22 = 24 := by kernel_rfl
set_option maxRecDepth 100000 in
theorem cellsInts : Try.prog.cellsOf 22 = 1 := by kernel_rfl

theorem light_all {H : Type} {e : TypeId} {l : List (DataW H)} (h : (DataW.weightsAll Try.prog e l).all (· ≤ reachBytes) = true) : ∀ d ∈ l, Light e d := by
  induction l with
  | nil => intro d hd; simp at hd
  | cons x r ih =>
    simp only [DataW.weightsAll, List.all_append, Bool.and_eq_true] at h
    intro d hd
    rcases List.mem_cons.1 hd with rfl | hd
    · exact h.1
    · exact ih h.2 d hd

section
variable {H : Type} {enc : TypeId × Value → H} {w : World}
set_option maxRecDepth 100000 in
theorem open_tabIn {fuel : Nat} {cs : List Value} {d : DataW H} {ps : List MemPlace} (h : DataW.trod enc Try.prog w 0 (fun _ => true) true fuel 51 cs = some (d, ps)) (hw : Light 51 d) :
    ∃ a n c t, cs = [.slice a n c] ∧ Tab w a n t := by
  rcases open_slice Try.underlying51 h with ⟨rfl, hx⟩ | ⟨a, len, cap, m, n, D, Pl, rfl, _, hl, hm, hmm, hx, hc⟩
  · exact ⟨none, 0, 0, [], rfl, ⟨rfl, by omega, Or.inl rfl⟩⟩
  · simp only [Prod.mk.injEq] at hx
    obtain ⟨rfl, rfl⟩ := hx
    simp only [if_true] at hmm
    subst hmm
    have hw' := hw
    simp only [Light, DataW.weights, Try.underlying51, List.all_cons, List.all_append, Bool.and_eq_true, decide_eq_true_eq] at hw'
    obtain ⟨h2, h3, -⟩ := hw'
    rw [bytesInts] at h2
    simp only [List.length_map, List.length_range, reachBytes] at h2
    have hlight := light_all h3
    have each : ∀ i, i < len → ∃ (ra : Option Addr) (rn rc : Nat) (xs : List Int), w.cell? (a.add i) = some (.slice ra rn rc) ∧ Ints w ra rn xs := by
      intro i hi
      obtain ⟨cs', h1, h2⟩ := hc i (by omega)
      rw [cellsInts, Nat.mul_one] at h1
      obtain ⟨_, hlen, hcell⟩ := World.cells?_some h1
      obtain ⟨ra, rn, rc, xs, e, hI, _⟩ := open_intsIn h2 (hlight _ (List.mem_map.2 ⟨i, List.mem_range.2 hi, rfl⟩))
      subst e
      have := hcell 0 (by omega)
      rw [add_add, Nat.add_zero] at this
      exact ⟨ra, rn, rc, xs, by rw [this]; rfl, hI⟩
    obtain ⟨q, hq⟩ : ∃ q : Nat → List Int, ∀ i, i < len → ∃ (ra : Option Addr) (rn rc : Nat), w.cell? (a.add i) = some (.slice ra rn rc) ∧ Ints w ra rn (q i) := by
      classical
      refine ⟨fun i => if hi : i < len then Classical.choose (Classical.choose_spec (Classical.choose_spec (Classical.choose_spec (each i hi)))) else [], fun i hi => ?_⟩
      simp only [dif_pos hi]
      exact ⟨_, _, _, Classical.choose_spec (Classical.choose_spec (Classical.choose_spec (Classical.choose_spec (each i hi))))⟩
    refine ⟨some a, len, _, (List.range len).map q, rfl, ⟨by simp, by omega, ?_⟩⟩
    by_cases h0 : len = 0
    · exact Or.inl h0
    · obtain ⟨b, off, spot⟩ := a
      obtain ⟨ra, rn, rc, hc0, _⟩ := hq 0 (by omega)
      have hspot : spot = none := by simpa [Addr.add] using World.cell?_spot hc0
      subst hspot
      refine Or.inr ⟨b, off, rfl, by simpa [Addr.add] using World.block_lt_of_cell? w _ hc0, fun i hi => ?_⟩
      obtain ⟨ra, rn, rc, h1, h2⟩ := hq i hi
      rw [show ((List.range len).map q).getD i [] = q i from by simp [List.getD, hi]]
      have hn := h2.len
      subst hn
      refine ⟨ra, rc, ?_, h2⟩
      rw [← h1]
      cases i <;> simp [Addr.add]

set_option maxRecDepth 100000 in
/-- A table that came in. -/
theorem open_tab {base : Nat} {v : Value} {d : DataW H} {p : List MemPlace} (hv : Value.okWide Try.prog w .any base 51 v) (h : DataW.Trod enc Try.prog w 0 (fun _ => true) true 51 v d p) (hw : Light 51 d) :
    ∃ a n c t, v = .slice a n c ∧ Tab w a n t := by
  obtain ⟨a0, len, cap, rfl⟩ := okWide_slice Try.underlying51 hv
  obtain ⟨fuel, hf⟩ := h
  obtain ⟨a, n, c, t, e, hT⟩ := open_tabIn hf hw
  simp only [Value.cells] at e
  simp at e
  obtain ⟨rfl, rfl, rfl⟩ := e
  exact ⟨_, _, _, t, rfl, hT⟩
end
end Go.Proofs.Ytnbccoflcoaoaaa
