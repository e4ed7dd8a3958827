import Derived.Test.YtnbccoflcoaoaaaGreatGBas
import Derived.ProofKit
import Derived.OpenShut
import Derived.SizedLaws
import Derived.ChangeOld
import Derived.Lib.SmallJoins
namespace Go.Proofs.YtnbccoflcoaoaaaGreat
open Go.ChangeShapes Go.WideShapes Go.ChangeAt Go.RowKit Go.Deep
set_option linter.unusedSimpArgs false
set_option linter.unusedVariables false

set_option maxRecDepth 100000 in
theorem own : ownKnob Tryz.prog.godebug = none := by kernel_rfl
set_option maxRecDepth 100000 in
theorem laidOut : laidOutB Tryz.prog = true := by kernel_rfl
set_option maxRecDepth 100000 in
theorem bytesInt : Tryz.prog.bytesOf 3 = 8 := by kernel_rfl
set_option maxRecDepth 100000 in
theorem bytesArc : Tryz.prog.bytesOf 67 = 40 := by kernel_rfl
set_option maxRecDepth 100000 in
theorem cellsInt : Tryz.prog.cellsOf 3 = 1 := by kernel_rfl
set_option maxRecDepth 100000 in
theorem cellsArc : Tryz.prog.cellsOf 67 = 5 := by kernel_rfl

/-- What a datum weighs is within the form's reach. -/
def Light {H : Type} (t : TypeId) (d : DataW H) : Prop := (d.weights Tryz.prog t).all (· ≤ reachBytes) = true

section
variable {H : Type} {enc : TypeId × Value → H} {w : World}

set_option maxRecDepth 100000 in
theorem open_intsIn {fuel : Nat} {cs : List Value} {d : DataW H} {ps : List MemPlace} (h : DataW.trod enc Tryz.prog w 0 (fun _ => true) true fuel 32 cs = some (d, ps)) (hw : Light 32 d) :
    ∃ a n c xs, cs = [.slice a n c] ∧ Ints w a n xs ∧ n ≤ c := by
  rcases open_ints Tryz.underlying32 Tryz.underlying3 cellsInt h with ⟨rfl, hx⟩ | ⟨a, len, cap, zs, rfl, _, hl, hm, hz, hx, hcell, hwz⟩
  · exact ⟨none, 0, 0, [], rfl, ⟨rfl, by omega, fun x hx => by simp at hx, Or.inl rfl⟩, Nat.le_refl _⟩
  · simp only [Prod.mk.injEq] at hx
    obtain ⟨rfl, rfl⟩ := hx
    simp only [if_true] at hz
    have h2 : ((lits (H := H) .i64 (zs.take len)).length + (lits (H := H) .i64 (zs.drop len)).length) * Tryz.prog.bytesOf 3 ≤ reachBytes := by
      have h3 := List.all_eq_true.1 hw
      exact of_decide_eq_true (h3 _ (by simp [DataW.weights, Tryz.underlying32]))
    rw [bytesInt] at h2
    simp only [lits, List.length_map, List.length_take, List.length_drop, reachBytes] at h2
    refine ⟨some a, len, cap, zs.take len, rfl, ⟨by simp; omega, by omega, fun x hx => bounds_i64 (hwz x (List.mem_of_mem_take hx)), ?_⟩, hl⟩
    by_cases h0 : len = 0
    · exact Or.inl h0
    · obtain ⟨b, off, spot⟩ := a
      have hc := hcell 0 (by omega)
      have hspot : spot = none := by simpa [Addr.add] using World.cell?_spot hc
      subst hspot
      refine Or.inr ⟨b, off, rfl, by simpa [Addr.add] using World.block_lt_of_cell? w _ hc, fun i hi => ?_⟩
      have := hcell i (by omega)
      rw [show (zs.take len).getD i 0 = zs.getD i 0 from by simp [List.getD, List.getElem?_take, hi]]
      rw [← this]
      cases i <;> simp [Addr.add]

set_option maxRecDepth 100000 in
theorem open_arcsIn {fuel : Nat} {cs : List Value} {d : DataW H} {ps : List MemPlace} (h : DataW.trod enc Tryz.prog w 0 (fun _ => true) true fuel 46 cs = some (d, ps)) (hw : Light 46 d) :
    ∃ a n c es, cs = [.slice a n c] ∧ Arcs w a n es := by
  rcases open_slice Tryz.underlying46 h with ⟨rfl, hx⟩ | ⟨a, len, cap, m, n, D, Pl, rfl, _, hl, hm, hmm, hx, hc⟩
  · exact ⟨none, 0, 0, [], rfl, ⟨rfl, by omega, fun x hx => by simp at hx, Or.inl rfl⟩⟩
  · simp only [Prod.mk.injEq] at hx
    obtain ⟨rfl, rfl⟩ := hx
    simp only [if_true] at hmm
    subst hmm
    have h2 : ((((List.range len).map D).length + ((List.range (m - len)).map fun j => D (len + j)).length)) * Tryz.prog.bytesOf 67 ≤ reachBytes := by
      have h3 := List.all_eq_true.1 hw
      exact of_decide_eq_true (h3 _ (by simp [DataW.weights, Tryz.underlying46]))
    rw [bytesArc] at h2
    simp only [List.length_map, List.length_range, reachBytes] at h2
    have each : ∀ i, i < m → ∃ q : A5, (∀ j, -9223372036854775808 ≤ q.at j ∧ q.at j ≤ 9223372036854775807) ∧ ∀ j, j < 5 → w.cell? (a.add (i * 5 + j)) = some (.int .i64 (q.at j)) := by
      intro i hi
      obtain ⟨cs', h1, h2⟩ := hc i hi
      rw [cellsArc] at h1
      obtain ⟨_, hlen, hcell⟩ := World.cells?_some h1
      obtain ⟨xs, k, hk, hxy, _, hxl, hf⟩ := DataW.trod_struct Tryz.underlying67 h2
      match xs, hxl, cs', hlen with
      | [y0, y1, y2, y3, y4], _, [v0, v1, v2, v3, v4], _ =>
        have g0 := hf 0 _ rfl
        have g1 := hf 1 _ rfl
        have g2 := hf 2 _ rfl
        have g3 := hf 3 _ rfl
        have g4 := hf 4 _ rfl
        simp [cellsInt] at g0 g1 g2 g3 g4
        obtain ⟨n0, e0, _, b0⟩ := DataW.trod_int Tryz.underlying3 g0
        obtain ⟨n1, e1, _, b1⟩ := DataW.trod_int Tryz.underlying3 g1
        obtain ⟨n2, e2, _, b2⟩ := DataW.trod_int Tryz.underlying3 g2
        obtain ⟨n3, e3, _, b3⟩ := DataW.trod_int Tryz.underlying3 g3
        obtain ⟨n4, e4, _, b4⟩ := DataW.trod_int Tryz.underlying3 g4
        simp only [List.cons.injEq, and_true] at e0 e1 e2 e3 e4
        subst e0 e1 e2 e3 e4
        refine ⟨⟨n0, n1, n2, n3, n4⟩, ?_, ?_⟩
        · intro j
          match j with
          | 0 => exact bounds_i64 b0
          | 1 => exact bounds_i64 b1
          | 2 => exact bounds_i64 b2
          | 3 => exact bounds_i64 b3
          | j + 4 => exact bounds_i64 b4
        · intro j hj
          have := hcell j (by omega)
          rw [add_add] at this
          rw [this]
          match j, hj with
          | 0, _ => rfl
          | 1, _ => rfl
          | 2, _ => rfl
          | 3, _ => rfl
          | 4, _ => rfl
    obtain ⟨q, hq⟩ : ∃ q : Nat → A5, ∀ i, i < m → (∀ j, -9223372036854775808 ≤ (q i).at j ∧ (q i).at j ≤ 9223372036854775807) ∧ ∀ j, j < 5 → w.cell? (a.add (i * 5 + j)) = some (.int .i64 ((q i).at j)) := by
      classical
      refine ⟨fun i => if hi : i < m then Classical.choose (each i hi) else zA, fun i hi => ?_⟩
      simp only [dif_pos hi]
      exact Classical.choose_spec (each i hi)
    refine ⟨some a, len, _, (List.range len).map q, rfl, ⟨by simp, by omega, ?_, ?_⟩⟩
    · intro x hx j
      obtain ⟨i, hi, rfl⟩ := List.mem_map.1 hx
      exact (hq i (by have := List.mem_range.1 hi; omega)).1 j
    · by_cases h0 : len = 0
      · exact Or.inl h0
      · obtain ⟨b, off, spot⟩ := a
        have hc := (hq 0 (by omega)).2 0 (by omega)
        have hspot : spot = none := by simpa [Addr.add] using World.cell?_spot hc
        subst hspot
        refine Or.inr ⟨b, off, rfl, by simpa [Addr.add] using World.block_lt_of_cell? w _ hc, fun i hi j hj => ?_⟩
        have := (hq i (by omega)).2 j hj
        rw [show ((List.range len).map q).getD i zA = q i from by simp [List.getD, hi]]
        rw [← this]
        rw [Nat.add_assoc off]
        cases hij : i * 5 + j <;> simp [Addr.add]

set_option maxRecDepth 100000 in
theorem cellsNet : Tryz.prog.cellsOf 48 = 2 := by kernel_rfl

set_option maxRecDepth 100000 in
/-- A net that came in: its supplies and its arcs. -/
theorem open_net {base : Nat} {v : Value} {d : DataW H} {p : List MemPlace} (hv : Value.okWide Tryz.prog w .any base 48 v) (h : DataW.Trod enc Tryz.prog w 0 (fun _ => true) true 48 v d p) (hw : Light 48 d) :
    ∃ sa sn sc aa an ac xs es, v = .agg #[.slice sa sn sc, .slice aa an ac] ∧ Ints w sa sn xs ∧ Arcs w aa an es := by
  obtain ⟨v0, v1, y0, y1, n, rfl, rfl, rfl, h0, h1⟩ := Joins.open_agg2 Tryz.underlying48 (by kernel_rfl) cellsNet hv h
  obtain ⟨d0, p0⟩ := y0
  obtain ⟨d1, p1⟩ := y1
  simp only [Light, DataW.weights, Tryz.underlying48, List.map_cons, List.map_nil, DataW.weightsEach, List.append_nil, List.all_append, Bool.and_eq_true] at hw
  obtain ⟨sa, sn, sc, xs, e0, hI, -⟩ := open_intsIn h0 hw.1
  obtain ⟨aa, an, ac, es, e1, hA⟩ := open_arcsIn h1 hw.2
  simp only [List.cons.injEq, and_true] at e0 e1
  subst e0 e1
  exact ⟨sa, sn, sc, aa, an, ac, xs, es, rfl, hI, hA⟩

set_option maxRecDepth 100000 in
/-- A list of ints that came in. -/
theorem open_ints1 {base : Nat} {v : Value} {d : DataW H} {p : List MemPlace} (hv : Value.okWide Tryz.prog w .any base 32 v) (h : DataW.Trod enc Tryz.prog w 0 (fun _ => true) true 32 v d p) (hw : Light 32 d) :
    ∃ a n c xs, v = .slice a n c ∧ Ints w a n xs := by
  obtain ⟨a0, len, cap, rfl⟩ := okWide_slice Tryz.underlying32 hv
  obtain ⟨fuel, hf⟩ := h
  obtain ⟨a, n, c, xs, e, hI, -⟩ := open_intsIn hf hw
  simp only [Value.cells] at e
  simp at e
  obtain ⟨rfl, rfl, rfl⟩ := e
  exact ⟨_, _, _, xs, rfl, hI⟩
end
end Go.Proofs.YtnbccoflcoaoaaaGreat

namespace Go.Proofs.YtnbccoflcoaoaaaGreat
open Go.ChangeShapes Go.WideShapes Go.ChangeAt Go.RowKit
set_option linter.unusedVariables false

set_option maxRecDepth 100000 in
/-- A number that came in. -/
theorem open_int1 {H : Type} {enc : TypeId × Value → H} {w : World} {base : Nat} {v : Value} {d : DataW H} {p : List MemPlace} (hv : Value.okWide Tryz.prog w .any base 3 v) (h : DataW.Trod enc Tryz.prog w 0 (fun _ => true) true 3 v d p) :
    ∃ x, v = .int .i64 x ∧ (-9223372036854775808 ≤ x ∧ x ≤ 9223372036854775807) := by
  obtain ⟨x, rfl⟩ := okWide_int Tryz.underlying3 hv
  obtain ⟨fuel, hf⟩ := h
  obtain ⟨n, e, _, hw⟩ := DataW.trod_int Tryz.underlying3 hf
  simp only [Value.cells] at e
  simp at e
  subst e
  refine ⟨x, rfl, ?_⟩
  exact bounds_i64 hw
end Go.Proofs.YtnbccoflcoaoaaaGreat
