import Derived.Test.YtnbccoflcoaoaaaGreatAllA
import Derived.Deep.QuietTactic
import Derived.BigQuiet
import Derived.Maps.AppendAt
import Derived.Lib.SmallJoins
namespace Go.Proofs.YtnbccoflcoaoaaaGreat
open Go.RowKit Go.Deep
set_option linter.unusedSimpArgs false
set_option linter.unusedVariables false

/-! ### still -/
theorem grown_setB {w w' : World} {g o : Nat} {u : Value} (h : w.grownBy w' (some g)) : w.grownBy (w'.setCell ⟨g, o, none⟩ u) (some g) :=
  h.trans ⟨rfl, rfl, rfl, by simp [World.setCell], fun k hk hne => Below.heap_setCell _ _ _ _ (fun e => hne (by rw [e]))⟩

set_option maxHeartbeats 1000000 in
theorem aStill_any (g cap : Nat) (la : Option Addr) (n lc base : Nat) (xs : List Int) (w : World) (hx : Ints w la n xs) (hr : Roomy w base (.slice (some ⟨g, 0, none⟩) n cap) xs) (hne : ∀ b off, la = some ⟨b, off, none⟩ → b ≠ g) (hn : n + 2 ≤ 17592186044416) :
    Calls Tryz.prog 26 #[.slice (some ⟨g, 0, none⟩) n cap, .slice la n lc] w fun e w' => e = .returned (.bool true) ∧ w.grownBy w' (some g) := by
  have hL : Hid (xs.length = n) := hx.len
  obtain ⟨g', cap', e', hown⟩ := hr
  obtain ⟨rfl, rfl⟩ : g = g' ∧ cap = cap' := by simp at e'; exact ⟨e'.1, e'.2.2⟩
  clear e'
  rw [hL.out] at hown
  rcases hown.2 with ⟨h0, _⟩ | ⟨g1, cap1, cur, e1, hg1, hg2, hg3, hg4, hg5, hg6⟩
  · cases h0
  obtain ⟨rfl, rfl⟩ : g = g1 ∧ cap = cap1 := by simpa using e1
  clear e1
  have hcell : ∀ j, j < n + 2 → w.cell? ⟨g, j, none⟩ = some (.int .i64 ((xs ++ [-3000000, -3000000]).getD j 0)) := fun j hj =>
    own_cell (base := base) (cap := cap) hg2 hg6 j _ (intCells_at _ j (by simp [hL.out]; omega))
  have hglt : g < w.heap.size := (Array.getElem?_eq_some_iff.1 hg2).1
  have c1 : w.cell? ⟨g, n, none⟩ = some (.int .i64 (-3000000)) := by
    rw [hcell n (by omega)]; simp [List.getD, ← hL.out]
  have c2 : w.cell? ⟨g, n + 1, none⟩ = some (.int .i64 (-3000000)) := by
    rw [hcell (n + 1) (by omega)]; simp [List.getD, ← hL.out]
  have hrow : Hid (w.rowIs g 3 cap (fun i => cur.getD i undef)) := ⟨cur, hg2, by omega, fun i hi => by simp [Array.getD, show i < cur.size by omega]⟩
  have hcap : ((n : Int) + 2) ≤ (cap : Int) := by omega
  have hcap2 : n + 2 ≤ cap := hg3
  have HC := hide hcell
  have HX := hide hx
  clear hcell hx hg5 hg6 hg2 hg3 hown
  go_enter Tryz.func26, Tryz.ntmps26
  go_wp2
  go_loopw [6, 7] (fun ok i wr => ∃ k : Nat, k ≤ n ∧ i = .int .i64 k ∧ ok = .bool true ∧ Below w.heap.size w wr) (fun _ i _ => n - (intOf i).toNat)
  case atStart => exact ⟨0, Nat.zero_le _, rfl, rfl, Below.refl _ _⟩
  case round =>
    obtain ⟨k, hk, rfl, rfl, hb⟩ := hrel
    by_cases hlt : k < n
    · obtain ⟨b, off, x, rfl, hX, hbb, ex⟩ := (HX.out.below hb).get hlt
      have cx : wr.cell? ⟨g, k, none⟩ = some (.int .i64 x) := by
        rw [hb.cell (p := ⟨g, k, none⟩) hglt, HC.out k (by omega), ← hX]
        rw [List.getD, List.getD, List.getElem?_append_left (by rw [hL.out]; exact hlt)]
      have hlt3 : (k : Int) < (n : Int) := by omega
      have hlt4 : (k : Int) < (n : Int) + 2 := by omega
      have hg5 := Nat.lt_of_lt_of_le hglt hb.size
      clear hX c1 c2
      go_wp2
      go_quiet (fail)
      go_wp2
      exact ⟨⟨k + 1, by omega, by go_num, rfl, hb.trans (Joins.below_draws _ _ _)⟩, by simp [intOf]; omega⟩
    · have hkn : k = n := by omega
      subst hkn
      have HG : Hid (w.grownBy wr (some g)) := grown_of_below hb _
      have HR : Hid (∃ f, wr.rowIs g 3 cap f) := ⟨_, hrow.out.of_block (hb.block g hglt)⟩
      clear hb c1 c2
      go_wp2
      go_loopw [8] (fun i w2 => ∃ m : Nat, m ≤ k + 2 ∧ i = .int .i64 m ∧ Hid (∃ f, w2.rowIs g 3 cap f) ∧ Hid (w.grownBy w2 (some g))) (fun i _ => k + 2 - (intOf i).toNat)
      case atStart => exact ⟨0, Nat.zero_le _, rfl, HR, HG⟩
      case round =>
        obtain ⟨m, hm, rfl, hR, hG⟩ := hrel
        clear HG HR
        by_cases hlt : m < k + 2
        · obtain ⟨f, hf⟩ := hR.out
          have hlt3 : (m : Int) < (k : Int) + 2 := by omega
          have cv := hf.cell (show m < cap by omega)
          have fv := hf.frozen m
          have hR2 : Hid (∃ f', (World.setCell _ ⟨g, m, none⟩ (.int .i64 (-3000000))).rowIs g 3 cap f') := ⟨_, hf.set m _⟩
          have hG2 := hide (grown_setB (o := m) (u := .int .i64 (-3000000)) hG.out)
          have hgl := hf.lt
          clear hf hR hG
          go_wp2
          go_roundw
          case rel => exact ⟨m + 1, by omega, by go_num, hR2, hG2⟩
          case measure => simp [intOf]; omega
        · have hmn : m = k + 2 := by omega
          subst hmn
          go_wp2
          go_ret
          exact ⟨rfl, hG.out⟩
end Go.Proofs.YtnbccoflcoaoaaaGreat
