import Derived.Test.YtampcheafdlomaaAccA
namespace Go.Proofs.Ytampcheafdlomaa
open Go.RowKit
set_option linter.unusedSimpArgs false
set_option linter.unusedVariables false

set_option maxHeartbeats 1000000 in
theorem refRising_any (a : Option Addr) (n c : Nat) (m : Int) (l : List Int) (w : World) (hl : Ints w a n l) :
    Calls Try.prog 37 #[.slice a n c, .int .i64 m] w fun e w' => e = .returned (.bool (risB l m)) ∧ Below w.heap.size w w' := by
  have hL : Hid (l.length = n) := hl.len
  have hsm := hl.small
  go_enter Try.func37, Try.ntmps37
  go_wp2
  go_loopw [5] (fun i wr => ∃ k : Nat, k ≤ n ∧ i = .int .i64 k ∧ Hid (∀ j, j < k → risAt l m j = true) ∧ Below w.heap.size w wr) (fun i _ => n - (intOf i).toNat)
  case atStart => exact ⟨0, Nat.zero_le _, rfl, fun j hj => absurd hj (Nat.not_lt_zero j), Below.refl _ _⟩
  case round =>
    obtain ⟨k, hk, rfl, hg, hbel⟩ := hrel
    by_cases hlt : k < n
    · obtain ⟨b, off, x, rfl, hX, hb, ex⟩ := (hl.below hbel).get hlt
      have HX := hide hX
      clear hX
      have hlt3 : (k : Int) < (n : Int) := by omega
      have bad : ¬ (0 ≤ x ∧ x < m ∧ (k = 0 ∨ l.getD (k - 1) 0 < x)) → Hid (risB l m = false) := fun h =>
        all_f (k := k) (by rw [hL.out]; exact hlt) (by refine decide_eq_false ?_; rw [HX.out]; exact h)
      have good : (0 ≤ x ∧ x < m ∧ (k = 0 ∨ l.getD (k - 1) 0 < x)) → Hid (∀ j, j < k + 1 → risAt l m j = true) := by
        intro h j hj
        by_cases hjk : j = k
        · subst hjk; refine decide_eq_true ?_; rw [HX.out]; exact h
        · exact hg.out j (by omega)
      by_cases h1 : x < 0
      · have HF := bad (by omega)
        clear bad good
        go_wp2
        go_quiet (fail)
        go_wp2
        go_ret
        exact ⟨ret_b HF.out.symm, hbel.trans (Joins.below_draws _ _ _)⟩
      have d1 : decide (x < 0) = false := by simpa using h1
      by_cases h2 : m ≤ x
      · have HF := bad (by omega)
        clear bad good
        go_wp2
        go_quiet (fail)
        go_wp2
        go_ret
        exact ⟨ret_b HF.out.symm, hbel.trans (Joins.below_draws _ _ _)⟩
      have d2 : decide (m ≤ x) = false := by simpa using h2
      cases k with
      | zero =>
        have HG := good (by omega)
        rw [Nat.add_zero] at ex
        clear bad good
        go_wp2
        go_quiet (fail)
        go_wp2
        exact ⟨⟨1, by omega, by go_num, HG.out, hbel.trans (Joins.below_draws _ _ _)⟩, by simp [intOf]; omega⟩
      | succ k =>
        have hp3 : (0 : Int) < (k : Int) + 1 := by omega
        obtain ⟨b2, off2, y, e2, hY, hb2, ey⟩ := (hl.below hbel).get (show k < n by omega)
        obtain ⟨rfl, rfl⟩ : b = b2 ∧ off = off2 := by simpa using e2
        rw [show k + 1 - 1 = k from by omega, hY] at bad good
        clear e2 hY
        by_cases h4 : x ≤ y
        · have HF := bad (by omega)
          clear bad good
          go_wp2
          go_quiet (fail)
          go_wp2
          go_ret
          exact ⟨ret_b HF.out.symm, hbel.trans (Joins.below_draws _ _ _)⟩
        · have d4 : decide (x ≤ y) = false := by simpa using h4
          have HG := good (by omega)
          clear bad good
          go_wp2
          go_quiet (fail)
          go_wp2
          exact ⟨⟨k + 1 + 1, by omega, by go_num, HG.out, hbel.trans (Joins.below_draws _ _ _)⟩, by simp [intOf]; omega⟩
    · have hkn : k = n := by omega
      subst hkn
      go_wp2
      go_ret
      exact ⟨ret_b (all_t (by rw [hL.out]; exact hg.out)).symm, hbel⟩

/-! ### what crosses a cut -/
theorem ret_iib {a b c d : Int} {x y : Bool} (h : a = b) (k : c = d) (m : x = y) : Ending.returned (.tuple #[.int .i64 a, .int .i64 c, .bool x]) = .returned (.tuple #[.int .i64 b, .int .i64 d, .bool y]) := by rw [h, k, m]
theorem val_b {a b : Bool} (h : a = b) : Value.bool a = .bool b := by rw [h]
theorem lows_step {es : List A5} {cut : List Int} {back : Bool} {k : Nat} {f t l c q : Int} (hA : es.getD k zA = ⟨f, t, l, c, q⟩) {B : Bool} (hB : crossB cut back ⟨f, t, l, c, q⟩ = B) :
    lowsTo es cut back (k + 1) = lowsTo es cut back k + (if B = true then l else 0) ∧ capsTo es cut back (k + 1) = capsTo es cut back k + (if B = true ∧ c ≠ -1 then c else 0) ∧
    openTo es cut back (k + 1) = (openTo es cut back k || (B && (c == -1))) := by
  simp only [lowsTo, capsTo, openTo, hA, hB]; exact ⟨trivial, trivial, trivial⟩

set_option maxHeartbeats 1000000 in
theorem refTolls_any (sa aa ca : Option Addr) (sn sc an ac cn cc : Nat) (xs : List Int) (es : List A5) (cut : List Int) (back : Bool) (w : World) (he : Arcs w aa an es) (hc : Ints w ca cn cut) (hn : NetOK xs es) :
    Calls Try.prog 55 #[.agg #[.slice sa sn sc, .slice aa an ac], .slice ca cn cc, .bool back] w fun e w' =>
      e = .returned (.tuple #[.int .i64 (lowsTo es cut back es.length), .int .i64 (capsTo es cut back es.length), .bool (openTo es cut back es.length)]) ∧ Below w.heap.size w w' := by
  have hL : Hid (es.length = an) := he.len
  have hN := hide hn
  have h24 : an ≤ 24 := by rw [← he.len]; exact hn.arcs
  clear hn
  go_enter Try.func55, Try.ntmps55
  go_wp2
  go_loopw [9, 10, 11, 12] (fun lo ca op i wr => ∃ k : Nat, k ≤ an ∧ i = .int .i64 k ∧ lo = .int .i64 (lowsTo es cut back k) ∧ ca = .int .i64 (capsTo es cut back k) ∧ op = .bool (openTo es cut back k) ∧ wr.cell? ⟨w.heap.size, 1, none⟩ = some (.slice aa an ac) ∧ Below w.heap.size w wr ∧ w.heap.size < wr.heap.size) (fun _ _ _ i _ => an - (intOf i).toNat)
  case atStart => exact ⟨0, Nat.zero_le _, rfl, rfl, rfl, rfl, by simp, (Below.refl _ _).alloc (Nat.le_refl _) _, by simp⟩
  case round =>
    obtain ⟨k, hk, rfl, rfl, rfl, rfl, c1, hbel, hsize⟩ := hrel
    by_cases hlt : k < an
    · have bl := lows_bd hN.out cut back k (by rw [hL.out]; exact hk)
      have bc := caps_bd hN.out cut back k (by rw [hL.out]; exact hk)
      have ba := arcB_out (hN.out.arc k (by rw [hL.out]; exact hlt))
      obtain ⟨b, off, f, t, l, c, q, rfl, hA, hb, e0, e1, e2, e3, e4⟩ := (he.below hbel).get hlt
      rw [hA] at ba
      simp only [] at ba
      obtain ⟨-, -, -, -, ba1, ba2, ba3, -, -⟩ := ba
      obtain ⟨B, hB⟩ : ∃ B, crossB cut back ⟨f, t, l, c, q⟩ = B := ⟨_, rfl⟩
      have HS := hide (lows_step hA hB)
      unfold crossB at hB
      clear hA
      generalize lowsTo es cut back k = LO at *
      generalize capsTo es cut back k = CA at *
      generalize openTo es cut back k = OP at *
      have hlt3 : (k : Int) < (an : Int) := by omega
      go_wp2_with fail
      refine (refIn_any ca cn cc f cut _ (hc.below (hbel.alloc hbel.size _))).mono ?_
      rintro e w1 ⟨rfl, rfl⟩
      go_wp2_with fail
      refine (refIn_any ca cn cc t cut _ (hc.below (hbel.alloc hbel.size _))).mono ?_
      rintro e w1 ⟨rfl, rfl⟩
      generalize inB cut f = F at *
      generalize inB cut t = T at *
      have c1' : (wr.alloc (.cells #[.int .i64 f, .int .i64 t, .int .i64 l, .int .i64 c, .int .i64 q] 54)).cell? ⟨w.heap.size, 1, none⟩ = some (.slice (some ⟨b, off, none⟩) an ac) := (World.cell?_alloc_lt _ _ _ hsize).trans c1
      clear e0 e1 e2 e3 e4 c1
      have HR : Hid (B = if back = true then !F && T else F && !T) := hB.symm
      clear hB
      cases hcc : (c == -1) <;> cases back <;> cases F <;> cases T <;> go_wp2
      all_goals
        obtain ⟨g1, g2, g3⟩ := HS.out
        have hB := HR.out
        simp at hB
        subst hB
        simp at hcc
        refine ⟨⟨k + 1, by omega, by go_num, val_i ?_, val_i ?_, val_b ?_, c1', hbel.alloc hbel.size _, by simp; omega⟩, by simp [intOf]; omega⟩
        · rw [g1]; simp
        · rw [g2]; simp [hcc]
        · rw [g3]; simp [hcc]
    · have hkn : k = an := by omega
      subst hkn
      go_wp2
      go_ret3
      exact ⟨ret_iib (by rw [hL.out]) (by rw [hL.out]) (by rw [hL.out]), hbel⟩
end Go.Proofs.Ytampcheafdlomaa
