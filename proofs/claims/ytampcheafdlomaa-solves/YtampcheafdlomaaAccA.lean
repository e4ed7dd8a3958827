import Derived.Test.YtampcheafdlomaaAccP
import Derived.Test.YtampcheafdlomaaFlowB
import Derived.Deep.QuietTactic
import Derived.BigQuiet
import Derived.Lib.SmallJoins
namespace Go.Proofs.Ytampcheafdlomaa
open Go.RowKit
set_option linter.unusedSimpArgs false
set_option linter.unusedVariables false

set_option maxHeartbeats 400000 in
theorem refIn_any (a : Option Addr) (n c : Nat) (v : Int) (l : List Int) (w : World) (hl : Ints w a n l) :
    Calls Try.prog 70 #[.slice a n c, .int .i64 v] w fun e w' => e = .returned (.bool (inB l v)) ∧ w' = w := by
  have hL : Hid (l.length = n) := hl.len
  have hsm := hl.small
  go_enter Try.func70, Try.ntmps70
  go_wp2
  go_loop [5] (fun i => ∃ k : Nat, k ≤ n ∧ i = .int .i64 k ∧ Hid (∀ j, j < k → l.getD j 0 ≠ v)) (fun i => n - (intOf i).toNat)
  case atStart => exact ⟨0, Nat.zero_le _, rfl, fun j hj => absurd hj (Nat.not_lt_zero j)⟩
  case round =>
    obtain ⟨k, hk, rfl, hg⟩ := hrel
    by_cases hlt : k < n
    · obtain ⟨b, off, x, rfl, hX, hb, ex⟩ := hl.get hlt
      have HX := hide hX
      clear hX
      have hlt3 : (k : Int) < (n : Int) := by omega
      cases hd : (x == v) with
      | true =>
        go_wp2
        go_ret
        exact ⟨ret_b (inB_t (i := k) (by rw [hL.out]; exact hlt) (by rw [HX.out]; simpa using hd)).symm, rfl⟩
      | false =>
        go_wp2
        refine ⟨⟨k + 1, by omega, by go_num, ?_⟩, by simp [intOf]; omega⟩
        intro j hj
        by_cases hjk : j = k
        · subst hjk; rw [HX.out]; simpa using hd
        · exact hg.out j (by omega)
    · have hkn : k = n := by omega
      subst hkn
      go_wp2
      go_ret
      exact ⟨ret_b (inB_f (by rw [hL.out]; exact hg.out)).symm, rfl⟩

set_option maxHeartbeats 400000 in
theorem gArePotentials_any (a : Option Addr) (n c : Nat) (m : Int) (p : List Int) (w : World) (hl : Ints w a n p) :
    Calls Try.prog 64 #[.int .i64 m, .slice a n c] w fun e w' => e = .returned (.bool (decide ((p.length : Int) = m) && potB p)) ∧ w' = w := by
  have hL : Hid (p.length = n) := hl.len
  have hsm := hl.small
  cases hnm : ((n : Int) != m) with
  | true =>
    have HE : Hid (decide ((p.length : Int) = m) = false) := decide_eq_false (by rw [hL.out]; simpa using hnm)
    go_enter Try.func64, Try.ntmps64
    go_wp2
    go_ret
    exact ⟨ret_b (by rw [HE.out]; rfl), rfl⟩
  | false =>
    have HE : Hid (decide ((p.length : Int) = m) = true) := decide_eq_true (by rw [hL.out]; simpa using hnm)
    go_enter Try.func64, Try.ntmps64
    go_wp2
    go_loop [13] (fun i => ∃ k : Nat, k ≤ n ∧ i = .int .i64 k ∧ Hid (∀ j, j < k → potAt p j = true)) (fun i => n - (intOf i).toNat)
    case atStart => exact ⟨0, Nat.zero_le _, rfl, fun j hj => absurd hj (Nat.not_lt_zero j)⟩
    case round =>
      obtain ⟨k, hk, rfl, hg⟩ := hrel
      by_cases hlt : k < n
      · obtain ⟨b, off, x, rfl, hX, hb, ex⟩ := hl.get hlt
        have HX := hide hX
        clear hX
        have hlt3 : (k : Int) < (n : Int) := by omega
        by_cases hbd : -1000000 ≤ x ∧ x ≤ 1000000
        · obtain ⟨hb1, hb2⟩ := hbd
          go_wp2
          refine ⟨⟨k + 1, by omega, by go_num, ?_⟩, by simp [intOf]; omega⟩
          intro j hj
          by_cases hjk : j = k
          · subst hjk; unfold potAt; rw [HX.out]; exact decide_eq_true ⟨hb1, hb2⟩
          · exact hg.out j (by omega)
        · have HF : Hid (potB p = false) := all_f (k := k) (by rw [hL.out]; exact hlt) (by unfold potAt; rw [HX.out]; exact decide_eq_false hbd)
          go_wp2
          all_goals first
            | (go_ret
               exact ⟨ret_b (by rw [HF.out, Bool.and_false]), rfl⟩)
            | (exfalso; omega)
      · have hkn : k = n := by omega
        subst hkn
        go_wp2
        go_ret
        exact ⟨ret_b (by rw [HE.out]; exact (all_t (by rw [hL.out]; exact hg.out)).symm), rfl⟩

set_option maxHeartbeats 400000 in
theorem gIsCut_any (a : Option Addr) (n c : Nat) (m : Int) (l : List Int) (w : World) (hl : Ints w a n l) :
    Calls Try.prog 66 #[.int .i64 m, .slice a n c] w fun e w' => e = .returned (.bool (risB l m)) ∧ w' = w := by
  have hL : Hid (l.length = n) := hl.len
  have hsm := hl.small
  go_enter Try.func66, Try.ntmps66
  go_wp2
  go_loop [5, 10] (fun ab i => ∃ (k : Nat) (q : Int), k ≤ n ∧ i = .int .i64 k ∧ ab = .int .i64 q ∧ -1 ≤ q ∧ Hid (q = if k = 0 then -1 else l.getD (k - 1) 0) ∧ Hid (∀ j, j < k → risAt l m j = true)) (fun _ i => n - (intOf i).toNat)
  case atStart => exact ⟨0, -1, Nat.zero_le _, rfl, rfl, by omega, rfl, fun j hj => absurd hj (Nat.not_lt_zero j)⟩
  case round =>
    obtain ⟨k, q, hk, rfl, rfl, hq1, hq, hg⟩ := hrel
    by_cases hlt : k < n
    · obtain ⟨b, off, x, rfl, hX, hb, ex⟩ := hl.get hlt
      have HX := hide hX
      clear hX
      have hlt3 : (k : Int) < (n : Int) := by omega
      by_cases hok : q < x ∧ x < m
      · obtain ⟨h1, h2⟩ := hok
        go_wp2
        refine ⟨⟨k + 1, x, by omega, by go_num, rfl, by omega, ?_, ?_⟩, by simp [intOf]; omega⟩
        · show x = _
          rw [if_neg (by omega), show k + 1 - 1 = k from by omega]; exact HX.out.symm
        · intro j hj
          by_cases hjk : j = k
          · subst hjk
            refine decide_eq_true ?_
            rw [HX.out]
            have := hq.out
            refine ⟨by omega, h2, ?_⟩
            by_cases h0 : j = 0
            · exact .inl h0
            · right; rw [if_neg h0] at this; omega
          · exact hg.out j (by omega)
      · have HF : Hid (risB l m = false) := all_f (k := k) (by rw [hL.out]; exact hlt) (by
          refine decide_eq_false ?_
          rw [HX.out]
          have := hq.out
          rintro ⟨g1, g2, g3⟩
          by_cases h0 : k = 0
          · rw [if_pos h0] at this; omega
          · rw [if_neg h0] at this; rcases g3 with g3 | g3
            · exact h0 g3
            · omega)
        go_wp2
        all_goals first
          | (go_ret
             exact ⟨ret_b HF.out.symm, rfl⟩)
          | (exfalso; omega)
    · have hkn : k = n := by omega
      subst hkn
      go_wp2
      go_ret
      exact ⟨ret_b (all_t (by rw [hL.out]; exact hg.out)).symm, rfl⟩
end Go.Proofs.Ytampcheafdlomaa
