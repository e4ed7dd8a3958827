import Derived.Test.YtampcheafdlomaaChkA
namespace Go.Proofs.Ytampcheafdlomaa
open Go.RowKit
set_option linter.unusedSimpArgs false
set_option linter.unusedVariables false

set_option maxHeartbeats 1000000 in
theorem gCheck_any (sa aa : Option Addr) (sn sc an ac : Nat) (xs : List Int) (es : List A5) (w : World) (hx : Ints w sa sn xs) (he : Arcs w aa an es) :
    Calls Try.prog 30 #[.agg #[.slice sa sn sc, .slice aa an ac]] w fun e w' => e = .returned (.tuple #[.int .i64 (checkS xs es).1, .int .i64 (checkS xs es).2]) ∧ Below w.heap.size w w' := by
  obtain ⟨xl, xs1, _, xc⟩ := hx
  obtain ⟨el, es1, _, ec⟩ := he
  by_cases hsz : sn < 1 ∨ 10 < sn ∨ 24 < an
  · have hS : checkS xs es = (1, 0) := checkS_size (by omega)
    rw [hS]
    clear xc ec hS
    go_enter Try.func30, Try.ntmps30
    go_wp2
    all_goals
      go_ret2
      exact ⟨rfl, (Below.refl _ _).alloc (Nat.le_refl _) _⟩
  · have hL : Hid (xs.length = sn ∧ es.length = an) := ⟨xl, el⟩
    have hE : Hid (n0 (an = 0 ∨ ∃ b off, aa = some ⟨b, off, none⟩ ∧ b < w.heap.size ∧ ∀ i, i < an → ∀ j, j < 5 → w.cell? ⟨b, off + i * 5 + j, none⟩ = some (.int .i64 ((es.getD i zA).at j)))) := ec
    have hX : Hid (n0 (sn = 0 ∨ ∃ b off, sa = some ⟨b, off, none⟩ ∧ b < w.heap.size ∧ ∀ i, i < sn → w.cell? ⟨b, off + i, none⟩ = some (.int .i64 (xs.getD i 0)))) := xc
    clear xc ec xl el
    have a1 : (1 : Int) ≤ sn := by omega
    have a2 : (sn : Int) ≤ 10 := by omega
    have a3 : (an : Int) ≤ 24 := by omega
    clear hsz
    go_enter Try.func30, Try.ntmps30
    go_wp2
    go_loop [27] (fun i => ∃ k : Nat, k ≤ sn ∧ i = .int .i64 k ∧ Hid (∀ j, j < k → supB (xs.getD j 0) = true)) (fun i => sn - (intOf i).toNat)
    case atStart => exact ⟨0, Nat.zero_le _, rfl, fun j hj => absurd hj (Nat.not_lt_zero j)⟩
    case round =>
      obtain ⟨k, hk, rfl, hg⟩ := hrel
      by_cases hlt : k < sn
      · obtain ⟨b, off, rfl, hb, hc⟩ := (hX.out.out.resolve_left (by omega))
        have hck := hc k hlt
        generalize hs : xs.getD k 0 = s at hck
        have HS := hide hs
        clear hc hs
        go_wp2
        · go_ret2
          rw [checkS_sup (by rw [hL.out.1, hL.out.2]; omega) (by rw [hL.out.1]; exact hlt) hg.out (by rw [HS.out]; exact supB_f (by omega))]
          exact ⟨rfl, (Below.refl _ _).alloc (Nat.le_refl _) _⟩
        · refine ⟨⟨k + 1, by omega, by go_num, ?_⟩, by simp [intOf]; omega⟩
          intro j hj
          by_cases hjk : j = k
          · subst hjk; rw [HS.out]; exact supB_t (by omega) (by omega)
          · exact hg.out j (by omega)
        · go_ret2
          rw [checkS_sup (by rw [hL.out.1, hL.out.2]; omega) (by rw [hL.out.1]; exact hlt) hg.out (by rw [HS.out]; exact supB_f (by omega))]
          exact ⟨rfl, (Below.refl _ _).alloc (Nat.le_refl _) _⟩
      · have hkn : k = sn := by omega
        have hG : Hid (∀ j, j < xs.length → supB (xs.getD j 0) = true) := fun j hj => hg.out j (by rw [hL.out.1] at hj; omega)
        clear hg hkn
        go_wp2
        go_loopw [43] (fun i wr => ∃ k : Nat, k ≤ an ∧ i = .int .i64 k ∧ Hid (∀ j, j < k → arcB (es.getD j zA) xs.length = true) ∧ wr.cell? ⟨w.heap.size, 0, none⟩ = some (.slice sa sn sc) ∧ Below w.heap.size w wr ∧ w.heap.size < wr.heap.size) (fun i _ => an - (intOf i).toNat)
        case atStart => exact ⟨0, Nat.zero_le _, rfl, fun j hj => absurd hj (Nat.not_lt_zero j), by simp, (Below.refl _ _).alloc (Nat.le_refl _) _, by simp⟩
        case round =>
          obtain ⟨k, hk, rfl, hg, c0, hbel, hsize⟩ := hrel
          by_cases hlt2 : k < an
          · obtain ⟨b, off, rfl, hb, hc⟩ := (hE.out.out.resolve_left (by omega))
            have e0 := (hbel.cell (p := ⟨b, off + k * 5, none⟩) hb).trans (hc k hlt2 0 (by omega))
            have e1 := (hbel.cell (p := ⟨b, off + k * 5 + 1, none⟩) hb).trans (hc k hlt2 1 (by omega))
            have e2 := (hbel.cell (p := ⟨b, off + k * 5 + 2, none⟩) hb).trans (hc k hlt2 2 (by omega))
            have e3 := (hbel.cell (p := ⟨b, off + k * 5 + 3, none⟩) hb).trans (hc k hlt2 3 (by omega))
            have e4 := (hbel.cell (p := ⟨b, off + k * 5 + 4, none⟩) hb).trans (hc k hlt2 4 (by omega))
            clear hc
            have HA : Hid (∃ a, es.getD k zA = a) := ⟨_, rfl⟩
            obtain ⟨a, ha⟩ := HA.out
            clear HA
            rw [ha] at e0 e1 e2 e3 e4
            have HA := hide ha
            clear ha
            obtain ⟨f, t, l, c, q⟩ := a
            simp only [A5.at] at e0 e1 e2 e3 e4
            have hlt3 : (k : Int) < (an : Int) := by omega
            obtain ⟨B, hB⟩ : ∃ B, arcB ⟨f, t, l, c, q⟩ sn = B := ⟨_, rfl⟩
            have cQ : n0 (∀ w0, Calls Try.prog 40 #[.agg #[.int .i64 f, .int .i64 t, .int .i64 l, .int .i64 c, .int .i64 q], .int .i64 sn] w0 fun e w' => e = .returned (.bool B) ∧ Below w0.heap.size w0 w') := fun w0 => by rw [← hB]; exact gArcMayBe_any f t l c q sn w0
            have HB := hide hB
            clear hB
            go_wp2_with fail
            refine (cQ.out _).mono ?_
            rintro e w1 ⟨rfl, hb1⟩
            have c0' := (hb1.cell (p := ⟨w.heap.size, 0, none⟩) (by simp; omega)).trans ((World.cell?_alloc_old _ _ _ (by simp; omega)).trans c0)
            have hb2 : Below w.heap.size w w1 := (hbel.alloc hbel.size _).trans (hb1.mono (by simp; omega))
            have hs2 : w.heap.size < w1.heap.size := by have := hb1.size; simp at this; omega
            clear c0 e0 e1 e2 e3 e4 hb1 cQ
            cases B with
            | true =>
              go_wp2
              go_roundw
              case rel =>
                refine ⟨k + 1, by omega, by go_num, ?_, c0', hb2, hs2⟩
                intro j hj
                by_cases hjk : j = k
                · subst hjk; rw [HA.out, hL.out.1]; exact HB.out
                · exact hg.out j (by omega)
              case measure => simp [intOf]; omega
            | false =>
              go_wp2
              go_ret2
              rw [checkS_arc (by rw [hL.out.1, hL.out.2]; omega) hG.out (by rw [hL.out.2]; exact hlt2) hg.out (by rw [HA.out, hL.out.1]; exact HB.out)]
              exact ⟨rfl, hb2⟩
          · have hkn : k = an := by omega
            subst hkn
            go_wp2
            go_ret2
            rw [checkS_ok (by rw [hL.out.1, hL.out.2]; omega) hG.out (fun j hj => hg.out j (by rw [hL.out.2] at hj; exact hj))]
            exact ⟨rfl, hbel⟩
end Go.Proofs.Ytampcheafdlomaa
