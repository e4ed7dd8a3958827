import Derived.Test.YtampcheafdlomaaAccB
namespace Go.Proofs.Ytampcheafdlomaa
open Go.RowKit
set_option linter.unusedSimpArgs false
set_option linter.unusedVariables false

theorem ris_out {l : List Int} {m : Int} (h : risB l m = true) {i : Nat} (hi : i < l.length) : 0 ≤ l.getD i 0 ∧ l.getD i 0 < m := by
  have := of_decide_eq_true (of_all h i hi); omega
theorem nat_of {x : Int} (h : 0 ≤ x) : ∃ v : Nat, x = (v : Int) := ⟨x.toNat, by omega⟩

theorem need_step {xs cut : List Int} {k v : Nat} {y : Int} (hv : cut.getD k 0 = (v : Int)) (hy : xs.getD v 0 = y) : needTo xs cut (k + 1) = needTo xs cut k + y := by
  simp only [needTo, hv, Int.toNat_natCast, hy]

/-- The test of a cut, out of its six numbers. -/
def violV (need lo ca li ci : Int) (oo oi : Bool) : Bool := (!oo && decide (ca - li < need)) || (!oi && decide (need < lo - ci))
theorem violV_eq (xs : List Int) (es : List A5) (cut : List Int) : violB xs es cut = violV (needTo xs cut cut.length) (lowsTo es cut false es.length) (capsTo es cut false es.length) (lowsTo es cut true es.length) (capsTo es cut true es.length) (openTo es cut false es.length) (openTo es cut true es.length) := rfl

set_option maxHeartbeats 1000000 in
theorem refViolated_any (sa aa ca : Option Addr) (sn sc an ac cn cc : Nat) (xs : List Int) (es : List A5) (cut : List Int) (w : World) (hx : Ints w sa sn xs) (he : Arcs w aa an es) (hc : Ints w ca cn cut) (hn : NetOK xs es) (hr : risB cut xs.length = true) :
    Calls Try.prog 38 #[.agg #[.slice sa sn sc, .slice aa an ac], .slice ca cn cc] w fun e w' => e = .returned (.bool (violB xs es cut)) ∧ Below w.heap.size w w' := by
  have hL : Hid (xs.length = sn ∧ es.length = an ∧ cut.length = cn) := ⟨hx.len, he.len, hc.len⟩
  have hN := hide hn
  have hR := hide hr
  have hsm := hc.small
  have h24 : an ≤ 24 := by rw [← he.len]; exact hn.arcs
  have h10 : sn ≤ 10 := by rw [← hx.len]; exact hn.ten
  clear hn hr
  go_enter Try.func38, Try.ntmps38
  go_wp2
  go_loopw [5, 6] (fun v i wr => ∃ k : Nat, k ≤ cn ∧ i = .int .i64 k ∧ v = .int .i64 (needTo xs cut k) ∧ wr.cell? ⟨w.heap.size, 0, none⟩ = some (.slice sa sn sc) ∧ wr.cell? ⟨w.heap.size, 1, none⟩ = some (.slice aa an ac) ∧ Below w.heap.size w wr ∧ w.heap.size < wr.heap.size) (fun _ i _ => cn - (intOf i).toNat)
  case atStart => exact ⟨0, Nat.zero_le _, rfl, rfl, by simp, by simp, (Below.refl _ _).alloc (Nat.le_refl _) _, by simp⟩
  case round =>
    obtain ⟨k, hk, rfl, rfl, c0, c1, hbel, hsize⟩ := hrel
    have bd := need_bd hN.out cut k
    by_cases hlt : k < cn
    · have hri := ris_out hR.out (i := k) (by rw [hL.out.2.2]; exact hlt)
      rw [hL.out.1] at hri
      obtain ⟨b, off, x, rfl, hX, hb, ex⟩ := (hc.below hbel).get hlt
      rw [hX] at hri
      obtain ⟨v, rfl⟩ := nat_of hri.1
      have hvs : v < sn := by omega
      obtain ⟨b', off', y, rfl, hY, hb', ey⟩ := (hx.below hbel).get hvs
      have by1 := getD_bd hN.out v
      rw [hY] at by1
      have HS := hide (need_step hX hY)
      clear hX hY hri
      generalize needTo xs cut k = nd at *
      have hlt3 : (k : Int) < (cn : Int) := by omega
      have hlt4 : (v : Int) < (sn : Int) := by omega
      go_wp2
      go_quiet (fail)
      go_wp2
      exact ⟨⟨k + 1, by omega, by go_num, val_i HS.out.symm, by simpa using c0, by simpa using c1, hbel.trans (Joins.below_draws _ _ _), by simpa using hsize⟩, by simp [intOf]; omega⟩
    · have hkn : k = cn := by omega
      subst hkn
      go_wp2_with fail
      refine (refTolls_any sa aa ca sn sc an ac k cc xs es cut false _ (he.below hbel) (hc.below hbel) hN.out).mono ?_
      rintro e w1 ⟨rfl, hb1⟩
      have l0 := (hb1.cell (p := ⟨w.heap.size, 0, none⟩) hsize).trans c0
      have l1 := (hb1.cell (p := ⟨w.heap.size, 1, none⟩) hsize).trans c1
      have hB1 : Below w.heap.size w w1 := hbel.trans (hb1.mono (by omega))
      have hs1 : w.heap.size < w1.heap.size := by have := hb1.size; omega
      clear c0 c1 hb1
      go_wp2_with fail
      refine (refTolls_any sa aa ca sn sc an ac k cc xs es cut true _ (he.below hB1) (hc.below hB1) hN.out).mono ?_
      rintro e w2 ⟨rfl, hb2⟩
      have hB2 : Below w.heap.size w w2 := hB1.trans (hb2.mono (by omega))
      clear l0 l1 hb2
      have b1 := lows_bd hN.out cut false es.length (Nat.le_refl _)
      have b2 := lows_bd hN.out cut true es.length (Nat.le_refl _)
      have b3 := caps_bd hN.out cut false es.length (Nat.le_refl _)
      have b4 := caps_bd hN.out cut true es.length (Nat.le_refl _)
      have HV := hide (violV_eq xs es cut)
      rw [hL.out.2.2] at HV
      have hl24 : es.length ≤ 24 := hN.out.arcs
      clear hx he hc hN hR hL
      generalize needTo xs cut k = nd at *
      generalize lowsTo es cut false es.length = lo at *
      generalize lowsTo es cut true es.length = li at *
      generalize capsTo es cut false es.length = ca at *
      generalize capsTo es cut true es.length = ci at *
      generalize openTo es cut false es.length = oo at *
      generalize openTo es cut true es.length = oi at *
      cases oo <;> cases oi <;> go_wp2
      all_goals
        go_ret
        refine ⟨ret_b ?_, hB2⟩
        rw [HV.out]
        simp [violV, *]
end Go.Proofs.Ytampcheafdlomaa
