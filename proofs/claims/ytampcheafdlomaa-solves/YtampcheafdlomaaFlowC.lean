import Derived.Test.YtampcheafdlomaaFlowB
import Derived.Deep.QuietTactic
import Derived.BigQuiet
import Derived.Lib.SmallJoins
namespace Go.Proofs.Ytampcheafdlomaa
open Go.RowKit
set_option linter.unusedSimpArgs false
set_option linter.unusedVariables false

theorem costTo_step {es : List A5} {fl : List Int} {k : Nat} {f t l c q x : Int} (hA : es.getD k zA = ⟨f, t, l, c, q⟩) (hX : fl.getD k 0 = x) :
    costTo es fl (k + 1) = costTo es fl k + x * q := by
  simp only [costTo, hA, hX]
theorem prod_bd {x q : Int} (h1 : 0 ≤ x) (h2 : x ≤ 1000000) (h3 : -50 ≤ q) (h4 : q ≤ 50) : -50000000 ≤ x * q ∧ x * q ≤ 50000000 := by
  have a := Int.mul_le_mul_of_nonneg_left h3 h1
  have b := Int.mul_le_mul_of_nonneg_left h4 h1
  omega

set_option maxHeartbeats 1000000 in
theorem gCostOf_any (sa aa fa : Option Addr) (sn sc an ac fc : Nat) (xs : List Int) (es : List A5) (fl : List Int) (w : World) (he : Arcs w aa an es) (hf : Ints w fa an fl) (hn : NetOK xs es) (hm : Mild fl an) :
    Calls Try.prog 42 #[.agg #[.slice sa sn sc, .slice aa an ac], .slice fa an fc] w fun e w' => e = .returned (.int .i64 (costTo es fl es.length)) ∧ Below w.heap.size w w' := by
  have hL : Hid (es.length = an) := he.len
  have hM : Hid (Mild fl an ∧ NetOK xs es) := ⟨hm, hn⟩
  have h24 : an ≤ 24 := by rw [← he.len]; exact hn.arcs
  clear hm hn
  go_enter Try.func42, Try.ntmps42
  go_wp2
  go_loopw [5, 11] (fun v i wr => ∃ k : Nat, k ≤ an ∧ i = .int .i64 k ∧ v = .int .i64 (costTo es fl k) ∧ Below w.heap.size w wr) (fun _ i _ => an - (intOf i).toNat)
  case atStart => exact ⟨0, Nat.zero_le _, rfl, rfl, (Below.refl _ _).alloc (Nat.le_refl _) _⟩
  case round =>
    obtain ⟨k, hk, rfl, rfl, hbel⟩ := hrel
    have hbd := costTo_bd xs es fl hM.out.2 (by rw [hL.out]; exact hM.out.1) k (by rw [hL.out]; exact hk)
    by_cases hlt : k < an
    · have hxm := hM.out.1 k hlt
      have hq := (arcB_out (hM.out.2.arc k (by rw [hL.out]; exact hlt))).2.2.2.2.2.2.2
      obtain ⟨b, off, f, t, l, c, q, rfl, hA, hb, e0, e1, e2, e3, e4⟩ := (he.below hbel).get hlt
      obtain ⟨b', off', x, rfl, hX, hb', ex⟩ := (hf.below hbel).get hlt
      rw [hX] at hxm
      rw [hA] at hq
      have hp := prod_bd hxm.1 hxm.2 hq.1 hq.2
      have HS := hide (costTo_step hA hX)
      clear hA hX hq hxm
      generalize costTo es fl k = v at *
      have hlt3 : (k : Int) < (an : Int) := by omega
      go_wp2
      have ex2 : (wr.alloc (.cells #[.int .i64 f, .int .i64 t, .int .i64 l, .int .i64 c, .int .i64 q] 54)).cell? ⟨b', off' + k, none⟩ = some (.int .i64 x) := (World.cell?_alloc_lt _ _ _ hb').trans ex
      go_quiet (fail)
      go_wp2
      exact ⟨⟨k + 1, by omega, by go_num, by rw [HS.out], (hbel.alloc hbel.size _).trans (Joins.below_draws _ _ _)⟩, by simp [intOf]; omega⟩
    · have hkn : k = an := by omega
      subst hkn
      go_wp2
      go_ret
      exact ⟨ret_i (by rw [hL.out]), hbel⟩

theorem flowErr_len {xs : List Int} {es : List A5} {fl : List Int} (h : fl.length ≠ es.length) : flowErr xs es fl = 4 := by rw [flowErr, if_pos h]
theorem flowErr_bound {xs : List Int} {es : List A5} {fl : List Int} (h : fl.length = es.length) (hb : boundedB es fl = false) : flowErr xs es fl = 5 := by rw [flowErr, if_neg (by omega), if_pos hb]
theorem flowErr_bal {xs : List Int} {es : List A5} {fl : List Int} (h : fl.length = es.length) (hb : boundedB es fl = true) (hc : balB xs es fl = false) : flowErr xs es fl = 6 := by rw [flowErr, if_neg (by omega), if_neg (by simp [hb]), if_pos hc]
theorem flowErr_ok {xs : List Int} {es : List A5} {fl : List Int} (h : fl.length = es.length) (hb : boundedB es fl = true) (hc : balB xs es fl = true) : flowErr xs es fl = 0 := by rw [flowErr, if_neg (by omega), if_neg (by simp [hb]), if_neg (by simp [hc])]

set_option maxHeartbeats 1000000 in
theorem refFlowError_any (sa aa fa : Option Addr) (sn sc an ac fn fc : Nat) (xs : List Int) (es : List A5) (fl : List Int) (w : World) (hx : Ints w sa sn xs) (he : Arcs w aa an es) (hf : Ints w fa fn fl) (hn : NetOK xs es) :
    Calls Try.prog 33 #[.agg #[.slice sa sn sc, .slice aa an ac], .slice fa fn fc] w fun e w' => e = .returned (.int .i64 (flowErr xs es fl)) ∧ Below w.heap.size w w' := by
  have hL : Hid (xs.length = sn ∧ es.length = an ∧ fl.length = fn) := ⟨hx.len, he.len, hf.len⟩
  have h24 : an ≤ 24 := by rw [← he.len]; exact hn.arcs
  have h10 : sn ≤ 10 := by rw [← hx.len]; exact hn.ten
  have hN := hide hn
  have hfs := hf.small
  clear hn
  by_cases hfn : fn = an
  · subst hfn
    have hlen : Hid (fl.length = es.length) := by have := hL.out; show _ = _; omega
    have hne : ((fn : Int) != (fn : Int)) = false := by simp
    go_enter Try.func33, Try.ntmps33
    go_wp2_with fail
    have hb0 : Below w.heap.size w (w.alloc (.cells #[.slice sa sn sc, .slice aa fn ac] 25)) := (Below.refl _ _).alloc (Nat.le_refl _) _
    refine (refBounded_any sa aa fa sn sc fn ac fc es fl _ (he.below hb0) (hf.below hb0) h24).mono ?_
    rintro e w1 ⟨rfl, hb1⟩
    have k0 : w1.cell? ⟨w.heap.size, 0, none⟩ = some (.slice sa sn sc) := (hb1.cell (by simp)).trans (by go_simp)
    have k1 : w1.cell? ⟨w.heap.size, 1, none⟩ = some (.slice aa fn ac) := (hb1.cell (by simp)).trans (by go_simp)
    have hz1 : w.heap.size < w1.heap.size := by have := hb1.size; simp at this; omega
    have hB1 : Below w.heap.size w w1 := hb0.trans (hb1.mono (by simp))
    clear hb1 hb0
    cases hB : boundedB es fl with
    | false =>
      have HF := hide (flowErr_bound (xs := xs) hlen.out hB)
      clear hB
      go_wp2
      go_ret
      exact ⟨ret_i HF.out.symm, hB1⟩
    | true =>
      have hM : Hid (Mild fl fn) := by have := hN.out.mild hB; rw [hL.out.2.1] at this; exact this
      have HBd := hide hB
      clear hB
      go_wp2
      go_loopw [6, 7] (fun i v wr => ∃ k : Nat, k ≤ sn ∧ i = .int .i64 k ∧ Hid (∀ j, j < k → decide (netTo es fl (j : Int) es.length = xs.getD j 0) = true) ∧ wr.cell? ⟨w.heap.size, 0, none⟩ = some (.slice sa sn sc) ∧ wr.cell? ⟨w.heap.size, 1, none⟩ = some (.slice aa fn ac) ∧ Below w.heap.size w wr ∧ w.heap.size < wr.heap.size) (fun i _ _ => sn - (intOf i).toNat)
      case atStart => exact ⟨0, Nat.zero_le _, rfl, fun j hj => absurd hj (Nat.not_lt_zero j), k0, k1, hB1, hz1⟩
      case round =>
        clear k0 k1 hB1 hz1
        obtain ⟨k, hk, rfl, hg, c0, c1, hbel, hsize⟩ := hrel
        by_cases hlt : k < sn
        · obtain ⟨b, off, x, rfl, hX, hb, ex⟩ := (hx.below hbel).get hlt
          have HX := hide hX
          clear hX
          have hlt3 : (k : Int) < (sn : Int) := by omega
          go_wp2_with fail
          refine (refNet_any (some ⟨b, off, none⟩) aa fa sn sc fn ac fc es fl k _ (he.below hbel) (hf.below hbel) h24 hM.out).mono ?_
          rintro e w2 ⟨rfl, hb2⟩
          have l0 := (hb2.cell (p := ⟨w.heap.size, 0, none⟩) hsize).trans c0
          have l1 := (hb2.cell (p := ⟨w.heap.size, 1, none⟩) hsize).trans c1
          have lx := (hb2.cell (p := ⟨b, off + k, none⟩) hb).trans ex
          have hB2 : Below w.heap.size w w2 := hbel.trans (hb2.mono (by omega))
          have hs2 : w.heap.size < w2.heap.size := by have := hb2.size; omega
          clear c0 c1 ex hb2
          obtain ⟨v, hv⟩ : ∃ v, netTo es fl k es.length = v := ⟨_, rfl⟩
          have HV := hide hv
          rw [hv]
          clear hv
          cases hd : (v != x) with
          | true =>
            go_wp2
            go_ret
            have : decide (netTo es fl (k : Int) es.length = xs.getD k 0) = false := by rw [HV.out, HX.out]; exact decide_eq_false (by simpa using hd)
            exact ⟨ret_i (flowErr_bal hlen.out HBd.out (all_f (k := k) (by rw [hL.out.1]; exact hlt) this)).symm, hB2⟩
          | false =>
            go_wp2
            go_roundw
            case rel =>
              refine ⟨k + 1, by omega, by go_num, ?_, l0, l1, hB2, hs2⟩
              intro j hj
              by_cases hjk : j = k
              · subst hjk; rw [HV.out, HX.out]; exact decide_eq_true (by simpa using hd)
              · exact hg.out j (by omega)
            case measure => simp [intOf]; omega
        · have hkn : k = sn := by omega
          subst hkn
          go_wp2
          go_ret
          exact ⟨ret_i (flowErr_ok hlen.out HBd.out (all_t (by rw [hL.out.1]; exact hg.out))).symm, hbel⟩
  · have hne : ((fn : Int) != (an : Int)) = true := by simp; omega
    have HF := hide (flowErr_len (xs := xs) (es := es) (fl := fl) (by have := hL.out; omega))
    go_enter Try.func33, Try.ntmps33
    go_wp2
    go_ret
    exact ⟨ret_i HF.out.symm, (Below.refl _ _).alloc (Nat.le_refl _) _⟩
end Go.Proofs.Ytampcheafdlomaa
