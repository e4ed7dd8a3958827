import Derived.Test.YtampcheafdlomaaFlowC
namespace Go.Proofs.Ytampcheafdlomaa
open Go.RowKit
set_option linter.unusedSimpArgs false
set_option linter.unusedVariables false

set_option maxHeartbeats 1000000 in
theorem gFlowError_any (sa aa fa : Option Addr) (sn sc an ac fn fc : Nat) (xs : List Int) (es : List A5) (fl : List Int) (w : World) (hx : Ints w sa sn xs) (he : Arcs w aa an es) (hf : Ints w fa fn fl) (hn : NetOK xs es) :
    Calls Try.prog 41 #[.agg #[.slice sa sn sc, .slice aa an ac], .slice fa fn fc] w fun e w' => e = .returned (.int .i64 (flowErr xs es fl)) ∧ Below w.heap.size w w' := by
  have hL : Hid (xs.length = sn ∧ es.length = an ∧ fl.length = fn) := ⟨hx.len, he.len, hf.len⟩
  have h24 : an ≤ 24 := by rw [← he.len]; exact hn.arcs
  have h10 : sn ≤ 10 := by rw [← hx.len]; exact hn.ten
  have hN := hide hn
  have hfs := hf.small
  clear hn
  by_cases hfn : fn = an
  · subst hfn
    have hlen : Hid (fl.length = es.length) := by have := hL.out; show _ = _; omega
    have hne : ((fn : Int) != (fn : Int)) = false := by simp
    go_enter Try.func41, Try.ntmps41
    go_wp2
    go_loopw [18] (fun i wr => ∃ k : Nat, k ≤ fn ∧ i = .int .i64 k ∧ Hid (∀ j, j < k → boundB (es.getD j zA) (fl.getD j 0) = true) ∧ wr.cell? ⟨w.heap.size, 0, none⟩ = some (.slice sa sn sc) ∧ wr.cell? ⟨w.heap.size, 1, none⟩ = some (.slice aa fn ac) ∧ Below w.heap.size w wr ∧ w.heap.size < wr.heap.size) (fun i _ => fn - (intOf i).toNat)
    case atStart => exact ⟨0, Nat.zero_le _, rfl, fun j hj => absurd hj (Nat.not_lt_zero j), by simp, by simp, (Below.refl _ _).alloc (Nat.le_refl _) _, by simp⟩
    case round =>
      obtain ⟨k, hk, rfl, hg, c0, c1, hbel, hsize⟩ := hrel
      by_cases hlt : k < fn
      · obtain ⟨b, off, f, t, l, c, q, rfl, hA, hb, e0, e1, e2, e3, e4⟩ := (he.below hbel).get hlt
        obtain ⟨b', off', x, rfl, hX, hb', ex⟩ := (hf.below hbel).get hlt
        have HA := hide hA
        have HX := hide hX
        clear hA hX
        have hlt3 : (k : Int) < (fn : Int) := by omega
        obtain ⟨B, hB⟩ : ∃ B, boundB ⟨f, t, l, c, q⟩ x = B := ⟨_, rfl⟩
        have cQ0 : n0 (∀ w0 : World, Calls Try.prog 62 #[.agg #[.int .i64 f, .int .i64 t, .int .i64 l, .int .i64 c, .int .i64 q], .int .i64 x] w0 fun e w' => e = .returned (.bool B) ∧ Below w0.heap.size w0 w') := fun w0 => by rw [← hB]; exact gWithinBounds_any f t l c q x w0
        have HB := hide hB
        clear hB
        go_wp2
        obtain ⟨wa, hwa⟩ : ∃ wa, wr.alloc (.cells #[.int .i64 f, .int .i64 t, .int .i64 l, .int .i64 c, .int .i64 q] 54) = wa := ⟨_, rfl⟩
        have k0 := cell_regrown (w := wa) (a := ⟨w.heap.size, 0, none⟩) (by rw [← hwa]; exact (World.cell?_alloc_lt _ _ _ hsize).trans c0)
        have k1 := cell_regrown (w := wa) (a := ⟨w.heap.size, 1, none⟩) (by rw [← hwa]; exact (World.cell?_alloc_lt _ _ _ hsize).trans c1)
        have kx := cell_regrown (w := wa) (a := ⟨b', off' + k, none⟩) (by rw [← hwa]; exact (World.cell?_alloc_lt _ _ _ hb').trans ex)
        have l0 := cell_regrown (w := wa) (a := ⟨wr.heap.size, 0, none⟩) (v := .int .i64 f) (by rw [← hwa]; simp)
        have l1 := cell_regrown (w := wa) (a := ⟨wr.heap.size, 1, none⟩) (v := .int .i64 t) (by rw [← hwa]; simp)
        have l2 := cell_regrown (w := wa) (a := ⟨wr.heap.size, 2, none⟩) (v := .int .i64 l) (by rw [← hwa]; simp)
        have l3 := cell_regrown (w := wa) (a := ⟨wr.heap.size, 3, none⟩) (v := .int .i64 c) (by rw [← hwa]; simp)
        have l4 := cell_regrown (w := wa) (a := ⟨wr.heap.size, 4, none⟩) (v := .int .i64 q) (by rw [← hwa]; simp)
        have hba : Below w.heap.size w wa := by rw [← hwa]; exact hbel.alloc hbel.size _
        have hsa : w.heap.size < wa.heap.size := by rw [← hwa]; simp; omega
        rw [hwa]
        clear hwa c0 c1 e0 e1 e2 e3 e4 ex hbel hsize
        have cQ : ∀ d os, Calls Try.prog 62 #[.agg #[.int .i64 f, .int .i64 t, .int .i64 l, .int .i64 c, .int .i64 q], .int .i64 x] (Sort.grow (redrawn wa d) os) fun e w'' => e = .returned (.bool B) ∧ ∃ p : Regrown, w'' = Sort.grow (redrawn wa p.d) p.os := fun d os => Calls.regrown_of (cQ0.out _)
        refine wp_region_quiet_below (by kernel_rfl) (by kernel_rfl) ?_
        repeat (quiet_step (first | exact cQ _ _))
        refine wpQuiet_nil ?_
        intro _ hw'
        obtain ⟨⟨dq, osq⟩, hw''⟩ := hw'
        subst hw''
        have k0' := k0 dq osq
        have k1' := k1 dq osq
        have hbr := below_regrown wa dq osq
        generalize Sort.grow (redrawn wa dq) osq = w2 at *
        clear k0 k1 kx l0 l1 l2 l3 l4 cQ cQ0
        have hb2 : Below w.heap.size w w2 := hba.trans (hbr.mono hba.size)
        have hs2 : w.heap.size < w2.heap.size := by have := hbr.size; omega
        clear hbr
        cases B with
        | true =>
          go_wp2
          go_roundw
          case rel =>
            refine ⟨k + 1, by omega, by go_num, ?_, k0', k1', hb2, hs2⟩
            intro j hj
            by_cases hjk : j = k
            · subst hjk; rw [HA.out, HX.out]; exact HB.out
            · exact hg.out j (by omega)
          case measure => simp [intOf]; omega
        | false =>
          go_wp2
          go_ret
          exact ⟨ret_i (flowErr_bound hlen.out (all_f (k := k) (by rw [hL.out.2.1]; exact hlt) (by rw [HA.out, HX.out]; exact HB.out))).symm, hb2⟩
      · have hkn : k = fn := by omega
        subst hkn
        have hB : boundedB es fl = true := all_t (by rw [hL.out.2.1]; exact hg.out)
        have hM : Hid (Mild fl k) := by have := hN.out.mild hB; rw [hL.out.2.1] at this; exact this
        have HBd := hide hB
        clear hB hg
        go_wp2
        go_loopw [34] (fun i wr => ∃ m : Nat, m ≤ sn ∧ i = .int .i64 m ∧ Hid (∀ j, j < m → decide (netTo es fl (j : Int) es.length = xs.getD j 0) = true) ∧ wr.cell? ⟨w.heap.size, 0, none⟩ = some (.slice sa sn sc) ∧ wr.cell? ⟨w.heap.size, 1, none⟩ = some (.slice aa k ac) ∧ Below w.heap.size w wr ∧ w.heap.size < wr.heap.size) (fun i _ => sn - (intOf i).toNat)
        case atStart => exact ⟨0, Nat.zero_le _, rfl, fun j hj => absurd hj (Nat.not_lt_zero j), c0, c1, hbel, hsize⟩
        case round =>
          clear c0 c1 hbel hsize
          obtain ⟨m, hm, rfl, hg, c0, c1, hbel, hsize⟩ := hrel
          by_cases hlt : m < sn
          · obtain ⟨b, off, x, rfl, hX, hb, ex⟩ := (hx.below hbel).get hlt
            have HX := hide hX
            clear hX
            have hlt3 : (m : Int) < (sn : Int) := by omega
            go_wp2_with fail
            refine (gSurplus_any (some ⟨b, off, none⟩) aa fa sn sc k ac fc es fl m _ (he.below hbel) (hf.below hbel) h24 hM.out).mono ?_
            rintro e w2 ⟨rfl, hb2⟩
            have l0 := (hb2.cell (p := ⟨w.heap.size, 0, none⟩) hsize).trans c0
            have l1 := (hb2.cell (p := ⟨w.heap.size, 1, none⟩) hsize).trans c1
            have hB2 : Below w.heap.size w w2 := hbel.trans (hb2.mono (by omega))
            have hs2 : w.heap.size < w2.heap.size := by have := hb2.size; omega
            clear c0 c1 ex hb2
            obtain ⟨v, hv⟩ : ∃ v, netTo es fl m es.length = v := ⟨_, rfl⟩
            have HV := hide hv
            rw [hv]
            clear hv
            cases hd : (v != x) with
            | true =>
              go_wp2
              go_ret
              have : decide (netTo es fl (m : Int) es.length = xs.getD m 0) = false := by rw [HV.out, HX.out]; exact decide_eq_false (by simpa using hd)
              exact ⟨ret_i (flowErr_bal hlen.out HBd.out (all_f (k := m) (by rw [hL.out.1]; exact hlt) this)).symm, hB2⟩
            | false =>
              go_wp2
              go_roundw
              case rel =>
                refine ⟨m + 1, by omega, by go_num, ?_, l0, l1, hB2, hs2⟩
                intro j hj
                by_cases hjk : j = m
                · subst hjk; rw [HV.out, HX.out]; exact decide_eq_true (by simpa using hd)
                · exact hg.out j (by omega)
              case measure => simp [intOf]; omega
          · have hkn : m = sn := by omega
            subst hkn
            go_wp2
            go_ret
            exact ⟨ret_i (flowErr_ok hlen.out HBd.out (all_t (by rw [hL.out.1]; exact hg.out))).symm, hbel⟩
  · have hne : ((fn : Int) != (an : Int)) = true := by simp; omega
    have HF := hide (flowErr_len (xs := xs) (es := es) (fl := fl) (by have := hL.out; omega))
    go_enter Try.func41, Try.ntmps41
    go_wp2
    go_ret
    exact ⟨ret_i HF.out.symm, (Below.refl _ _).alloc (Nat.le_refl _) _⟩
end Go.Proofs.Ytampcheafdlomaa
