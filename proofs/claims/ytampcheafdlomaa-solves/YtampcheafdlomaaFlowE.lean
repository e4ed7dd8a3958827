import Derived.Test.YtampcheafdlomaaFlowD
import Derived.Test.YtampcheafdlomaaLChk
namespace Go.Proofs.Ytampcheafdlomaa
open Go.RowKit
set_option linter.unusedSimpArgs false
set_option linter.unusedVariables false

theorem costS_check {xs : List Int} {es : List A5} {fl : List Int} {c : Int} (h : (checkS xs es).1 = c) (hc : c ≠ 0) : costS xs es fl = (0, c) := by rw [costS, h, if_pos hc]
theorem costS_flow {xs : List Int} {es : List A5} {fl : List Int} {c : Int} (hn : NetOK xs es) (h : flowErr xs es fl = c) (hc : c ≠ 0) : costS xs es fl = (0, c) := by
  rw [costS, hn.zero, if_neg (by simp), h, if_pos hc]
theorem costS_ok {xs : List Int} {es : List A5} {fl : List Int} (hn : NetOK xs es) (h : flowErr xs es fl = 0) : costS xs es fl = (costTo es fl es.length, 0) := by
  rw [costS, hn.zero, if_neg (by simp), h, if_neg (by simp)]
theorem flowErr_zero {xs : List Int} {es : List A5} {fl : List Int} (h : flowErr xs es fl = 0) : fl.length = es.length ∧ boundedB es fl = true ∧ balB xs es fl = true := by
  unfold flowErr at h
  split at h
  · omega
  · split at h
    · omega
    · split at h
      · omega
      · refine ⟨by omega, by simpa using ‹¬ boundedB es fl = false›, by simpa using ‹¬ balB xs es fl = false›⟩
theorem ret_ii {a b c d : Int} (h : a = b) (k : c = d) : Ending.returned (.tuple #[.int .i64 a, .int .i64 c]) = .returned (.tuple #[.int .i64 b, .int .i64 d]) := by rw [h, k]

set_option maxHeartbeats 1000000 in
theorem gCost_any (sa aa fa : Option Addr) (sn sc an ac fn fc : Nat) (xs : List Int) (es : List A5) (fl : List Int) (w : World) (hx : Ints w sa sn xs) (he : Arcs w aa an es) (hf : Ints w fa fn fl) :
    Calls Try.prog 32 #[.agg #[.slice sa sn sc, .slice aa an ac], .slice fa fn fc] w fun e w' => e = .returned (.tuple #[.int .i64 (costS xs es fl).1, .int .i64 (costS xs es fl).2]) ∧ Below w.heap.size w w' := by
  have hb0 : Below w.heap.size w (w.alloc (.cells #[.slice sa sn sc, .slice aa an ac] 25)) := (Below.refl _ _).alloc (Nat.le_refl _) _
  go_enter Try.func32, Try.ntmps32
  go_wp2_with fail
  refine (gCheck_any sa aa sn sc an ac xs es _ (hx.below hb0) (he.below hb0)).mono ?_
  rintro e w1 ⟨rfl, hb1⟩
  have k0 : w1.cell? ⟨w.heap.size, 0, none⟩ = some (.slice sa sn sc) := (hb1.cell (by simp)).trans (by go_simp)
  have k1 : w1.cell? ⟨w.heap.size, 1, none⟩ = some (.slice aa an ac) := (hb1.cell (by simp)).trans (by go_simp)
  have hz1 : w.heap.size < w1.heap.size := by have := hb1.size; simp at this; omega
  have hB1 : Below w.heap.size w w1 := hb0.trans (hb1.mono (by simp))
  clear hb1 hb0
  obtain ⟨c, hc⟩ : ∃ c, (checkS xs es).1 = c := ⟨_, rfl⟩
  rw [hc]
  cases hz : (c != 0) with
  | true =>
    have HS := hide (costS_check (fl := fl) hc (by simpa using hz))
    clear hc
    go_wp2
    go_ret2
    exact ⟨ret_ii (by rw [HS.out]) (by rw [HS.out]), hB1⟩
  | false =>
    have hn := netOK_of (hc.trans (by simpa using hz))
    have hN := hide hn
    clear hc
    go_wp2_with fail
    refine (gFlowError_any sa aa fa sn sc an ac fn fc xs es fl _ (hx.below hB1) (he.below hB1) (hf.below hB1) hn).mono ?_
    rintro e w2 ⟨rfl, hb2⟩
    have l0 := (hb2.cell (p := ⟨w.heap.size, 0, none⟩) hz1).trans k0
    have l1 := (hb2.cell (p := ⟨w.heap.size, 1, none⟩) hz1).trans k1
    have hB2 : Below w.heap.size w w2 := hB1.trans (hb2.mono (by omega))
    clear k0 k1 hb2 hB1 hz1 hn
    obtain ⟨c2, hc2⟩ : ∃ c, flowErr xs es fl = c := ⟨_, rfl⟩
    rw [hc2]
    cases hz2 : (c2 != 0) with
    | true =>
      have HS := hide (costS_flow hN.out hc2 (by simpa using hz2))
      clear hc2
      go_wp2
      go_ret2
      exact ⟨ret_ii (by rw [HS.out]) (by rw [HS.out]), hB2⟩
    | false =>
      have h0 := hc2.trans (by simpa using hz2)
      obtain ⟨hl, hbd, -⟩ := flowErr_zero h0
      have hfn : fn = an := by rw [← hf.len, ← he.len]; exact hl
      subst hfn
      have hM : Mild fl fn := by have := hN.out.mild hbd; rw [he.len] at this; exact this
      have HS := hide (costS_ok hN.out h0)
      clear hc2 h0 hl hbd
      go_wp2_with fail
      refine (gCostOf_any sa aa fa sn sc fn ac fc xs es fl _ (he.below hB2) (hf.below hB2) hN.out hM).mono ?_
      rintro e w3 ⟨rfl, hb3⟩
      have hB3 : Below w.heap.size w w3 := hB2.trans (hb3.mono hB2.size)
      clear hM
      go_wp2
      go_ret2
      exact ⟨ret_ii (by rw [HS.out]) (by rw [HS.out]), hB3⟩

set_option maxHeartbeats 1000000 in
theorem refCost_any (sa aa fa : Option Addr) (sn sc an ac fn fc : Nat) (xs : List Int) (es : List A5) (fl : List Int) (w : World) (hx : Ints w sa sn xs) (he : Arcs w aa an es) (hf : Ints w fa fn fl) :
    Calls Try.prog 17 #[.agg #[.slice sa sn sc, .slice aa an ac], .slice fa fn fc] w fun e w' => e = .returned (.tuple #[.int .i64 (costS xs es fl).1, .int .i64 (costS xs es fl).2]) ∧ Below w.heap.size w w' := by
  have hb0 : Below w.heap.size w (w.alloc (.cells #[.slice sa sn sc, .slice aa an ac] 25)) := (Below.refl _ _).alloc (Nat.le_refl _) _
  go_enter Try.func17, Try.ntmps17
  go_wp2_with fail
  refine (refCheck_any sa aa sn sc an ac xs es _ (hx.below hb0) (he.below hb0)).mono ?_
  rintro e w1 ⟨rfl, hb1⟩
  have k0 : w1.cell? ⟨w.heap.size, 0, none⟩ = some (.slice sa sn sc) := (hb1.cell (by simp)).trans (by go_simp)
  have k1 : w1.cell? ⟨w.heap.size, 1, none⟩ = some (.slice aa an ac) := (hb1.cell (by simp)).trans (by go_simp)
  have hz1 : w.heap.size < w1.heap.size := by have := hb1.size; simp at this; omega
  have hB1 : Below w.heap.size w w1 := hb0.trans (hb1.mono (by simp))
  clear hb1 hb0
  obtain ⟨c, hc⟩ : ∃ c, (checkS xs es).1 = c := ⟨_, rfl⟩
  rw [hc]
  cases hz : (c != 0) with
  | true =>
    have HS := hide (costS_check (fl := fl) hc (by simpa using hz))
    clear hc
    go_wp2
    go_ret2
    exact ⟨ret_ii (by rw [HS.out]) (by rw [HS.out]), hB1⟩
  | false =>
    have hn := netOK_of (hc.trans (by simpa using hz))
    have hN := hide hn
    clear hc
    go_wp2_with fail
    refine (refFlowError_any sa aa fa sn sc an ac fn fc xs es fl _ (hx.below hB1) (he.below hB1) (hf.below hB1) hn).mono ?_
    rintro e w2 ⟨rfl, hb2⟩
    have l0 := (hb2.cell (p := ⟨w.heap.size, 0, none⟩) hz1).trans k0
    have l1 := (hb2.cell (p := ⟨w.heap.size, 1, none⟩) hz1).trans k1
    have hB2 : Below w.heap.size w w2 := hB1.trans (hb2.mono (by omega))
    have hz2' : w.heap.size < w2.heap.size := by have := hb2.size; omega
    clear k0 k1 hb2 hB1 hz1 hn
    obtain ⟨c2, hc2⟩ : ∃ c, flowErr xs es fl = c := ⟨_, rfl⟩
    rw [hc2]
    cases hz2 : (c2 != 0) with
    | true =>
      have HS := hide (costS_flow hN.out hc2 (by simpa using hz2))
      clear hc2
      go_wp2
      go_ret2
      exact ⟨ret_ii (by rw [HS.out]) (by rw [HS.out]), hB2⟩
    | false =>
      have h0 := hc2.trans (by simpa using hz2)
      obtain ⟨hl, hbd, -⟩ := flowErr_zero h0
      have hfn : fn = an := by rw [← hf.len, ← he.len]; exact hl
      subst hfn
      have hM : Hid (Mild fl fn) := by have := hN.out.mild hbd; rw [he.len] at this; exact this
      have hL : Hid (es.length = fn) := he.len
      have h24 : fn ≤ 24 := by rw [← he.len]; exact hN.out.arcs
      have HS := hide (costS_ok hN.out h0)
      clear hc2 h0 hl hbd
      go_wp2
      go_loopw [8, 9] (fun v i wr => ∃ k : Nat, k ≤ fn ∧ i = .int .i64 k ∧ v = .int .i64 (costTo es fl k) ∧ wr.cell? ⟨w.heap.size, 1, none⟩ = some (.slice aa fn ac) ∧ Below w.heap.size w wr) (fun _ i _ => fn - (intOf i).toNat)
      case atStart => exact ⟨0, Nat.zero_le _, rfl, rfl, l1, hB2⟩
      case round =>
        clear l0 l1 hB2 hz2'
        obtain ⟨k, hk, rfl, rfl, c1, hbel⟩ := hrel
        have hbd := costTo_bd xs es fl hN.out (by rw [hL.out]; exact hM.out) k (by rw [hL.out]; exact hk)
        by_cases hlt : k < fn
        · have hxm := hM.out k hlt
          have hq := (arcB_out (hN.out.arc k (by rw [hL.out]; exact hlt))).2.2.2.2.2.2.2
          obtain ⟨b, off, f, t, l, c, q, rfl, hA, hb, e0, e1, e2, e3, e4⟩ := (he.below hbel).get hlt
          obtain ⟨b', off', x, rfl, hX, hb', ex⟩ := (hf.below hbel).get hlt
          rw [hX] at hxm
          rw [hA] at hq
          have hp := prod_bd hxm.1 hxm.2 hq.1 hq.2
          have HP := hide (costTo_step hA hX)
          clear hA hX hq hxm
          generalize costTo es fl k = v at *
          have hlt3 : (k : Int) < (fn : Int) := by omega
          go_wp2
          go_quiet (fail)
          go_wp2
          exact ⟨⟨k + 1, by omega, by go_num, by rw [HP.out], by simpa using c1, hbel.trans (Joins.below_draws _ _ _)⟩, by simp [intOf]; omega⟩
        · have hkn : k = fn := by omega
          subst hkn
          go_wp2
          go_ret2
          exact ⟨ret_ii (by rw [HS.out, hL.out]) (by rw [HS.out]), hbel⟩

set_option maxHeartbeats 400000 in
theorem cost_any (sa aa fa : Option Addr) (sn sc an ac fn fc : Nat) (xs : List Int) (es : List A5) (fl : List Int) (w : World) (hx : Ints w sa sn xs) (he : Arcs w aa an es) (hf : Ints w fa fn fl) :
    Calls Try.prog 15 #[.agg #[.slice sa sn sc, .slice aa an ac], .slice fa fn fc] w fun e w' => e = .returned (.tuple #[.int .i64 (costS xs es fl).1, .int .i64 (costS xs es fl).2]) ∧ Below w.heap.size w w' := by
  have hb0 : Below w.heap.size w (w.alloc (.cells #[.slice sa sn sc, .slice aa an ac] 25)) := (Below.refl _ _).alloc (Nat.le_refl _) _
  go_enter Try.func15, Try.ntmps15
  go_wp2_with fail
  refine (gCost_any sa aa fa sn sc an ac fn fc xs es fl _ (hx.below hb0) (he.below hb0) (hf.below hb0)).mono ?_
  rintro e w1 ⟨rfl, hb⟩
  go_wp2
  go_ret2
  exact ⟨rfl, hb0.trans (hb.mono (by simp))⟩

set_option maxHeartbeats 400000 in
theorem own_any (a : Option Addr) (n c : Nat) (xs : List Int) (w : World) (hx : Ints w a n xs) :
    Calls Try.prog 16 #[.slice a n c] w fun e w' => ∃ a' c', e = .returned (.slice a' n c') ∧ Ints w' a' n xs ∧ Fresh w.heap.size n a' ∧ Below w.heap.size w w' := by
  go_enter Try.func16, Try.ntmps16
  go_wp2_with (at_builtin; refine wpList_copy_ints rfl _ _ rfl rfl a n c rfl xs hx ?_)
  intro a' c' w1 hI hF hb
  go_wp2
  go_ret
  exact ⟨a', c', rfl, hI, hF, hb⟩

set_option maxHeartbeats 400000 in
theorem lawCosts_any (sa aa fa : Option Addr) (sn sc an ac fn fc : Nat) (xs : List Int) (es : List A5) (fl : List Int) (w : World) (hx : Ints w sa sn xs) (he : Arcs w aa an es) (hf : Ints w fa fn fl) :
    Calls Try.prog 4 #[.agg #[.slice sa sn sc, .slice aa an ac], .slice fa fn fc] w fun e w' => e = .returned (.bool true) ∧ Below w.heap.size w w' := by
  have hb0 : Below w.heap.size w (w.alloc (.cells #[.slice sa sn sc, .slice aa an ac] 25)) := (Below.refl _ _).alloc (Nat.le_refl _) _
  go_enter Try.func4, Try.ntmps4
  go_wp2_with fail
  refine (refCopy_any sa aa sn sc an ac xs es _ (hx.below hb0) (he.below hb0)).mono ?_
  rintro e w1 ⟨sa', sc', aa', ac', rfl, hI, hA, -, -, hb1⟩
  have k0 : w1.cell? ⟨w.heap.size, 0, none⟩ = some (.slice sa sn sc) := (hb1.cell (by simp)).trans (by go_simp)
  have k1 : w1.cell? ⟨w.heap.size, 1, none⟩ = some (.slice aa an ac) := (hb1.cell (by simp)).trans (by go_simp)
  have hz1 : w.heap.size < w1.heap.size := by have := hb1.size; simp at this; omega
  have hB1 : Below w.heap.size w w1 := hb0.trans (hb1.mono (by simp))
  clear hb1 hb0
  go_wp2_with fail
  refine (own_any fa fn fc fl _ (hf.below hB1)).mono ?_
  rintro e w2 ⟨fa', fc', rfl, hF, -, hb2⟩
  have l0 := (hb2.cell (p := ⟨w.heap.size, 0, none⟩) hz1).trans k0
  have l1 := (hb2.cell (p := ⟨w.heap.size, 1, none⟩) hz1).trans k1
  have hB2 : Below w.heap.size w w2 := hB1.trans (hb2.mono (by omega))
  have hz2 : w.heap.size < w2.heap.size := by have := hb2.size; omega
  go_wp2_with fail
  refine (cost_any sa' aa' fa' sn sc' an ac' fn fc' xs es fl _ (hI.below hb2) (hA.below hb2) hF).mono ?_
  rintro e w3 ⟨rfl, hb3⟩
  have m0 := (hb3.cell (p := ⟨w.heap.size, 0, none⟩) hz2).trans l0
  have m1 := (hb3.cell (p := ⟨w.heap.size, 1, none⟩) hz2).trans l1
  have hB3 : Below w.heap.size w w3 := hB2.trans (hb3.mono (by omega))
  clear k0 k1 l0 l1 hb2 hb3 hI hA hF
  go_wp2_with fail
  refine (refCost_any sa aa fa sn sc an ac fn fc xs es fl _ (hx.below hB3) (he.below hB3) (hf.below hB3)).mono ?_
  rintro e w4 ⟨rfl, hb4⟩
  have hB4 : Below w.heap.size w w4 := hB3.trans (hb4.mono hB3.size)
  clear m0 m1 hx he hf
  generalize costS xs es fl = r
  obtain ⟨p, q⟩ := r
  go_wp2
  go_ret
  exact ⟨rfl, hB4⟩
end Go.Proofs.Ytampcheafdlomaa
