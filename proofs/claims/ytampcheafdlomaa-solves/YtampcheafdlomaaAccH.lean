import Derived.Test.YtampcheafdlomaaAccG
namespace Go.Proofs.Ytampcheafdlomaa
open Go.RowKit Go.Deep
set_option linter.unusedSimpArgs false
set_option linter.unusedVariables false

set_option maxHeartbeats 2000000 in
theorem gIsCircle_any (sa aa ca : Option Addr) (sn sc an ac cn cc : Nat) (xs : List Int) (es : List A5) (l : List Int) (w : World) (he : Arcs w aa an es) (hc : Ints w ca cn l) (hn : NetOK xs es) :
    Calls Try.prog 68 #[.agg #[.slice sa sn sc, .slice aa an ac], .slice ca cn cc] w fun e w' => e = .returned (.bool (decide (0 < l.length) && onceB es.length l && prevB es l)) ∧ Below w.heap.size w w' := by
  have hL : Hid (es.length = an ∧ l.length = cn) := ⟨he.len, hc.len⟩
  have hN := hide hn
  have hsm := hc.small
  have h24 : an ≤ 24 := by rw [← he.len]; exact hn.arcs
  have hb0 : Below w.heap.size w (w.alloc (.cells #[.slice sa sn sc, .slice aa an ac] 25)) := (Below.refl _ _).alloc (Nat.le_refl _) _
  clear hn
  by_cases hz : cn = 0
  · subst hz
    have h0 : Hid (decide (0 < l.length) = false) := decide_eq_false (by rw [hL.out.2]; omega)
    go_enter Try.func68, Try.ntmps68
    go_wp2
    go_ret
    exact ⟨ret_b (by rw [h0.out]; rfl), hb0⟩
  · have h0 : Hid (decide (0 < l.length) = true) := decide_eq_true (by rw [hL.out.2]; omega)
    have hz0 : ((cn : Int) == 0) = false := by simp; omega
    go_enter Try.func68, Try.ntmps68
    go_wp2_with fail
    refine (gNamesArcsOnce_any ca cn cc an l _ (hc.below hb0) h24).mono ?_
    rintro e w1 ⟨rfl, hb1⟩
    have k1 : w1.cell? ⟨w.heap.size, 1, none⟩ = some (.slice aa an ac) := (hb1.cell (by simp)).trans (by go_simp)
    have hz1 : w.heap.size < w1.heap.size := by have := hb1.size; simp at this; omega
    have hB1 : Below w.heap.size w w1 := hb0.trans (hb1.mono (by simp))
    clear hb1 hb0
    cases hO : onceB an l with
    | false =>
      have HO : Hid (onceB es.length l = false) := by show onceB es.length l = false; rw [hL.out.1]; exact hO
      clear hO
      go_wp2
      go_ret
      exact ⟨ret_b (by rw [HO.out]; simp), hB1⟩
    | true =>
      have HO : Hid (onceB es.length l = true) := by show onceB es.length l = true; rw [hL.out.1]; exact hO
      clear hO
      have hri := once_out HO.out (i := cn - 1) (by rw [hL.out.2]; omega)
      rw [hL.out.1] at hri
      obtain ⟨b, off, x, rfl, hX, hb, ex⟩ := (hc.below hB1).get (k := cn - 1) (by omega)
      rw [hX] at hri
      obtain ⟨v, rfl⟩ := nat_of hri.1
      have hvs : v < an := by omega
      obtain ⟨b', off', f, t, lo, c, q, rfl, hA, hb', e0, e1, e2, e3, e4⟩ := (he.below hB1).get hvs
      have HL : Hid ((arcOf es l (cn - 1)).to = t) := by show (arcOf es l (cn - 1)).to = t; rw [(arcOf_get (es := es) hX).trans hA]
      obtain ⟨cm, rfl⟩ : ∃ cm, cn = cm + 1 := ⟨cn - 1, by omega⟩
      rw [show cm + 1 - 1 = cm from by omega] at ex HL
      clear hX hA hri hz
      have hlt4 : (v : Int) < (an : Int) := by omega
      go_wp2
      go_region
      go_wp2
      have c1 : ((w1.alloc (.cells #[.int .i64 f, .int .i64 t, .int .i64 lo, .int .i64 c, .int .i64 q] 54)).drew).cell? ⟨w.heap.size, 1, none⟩ = some (.slice (some ⟨b', off', none⟩) an ac) := by
        simpa using (World.cell?_alloc_lt _ _ _ hz1).trans k1
      have hB2 : Below w.heap.size w ((w1.alloc (.cells #[.int .i64 f, .int .i64 t, .int .i64 lo, .int .i64 c, .int .i64 q] 54)).drew) := (hB1.alloc hB1.size _).drew
      have hz2 : w.heap.size < ((w1.alloc (.cells #[.int .i64 f, .int .i64 t, .int .i64 lo, .int .i64 c, .int .i64 q] 54)).drew).heap.size := by simp; omega
      clear e0 e1 e2 e3 e4 ex k1 hB1 hz1
      generalize (w1.alloc (.cells #[.int .i64 f, .int .i64 t, .int .i64 lo, .int .i64 c, .int .i64 q] 54)).drew = w3 at *
      go_loopw [6, 35] (fun a i wr => ∃ (k : Nat) (at' : Int), k ≤ cm + 1 ∧ i = .int .i64 k ∧ a = .int .i64 at' ∧ Hid ((arcOf es l (prv (cm + 1) k)).to = at') ∧ Hid (∀ j, j < k → prevAt es l j = true) ∧ wr.cell? ⟨w.heap.size, 1, none⟩ = some (.slice (some ⟨b', off', none⟩) an ac) ∧ Below w.heap.size w wr ∧ w.heap.size < wr.heap.size) (fun _ i _ => cm + 1 - (intOf i).toNat)
      case atStart => exact ⟨0, t, Nat.zero_le _, rfl, rfl, by simpa [prv] using HL, fun j hj => absurd hj (Nat.not_lt_zero j), c1, hB2, hz2⟩
      case round =>
        clear c1 hB2 hz2 HL
        obtain ⟨k, at', hk, rfl, rfl, hat, hg, c1, hbel, hsize⟩ := hrel
        by_cases hlt : k < cm + 1
        · have hri := once_out HO.out (i := k) (by rw [hL.out.2]; exact hlt)
          rw [hL.out.1] at hri
          obtain ⟨b2, off2, y, e5, hY, hb2, ey⟩ := (hc.below hbel).get hlt
          obtain ⟨rfl, rfl⟩ : b = b2 ∧ off = off2 := by simpa using e5
          rw [hY] at hri
          obtain ⟨u, rfl⟩ := nat_of hri.1
          have hus : u < an := by omega
          obtain ⟨b3, off3, f2, t2, lo2, c2, q2, e6, hA, hb3, g0, g1, g2, g3, g4⟩ := (he.below hbel).get hus
          obtain ⟨rfl, rfl⟩ : b' = b3 ∧ off' = off3 := by simpa using e6
          have hAr := (arcOf_get (es := es) hY).trans hA
          have HP : Hid (prevAt es l k = (f2 == at')) := by
            show prevAt es l k = (f2 == at')
            simp only [prevAt, hAr, hL.out.2, hat.out]
          have HT : Hid ((arcOf es l (prv (cm + 1) (k + 1))).to = t2) := by
            show (arcOf es l (prv (cm + 1) (k + 1))).to = t2
            simp only [prv, Nat.add_one_ne_zero, if_false, Nat.add_sub_cancel, hAr]
          clear e5 e6 hY hA hAr hri
          have hlt3 : (k : Int) < (cm : Int) + 1 := by omega
          have hlt5 : (u : Int) < (an : Int) := by omega
          cases hd : (f2 != at') with
          | true =>
            have HF : Hid (prevB es l = false) := all_f (k := k) (by rw [hL.out.2]; exact hlt) (by rw [HP.out]; simpa using hd)
            go_wp2
            go_ret
            exact ⟨ret_b (by rw [HF.out]; simp), hbel.alloc hbel.size _⟩
          | false =>
            go_wp2
            refine ⟨⟨k + 1, t2, by omega, by go_num, rfl, HT.out, ?_, (World.cell?_alloc_lt _ _ _ hsize).trans c1, hbel.alloc hbel.size _, by simp; omega⟩, by simp [intOf]; omega⟩
            intro j hj
            by_cases hjk : j = k
            · subst hjk; rw [HP.out]; simpa using hd
            · exact hg.out j (by omega)
        · have hkn : k = cm + 1 := by omega
          subst hkn
          have HT : Hid (prevB es l = true) := all_t (by rw [hL.out.2]; exact hg.out)
          go_wp2
          go_ret
          exact ⟨ret_b (by rw [h0.out, HO.out, HT.out]; rfl), hbel⟩
end Go.Proofs.Ytampcheafdlomaa
