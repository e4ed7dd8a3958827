import Derived.Test.YtnbccoflcoaoaaaGreatGSol
import Derived.Test.YtnbccoflcoaoaaaGreatGDuo
import Derived.Test.YtnbccoflcoaoaaaGreatGAca
import Derived.Test.YtnbccoflcoaoaaaGreatGBas
import Derived.Test.YtnbccoflcoaoaaaGreatGFlo
namespace Go.Proofs.YtnbccoflcoaoaaaGreat
open Go.RowKit Go.Deep
set_option linter.unusedSimpArgs false
set_option linter.unusedVariables false

/-! ### what Most may answer -/
def argB (n f t : Int) : Bool := decide (0 ≤ f ∧ f < n ∧ 0 ≤ t ∧ t < n ∧ f ≠ t)
def zeroB (xs : List Int) : Bool := (List.range xs.length).all fun i => decide (xs.getD i 0 = 0)
def pipeAt (a : A5) : Bool := decide (a.lo = 0 ∧ a.cost = 0 ∧ a.cap ≠ -1)
def pipeB (es : List A5) : Bool := (List.range es.length).all fun i => pipeAt (es.getD i zA)
def mostErr (xs : List Int) (es : List A5) (f t : Int) : Int :=
  if (checkS xs es).1 ≠ 0 then (checkS xs es).1 else if argB xs.length f t = false then 7 else if zeroB xs = false then 8 else if pipeB es = false then 8 else 0
/-- How much goes at node k. -/
def mostAt (es : List A5) (fl : List Int) (f t much : Int) (k : Nat) : Bool := decide (((k : Int) = f → netTo es fl (k : Int) es.length = much) ∧ ((k : Int) ≠ f → (k : Int) ≠ t → netTo es fl (k : Int) es.length = 0))
def MostAns (xs : List Int) (es : List A5) (f t : Int) (much : Int) (fl cu : List Int) (err : Int) : Prop :=
  (mostErr xs es f t ≠ 0 ∧ err = mostErr xs es f t ∧ much = 0 ∧ fl = [] ∧ cu = []) ∨
  (mostErr xs es f t = 0 ∧ err = 0 ∧ fl.length = es.length ∧ boundedB es fl = true ∧ risB cu xs.length = true ∧ (∀ k, k < xs.length → mostAt es fl f t much k = true) ∧ inB cu f = true ∧ inB cu t = false ∧ capsTo es cu false es.length = much)

/-- MOST's CONTRACT. -/
def MostC : Prop := ∀ (sa aa : Option Addr) (sn sc an ac : Nat) (f t : Int) (xs : List Int) (es : List A5) (w : World), Ints w sa sn xs → Arcs w aa an es → (-9223372036854775808 ≤ f ∧ f ≤ 9223372036854775807) → (-9223372036854775808 ≤ t ∧ t ≤ 9223372036854775807) →
  Calls Tryz.prog 38 #[.agg #[.slice sa sn sc, .slice aa an ac], .int .i64 f, .int .i64 t] w fun e w' => ∃ much fv cv fl cu err, e = .returned (.tuple #[.int .i64 much, fv, cv, .int .i64 err]) ∧ OwnL w' w.heap.size fv fl ∧ OwnL w' w.heap.size cv cu ∧ MostAns xs es f t much fl cu err ∧ Below w.heap.size w w'

theorem mostErr_ok {xs : List Int} {es : List A5} {f t : Int} (h : mostErr xs es f t = 0) : NetOK xs es ∧ argB xs.length f t = true ∧ zeroB xs = true ∧ pipeB es = true := by
  unfold mostErr at h
  split at h
  · omega
  · rename_i h0
    split at h
    · omega
    · split at h
      · omega
      · split at h
        · omega
        · rename_i h1 h2 h3
          exact ⟨netOK_of (by omega), by simpa using h1, by simpa using h2, by simpa using h3⟩
theorem MostAns.wf {xs : List Int} {es : List A5} {f t much : Int} {fl cu : List Int} {err : Int} (h : MostAns xs es f t much fl cu err) : (fl.length ≤ 24 ∧ ∀ x ∈ fl, -9223372036854775808 ≤ x ∧ x ≤ 9223372036854775807) ∧ (cu.length ≤ 1000 ∧ ∀ x ∈ cu, -9223372036854775808 ≤ x ∧ x ≤ 9223372036854775807) := by
  rcases h with ⟨_, _, _, rfl, rfl⟩ | ⟨h0, _, h1, h2, h3, _⟩
  · exact ⟨⟨by simp, fun x hx => by simp at hx⟩, by simp, fun x hx => by simp at hx⟩
  · have hn := (mostErr_ok h0).1
    refine ⟨⟨by rw [h1]; exact hn.arcs, fun x hx => ?_⟩, ?_, fun x hx => ?_⟩
    · obtain ⟨i, hi, rfl⟩ := mem_of_getD 0 fl x hx
      have := hn.mild h2 i (by omega)
      omega
    · by_cases hc : cu.length = 0
      · omega
      · have hr : ∀ i : Nat, i < cu.length → (i : Int) ≤ cu.getD i 0 := by
          intro i
          induction i with
          | zero => intro hi; have := of_decide_eq_true (of_all h3 0 hi); omega
          | succ i ih =>
            intro hi
            have := ih (by omega)
            have := ris_lt h3 (show i < i + 1 by omega) hi
            omega
        have h6 := hr (cu.length - 1) (by omega)
        have h7 := of_decide_eq_true (of_all h3 (cu.length - 1) (by omega))
        have := hn.ten
        omega
    · obtain ⟨i, hi, rfl⟩ := mem_of_getD 0 cu x hx
      have h7 := of_decide_eq_true (of_all h3 i hi)
      have := hn.ten
      omega
theorem mostErr_check {xs : List Int} {es : List A5} {f t : Int} (h : (checkS xs es).1 ≠ 0) : mostErr xs es f t = (checkS xs es).1 := by unfold mostErr; rw [if_pos h]
theorem mostErr_arg {xs : List Int} {es : List A5} {f t : Int} (hn : NetOK xs es) (h : argB xs.length f t = false) : mostErr xs es f t = 7 := by unfold mostErr; rw [hn.zero, if_neg (by simp), if_pos h]
theorem mostErr_sup {xs : List Int} {es : List A5} {f t : Int} (hn : NetOK xs es) (h : argB xs.length f t = true) (h2 : zeroB xs = false) : mostErr xs es f t = 8 := by unfold mostErr; rw [hn.zero, if_neg (by simp), if_neg (by rw [h]; simp), if_pos h2]
theorem mostErr_arc {xs : List Int} {es : List A5} {f t : Int} (hn : NetOK xs es) (h : argB xs.length f t = true) (h2 : zeroB xs = true) (h3 : pipeB es = false) : mostErr xs es f t = 8 := by unfold mostErr; rw [hn.zero, if_neg (by simp), if_neg (by rw [h]; simp), if_neg (by rw [h2]; simp), if_pos h3]
theorem mostErr_fine {xs : List Int} {es : List A5} {f t : Int} (hn : NetOK xs es) (h : argB xs.length f t = true) (h2 : zeroB xs = true) (h3 : pipeB es = true) : mostErr xs es f t = 0 := by unfold mostErr; rw [hn.zero, if_neg (by simp), if_neg (by rw [h]; simp), if_neg (by rw [h2]; simp), if_neg (by rw [h3]; simp)]
end Go.Proofs.YtnbccoflcoaoaaaGreat

namespace Go.Proofs.YtnbccoflcoaoaaaGreat
open Go.RowKit Go.Deep
set_option linter.unusedSimpArgs false
set_option linter.unusedVariables false

theorem ret_n {x y : Int} (h : x = y) : Ending.returned (.int .i64 x) = .returned (.int .i64 y) := by rw [h]

set_option maxHeartbeats 4000000 in
theorem refMostError_any (sa aa : Option Addr) (sn sc an ac : Nat) (f t : Int) (xs : List Int) (es : List A5) (w : World) (hx : Ints w sa sn xs) (he : Arcs w aa an es) :
    Calls Tryz.prog 56 #[.agg #[.slice sa sn sc, .slice aa an ac], .int .i64 f, .int .i64 t] w fun e w' => e = .returned (.int .i64 (mostErr xs es f t)) ∧ Below w.heap.size w w' := by
  have HX := hide hx
  have HE := hide he
  have hxl : Hid (xs.length = sn ∧ es.length = an) := ⟨hx.len, he.len⟩
  have hb0 : Below w.heap.size w (w.alloc (.cells #[.slice sa sn sc, .slice aa an ac] 48)) := (Below.refl _ _).alloc (Nat.le_refl _) _
  clear hx he
  go_enter Tryz.func56, Tryz.ntmps56
  go_wp2_with fail
  refine (refCheck_any sa aa sn sc an ac xs es _ (HX.out.below hb0) (HE.out.below hb0)).mono ?_
  rintro e w1 ⟨rfl, hb1⟩
  have k0 : w1.cell? ⟨w.heap.size, 0, none⟩ = some (.slice sa sn sc) := (hb1.cell (by simp)).trans (by go_simp)
  have k1 : w1.cell? ⟨w.heap.size, 1, none⟩ = some (.slice aa an ac) := (hb1.cell (by simp)).trans (by go_simp)
  have hz1 : w.heap.size < w1.heap.size := by have := hb1.size; simp at this; omega
  have hB1 : Below w.heap.size w w1 := hb0.trans (hb1.mono (by simp))
  clear hb0 hb1
  obtain ⟨wn, hwn⟩ : ∃ wn, (checkS xs es).1 = wn := ⟨_, rfl⟩
  have HWN := hide hwn
  rw [hwn]
  generalize (checkS xs es).2 = pl
  clear hwn
  by_cases hw0 : wn = 0
  · subst hw0
    have hn := netOK_of HWN.out
    have hN := hide hn
    have h10 : sn ≤ 10 := by rw [← hxl.out.1]; exact hn.ten
    have h24 : an ≤ 24 := by rw [← hxl.out.2]; exact hn.arcs
    clear hn
    by_cases hab : 0 ≤ f ∧ f < (sn : Int) ∧ 0 ≤ t ∧ t < (sn : Int) ∧ f ≠ t
    · have HAB : Hid (argB xs.length f t = true) := decide_eq_true (by rw [hxl.out.1]; exact hab)
      obtain ⟨a1, a2, a3, a4, a5⟩ := hab
      have a6 : (f == t) = false := by simpa using a5
      clear a5
      go_wp2
      go_loop [10] (fun i => ∃ k : Nat, k ≤ sn ∧ i = .int .i64 k ∧ Hid (∀ j, j < k → decide (xs.getD j 0 = 0) = true)) (fun i => sn - (intOf i).toNat)
      case atStart => exact ⟨0, Nat.zero_le _, rfl, fun j hj => by omega⟩
      case round =>
        obtain ⟨k, hk, rfl, hG⟩ := hrel
        by_cases hlt : k < sn
        · have hlt3 : (k : Int) < (sn : Int) := by omega
          obtain ⟨b, off, x, rfl, hX, hbb, cx⟩ := (HX.out.below hB1).get hlt
          have HXX := hide hX
          clear hX
          by_cases hx0 : x = 0
          · subst hx0
            go_wp2
            refine ⟨⟨k + 1, by omega, by go_num, fun j hj => ?_⟩, by simp [intOf]; omega⟩
            by_cases e : j = k
            · subst e; rw [HXX.out]; rfl
            · exact hG.out j (by omega)
          · have hxb : (x != 0) = true := by simpa using hx0
            have HF : Hid (zeroB xs = false) := all_f (k := k) (by rw [hxl.out.1]; exact hlt) (by rw [HXX.out]; exact decide_eq_false hx0)
            clear hx0
            go_wp2
            go_ret
            exact ⟨ret_n (mostErr_sup hN.out HAB.out HF.out).symm, hB1⟩
        · have hkn : k = sn := by omega
          subst hkn
          have HZ : Hid (zeroB xs = true) := all_t (fun i hi => hG.out i (by rw [hxl.out.1] at hi; exact hi))
          clear hG
          go_wp2
          go_loopw [11, 12] (fun i p wr => ∃ j : Nat, j ≤ an ∧ i = .int .i64 j ∧ Hid (∀ i, i < j → pipeAt (es.getD i zA) = true) ∧ wr.cell? ⟨w.heap.size, 1, none⟩ = some (.slice aa an ac) ∧ Below w.heap.size w wr ∧ w.heap.size < wr.heap.size) (fun i _ _ => an - (intOf i).toNat)
          case atStart => exact ⟨0, Nat.zero_le _, rfl, fun j hj => by omega, k1, hB1, hz1⟩
          case round =>
            clear k0 k1 hB1 hz1
            obtain ⟨j, hj, rfl, hG, k1, hb, hz⟩ := hrel
            by_cases hlt2 : j < an
            · have hlt3 : (j : Int) < (an : Int) := by omega
              obtain ⟨b, off, fr, tt, lo, cp, cst, rfl, hA, hbb, e0, e1, e2, e3, e4⟩ := (HE.out.below hb).get hlt2
              have HAA := hide hA
              have hb2 : Below w.heap.size w (wr.alloc (.cells #[.int .i64 fr, .int .i64 tt, .int .i64 lo, .int .i64 cp, .int .i64 cst] 67)) := hb.alloc hb.size _
              have k2 := ((Joins.below_alloc1 wr (.cells #[.int .i64 fr, .int .i64 tt, .int .i64 lo, .int .i64 cp, .int .i64 cst] 67)).cell (p := ⟨w.heap.size, 1, none⟩) hz).trans k1
              have hz2 : w.heap.size < (wr.alloc (.cells #[.int .i64 fr, .int .i64 tt, .int .i64 lo, .int .i64 cp, .int .i64 cst] 67)).heap.size := by simp; omega
              have HK := hide (And.intro k2 (And.intro hb2 hz2))
              clear hA k2 hb2 hz2
              have bad : n0 (¬ (lo = 0 ∧ cst = 0 ∧ cp ≠ -1) → mostErr xs es f t = 8) := fun h => mostErr_arc hN.out HAB.out HZ.out (all_f (k := j) (by rw [hxl.out.2]; exact hlt2) (by rw [HAA.out]; exact decide_eq_false h))
              by_cases c1 : lo = 0
              · subst c1
                by_cases c2 : cst = 0
                · subst c2
                  by_cases c3 : cp = -1
                  · subst c3
                    have HF := hide (bad.out (fun h => h.2.2 rfl))
                    clear bad
                    go_wp2
                    go_ret
                    exact ⟨ret_n HF.out.symm, HK.out.2.1⟩
                  · have c3b : (cp == -1) = false := by simpa using c3
                    have HG : Hid (∀ i, i < j + 1 → pipeAt (es.getD i zA) = true) := by
                      intro i hi
                      by_cases e : i = j
                      · subst e; rw [HAA.out]; exact decide_eq_true ⟨rfl, rfl, c3⟩
                      · exact hG.out i (by omega)
                    clear bad c3
                    go_wp2
                    refine ⟨⟨j + 1, by omega, by go_num, HG.out, HK.out.1, HK.out.2.1, HK.out.2.2⟩, by simp [intOf]; omega⟩
                · have c2b : (cst != 0) = true := by simpa using c2
                  have HF := hide (bad.out (fun h => c2 h.2.1))
                  clear bad c2
                  go_wp2
                  go_ret
                  exact ⟨ret_n HF.out.symm, HK.out.2.1⟩
              · have c1b : (lo != 0) = true := by simpa using c1
                have HF := hide (bad.out (fun h => c1 h.1))
                clear bad c1
                go_wp2
                go_ret
                exact ⟨ret_n HF.out.symm, HK.out.2.1⟩
            · have hjn : j = an := by omega
              subst hjn
              have HF := hide (mostErr_fine hN.out HAB.out HZ.out (all_t (fun i hi => hG.out i (by rw [hxl.out.2] at hi; exact hi))))
              go_wp2
              go_ret
              exact ⟨ret_n HF.out.symm, hb⟩
    · have HF := hide (mostErr_arg hN.out (f := f) (t := t) (decide_eq_false (by rw [hxl.out.1]; exact hab)))
      have HAB := hide hab
      clear hab
      go_wp2
      all_goals first
        | (go_ret
           exact ⟨ret_n HF.out.symm, hB1⟩)
        | (exfalso
           refine HAB.out ?_
           simp at *
           omega)
  · have hwb : (wn != 0) = true := by simpa using hw0
    have HW0 := hide hw0
    clear hw0
    go_wp2
    go_ret
    exact ⟨ret_n (by rw [mostErr_check (by rw [HWN.out]; exact HW0.out), HWN.out]), hB1⟩
end Go.Proofs.YtnbccoflcoaoaaaGreat

namespace Go.Proofs.YtnbccoflcoaoaaaGreat
open Go.RowKit Go.Deep
set_option linter.unusedSimpArgs false
set_option linter.unusedVariables false

set_option maxRecDepth 100000 in
set_option maxHeartbeats 4000000 in
theorem refMostFits_any (sa aa fa ca : Option Addr) (sn sc an ac fc cc : Nat) (f t much err : Int) (xs : List Int) (es : List A5) (fl cu : List Int) (w : World) (hx : Ints w sa sn xs) (he : Arcs w aa an es) (hf : Ints w fa fl.length fl) (hc : Ints w ca cu.length cu) (hA : MostAns xs es f t much fl cu err) :
    Calls Tryz.prog 39 #[.agg #[.slice sa sn sc, .slice aa an ac], .int .i64 f, .int .i64 t, .int .i64 much, .slice fa fl.length fc, .slice ca cu.length cc, .int .i64 err] w fun e w' => e = .returned (.bool true) ∧ Below w.heap.size w w' := by
  have HX := hide hx
  have HE := hide he
  have HF := hide hf
  have HC := hide hc
  have hxl : Hid (xs.length = sn ∧ es.length = an) := ⟨hx.len, he.len⟩
  have hb0 : Below w.heap.size w (w.alloc (.cells #[.slice sa sn sc, .slice aa an ac] 48)) := (Below.refl _ _).alloc (Nat.le_refl _) _
  clear hx he hf hc
  go_enter Tryz.func39, Tryz.ntmps39
  go_wp2_with fail
  refine (refMostError_any sa aa sn sc an ac f t xs es _ (HX.out.below hb0) (HE.out.below hb0)).mono ?_
  rintro e w1 ⟨rfl, hb1⟩
  have k0 : w1.cell? ⟨w.heap.size, 0, none⟩ = some (.slice sa sn sc) := (hb1.cell (by simp)).trans (by go_simp)
  have k1 : w1.cell? ⟨w.heap.size, 1, none⟩ = some (.slice aa an ac) := (hb1.cell (by simp)).trans (by go_simp)
  have hz1 : w.heap.size < w1.heap.size := by have := hb1.size; simp at this; omega
  have hB1 : Below w.heap.size w w1 := hb0.trans (hb1.mono (by simp))
  clear hb0 hb1
  obtain ⟨wn, hwn⟩ : ∃ wn, mostErr xs es f t = wn := ⟨_, rfl⟩
  have HWN := hide hwn
  rcases hA with ⟨h1, h2, rfl, rfl, rfl⟩ | ⟨h1, rfl, h2, h3, h4, h5, h6, h7, h8⟩
  · rw [hwn] at h1 h2 ⊢
    subst h2
    have hwb : (err != 0) = true := by simpa using h1
    clear h1 hwn HWN
    go_wp2
    go_ret
    exact ⟨ret_b (by simp), hB1⟩
  · have hok := mostErr_ok h1
    have hn := hok.1
    have hfl : fl.length = an := by rw [h2]; exact hxl.out.2
    rw [h1]
    have H3 := hide h3
    have H4 := hide h4
    have H5 := hide h5
    have H6 := hide h6
    have H7 := hide h7
    have H8 := hide h8
    have h10 : sn ≤ 10 := by rw [← hxl.out.1]; exact hn.ten
    have h24 : an ≤ 24 := by rw [← hxl.out.2]; exact hn.arcs
    have HMD := hide (hn.mild h3)
    rw [hfl] at HF ⊢
    clear h1 h2 h3 h4 h5 h6 h7 h8 hwn HWN hok
    go_wp2_with fail
    refine (refBounded_any sa aa fa sn sc an ac fc es fl _ (HE.out.below hB1) (HF.out.below hB1) h24).mono ?_
    rintro e w2 ⟨rfl, hb2⟩
    rw [H3.out]
    have hB2 : Below w.heap.size w w2 := hB1.trans (hb2.mono hB1.size)
    have hz2 : w.heap.size < w2.heap.size := Nat.lt_of_lt_of_le hz1 hb2.size
    have l0 := (hb2.cell (p := ⟨w.heap.size, 0, none⟩) hz1).trans k0
    have l1 := (hb2.cell (p := ⟨w.heap.size, 1, none⟩) hz1).trans k1
    clear k0 k1 hb2 hB1 hz1
    go_wp2_with fail
    refine (refRising_any ca cu.length cc (sn : Int) cu _ (HC.out.below hB2)).mono ?_
    rintro e w3 ⟨rfl, hb3⟩
    rw [show risB cu (sn : Int) = true from by rw [← hxl.out.1]; exact H4.out]
    have hB3 : Below w.heap.size w w3 := hB2.trans (hb3.mono hB2.size)
    have hz3 : w.heap.size < w3.heap.size := Nat.lt_of_lt_of_le hz2 hb3.size
    have k0 := (hb3.cell (p := ⟨w.heap.size, 0, none⟩) hz2).trans l0
    have k1 := (hb3.cell (p := ⟨w.heap.size, 1, none⟩) hz2).trans l1
    clear l0 l1 hb3 hB2 hz2
    go_wp2
    go_loopw [18, 19] (fun i v wr => ∃ k : Nat, k ≤ sn ∧ i = .int .i64 k ∧ wr.cell? ⟨w.heap.size, 0, none⟩ = some (.slice sa sn sc) ∧ wr.cell? ⟨w.heap.size, 1, none⟩ = some (.slice aa an ac) ∧ Below w.heap.size w wr ∧ w.heap.size < wr.heap.size) (fun i _ _ => sn - (intOf i).toNat)
    case atStart => exact ⟨0, Nat.zero_le _, rfl, k0, k1, hB3, hz3⟩
    case round =>
      clear k0 k1 hB3 hz3
      obtain ⟨k, hk, rfl, k0, k1, hb, hz⟩ := hrel
      by_cases hlt : k < sn
      · have hlt3 : (k : Int) < (sn : Int) := by omega
        have hat := of_decide_eq_true (H5.out k (by rw [hxl.out.1]; exact hlt))
        have hbd := netTo_bd es fl (k : Int) es.length HMD.out es.length (Nat.le_refl _)
        go_wp2_with fail
        refine (refNet_any sa aa fa sn sc an ac fc es fl (k : Int) _ (HE.out.below hb) (HF.out.below hb) h24 (by rw [← hxl.out.2]; exact HMD.out)).mono ?_
        rintro e w4 ⟨rfl, hb4⟩
        have hB4 : Below w.heap.size w w4 := hb.trans (hb4.mono hb.size)
        have hz4 : w.heap.size < w4.heap.size := Nat.lt_of_lt_of_le hz hb4.size
        have l0 := (hb4.cell (p := ⟨w.heap.size, 0, none⟩) hz).trans k0
        have l1 := (hb4.cell (p := ⟨w.heap.size, 1, none⟩) hz).trans k1
        clear k0 k1 hb4 hb hz hbd
        generalize netTo es fl (k : Int) es.length = v at *
        by_cases e1 : (k : Int) = f
        · have hv := hat.1 e1
          subst hv
          have e1b : ((k : Int) == f) = true := by simpa using e1
          have e1c : ((k : Int) != f) = false := by simpa using e1
          clear hat e1
          go_wp2
          go_roundw
          case rel => exact ⟨k + 1, by omega, by go_num, l0, l1, hB4, hz4⟩
          case measure => simp [intOf]; omega
        · have e1b : ((k : Int) == f) = false := by simpa using e1
          have e1c : ((k : Int) != f) = true := by simpa using e1
          by_cases e2 : (k : Int) = t
          · have e2c : ((k : Int) != t) = false := by simpa using e2
            clear hat e1 e2
            go_wp2
            go_roundw
            case rel => exact ⟨k + 1, by omega, by go_num, l0, l1, hB4, hz4⟩
            case measure => simp [intOf]; omega
          · have hv := hat.2 e1 e2
            subst hv
            have e2c : ((k : Int) != t) = true := by simpa using e2
            clear hat e1 e2
            go_wp2
            go_roundw
            case rel => exact ⟨k + 1, by omega, by go_num, l0, l1, hB4, hz4⟩
            case measure => simp [intOf]; omega
      · have hkn : k = sn := by omega
        subst hkn
        go_wp2_with fail
        refine (refTolls_any sa aa ca k sc an ac cu.length cc xs es cu false _ (HE.out.below hb) (HC.out.below hb) hn).mono ?_
        rintro e w5 ⟨rfl, hb5⟩
        rw [H8.out]
        have hB5 : Below w.heap.size w w5 := hb.trans (hb5.mono hb.size)
        generalize lowsTo es cu false es.length = lw
        generalize openTo es cu false es.length = op
        clear k0 k1 hb5
        go_wp2_with fail
        refine (refIn_any ca cu.length cc f cu _ (HC.out.below hB5)).mono ?_
        rintro e w6 ⟨rfl, rfl⟩
        rw [H6.out]
        go_wp2_with fail
        refine (refIn_any ca cu.length cc t cu _ (HC.out.below hB5)).mono ?_
        rintro e w7 ⟨rfl, rfl⟩
        rw [H7.out]
        go_wp2
        go_ret
        exact ⟨ret_b (by simp), hB5⟩

end Go.Proofs.YtnbccoflcoaoaaaGreat
