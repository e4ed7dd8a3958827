import Derived.Test.YtnbccoflcoaoaaaGreatGMst
import Derived.Test.YtnbccoflcoaoaaaGreatGRtd
import Derived.Test.YtnbccoflcoaoaaaGreatGBas
import Derived.Test.YtnbccoflcoaoaaaGreatGRte
namespace Go.Proofs.YtnbccoflcoaoaaaGreat
open Go.RowKit Go.Deep
set_option linter.unusedSimpArgs false
set_option linter.unusedVariables false

/-! ### what Most's flow and cut are, as plain data -/
def offL (n f t : Nat) : List Int := (List.range n).map fun i => if i = t then -1441 else if i = f then 1441 else 0
theorem offL_len (n f t : Nat) : (offL n f t).length = n := by simp [offL]
theorem offL_at (n f t : Nat) {i : Nat} (hi : i < n) : (offL n f t).getD i 0 = if i = t then -1441 else if i = f then 1441 else 0 := by simp [offL, List.getD, hi]
theorem off_wide {xs : List Int} {es : List A5} (hn : NetOK xs es) (f t : Nat) : NetW (offL xs.length f t) es :=
  ⟨by rw [offL_len]; exact hn.one, by rw [offL_len]; have := hn.ten; omega, by have := hn.arcs; omega, fun j hj => by
    rw [offL_len] at hj
    rw [offL_at _ _ _ hj]
    split
    · omega
    · split <;> omega, by rw [offL_len]; exact hn.arc⟩
theorem off_sum {n f t : Nat} (hf : f < n) (ht : t < n) (hft : f ≠ t) : sumTo (fun v => (offL n f t).getD v 0) n = 0 := by
  have h1 := sumTo_set (f := fun _ => (0 : Int)) (g := fun v => if v = f then (1441 : Int) else 0) (n := n) hf (fun i hi hne => by simp [hne])
  have h2 := sumTo_set (f := fun v => if v = f then (1441 : Int) else 0) (g := fun v => (offL n f t).getD v 0) (n := n) ht (fun i hi hne => by rw [offL_at _ _ _ hi]; simp [hne])
  rw [sumTo_zero] at h1
  rw [h2, h1]
  simp only [if_true]
  rw [offL_at _ _ _ ht, if_pos rfl, if_neg (fun e => hft e.symm)]
  omega
theorem pipe_out {es : List A5} (h : pipeB es = true) {i : Nat} (hi : i < es.length) : (es.getD i zA).lo = 0 ∧ (es.getD i zA).cost = 0 ∧ (es.getD i zA).cap ≠ -1 := of_decide_eq_true (of_all h i hi)
theorem pipe_pot {es : List A5} (h : pipeB es = true) (fl : List Int) : Pot es fl (fun _ => 0) := by
  intro s hs _
  have := (pipe_out h hs).2.1
  show 0 ≤ priceOf es s + 0 - 0
  unfold priceOf
  split <;> omega
theorem pipe_left {xs : List Int} {es : List A5} (h : pipeB es = true) : leftOf xs es (lowsL es) = xs := by
  refine ext_getD (leftOf_len _ _ _) (fun v hv => ?_)
  rw [leftOf_len] at hv
  rw [leftOf_at _ _ _ hv]
  have : ∀ k, k ≤ es.length → netTo es (lowsL es) (v : Int) k = 0 := by
    intro k
    induction k with
    | zero => intro _; rfl
    | succ k ih =>
      intro hk
      simp only [netTo]
      rw [ih (by omega), lowsL_at es (show k < es.length by omega), (pipe_out h (show k < es.length by omega)).1]
      simp
  rw [this _ (Nat.le_refl _)]; omega
theorem off_never {xs : List Int} {es : List A5} (hn : NetOK xs es) (hp : pipeB es = true) {f t : Nat} (hf : f < xs.length) (hft : f ≠ t) {fl : List Int} (h : Fits (offL xs.length f t) es fl) : False := by
  have h1 := h.bal f (by rw [offL_len]; exact hf)
  rw [offL_at _ _ _ hf, if_neg hft, if_pos rfl] at h1
  have h2 := netTo_bd60 es fl (f : Int) es.length (fun i hi => by
    have h3 := h.bd i hi
    have h4 := pipe_out hp hi
    have h5 := arcB_out (hn.arc i hi)
    omega) es.length (Nat.le_refl _)
  have := hn.arcs
  omega
theorem sumTo_two {g : Nat → Int} {n f t : Nat} (hf : f < n) (ht : t < n) (hft : f ≠ t) (h : ∀ i, i < n → i ≠ f → i ≠ t → g i = 0) : sumTo g n = g f + g t := by
  have h1 := sumTo_set (f := fun _ => (0 : Int)) (g := fun v => if v = f then g f else 0) (n := n) hf (fun i hi hne => by simp [hne])
  have h2 := sumTo_set (f := fun v => if v = f then g f else 0) (g := g) (n := n) ht (fun i hi hne => by
    by_cases e : i = f
    · subst e; simp
    · rw [if_neg e]; exact h i hi e hne)
  rw [sumTo_zero] at h1
  rw [h2, h1]
  simp only [if_true]
  rw [if_neg (fun e => hft e.symm)]
  omega
/-- What Most answers, exactly. -/
def MostRel (xs : List Int) (es : List A5) (f t : Int) (much : Int) (fl cu : List Int) (err : Int) : Prop :=
  (mostErr xs es f t ≠ 0 ∧ err = mostErr xs es f t ∧ much = 0 ∧ fl = [] ∧ cu = []) ∨
  (mostErr xs es f t = 0 ∧ err = 0 ∧ SettR (offL xs.length f.toNat t.toNat) es (lowsL es) fl (some cu) ∧ much = 1441 - (leftOf (offL xs.length f.toNat t.toNat) es fl).getD f.toNat 0)
theorem MostRel.same {xs : List Int} {es : List A5} {f t m1 m2 : Int} {f1 c1 f2 c2 : List Int} {e1 e2 : Int} (h1 : MostRel xs es f t m1 f1 c1 e1) (h2 : MostRel xs es f t m2 f2 c2 e2) : m1 = m2 ∧ f1 = f2 ∧ c1 = c2 ∧ e1 = e2 := by
  rcases h1 with ⟨a, b, c, d, e⟩ | ⟨a, b, c, d⟩ <;> rcases h2 with ⟨a', b', c', d', e'⟩ | ⟨a', b', c', d'⟩
  · exact ⟨by rw [c, c'], by rw [d, d'], by rw [e, e'], by rw [b, b']⟩
  · exact absurd a' a
  · exact absurd a a'
  · obtain ⟨x, y⟩ := c.same c'
    subst x
    cases y
    exact ⟨by rw [d, d'], rfl, rfl, by rw [b, b']⟩
theorem most_stuck {xs : List Int} {es : List A5} (hn : NetOK xs es) (hz : zeroB xs = true) (hp : pipeB es = true) {f t : Nat} (hf : f < xs.length) (ht : t < xs.length) (hft : f ≠ t) {fl : List Int} {seen : Nat → Bool}
    (h : Stuck (offL xs.length f t) es (offL xs.length f t) fl seen) :
    MostAns xs es (f : Int) (t : Int) (1441 - (leftOf (offL xs.length f t) es fl).getD f 0) fl (seenTo seen xs.length) 0 := by
  have hw := off_wide hn f t
  obtain ⟨t0, ht0, hV⟩ := h.inv
  have hlen := offL_len xs.length f t
  have hnear : ∀ v, v < xs.length → _ := fun v hv => h.near v (by rw [hlen]; exact hv)
  have hleft : ∀ v, v < xs.length → (leftOf (offL xs.length f t) es fl).getD v 0 = (offL xs.length f t).getD v 0 - netTo es fl (v : Int) es.length := fun v hv => hV.left v (by rw [hlen]; exact hv)
  have hst : ∀ v, v < xs.length → _ := fun v hv => h.st v (by rw [hlen]; exact hv)
  have hnn : ∀ v, v < xs.length → _ := fun v hv => h.nn v (by rw [hlen]; exact hv)
  have h0 : ∀ v, v < xs.length → v ≠ f → v ≠ t → (leftOf (offL xs.length f t) es fl).getD v 0 = 0 ∧ netTo es fl (v : Int) es.length = 0 := by
    intro v hv h1 h2
    have h3 := hnear v hv
    have h4 := hleft v hv
    rw [offL_at _ _ _ hv, if_neg h2, if_neg h1] at h3 h4
    omega
  have hsum : sumTo (fun v => netTo es fl (v : Int) es.length) xs.length = 0 := by have := net_all hw fl; rw [hlen] at this; exact this
  rw [sumTo_two hf ht hft (fun i hi h1 h2 => (h0 i hi h1 h2).2)] at hsum
  have lf := hleft f hf
  have lt := hleft t ht
  rw [offL_at _ _ _ hf, if_neg hft, if_pos rfl] at lf
  rw [offL_at _ _ _ ht, if_pos rfl] at lt
  have hpos : 0 < (leftOf (offL xs.length f t) es fl).getD f 0 := by
    obtain ⟨v, hv, hp⟩ := pos_some _ _ (by rw [← hV.go]; exact ht0)
    rw [hlen] at hv
    by_cases e1 : v = f
    · subst e1; exact hp
    · by_cases e2 : v = t
      · subst e2
        have := hnear v hv
        rw [offL_at _ _ _ hv, if_pos rfl] at this
        omega
      · have := (h0 v hv e1 e2).1; omega
  have hsf : seen f = true := hst f hf hpos
  have hstt : seen t = false := by
    cases hc : seen t with
    | false => rfl
    | true => have := hnn t ht hc; omega
  have hin : ∀ v : Int, 0 ≤ v → v < xs.length → inB (seenTo seen xs.length) v = seen v.toNat := by
    intro v h0 h1
    have := seen_in seen xs.length v.toNat
    rw [show ((v.toNat : Nat) : Int) = v from by omega] at this
    rw [this, decide_eq_true (by omega)]; rfl
  have hr := (seen_ris seen xs.length).1
  have hout := over_caps (es := es) (y := fl) (cut := seenTo seen xs.length) (back := false) es.length (fun i hi hc => by
    have e := hn.ends i hi
    unfold crossB at hc
    simp only [Bool.false_eq_true, if_false, Bool.and_eq_true, Bool.not_eq_true'] at hc
    rw [hin _ e.1 e.2.1, hin _ e.2.2.1 e.2.2.2] at hc
    have hz := h.cl ⟨i, false⟩ hi (by simpa [St.src] using hc.1) (by simpa [St.dst] using hc.2)
    unfold roomOf at hz
    simp only [Bool.false_eq_true, if_false] at hz
    have hcap := (pipe_out hp hi).2.2
    rw [if_neg hcap] at hz
    exact ⟨hcap, by omega⟩)
  have hlow : overTo es fl (seenTo seen xs.length) true es.length = 0 := by
    unfold overTo
    rw [sumTo_congr (g := fun _ => 0) (fun i hi => ?_)]
    · exact sumTo_zero _
    · by_cases hc : crossB (seenTo seen xs.length) true (es.getD i zA) = true
      · rw [if_pos hc]
        have e := hn.ends i hi
        unfold crossB at hc
        simp only [if_true, Bool.and_eq_true, Bool.not_eq_true'] at hc
        rw [hin _ e.1 e.2.1, hin _ e.2.2.1 e.2.2.2] at hc
        have hz := h.cl ⟨i, true⟩ hi (by simpa [St.src] using hc.2) (by simpa [St.dst] using hc.1)
        unfold roomOf at hz
        simp only [if_true] at hz
        have := (pipe_out hp hi).1
        omega
      · rw [if_neg hc]
  have hco := cut_over hw fl (seenTo seen xs.length)
  rw [hlen, hlow, hout.2] at hco
  have hchi : ∀ v, v < xs.length → chi (seenTo seen xs.length) v = if seen v = true then 1 else 0 := fun v hv => by
    unfold chi
    rw [hin (v : Int) (by omega) (by omega), Int.toNat_natCast]
  rw [sumTo_two hf ht hft (fun i hi h1 h2 => by show chi (seenTo seen xs.length) i * netTo es fl (i : Int) es.length = 0; rw [(h0 i hi h1 h2).2, Int.mul_zero]), hchi f hf, hchi t ht, if_pos hsf, hstt] at hco
  simp only [Bool.false_eq_true, if_false] at hco
  have hnet : netTo es fl (f : Int) es.length = 1441 - (leftOf (offL xs.length f t) es fl).getD f 0 := by omega
  have harg : argB xs.length (f : Int) (t : Int) = true := decide_eq_true ⟨by omega, by omega, by omega, by omega, by omega⟩
  refine .inr ⟨mostErr_fine hn harg hz hp, rfl, hV.len, ?_, hr, fun k hk => ?_, ?_, ?_, ?_⟩
  · refine all_t (fun i hi => decide_eq_true ?_)
    have h1 := hV.bd i hi
    have h2 : 0 ≤ t0 := by omega
    exact ⟨h1.1, by omega, h1.2.1⟩
  · refine decide_eq_true ⟨fun e => ?_, fun e1 e2 => ?_⟩
    · rw [show k = f from by omega]; exact hnet
    · exact (h0 k hk (by omega) (by omega)).2
  · rw [hin _ (by omega) (by omega), Int.toNat_natCast]; exact hsf
  · rw [hin _ (by omega) (by omega), Int.toNat_natCast]; exact hstt
  · omega
end Go.Proofs.YtnbccoflcoaoaaaGreat

namespace Go.Proofs.YtnbccoflcoaoaaaGreat
open Go.RowKit Go.Deep
set_option linter.unusedSimpArgs false
set_option linter.unusedVariables false

set_option maxHeartbeats 2000000 in
theorem rPlain_any (sa aa : Option Addr) (sn sc an ac : Nat) (xs : List Int) (es : List A5) (w : World) (hn : NetOK xs es) (hx : Ints w sa sn xs) (he : Arcs w aa an es) :
    Calls Tryz.prog 105 #[.agg #[.slice sa sn sc, .slice aa an ac]] w fun e w' => e = .returned (.bool (zeroB xs && pipeB es)) ∧ Below w.heap.size w w' := by
  have hxl : Hid (xs.length = sn ∧ es.length = an) := ⟨hx.len, he.len⟩
  have h10 : sn ≤ 10 := by rw [← hxl.out.1]; exact hn.ten
  have h24 : an ≤ 24 := by rw [← hxl.out.2]; exact hn.arcs
  have hb0 : Below w.heap.size w (w.alloc (.cells #[.slice sa sn sc, .slice aa an ac] 48)) := (Below.refl _ _).alloc (Nat.le_refl _) _
  have HX := hide (hx.below hb0)
  have HE := hide he
  clear hx he
  go_enter Tryz.func105, Tryz.ntmps105
  go_wp2
  go_loop [4, 10] (fun sp i => ∃ k : Nat, k ≤ sn ∧ i = .int .i64 k ∧ Hid (∀ j, j < k → decide (xs.getD j 0 = 0) = true)) (fun _ i => sn - (intOf i).toNat)
  case atStart => exact ⟨0, Nat.zero_le _, rfl, fun j hj => by omega⟩
  case round =>
    obtain ⟨k, hk, rfl, hG⟩ := hrel
    by_cases hlt : k < sn
    · have hlt3 : (k : Int) < (sn : Int) := by omega
      obtain ⟨b, off, x, rfl, hX, hbb, cx⟩ := HX.out.get hlt
      have HXX := hide hX
      clear hX
      by_cases hx0 : x = 0
      · subst hx0
        go_wp2
        refine ⟨⟨k + 1, by omega, by go_num, fun j hj => ?_⟩, by simp [intOf]; omega⟩
        by_cases e : j = k
        · subst e; rw [HXX.out]; rfl
        · exact hG.out j (by omega)
      · have hxb : (x != 0) = true := by simpa using hx0
        have HF : Hid (zeroB xs = false) := all_f (k := k) (by rw [hxl.out.1]; exact hlt) (by rw [HXX.out]; exact decide_eq_false hx0)
        clear hx0
        go_wp2
        go_ret
        exact ⟨ret_b (by rw [HF.out]; rfl), hb0⟩
    · have hkn : k = sn := by omega
      subst hkn
      have HZ : Hid (zeroB xs = true) := all_t (fun i hi => hG.out i (by rw [hxl.out.1] at hi; exact hi))
      clear hG
      go_wp2
      go_loopw [6, 20] (fun p i wr => ∃ j : Nat, j ≤ an ∧ i = .int .i64 j ∧ Hid (∀ i, i < j → pipeAt (es.getD i zA) = true) ∧ Below w.heap.size w wr) (fun _ i _ => an - (intOf i).toNat)
      case atStart => exact ⟨0, Nat.zero_le _, rfl, fun j hj => by omega, hb0⟩
      case round =>
        clear hb0
        obtain ⟨j, hj, rfl, hG, hb⟩ := hrel
        by_cases hlt2 : j < an
        · have hlt3 : (j : Int) < (an : Int) := by omega
          obtain ⟨b, off, fr, tt, lo, cp, cst, rfl, hA, hbb, e0, e1, e2, e3, e4⟩ := (HE.out.below hb).get hlt2
          have HAA := hide hA
          have hb2 : Below w.heap.size w (wr.alloc (.cells #[.int .i64 fr, .int .i64 tt, .int .i64 lo, .int .i64 cp, .int .i64 cst] 67)) := hb.alloc hb.size _
          clear hA
          have bad : n0 (¬ (lo = 0 ∧ cst = 0 ∧ cp ≠ -1) → (zeroB xs && pipeB es) = false) := fun h => by rw [show pipeB es = false from all_f (k := j) (by rw [hxl.out.2]; exact hlt2) (by rw [HAA.out]; exact decide_eq_false h), Bool.and_false]
          have cU : n0 (∀ w0, Calls Tryz.prog 68 #[.agg #[.int .i64 fr, .int .i64 tt, .int .i64 lo, .int .i64 cp, .int .i64 cst]] w0 fun e w' => e = .returned (.bool (cp == -1)) ∧ Below w0.heap.size w0 w') := fun w0 => gUnlimited_any fr tt lo cp cst w0
          by_cases c1 : lo = 0
          · subst c1
            by_cases c2 : cst = 0
            · subst c2
              go_wp2_with fail
              refine (cU.out _).mono ?_
              rintro e w2 ⟨rfl, hb3⟩
              have hb4 : Below w.heap.size w w2 := hb2.trans (hb3.mono hb2.size)
              clear cU hb3 hb2 e0 e1 e2 e3 e4
              by_cases c3 : cp = -1
              · subst c3
                have HF := hide (bad.out (fun h => h.2.2 rfl))
                clear bad
                go_wp2
                go_ret
                exact ⟨ret_b HF.out.symm, hb4⟩
              · have c3b : (cp == -1) = false := by simpa using c3
                have HG : Hid (∀ i, i < j + 1 → pipeAt (es.getD i zA) = true) := by
                  intro i hi
                  by_cases e : i = j
                  · subst e; rw [HAA.out]; exact decide_eq_true ⟨rfl, rfl, c3⟩
                  · exact hG.out i (by omega)
                rw [c3b]
                clear bad c3 c3b
                go_wp2
                go_roundw
                case rel => exact ⟨j + 1, by omega, by go_num, HG.out, hb4⟩
                case measure => simp [intOf]; omega
            · have c2b : (cst != 0) = true := by simpa using c2
              have HF := hide (bad.out (fun h => c2 h.2.1))
              clear bad c2
              go_wp2
              go_ret
              exact ⟨ret_b HF.out.symm, hb2⟩
          · have c1b : (lo != 0) = true := by simpa using c1
            have HF := hide (bad.out (fun h => c1 h.1))
            clear bad c1
            go_wp2
            go_ret
            exact ⟨ret_b HF.out.symm, hb2⟩
        · have hjn : j = an := by omega
          subst hjn
          have HF : Hid ((zeroB xs && pipeB es) = true) := by
            show _ = _
            rw [HZ.out, show pipeB es = true from all_t (fun i hi => hG.out i (by rw [hxl.out.2] at hi; exact hi))]; rfl
          go_wp2
          go_ret
          exact ⟨ret_b HF.out.symm, hb⟩

theorem ret_m {x y : Int} (h : x = y) : Ending.returned (.int .i64 x) = .returned (.int .i64 y) := by rw [h]

set_option maxHeartbeats 2000000 in
theorem rMostErr_any (sa aa : Option Addr) (sn sc an ac : Nat) (f t : Int) (xs : List Int) (es : List A5) (w : World) (hx : Ints w sa sn xs) (he : Arcs w aa an es) :
    Calls Tryz.prog 83 #[.agg #[.slice sa sn sc, .slice aa an ac], .int .i64 f, .int .i64 t] w fun e w' => e = .returned (.int .i64 (mostErr xs es f t)) ∧ Below w.heap.size w w' := by
  have HX := hide hx
  have HE := hide he
  have hxl : Hid (xs.length = sn ∧ es.length = an) := ⟨hx.len, he.len⟩
  have hb0 : Below w.heap.size w (w.alloc (.cells #[.slice sa sn sc, .slice aa an ac] 48)) := (Below.refl _ _).alloc (Nat.le_refl _) _
  clear hx he
  go_enter Tryz.func83, Tryz.ntmps83
  go_wp2_with fail
  refine (gCheck_any sa aa sn sc an ac xs es _ (HX.out.below hb0) (HE.out.below hb0)).mono ?_
  rintro e w1 ⟨rfl, hb1⟩
  have k0 : w1.cell? ⟨w.heap.size, 0, none⟩ = some (.slice sa sn sc) := (hb1.cell (by simp)).trans (by go_simp)
  have k1 : w1.cell? ⟨w.heap.size, 1, none⟩ = some (.slice aa an ac) := (hb1.cell (by simp)).trans (by go_simp)
  have hB1 : Below w.heap.size w w1 := hb0.trans (hb1.mono (by simp))
  clear hb0 hb1
  obtain ⟨wn, hwn⟩ : ∃ wn, (checkS xs es).1 = wn := ⟨_, rfl⟩
  have HWN := hide hwn
  rw [hwn]
  generalize (checkS xs es).2 = pl
  clear hwn
  by_cases hw0 : wn = 0
  · subst hw0
    have hn := netOK_of HWN.out
    have hN := hide hn
    have h10 : sn ≤ 10 := by rw [← hxl.out.1]; exact hn.ten
    have cP : n0 (Calls Tryz.prog 105 #[.agg #[.slice sa sn sc, .slice aa an ac]] w1 fun e w' => e = .returned (.bool (zeroB xs && pipeB es)) ∧ Below w1.heap.size w1 w') :=
      rPlain_any sa aa sn sc an ac xs es w1 hn (HX.out.below hB1) (HE.out.below hB1)
    clear hn
    by_cases hab : 0 ≤ f ∧ f < (sn : Int) ∧ 0 ≤ t ∧ t < (sn : Int) ∧ f ≠ t
    · have HAB : Hid (argB xs.length f t = true) := decide_eq_true (by rw [hxl.out.1]; exact hab)
      obtain ⟨a1, a2, a3, a4, a5⟩ := hab
      have a6 : (f == t) = false := by simpa using a5
      clear a5
      go_wp2_with fail
      refine Calls.mono cP.out ?_
      rintro e w2 ⟨rfl, hb2⟩
      have hB2 : Below w.heap.size w w2 := hB1.trans (hb2.mono hB1.size)
      clear cP
      have HF : Hid (mostErr xs es f t = if (zeroB xs && pipeB es) = true then 0 else 8) := by
        show _ = _
        cases hz : zeroB xs with
        | false => rw [mostErr_sup hN.out HAB.out hz]; rfl
        | true =>
          cases hp : pipeB es with
          | false => rw [mostErr_arc hN.out HAB.out hz hp]; rfl
          | true => rw [mostErr_fine hN.out HAB.out hz hp]; rfl
      generalize (zeroB xs && pipeB es) = bb at HF ⊢
      cases bb with
      | true =>
        go_wp2
        go_ret
        exact ⟨ret_m (by rw [HF.out]; rfl), hB2⟩
      | false =>
        go_wp2
        go_ret
        exact ⟨ret_m (by rw [HF.out]; rfl), hB2⟩
    · have HF := hide (mostErr_arg hN.out (f := f) (t := t) (decide_eq_false (by rw [hxl.out.1]; exact hab)))
      have HAB := hide hab
      clear hab cP
      go_wp2
      all_goals first
        | (go_ret
           exact ⟨ret_m HF.out.symm, hB1⟩)
        | (exfalso
           refine HAB.out ?_
           simp at *
           omega)
  · have hwb : (wn != 0) = true := by simpa using hw0
    have HW0 := hide hw0
    clear hw0
    go_wp2
    go_ret
    exact ⟨ret_m (by rw [mostErr_check (by rw [HWN.out]; exact HW0.out), HWN.out]), hB1⟩
end Go.Proofs.YtnbccoflcoaoaaaGreat

namespace Go.Proofs.YtnbccoflcoaoaaaGreat
open Go.RowKit Go.Deep
set_option linter.unusedSimpArgs false
set_option linter.unusedVariables false

/-- The offer in the making: the net's box, the result that is still empty, the supplies. -/
structure OffM (w wr : World) (sn : Nat) (aa : Option Addr) (an ac : Nat) (ob : Nat) (f : Nat → Value) : Prop where
  n1 : wr.cell? ⟨w.heap.size, 1, none⟩ = some (.slice aa an ac)
  rr : wr.rowIs (w.heap.size + 1) 48 2 (fun _ => .slice none 0 0)
  rs : wr.rowIs ob 3 sn f
  lo : w.heap.size + 2 ≤ ob
  be : Below w.heap.size w wr
theorem OffM.start (w : World) (sa aa : Option Addr) (sn sc an ac : Nat) :
    OffM w (((w.alloc (.cells #[.slice sa sn sc, .slice aa an ac] 48)).alloc (.cells #[.slice none 0 0, .slice none 0 0] 48)).alloc (.cells (madeCells #[.int .i64 0] sn) 3)) sn aa an ac (w.heap.size + 1 + 1) (fun _ => .int .i64 0) := by
  have h1 : (w.alloc (.cells #[.slice sa sn sc, .slice aa an ac] 48)).cell? ⟨w.heap.size, 1, none⟩ = some (.slice aa an ac) := by simp
  have hb : Below (w.alloc (.cells #[.slice sa sn sc, .slice aa an ac] 48)).heap.size (w.alloc (.cells #[.slice sa sn sc, .slice aa an ac] 48)) (((w.alloc (.cells #[.slice sa sn sc, .slice aa an ac] 48)).alloc (.cells #[.slice none 0 0, .slice none 0 0] 48)).alloc (.cells (madeCells #[.int .i64 0] sn) 3)) := Joins.below_alloc2 _ _ _
  refine ⟨(hb.cell (p := ⟨w.heap.size, 1, none⟩) (by simp)).trans h1, ?_, made_ints _ _ _ (by simp), by omega, (((Below.refl _ _).alloc (Nat.le_refl _) _).alloc (by simp) _).alloc (by simp <;> omega) _⟩
  have h := (World.rowIs_alloc (w.alloc (.cells #[.slice sa sn sc, .slice aa an ac] 48)) #[.slice none 0 0, .slice none 0 0] 48 (fun _ => .slice none 0 0) (by
      intro i hi
      rcases i with _ | _ | i
      · rfl
      · rfl
      · simp at hi; omega)).alloc (.cells (madeCells #[.int .i64 0] sn) 3)
  simpa using h
theorem OffM.set {w wr : World} {sn : Nat} {aa : Option Addr} {an ac ob : Nat} {f : Nat → Value} (h : OffM w wr sn aa an ac ob f) (i : Nat) (v : Value) : OffM w (wr.setCell ⟨ob, i, none⟩ v) sn aa an ac ob (fun k => if k = i then v else f k) :=
  have hl := h.lo
  ⟨(set_blk (by omega)).trans h.n1, h.rr.setOther (by show w.heap.size + 1 ≠ ob; omega) _, h.rs.set i v, h.lo, h.be.setCell (p := ⟨ob, i, none⟩) (by show w.heap.size ≤ ob; omega) _⟩

set_option maxHeartbeats 2000000 in
theorem rOffered_any (sa aa : Option Addr) (sn sc an ac f t : Nat) (w : World) (h10 : sn ≤ 10) (hf : f < sn) (ht : t < sn) (hft : f ≠ t) :
    Calls Tryz.prog 84 #[.agg #[.slice sa sn sc, .slice aa an ac], .int .i64 f, .int .i64 t] w fun e w' => ∃ ob, e = .returned (.agg #[.slice (some ⟨ob, 0, none⟩) sn sn, .slice aa an ac]) ∧ Ints w' (some ⟨ob, 0, none⟩) sn (offL sn f t) ∧ Below w.heap.size w w' := by
  have hmi := run_make_row' (P := Tryz.prog) 32 3 (.int .i64 0) 8 Tryz.underlying32 infoInt rfl .i64 .i64 sn (by omega) (by omega)
  have hf2 : (f : Int) < (sn : Int) := by omega
  have ht2 : (t : Int) < (sn : Int) := by omega
  go_enter Tryz.func84, Tryz.ntmps84
  go_upto_region 1 with fail
  go_cut [7] (fun v wx => ∃ ob, v = .slice (some ⟨ob, 0, none⟩) sn sn ∧ OffM w wx sn aa an ac ob (fun _ => .int .i64 0))
  case first =>
    go_wp2_with fail
    go_meet
    exact ⟨_, rfl, OffM.start w sa aa sn sc an ac⟩
  case rest =>
  obtain ⟨ob, rfl, hM⟩ := hcut
  clear hmi
  have hlo := hM.lo
  have hM1 := hM.set f (.int .i64 1441)
  have hM2 := hM1.set t (.int .i64 (-1441))
  have cf := hM.rs.cell hf
  have ff := hM.rs.frozen f
  have ct := hM1.rs.cell ht
  have ft := hM1.rs.frozen t
  have n1 := hM2.n1
  have r0 := hM2.rr.cell (i := 0) (by omega)
  have r1 := hM2.rr.cell (i := 1) (by omega)
  have f0 := hM2.rr.frozen 0
  have f1 := hM2.rr.frozen 1
  have HM := hide hM2
  clear hM hM1 hM2
  go_wp2
  have hro : OffM w (((wc.setCell ⟨ob, f, none⟩ (.int .i64 1441)).setCell ⟨ob, t, none⟩ (.int .i64 (-1441)))) sn aa an ac ob _ := HM.out
  have hrs := (hro.rs.setOther (a := ⟨w.heap.size + 1, 0, none⟩) (by show ob ≠ w.heap.size + 1; omega) (.slice (some ⟨ob, 0, none⟩) sn sn)).setOther (a := ⟨w.heap.size + 1, 1, none⟩) (by show ob ≠ w.heap.size + 1; omega) (.slice aa an ac)
  have hrr := (hro.rr.set 0 (.slice (some ⟨ob, 0, none⟩) sn sn)).set 1 (.slice aa an ac)
  have q0 := (hrr.cell (i := 0) (by omega)).trans (by simp : _ = some (Value.slice (some ⟨ob, 0, none⟩) sn sn))
  have q1 := (hrr.cell (i := 1) (by omega)).trans (by simp : _ = some (Value.slice aa an ac))
  refine bodyPost_ret (v := .agg #[.slice (some ⟨ob, 0, none⟩) sn sn, .slice aa an ac]) (by simp [results, Tryz.results84, go_sem, q0, q1]) rfl ⟨ob, rfl, ?_, ?_⟩
  · refine row_ints (l := offL sn f t) (hrs.congr (fun i hi => ?_)) (offL_len _ _ _) (by omega) (fun i hi => by
      rw [offL_at _ _ _ hi]
      split
      · omega
      · split <;> omega)
    rw [offL_at _ _ _ hi]
    by_cases e1 : i = t
    · rw [if_pos e1, if_pos e1]
    · rw [if_neg e1, if_neg e1]
      by_cases e2 : i = f
      · rw [if_pos e2, if_pos e2]
      · rw [if_neg e2, if_neg e2]
  · exact (hro.be.setCell (p := ⟨w.heap.size + 1, 0, none⟩) (by show w.heap.size ≤ w.heap.size + 1; omega) _).setCell (p := ⟨w.heap.size + 1, 1, none⟩) (by show w.heap.size ≤ w.heap.size + 1; omega) _

theorem argB_out {n f t : Int} (h : argB n f t = true) : 0 ≤ f ∧ f < n ∧ 0 ≤ t ∧ t < n ∧ f ≠ t := of_decide_eq_true h

set_option maxRecDepth 100000 in
set_option maxHeartbeats 2000000 in
theorem rMost_any (sa aa : Option Addr) (sn sc an ac : Nat) (f t : Int) (xs : List Int) (es : List A5) (w : World) (hx : Ints w sa sn xs) (he : Arcs w aa an es) :
    Calls Tryz.prog 55 #[.agg #[.slice sa sn sc, .slice aa an ac], .int .i64 f, .int .i64 t] w fun e w' => ∃ much fv cv fl cu err, e = .returned (.tuple #[.int .i64 much, fv, cv, .int .i64 err]) ∧ OwnL w' w.heap.size fv fl ∧ OwnL w' w.heap.size cv cu ∧ MostAns xs es f t much fl cu err ∧ MostRel xs es f t much fl cu err ∧ Apt fv cv ∧ Below w.heap.size w w' := by
  have HX := hide hx
  have HE := hide he
  have hxl : Hid (xs.length = sn ∧ es.length = an) := ⟨hx.len, he.len⟩
  have hb0 : Below w.heap.size w (w.alloc (.cells #[.slice sa sn sc, .slice aa an ac] 48)) := (Below.refl _ _).alloc (Nat.le_refl _) _
  have cE : n0 (Calls Tryz.prog 83 #[.agg #[.slice sa sn sc, .slice aa an ac], .int .i64 f, .int .i64 t] (w.alloc (.cells #[.slice sa sn sc, .slice aa an ac] 48)) fun e w' => e = .returned (.int .i64 (mostErr xs es f t)) ∧ Below (w.alloc (.cells #[.slice sa sn sc, .slice aa an ac] 48)).heap.size (w.alloc (.cells #[.slice sa sn sc, .slice aa an ac] 48)) w') :=
    rMostErr_any sa aa sn sc an ac f t xs es _ (hx.below hb0) (he.below hb0)
  clear hx he
  go_enter Tryz.func55, Tryz.ntmps55
  go_wp2_with fail
  refine Calls.mono cE.out ?_
  rintro e w1 ⟨rfl, hb1⟩
  clear cE
  have k0 : w1.cell? ⟨w.heap.size, 0, none⟩ = some (.slice sa sn sc) := (hb1.cell (by simp)).trans (by go_simp)
  have k1 : w1.cell? ⟨w.heap.size, 1, none⟩ = some (.slice aa an ac) := (hb1.cell (by simp)).trans (by go_simp)
  have hz1 : w.heap.size < w1.heap.size := by have := hb1.size; simp at this; omega
  have hB1 : Below w.heap.size w w1 := hb0.trans (hb1.mono (by simp))
  clear hb0 hb1
  obtain ⟨wn, hwn⟩ : ∃ wn, mostErr xs es f t = wn := ⟨_, rfl⟩
  have HWN := hide hwn
  rw [hwn]
  clear hwn
  by_cases hw0 : wn = 0
  · subst hw0
    obtain ⟨hn, hab, hzx, hpp⟩ := mostErr_ok HWN.out
    have h10 : sn ≤ 10 := by rw [← hxl.out.1]; exact hn.ten
    have h24 : an ≤ 24 := by rw [← hxl.out.2]; exact hn.arcs
    obtain ⟨a1, a2, a3, a4, a5⟩ := argB_out hab
    obtain ⟨f, rfl⟩ := nat_of a1
    obtain ⟨t, rfl⟩ := nat_of a3
    rw [hxl.out.1] at a2 a4
    have hfn : f < sn := by omega
    have htn : t < sn := by omega
    have hft : f ≠ t := by omega
    have HZ := hide hzx
    have HP := hide hpp
    have HN := hide hn
    have hw : NetW (offL sn f t) es := by have := off_wide hn f t; rw [hxl.out.1] at this; exact this
    have HW := hide hw
    have hf2 : (f : Int) < (sn : Int) := by omega
    have cO : n0 (Calls Tryz.prog 84 #[.agg #[.slice sa sn sc, .slice aa an ac], .int .i64 f, .int .i64 t] w1 fun e w' => ∃ ob, e = .returned (.agg #[.slice (some ⟨ob, 0, none⟩) sn sn, .slice aa an ac]) ∧ Ints w' (some ⟨ob, 0, none⟩) sn (offL sn f t) ∧ Below w1.heap.size w1 w') :=
      rOffered_any sa aa sn sc an ac f t w1 h10 hfn htn hft
    clear hab hzx hpp hn hw a1 a3
    go_wp2_with fail
    refine Calls.mono cO.out ?_
    rintro e w2 ⟨ob, rfl, hI2, hb2⟩
    clear cO k0 k1
    have hB2 : Below w.heap.size w w2 := hB1.trans (hb2.mono hB1.size)
    have HI2 := hide hI2
    have HE2 := hide (HE.out.below hB2)
    have cA : n0 (Calls Tryz.prog 62 #[.agg #[.slice (some ⟨ob, 0, none⟩) sn sn, .slice aa an ac]] w2 fun e w' => ∃ lb fb vb, e = .returned (.pointer (some ⟨lb, 0, none⟩)) ∧ Load w' lb fb vb (some ⟨ob, 0, none⟩) sn sn aa an ac (lowsL es) (leftOf (offL sn f t) es (lowsL es)) ∧ (w2.heap.size ≤ lb ∧ w2.heap.size ≤ fb ∧ w2.heap.size ≤ vb) ∧ Below w2.heap.size w2 w') :=
      rAtLows_any (some ⟨ob, 0, none⟩) aa sn sn an ac (offL sn f t) es w2 HW.out hI2 HE2.out
    clear hI2
    go_wp2_with fail
    refine Calls.mono cA.out ?_
    rintro e w3 ⟨lb, fb, vb, rfl, hLd, hge, hb3⟩
    clear cA
    have cT : n0 (Calls Tryz.prog 64 #[.pointer (some ⟨lb, 0, none⟩)] w3 fun e w' => ∃ v, e = .returned v ∧ Settled (offL sn f t) es (lowsL es) (offL sn f t) lb fb vb (some ⟨ob, 0, none⟩) sn sn aa an ac w2.heap.size v w' ∧ Below w2.heap.size w2 w') :=
      rSettle_any _ (offL sn f t) lb fb vb (some ⟨ob, 0, none⟩) aa sn sn an ac (offL sn f t) (lowsL es) es w2 w3 HW.out (offL_len _ _ _) (by rw [offL_len]; exact off_sum hfn htn hft) (by have := lows_inv HW.out; rw [offL_len] at this; exact this) ⟨_, pipe_pot HP.out _⟩ hLd hge HE2.out hb3 (by rw [pipe_left HP.out]; exact Nearer.refl _ _) ⟨0, rfl⟩
    clear hLd hb3
    go_wp2_with fail
    refine Calls.mono cT.out ?_
    rintro e w4 ⟨v, rfl, ⟨fl, hL, hfl, hans⟩, hb4⟩
    clear cT
    have hB4 : Below w.heap.size w w4 := hB2.trans (hb4.mono hB2.size)
    obtain ⟨cut, hO, hc0, hc1, hr, hv, seen, rfl, hSt, hSR, hgt⟩ : ∃ cut, OwnL w4 w2.heap.size v cut ∧ 0 < cut.length ∧ cut.length ≤ (offL sn f t).length ∧ risB cut (offL sn f t).length = true ∧ violB (offL sn f t) es cut = true ∧ ∃ seen, cut = seenTo seen (offL sn f t).length ∧ Stuck (offL sn f t) es (offL sn f t) fl seen ∧ SettR (offL sn f t) es (lowsL es) fl (some cut) ∧ ∀ b, v.ownBlock = some b → fb < b := by
      rcases hans with ⟨_, hfit, _⟩ | h
      · exfalso
        rw [← hxl.out.1] at hfit
        exact off_never HN.out HP.out (by rw [hxl.out.1]; exact hfn) hft hfit
      · exact h
    clear hans hc0 hc1 hr hv
    have hAns := most_stuck HN.out HZ.out HP.out (f := f) (t := t) (by rw [hxl.out.1]; exact hfn) (by rw [hxl.out.1]; exact htn) hft (fl := fl) (seen := seen) (by rw [hxl.out.1]; exact hSt)
    rw [hxl.out.1] at hAns
    rw [offL_len] at hO hSR
    have HREL : Hid (MostRel xs es (f : Int) (t : Int) (1441 - (leftOf (offL sn f t) es fl).getD f 0) fl (seenTo seen sn) 0) := .inr ⟨HWN.out, rfl, by rw [Int.toNat_natCast, Int.toNat_natCast, hxl.out.1]; exact hSR, by rw [Int.toNat_natCast, Int.toNat_natCast, hxl.out.1]⟩
    have HAPT : Hid (Apt (.slice (some ⟨fb, 0, none⟩) an an) v) := apt_lt (m := fb + 1) (fun b hb => by simp [Value.ownBlock] at hb; omega) (fun b hb => hgt b hb)
    clear hSR hgt
    have hbl : -64001441 ≤ (leftOf (offL sn f t) es fl).getD f 0 ∧ (leftOf (offL sn f t) es fl).getD f 0 ≤ 64001441 := by
      obtain ⟨t0, _, hV⟩ := hSt.inv
      exact hV.left_bd HW.out f (by rw [offL_len]; exact hfn)
    have HANS := hide hAns
    have q2 := hL.c2
    have q3 := hL.c3
    have cl := hL.rl.cell hfn
    have HO := hide (hO.mono (base' := w.heap.size) hB2.size)
    have HF := hide (row_own (base := w.heap.size) hL.rf (by rw [hfl]; exact hxl.out.2) (Nat.le_trans hB2.size hge.2.1) (by omega))
    obtain ⟨b1, b2⟩ := hbl
    generalize (leftOf (offL sn f t) es fl).getD f 0 = lf at *
    clear hAns hSt hL hO HI2 HE2
    go_wp2_with fail
    go_region
    all_goals
      go_wp2
      (try simp only [Exit.inBlock, Exit.then])
      refine bodyPost_ret (v := .tuple #[.int .i64 (1441 - lf), .slice (some ⟨fb, 0, none⟩) an an, v, .int .i64 0]) (by simp [results, Tryz.results55, go_sem]) rfl ?_
      exact ⟨_, _, _, fl, _, 0, rfl, HF.out.grow ((Below.refl _ _).drew), HO.out.grow ((Below.refl _ _).drew), HANS.out, HREL.out, HAPT.out, hB4.drew⟩
  · have hwb : (wn != 0) = true := by simpa using hw0
    have HW0 := hide hw0
    clear hw0
    go_wp2
    (try simp only [Exit.inBlock, Exit.then])
    refine bodyPost_ret (v := .tuple #[.int .i64 0, .slice none 0 0, .slice none 0 0, .int .i64 wn]) (by simp [results, Tryz.results55, go_sem]) rfl ?_
    exact ⟨_, _, _, [], [], wn, rfl, OwnL.nil _ _, OwnL.nil _ _, .inl ⟨by rw [HWN.out]; exact HW0.out, HWN.out.symm, rfl, rfl, rfl⟩, .inl ⟨by rw [HWN.out]; exact HW0.out, HWN.out.symm, rfl, rfl, rfl⟩, Apt.nil _, hB1⟩

/-- MOST's CONTRACT, as All wants it. -/
def MostD : Prop := ∀ (sa aa : Option Addr) (sn sc an ac : Nat) (f t : Int) (xs : List Int) (es : List A5) (w : World), Ints w sa sn xs → Arcs w aa an es → (-9223372036854775808 ≤ f ∧ f ≤ 9223372036854775807) → (-9223372036854775808 ≤ t ∧ t ≤ 9223372036854775807) →
  Calls Tryz.prog 38 #[.agg #[.slice sa sn sc, .slice aa an ac], .int .i64 f, .int .i64 t] w fun e w' => ∃ much fv cv fl cu err, e = .returned (.tuple #[.int .i64 much, fv, cv, .int .i64 err]) ∧ OwnL w' w.heap.size fv fl ∧ OwnL w' w.heap.size cv cu ∧ MostAns xs es f t much fl cu err ∧ MostRel xs es f t much fl cu err ∧ Apt fv cv ∧ Below w.heap.size w w'
set_option maxHeartbeats 1000000 in
theorem most_all : MostD := by
  intro sa aa sn sc an ac f t xs es w hx he hf ht
  have hb0 : Below w.heap.size w (w.alloc (.cells #[.slice sa sn sc, .slice aa an ac] 48)) := (Below.refl _ _).alloc (Nat.le_refl _) _
  have HX := hide hx
  have HE := hide he
  clear hx he
  go_enter Tryz.func38, Tryz.ntmps38
  go_wp2_with fail
  refine (rMost_any sa aa sn sc an ac f t xs es _ (HX.out.below hb0) (HE.out.below hb0)).mono ?_
  rintro e w1 ⟨much, fv, cv, fl, cu, err, rfl, h1, h2, h4, h5, h6, hb1⟩
  have H5 := hide h5
  have H6 := hide h6
  clear h5 h6
  have hB1 : Below w.heap.size w w1 := hb0.trans (hb1.mono (by simp))
  have H1 := hide (h1.mono (base' := w.heap.size) (by simp))
  have H2 := hide (h2.mono (base' := w.heap.size) (by simp))
  have H4 := hide h4
  clear h1 h2 h4 hb1 hb0
  go_wp2
  (try simp only [Exit.inBlock, Exit.then])
  refine bodyPost_ret (v := .tuple #[.int .i64 much, fv, cv, .int .i64 err]) (by simp [results, Tryz.results38, go_sem]) rfl ?_
  exact ⟨much, fv, cv, fl, cu, err, rfl, H1.out, H2.out, H4.out, H5.out, H6.out, hB1⟩
theorem most_any : MostC := fun sa aa sn sc an ac f t xs es w hx he hf ht =>
  (most_all sa aa sn sc an ac f t xs es w hx he hf ht).mono fun e w' ⟨much, fv, cv, fl, cu, err, h0, h1, h2, h3, _, _, h6⟩ => ⟨much, fv, cv, fl, cu, err, h0, h1, h2, h3, h6⟩
end Go.Proofs.YtnbccoflcoaoaaaGreat
