import Derived.Test.YtampcheafdlomaaRtQ
namespace Go.Proofs.Ytampcheafdlomaa
open Go.RowKit
set_option linter.unusedSimpArgs false
set_option linter.unusedVariables false

/-! ### a circle of last steps -/
theorem least_of (P : Nat → Prop) : ∀ m, P m → ∃ k, k ≤ m ∧ P k ∧ ∀ j, j < k → ¬ P j := by
  intro m
  induction m using Nat.strongRecOn with
  | _ m ih =>
    intro h
    by_cases hex : ∃ j, j < m ∧ P j
    · obtain ⟨j, hj, hp⟩ := hex
      obtain ⟨k, h1, h2, h3⟩ := ih j hj hp
      exact ⟨k, by omega, h2, h3⟩
    · exact ⟨m, Nat.le_refl _, h, fun j hj hp => hex ⟨j, hj, hp⟩⟩

/-- f lies on a circle of m last steps. -/
structure Cyc (es : List A5) (last : Nat → St) (n : Nat) (T : Nat → Nat) (f m : Nat) : Prop where
  pos : 0 < m
  le : m ≤ n
  lt : f < n
  back : bk es last f m = f
  first : ∀ j, 0 < j → j < m → bk es last f j ≠ f
  way : ∀ j, T (bk es last f j) ≠ 0

theorem WInv.cycle {es : List A5} {fl : List Int} {n : Nat} {S seen : Nat → Bool} {cost : Nat → Int} {last : Nat → St} {T R : Nat → Nat} {c r : Nat} {done : St → Prop} (h : WInv es fl n S seen cost last T R c r done) {z : Nat} (hz : z < n) (hR : R z = n) : ∃ m, Cyc es last n T (bk es last z n) m := by
  have hT := h.bk_far hz hR
  have hlt := h.bk_lt hz n hT
  obtain ⟨i, j, hij, hj, e⟩ := pigeon n (bk es last z) hlt
  have per : ∀ s, i ≤ s → bk es last z (s + (j - i)) = bk es last z s := by
    intro s hs
    have h1 := bk_add es last z j (s - i)
    have h2 := bk_add es last z i (s - i)
    rw [← e, h2, show i + (s - i) = s from by omega, show j + (s - i) = s + (j - i) from by omega] at h1
    exact h1.symm
  have hall : ∀ s, T (bk es last z s) ≠ 0 := by
    intro s
    induction s using Nat.strongRecOn with
    | _ s ih =>
      by_cases hs : s < n
      · exact hT s hs
      · have := per (s - (j - i)) (by omega)
        rw [show s - (j - i) + (j - i) = s from by omega] at this
        rw [this]
        exact ih _ (by omega)
  obtain ⟨m, hm1, ⟨hm2, hm3⟩, hm4⟩ := least_of (fun k => 0 < k ∧ bk es last (bk es last z n) k = bk es last z n) (j - i) ⟨by omega, by rw [bk_add]; exact per n (by omega)⟩
  exact ⟨m, hm2, by omega, hlt n (Nat.le_refl _), hm3, fun k h1 h2 h3 => hm4 k h2 ⟨h1, h3⟩, fun k => by rw [bk_add]; exact hall _⟩

theorem Cyc.once {es : List A5} {last : Nat → St} {n : Nat} {T : Nat → Nat} {f m : Nat} (h : Cyc es last n T f m) (i j : Nat) (hij : i < j) (hj : j < m) : bk es last f i ≠ bk es last f j := by
  intro e
  have h1 := bk_add es last f i (m - j)
  have h2 := bk_add es last f j (m - j)
  rw [e, h2, show j + (m - j) = m from by omega, h.back] at h1
  exact h.first (i + (m - j)) (by omega) (by omega) h1.symm

theorem sumTo_head (f : Nat → Int) (n : Nat) : sumTo f (n + 1) = f 0 + sumTo (fun i => f (i + 1)) n := by
  induction n with
  | zero => simp [sumTo]
  | succ n ih =>
    rw [sumTo, ih]
    simp only [sumTo]
    omega
theorem sumTo_rev (f : Nat → Int) (m : Nat) : sumTo (fun i => f (m - 1 - i)) m = sumTo f m := by
  induction m with
  | zero => rfl
  | succ m ih =>
    rw [sumTo_head, sumTo_congr (g := fun i => f (m - 1 - i)) (fun i hi => by rw [show m + 1 - 1 - (i + 1) = m - 1 - i from by omega]), ih]
    simp only [sumTo, Nat.add_sub_cancel, Nat.sub_zero]
    omega
theorem circTo_sum (es : List A5) (l : List Int) (k : Nat) : circTo es l k = sumTo (fun i => (arcOf es l i).cost) k := by
  induction k with
  | zero => rfl
  | succ k ih => simp only [circTo, sumTo, ih]

/-- The arcs of the way back. -/
def backL (es : List A5) (last : Nat → St) (f k : Nat) : List Int := (List.range k).map fun j => ((last (bk es last f j)).arc : Int)
theorem backL_len (es : List A5) (last : Nat → St) (f k : Nat) : (backL es last f k).length = k := by simp [backL]
theorem backL_snoc (es : List A5) (last : Nat → St) (f k : Nat) : backL es last f (k + 1) = backL es last f k ++ [((last (bk es last f k)).arc : Int)] := by simp [backL, List.range_succ]
theorem backL_at (es : List A5) (last : Nat → St) (f k : Nat) {j : Nat} (hj : j < k) : (backL es last f k).getD j 0 = ((last (bk es last f j)).arc : Int) := by simp [backL, List.getD, hj]
theorem rev_at (l : List Int) {i : Nat} (hi : i < l.length) : l.reverse.getD i 0 = l.getD (l.length - 1 - i) 0 := by
  simp [List.getD, List.getElem?_reverse hi]

/-- The circle that is found in the stiff net is good in the net. -/
theorem good_circle {xs : List Int} {es : List A5} (hn : NetOK xs es) {n : Nat} (hxn : xs.length = n) {S seen : Nat → Bool} {cost : Nat → Int} {last : Nat → St} {T R : Nat → Nat} {c r : Nat} {done : St → Prop} (h : WInv (stiffL es) (lowsL (stiffL es)) n S seen cost last T R c r done) {f m : Nat} (hC : Cyc (stiffL es) last n T f m) :
    goodB es (backL (stiffL es) last f m).reverse = true := by
  obtain ⟨C, hCC⟩ : ∃ C, (backL (stiffL es) last f m).reverse = C := ⟨_, rfl⟩
  have hlen : C.length = m := by rw [← hCC, List.length_reverse, backL_len]
  have hlt : ∀ j, bk (stiffL es) last f j < n := fun j => h.bk_lt hC.lt j (fun i _ => hC.way i) j (Nat.le_refl _)
  have hw : ∀ j, _ := fun j => h.way _ (hlt j) (hC.way j)
  have hst : ∀ j, (last (bk (stiffL es) last f j)).arc < es.length ∧ (last (bk (stiffL es) last f j)).back = false ∧ (es.getD (last (bk (stiffL es) last f j)).arc zA).cap = -1 := by
    intro j
    have h1 := (hw j).2.1
    rw [stiffL_len] at h1
    exact ⟨h1, stiff_room hn h1 (hw j).2.2.2.1⟩
  have hat : ∀ i, i < m → C.getD i 0 = ((last (bk (stiffL es) last f (m - 1 - i))).arc : Int) := by
    intro i hi
    rw [← hCC, rev_at _ (by rw [backL_len]; exact hi), backL_len, backL_at _ _ _ _ (by omega)]
  have harc : ∀ i, i < m → arcOf es C i = es.getD (last (bk (stiffL es) last f (m - 1 - i))).arc zA := fun i hi => by unfold arcOf; rw [hat i hi, Int.toNat_natCast]
  have hends : ∀ j, (es.getD (last (bk (stiffL es) last f j)).arc zA).to = (bk (stiffL es) last f j : Int) ∧ (es.getD (last (bk (stiffL es) last f j)).arc zA).fr = (bk (stiffL es) last f (j + 1) : Int) ∧ priceOf (stiffL es) (last (bk (stiffL es) last f j)) = (es.getD (last (bk (stiffL es) last f j)).arc zA).cost := by
    intro j
    obtain ⟨h1, h2, h3⟩ := hst j
    obtain ⟨e1, e2, -, -⟩ := st_ends (stiff_ok hn) (hw j).2.1
    have d := (hw j).2.2.1
    rw [d] at e2
    have eb : bk (stiffL es) last f (j + 1) = (last (bk (stiffL es) last f j)).srcN (stiffL es) := rfl
    rw [eb, ← e1, ← e2]
    simp only [St.src, St.dst, priceOf, h2, Bool.false_eq_true, if_false, stiffL_at, h3, if_true]
    exact ⟨trivial, trivial, trivial⟩
  have hneg := h.bk_neg hC.lt hC.pos (fun j _ => hC.way j) hC.back
  rw [hCC]
  have honce : onceB es.length C = true := all_t (fun i hi => by
    rw [hlen] at hi
    unfold onceAt
    rw [hat i hi]
    rw [Bool.and_eq_true]
    refine ⟨decide_eq_true ⟨by omega, by have := (hst (m - 1 - i)).1; omega⟩, ?_⟩
    rw [Bool.not_eq_true']
    refine inB_f (fun q hq => ?_)
    rw [List.length_take] at hq
    have hq2 : q < i := by omega
    rw [show (C.take i).getD q 0 = C.getD q 0 from by simp [List.getD, List.getElem?_take, hq2], hat q (by omega)]
    intro e
    have e' : (last (bk (stiffL es) last f (m - 1 - q))).arc = (last (bk (stiffL es) last f (m - 1 - i))).arc := by omega
    have t1 := (hends (m - 1 - q)).1
    have t2 := (hends (m - 1 - i)).1
    rw [e', t2] at t1
    exact hC.once (m - 1 - i) (m - 1 - q) (by omega) (by omega) (by omega))
  have hunl : unlB es C = true := all_t (fun i hi => by
    rw [hlen] at hi
    unfold unlAt
    rw [harc i hi, (hst _).2.2]; rfl)
  have hnext : nextB es C = true := all_t (fun i hi => by
    rw [hlen] at hi
    unfold nextAt
    rw [hlen, harc i hi, beq_iff_eq, (hends _).1]
    by_cases hi2 : i + 1 < m
    · rw [Nat.mod_eq_of_lt hi2, harc _ hi2, (hends _).2.1, show m - 1 - (i + 1) + 1 = m - 1 - i from by omega]
    · have him : i + 1 = m := by omega
      rw [him, Nat.mod_self, harc 0 hC.pos, (hends _).2.1, show m - 1 - 0 + 1 = m from by have := hC.pos; omega, hC.back, show m - 1 - i = 0 from by omega]
      rfl)
  have hsum : circTo es C C.length < 0 := by
    rw [circTo_sum, hlen, sumTo_congr (g := fun i => priceOf (stiffL es) (last (bk (stiffL es) last f (m - 1 - i)))) (fun i hi => by rw [harc i hi, (hends _).2.2]), sumTo_rev (fun j => priceOf (stiffL es) (last (bk (stiffL es) last f j)))]
    exact hneg
  unfold goodB
  rw [honce, hunl, hnext, decide_eq_true (show 0 < C.length by rw [hlen]; exact hC.pos), decide_eq_true hsum]
  rfl
end Go.Proofs.Ytampcheafdlomaa
