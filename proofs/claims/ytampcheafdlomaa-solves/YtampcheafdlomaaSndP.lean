import Derived.Test.YtampcheafdlomaaAccH
namespace Go.Proofs.Ytampcheafdlomaa
open Go.RowKit
set_option linter.unusedSimpArgs false
set_option linter.unusedVariables false

/-! ### sums -/
def sumTo (f : Nat → Int) : Nat → Int
  | 0 => 0
  | n + 1 => sumTo f n + f n
theorem sumTo_congr {f g : Nat → Int} {n : Nat} (h : ∀ i, i < n → f i = g i) : sumTo f n = sumTo g n := by
  induction n with
  | zero => rfl
  | succ n ih => simp only [sumTo]; rw [ih (fun i hi => h i (by omega)), h n (by omega)]
theorem sumTo_add (f g : Nat → Int) (n : Nat) : sumTo (fun i => f i + g i) n = sumTo f n + sumTo g n := by
  induction n with
  | zero => rfl
  | succ n ih => simp only [sumTo, ih]; omega
theorem sumTo_sub (f g : Nat → Int) (n : Nat) : sumTo (fun i => f i - g i) n = sumTo f n - sumTo g n := by
  induction n with
  | zero => rfl
  | succ n ih => simp only [sumTo, ih]; omega
theorem sumTo_zero (n : Nat) : sumTo (fun _ => 0) n = 0 := by
  induction n with
  | zero => rfl
  | succ n ih => simp only [sumTo, ih]; omega
theorem sumTo_le {f g : Nat → Int} {n : Nat} (h : ∀ i, i < n → f i ≤ g i) : sumTo f n ≤ sumTo g n := by
  induction n with
  | zero => simp [sumTo]
  | succ n ih =>
    have h1 := ih (fun i hi => h i (by omega))
    have h2 := h n (by omega)
    simp only [sumTo]; omega
/-- Of all numbers below m just one counts. -/
theorem sumTo_one (p : Nat → Int) (j m : Nat) (y : Int) (hj : j < m) : sumTo (fun k => p k * (if (j : Int) = (k : Int) then y else 0)) m = p j * y := by
  have key : ∀ m, sumTo (fun k => p k * (if (j : Int) = (k : Int) then y else 0)) m = if j < m then p j * y else 0 := by
    intro m
    induction m with
    | zero => simp [sumTo]
    | succ m ih =>
      simp only [sumTo, ih]
      by_cases h1 : j < m
      · rw [if_pos h1, if_neg (show ¬ ((j : Int) = (m : Int)) by omega), if_pos (show j < m + 1 by omega)]; simp
      · by_cases h2 : j = m
        · subst h2; rw [if_neg h1, if_pos rfl, if_pos (show j < j + 1 by omega)]; omega
        · rw [if_neg h1, if_neg (show ¬ ((j : Int) = (m : Int)) by omega), if_neg (show ¬ j < m + 1 by omega)]; simp
  rw [key m, if_pos hj]

/-! ### what goes over a flow, weighed at the nodes -/
def frN (es : List A5) (i : Nat) : Nat := (es.getD i zA).fr.toNat
def toN (es : List A5) (i : Nat) : Nat := (es.getD i zA).to.toNat

theorem weigh (es : List A5) (y : List Int) (p : Nat → Int) (m : Nat) (n : Nat) (h : ∀ i, i < n → 0 ≤ (es.getD i zA).fr ∧ (es.getD i zA).fr < m ∧ 0 ≤ (es.getD i zA).to ∧ (es.getD i zA).to < m) :
    sumTo (fun k => p k * netTo es y (k : Int) n) m = sumTo (fun i => (p (frN es i) - p (toN es i)) * y.getD i 0) n := by
  induction n with
  | zero => simp only [netTo, sumTo, Int.mul_zero]; exact sumTo_zero m
  | succ n ih =>
    have hn := h n (by omega)
    have e1 : ∀ k : Nat, p k * netTo es y (k : Int) (n + 1) = (p k * netTo es y (k : Int) n + p k * (if ((frN es n : Nat) : Int) = (k : Int) then y.getD n 0 else 0)) - p k * (if ((toN es n : Nat) : Int) = (k : Int) then y.getD n 0 else 0) := by
      intro k
      have a1 : ((frN es n : Nat) : Int) = (es.getD n zA).fr := by unfold frN; omega
      have a2 : ((toN es n : Nat) : Int) = (es.getD n zA).to := by unfold toN; omega
      simp only [netTo, a1, a2]
      rw [Int.mul_sub, Int.mul_add]
    rw [sumTo_congr (fun k _ => e1 k), sumTo_sub, sumTo_add, ih (fun i hi => h i (by omega)), sumTo_one p (frN es n) m _ (by unfold frN; omega), sumTo_one p (toN es n) m _ (by unfold toN; omega)]
    simp only [sumTo]
    rw [Int.sub_mul]
    omega

theorem costTo_sum (es : List A5) (y : List Int) (n : Nat) : costTo es y n = sumTo (fun i => y.getD i 0 * (es.getD i zA).cost) n := by
  induction n with
  | zero => rfl
  | succ n ih => simp only [costTo, sumTo, ih]

/-- What is known of a flow that fits. -/
structure Fits (xs : List Int) (es : List A5) (y : List Int) : Prop where
  len : y.length = es.length
  bd : ∀ i, i < es.length → (es.getD i zA).lo ≤ y.getD i 0 ∧ y.getD i 0 ≤ 1000000 ∧ ((es.getD i zA).cap = -1 ∨ y.getD i 0 ≤ (es.getD i zA).cap)
  bal : ∀ k, k < xs.length → netTo es y (k : Int) es.length = xs.getD k 0
theorem fits_of {xs : List Int} {es : List A5} {y : List Int} (h : flowErr xs es y = 0) : Fits xs es y := by
  unfold flowErr at h
  split at h
  · omega
  · split at h
    · omega
    · split at h
      · omega
      · rename_i h1 h2 h3
        have b : boundedB es y = true := by simpa using h2
        have c : balB xs es y = true := by simpa using h3
        exact ⟨by omega, fun i hi => boundB_out (of_all b i hi), fun k hk => of_decide_eq_true (of_all c k hk)⟩
theorem of_fits {xs : List Int} {es : List A5} {y : List Int} (h : Fits xs es y) : flowErr xs es y = 0 := by
  unfold flowErr
  rw [if_neg (by have := h.len; omega), if_neg, if_neg]
  · rw [show balB xs es y = true from all_t (fun k hk => decide_eq_true (h.bal k hk))]; simp
  · rw [show boundedB es y = true from all_t (fun i hi => decide_eq_true (h.bd i hi))]; simp

theorem NetOK.ends {xs : List Int} {es : List A5} (hn : NetOK xs es) (i : Nat) (hi : i < es.length) : 0 ≤ (es.getD i zA).fr ∧ (es.getD i zA).fr < xs.length ∧ 0 ≤ (es.getD i zA).to ∧ (es.getD i zA).to < xs.length := by
  have := arcB_out (hn.arc i hi); omega

/-- WEAK DUALITY: no flow that fits costs less than one that potentials hold. -/
theorem dual {xs : List Int} {es : List A5} (hn : NetOK xs es) {x y p : List Int} (hx : Fits xs es x) (hy : Fits xs es y) (hh : holdB es x p = true) : costTo es x es.length ≤ costTo es y es.length := by
  have id1 : ∀ z : List Int, Fits xs es z → sumTo (fun i => driftAt es p i * z.getD i 0) es.length = costTo es z es.length + sumTo (fun k => p.getD k 0 * xs.getD k 0) xs.length := by
    intro z hz
    have w1 := weigh es z (fun k => p.getD k 0) xs.length es.length (hn.ends)
    have w2 : sumTo (fun k => p.getD k 0 * netTo es z (k : Int) es.length) xs.length = sumTo (fun k => p.getD k 0 * xs.getD k 0) xs.length := sumTo_congr (fun k hk => by rw [hz.bal k hk])
    rw [w2] at w1
    rw [w1, costTo_sum, ← sumTo_add]
    refine sumTo_congr (fun i _ => ?_)
    unfold driftAt frN toN
    rw [Int.sub_mul, Int.sub_mul, Int.add_mul, Int.mul_comm ((es.getD i zA).cost)]
    omega
  have h1 := id1 x hx
  have h2 := id1 y hy
  have h3 : sumTo (fun i => driftAt es p i * x.getD i 0) es.length ≤ sumTo (fun i => driftAt es p i * y.getD i 0) es.length := by
    refine sumTo_le (fun i hi => ?_)
    have hd := of_decide_eq_true (of_all hh i hi)
    have bx := hx.bd i hi
    have by1 := hy.bd i hi
    obtain ⟨d, hdd⟩ : ∃ d, driftAt es p i = d := ⟨_, rfl⟩
    rw [hdd] at hd ⊢
    by_cases g1 : 0 < d
    · have := hd.1 g1
      exact Int.mul_le_mul_of_nonneg_left (by omega) (by omega)
    · by_cases g2 : d < 0
      · have := hd.2 g2
        exact Int.mul_le_mul_of_nonpos_left (by omega) (by omega)
      · have : d = 0 := by omega
        subst this; simp
  omega

/-! ### a cut -/
theorem ris_lt {l : List Int} {m : Int} (h : risB l m = true) {i j : Nat} (hij : i < j) (hj : j < l.length) : l.getD i 0 < l.getD j 0 := by
  induction j with
  | zero => omega
  | succ j ih =>
    have h1 := of_decide_eq_true (of_all h (j + 1) hj)
    have h2 : l.getD j 0 < l.getD (j + 1) 0 := by
      rcases h1.2.2 with h3 | h3
      · omega
      · simpa using h3
    by_cases hij' : i = j
    · subst hij'; exact h2
    · have := ih (by omega) (by omega); omega
theorem ris_new {l : List Int} {m : Int} (h : risB l m = true) {k : Nat} (hk : k < l.length) : inB (l.take k) (l.getD k 0) = false := by
  refine inB_f (fun i hi => ?_)
  have hik : i < k := by rw [List.length_take] at hi; omega
  rw [show (l.take k).getD i 0 = l.getD i 0 from by simp [List.getD, List.getElem?_take, hik]]
  have := ris_lt h hik hk
  omega

def chi (l : List Int) (k : Nat) : Int := if inB l (k : Int) = true then 1 else 0
theorem need_sum {xs cut : List Int} (h : risB cut xs.length = true) (k : Nat) (hk : k ≤ cut.length) : needTo xs cut k = sumTo (fun j => chi (cut.take k) j * xs.getD j 0) xs.length := by
  induction k with
  | zero =>
    simp only [needTo, List.take_zero]
    rw [sumTo_congr (g := fun _ => 0) (fun j _ => by simp [chi, inB])]
    exact (sumTo_zero _).symm
  | succ k ih =>
    have hr := of_decide_eq_true (of_all h k (by omega))
    obtain ⟨v, hv⟩ : ∃ v : Nat, cut.getD k 0 = (v : Int) := ⟨(cut.getD k 0).toNat, by omega⟩
    have hvl : v < xs.length := by omega
    have hnew := ris_new h (show k < cut.length by omega)
    rw [hv] at hnew
    simp only [needTo, hv, Int.toNat_natCast]
    rw [ih (by omega)]
    have e1 : ∀ j, j < xs.length → chi (cut.take (k + 1)) j * xs.getD j 0 = chi (cut.take k) j * xs.getD j 0 + xs.getD j 0 * (if (v : Int) = (j : Int) then 1 else 0) := by
      intro j _
      unfold chi
      rw [inB_take_succ (by omega), hv]
      by_cases hjv : v = j
      · subst hjv; simp [hnew]
      · have : ((v : Int) == (j : Int)) = false := by simp; omega
        rw [this, Bool.or_false, if_neg (show ¬ ((v : Int) = (j : Int)) by omega)]
        omega
    rw [sumTo_congr e1, sumTo_add, sumTo_one (fun j => xs.getD j 0) v xs.length 1 hvl]
    omega

/-- What goes over the edge of a cut. -/
def overTo (es : List A5) (y cut : List Int) (back : Bool) (n : Nat) : Int := sumTo (fun i => if crossB cut back (es.getD i zA) = true then y.getD i 0 else 0) n

theorem over_bd {xs : List Int} {es : List A5} (hn : NetOK xs es) {y : List Int} (hy : Fits xs es y) (cut : List Int) (back : Bool) (n : Nat) (h : n ≤ es.length) :
    lowsTo es cut back n ≤ overTo es y cut back n ∧ (openTo es cut back n = false → overTo es y cut back n ≤ capsTo es cut back n) := by
  induction n with
  | zero => simp [lowsTo, overTo, capsTo, sumTo]
  | succ n ih =>
    obtain ⟨i1, i2⟩ := ih (by omega)
    have bd := hy.bd n (by omega)
    unfold overTo at *
    simp only [lowsTo, capsTo, openTo, sumTo]
    constructor
    · split
      · omega
      · omega
    · intro ho
      simp only [Bool.or_eq_false_iff, Bool.and_eq_false_iff] at ho
      have i3 := i2 ho.1
      by_cases hc : crossB cut back (es.getD n zA) = true
      · have hcap : ¬ (es.getD n zA).cap = -1 := by
          rcases ho.2 with h1 | h1
          · rw [hc] at h1; cases h1
          · simpa using h1
        rw [if_pos hc, if_pos ⟨hc, hcap⟩]
        omega
      · rw [if_neg hc, if_neg (fun h => hc h.1)]
        omega

theorem cut_flow {xs : List Int} {es : List A5} (hn : NetOK xs es) {y : List Int} (hy : Fits xs es y) {cut : List Int} (hr : risB cut xs.length = true) :
    needTo xs cut cut.length = overTo es y cut false es.length - overTo es y cut true es.length := by
  rw [need_sum hr cut.length (Nat.le_refl _), List.take_of_length_le (Nat.le_refl _)]
  have w1 := weigh es y (chi cut) xs.length es.length (hn.ends)
  rw [sumTo_congr (g := fun k => chi cut k * xs.getD k 0) (fun k hk => by rw [hy.bal k hk])] at w1
  rw [w1]
  unfold overTo
  rw [← sumTo_sub]
  refine sumTo_congr (fun i hi => ?_)
  have e := hn.ends i hi
  have a1 : ((frN es i : Nat) : Int) = (es.getD i zA).fr := by unfold frN; omega
  have a2 : ((toN es i : Nat) : Int) = (es.getD i zA).to := by unfold toN; omega
  unfold chi crossB
  rw [a1, a2]
  cases inB cut (es.getD i zA).fr <;> cases inB cut (es.getD i zA).to <;> simp

/-- Where a cut is violated no flow fits. -/
theorem none_fits {xs : List Int} {es : List A5} (hn : NetOK xs es) {cut : List Int} (hr : risB cut xs.length = true) (hv : violB xs es cut = true) (y : List Int) : flowErr xs es y ≠ 0 := by
  intro h0
  have hy := fits_of h0
  have hc := cut_flow hn hy hr
  have b1 := over_bd hn hy cut false es.length (Nat.le_refl _)
  have b2 := over_bd hn hy cut true es.length (Nat.le_refl _)
  unfold violB at hv
  simp only [Bool.or_eq_true, Bool.and_eq_true, Bool.not_eq_true', decide_eq_true_eq] at hv
  rcases hv with ⟨h1, h2⟩ | ⟨h1, h2⟩
  · have := b1.2 h1; omega
  · have := b2.2 h1; omega

/-! ### one unit more round a circle -/
def bump (l : List Int) (v : Nat) : List Int := l.set v (l.getD v 0 + 1)
theorem bump_len (l : List Int) (v : Nat) : (bump l v).length = l.length := by simp [bump]
theorem bump_at (l : List Int) (v i : Nat) (hv : v < l.length) : (bump l v).getD i 0 = if i = v then l.getD v 0 + 1 else l.getD i 0 := by
  unfold bump
  simp only [List.getD, List.getElem?_set]
  by_cases h : v = i
  · subst h; simp [hv]
  · rw [if_neg h, if_neg (fun e => h e.symm)]
theorem bump_net (es : List A5) (l : List Int) (v : Nat) (hv : v < l.length) (node : Int) (n : Nat) :
    netTo es (bump l v) node n = netTo es l node n + (if v < n then (if (es.getD v zA).fr = node then 1 else 0) - (if (es.getD v zA).to = node then 1 else 0) else 0) := by
  induction n with
  | zero => simp [netTo]
  | succ n ih =>
    simp only [netTo, ih, bump_at l v n hv]
    by_cases h1 : n = v
    · subst h1
      rw [if_neg (show ¬ n < n by omega), if_pos (show n < n + 1 by omega)]
      simp only [if_true]
      split <;> split <;> omega
    · by_cases h2 : v < n
      · rw [if_pos h2, if_pos (show v < n + 1 by omega), if_neg h1]
        split <;> split <;> split <;> split <;> omega
      · rw [if_neg h2, if_neg (show ¬ v < n + 1 by omega), if_neg h1]
        omega
theorem bump_cost (es : List A5) (l : List Int) (v : Nat) (hv : v < l.length) (n : Nat) : costTo es (bump l v) n = costTo es l n + (if v < n then (es.getD v zA).cost else 0) := by
  induction n with
  | zero => simp [costTo]
  | succ n ih =>
    simp only [costTo, ih, bump_at l v n hv]
    by_cases h1 : n = v
    · subst h1
      rw [if_neg (show ¬ n < n by omega), if_pos (show n < n + 1 by omega), if_pos rfl, Int.add_mul]
      omega
    · by_cases h2 : v < n
      · rw [if_pos h2, if_pos (show v < n + 1 by omega), if_neg h1]; omega
      · rw [if_neg h2, if_neg (show ¬ v < n + 1 by omega), if_neg h1]; omega

/-- What a circle's first k arcs do at a node. -/
def ringTo (es : List A5) (l : List Int) (node : Int) : Nat → Int
  | 0 => 0
  | k + 1 => ringTo es l node k + ((if (arcOf es l k).fr = node then 1 else 0) - (if (arcOf es l k).to = node then 1 else 0))
theorem ring_closed {es : List A5} {l : List Int} (h : prevB es l = true) (node : Int) (k : Nat) (hk : k < l.length) :
    ringTo es l node (k + 1) = (if (arcOf es l (l.length - 1)).to = node then 1 else 0) - (if (arcOf es l k).to = node then 1 else 0) := by
  induction k with
  | zero =>
    have := of_all h 0 hk
    simp only [prevAt, prv, if_true, beq_iff_eq] at this
    simp only [ringTo, this]; omega
  | succ k ih =>
    have := of_all h (k + 1) hk
    simp only [prevAt, prv, Nat.add_one_ne_zero, if_false, Nat.add_sub_cancel, beq_iff_eq] at this
    rw [ringTo, ih (by omega), this]; omega
theorem ring_zero {es : List A5} {l : List Int} (h : prevB es l = true) (node : Int) : ringTo es l node l.length = 0 := by
  by_cases h0 : l.length = 0
  · rw [h0]; rfl
  · have := ring_closed h node (l.length - 1) (by omega)
    rw [show l.length - 1 + 1 = l.length from by omega] at this
    omega
end Go.Proofs.Ytampcheafdlomaa
