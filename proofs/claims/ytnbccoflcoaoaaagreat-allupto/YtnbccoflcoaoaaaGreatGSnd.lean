import Derived.Test.YtnbccoflcoaoaaaGreatGAcb
namespace Go.Proofs.YtnbccoflcoaoaaaGreat
open Go.RowKit
set_option linter.unusedSimpArgs false
set_option linter.unusedVariables false

/-! ### sums -/
def sumTo (f : Nat → Int) : Nat → Int
  | 0 => 0
  | n + 1 => sumTo f n + f n
theorem sumTo_congr {f g : Nat → Int} {n : Nat} (h : ∀ i, i < n → f i = g i) : sumTo f n = sumTo g n := by
  induction n with
  | zero => rfl
  | succ n ih => simp only [sumTo]; rw [ih (fun i hi => h i (by omega)), h n (by omega)]
theorem sumTo_add (f g : Nat → Int) (n : Nat) : sumTo (fun i => f i + g i) n = sumTo f n + sumTo g n := by
  induction n with
  | zero => rfl
  | succ n ih => simp only [sumTo, ih]; omega
theorem sumTo_sub (f g : Nat → Int) (n : Nat) : sumTo (fun i => f i - g i) n = sumTo f n - sumTo g n := by
  induction n with
  | zero => rfl
  | succ n ih => simp only [sumTo, ih]; omega
theorem sumTo_zero (n : Nat) : sumTo (fun _ => 0) n = 0 := by
  induction n with
  | zero => rfl
  | succ n ih => simp only [sumTo, ih]; omega
theorem sumTo_le {f g : Nat → Int} {n : Nat} (h : ∀ i, i < n → f i ≤ g i) : sumTo f n ≤ sumTo g n := by
  induction n with
  | zero => simp [sumTo]
  | succ n ih =>
    have h1 := ih (fun i hi => h i (by omega))
    have h2 := h n (by omega)
    simp only [sumTo]; omega
/-- Of all numbers below m just one counts. -/
theorem sumTo_one (p : Nat → Int) (j m : Nat) (y : Int) (hj : j < m) : sumTo (fun k => p k * (if (j : Int) = (k : Int) then y else 0)) m = p j * y := by
  have key : ∀ m, sumTo (fun k => p k * (if (j : Int) = (k : Int) then y else 0)) m = if j < m then p j * y else 0 := by
    intro m
    induction m with
    | zero => simp [sumTo]
    | succ m ih =>
      simp only [sumTo, ih]
      by_cases h1 : j < m
      · rw [if_pos h1, if_neg (show ¬ ((j : Int) = (m : Int)) by omega), if_pos (show j < m + 1 by omega)]; simp
      · by_cases h2 : j = m
        · subst h2; rw [if_neg h1, if_pos rfl, if_pos (show j < j + 1 by omega)]; omega
        · rw [if_neg h1, if_neg (show ¬ ((j : Int) = (m : Int)) by omega), if_neg (show ¬ j < m + 1 by omega)]; simp
  rw [key m, if_pos hj]

/-! ### what goes over a flow, weighed at the nodes -/
def frN (es : List A5) (i : Nat) : Nat := (es.getD i zA).fr.toNat
def toN (es : List A5) (i : Nat) : Nat := (es.getD i zA).to.toNat

theorem weigh (es : List A5) (y : List Int) (p : Nat → Int) (m : Nat) (n : Nat) (h : ∀ i, i < n → 0 ≤ (es.getD i zA).fr ∧ (es.getD i zA).fr < m ∧ 0 ≤ (es.getD i zA).to ∧ (es.getD i zA).to < m) :
    sumTo (fun k => p k * netTo es y (k : Int) n) m = sumTo (fun i => (p (frN es i) - p (toN es i)) * y.getD i 0) n := by
  induction n with
  | zero => simp only [netTo, sumTo, Int.mul_zero]; exact sumTo_zero m
  | succ n ih =>
    have hn := h n (by omega)
    have e1 : ∀ k : Nat, p k * netTo es y (k : Int) (n + 1) = (p k * netTo es y (k : Int) n + p k * (if ((frN es n : Nat) : Int) = (k : Int) then y.getD n 0 else 0)) - p k * (if ((toN es n : Nat) : Int) = (k : Int) then y.getD n 0 else 0) := by
      intro k
      have a1 : ((frN es n : Nat) : Int) = (es.getD n zA).fr := by unfold frN; omega
      have a2 : ((toN es n : Nat) : Int) = (es.getD n zA).to := by unfold toN; omega
      simp only [netTo, a1, a2]
      rw [Int.mul_sub, Int.mul_add]
    rw [sumTo_congr (fun k _ => e1 k), sumTo_sub, sumTo_add, ih (fun i hi => h i (by omega)), sumTo_one p (frN es n) m _ (by unfold frN; omega), sumTo_one p (toN es n) m _ (by unfold toN; omega)]
    simp only [sumTo]
    rw [Int.sub_mul]
    omega

theorem costTo_sum (es : List A5) (y : List Int) (n : Nat) : costTo es y n = sumTo (fun i => y.getD i 0 * (es.getD i zA).cost) n := by
  induction n with
  | zero => rfl
  | succ n ih => simp only [costTo, sumTo, ih]

/-- What is known of a flow that fits. -/
structure Fits (xs : List Int) (es : List A5) (y : List Int) : Prop where
  len : y.length = es.length
  bd : ∀ i, i < es.length → (es.getD i zA).lo ≤ y.getD i 0 ∧ y.getD i 0 ≤ 1000000 ∧ ((es.getD i zA).cap = -1 ∨ y.getD i 0 ≤ (es.getD i zA).cap)
  bal : ∀ k, k < xs.length → netTo es y (k : Int) es.length = xs.getD k 0
theorem fits_of {xs : List Int} {es : List A5} {y : List Int} (h : flowErr xs es y = 0) : Fits xs es y := by
  unfold flowErr at h
  split at h
  · omega
  · split at h
    · omega
    · split at h
      · omega
      · rename_i h1 h2 h3
        have b : boundedB es y = true := by simpa using h2
        have c : balB xs es y = true := by simpa using h3
        exact ⟨by omega, fun i hi => boundB_out (of_all b i hi), fun k hk => of_decide_eq_true (of_all c k hk)⟩
theorem of_fits {xs : List Int} {es : List A5} {y : List Int} (h : Fits xs es y) : flowErr xs es y = 0 := by
  unfold flowErr
  rw [if_neg (by have := h.len; omega), if_neg, if_neg]
  · rw [show balB xs es y = true from all_t (fun k hk => decide_eq_true (h.bal k hk))]; simp
  · rw [show boundedB es y = true from all_t (fun i hi => decide_eq_true (h.bd i hi))]; simp

theorem NetOK.ends {xs : List Int} {es : List A5} (hn : NetOK xs es) (i : Nat) (hi : i < es.length) : 0 ≤ (es.getD i zA).fr ∧ (es.getD i zA).fr < xs.length ∧ 0 ≤ (es.getD i zA).to ∧ (es.getD i zA).to < xs.length := by
  have := arcB_out (hn.arc i hi); omega

/-- WEAK DUALITY: no flow that fits costs less than one that potentials hold. -/
theorem dual {xs : List Int} {es : List A5} (hn : NetOK xs es) {x y p : List Int} (hx : Fits xs es x) (hy : Fits xs es y) (hh : holdB es x p = true) : costTo es x es.length ≤ costTo es y es.length := by
  have id1 : ∀ z : List Int, Fits xs es z → sumTo (fun i => driftAt es p i * z.getD i 0) es.length = costTo es z es.length + sumTo (fun k => p.getD k 0 * xs.getD k 0) xs.length := by
    intro z hz
    have w1 := weigh es z (fun k => p.getD k 0) xs.length es.length (hn.ends)
    have w2 : sumTo (fun k => p.getD k 0 * netTo es z (k : Int) es.length) xs.length = sumTo (fun k => p.getD k 0 * xs.getD k 0) xs.length := sumTo_congr (fun k hk => by rw [hz.bal k hk])
    rw [w2] at w1
    rw [w1, costTo_sum, ← sumTo_add]
    refine sumTo_congr (fun i _ => ?_)
    unfold driftAt frN toN
    rw [Int.sub_mul, Int.sub_mul, Int.add_mul, Int.mul_comm ((es.getD i zA).cost)]
    omega
  have h1 := id1 x hx
  have h2 := id1 y hy
  have h3 : sumTo (fun i => driftAt es p i * x.getD i 0) es.length ≤ sumTo (fun i => driftAt es p i * y.getD i 0) es.length := by
    refine sumTo_le (fun i hi => ?_)
    have hd := of_decide_eq_true (of_all hh i hi)
    have bx := hx.bd i hi
    have by1 := hy.bd i hi
    obtain ⟨d, hdd⟩ : ∃ d, driftAt es p i = d := ⟨_, rfl⟩
    rw [hdd] at hd ⊢
    by_cases g1 : 0 < d
    · have := hd.1 g1
      exact Int.mul_le_mul_of_nonneg_left (by omega) (by omega)
    · by_cases g2 : d < 0
      · have := hd.2 g2
        exact Int.mul_le_mul_of_nonpos_left (by omega) (by omega)
      · have : d = 0 := by omega
        subst this; simp
  omega

/-! ### a cut -/
theorem ris_lt {l : List Int} {m : Int} (h : risB l m = true) {i j : Nat} (hij : i < j) (hj : j < l.length) : l.getD i 0 < l.getD j 0 := by
  induction j with
  | zero => omega
  | succ j ih =>
    have h1 := of_decide_eq_true (of_all h (j + 1) hj)
    have h2 : l.getD j 0 < l.getD (j + 1) 0 := by
      rcases h1.2.2 with h3 | h3
      · omega
      · simpa using h3
    by_cases hij' : i = j
    · subst hij'; exact h2
    · have := ih (by omega) (by omega); omega
theorem ris_new {l : List Int} {m : Int} (h : risB l m = true) {k : Nat} (hk : k < l.length) : inB (l.take k) (l.getD k 0) = false := by
  refine inB_f (fun i hi => ?_)
  have hik : i < k := by rw [List.length_take] at hi; omega
  rw [show (l.take k).getD i 0 = l.getD i 0 from by simp [List.getD, List.getElem?_take, hik]]
  have := ris_lt h hik hk
  omega

def chi (l : List Int) (k : Nat) : Int := if inB l (k : Int) = true then 1 else 0
theorem need_sum {xs cut : List Int} (h : risB cut xs.length = true) (k : Nat) (hk : k ≤ cut.length) : needTo xs cut k = sumTo (fun j => chi (cut.take k) j * xs.getD j 0) xs.length := by
  induction k with
  | zero =>
    simp only [needTo, List.take_zero]
    rw [sumTo_congr (g := fun _ => 0) (fun j _ => by simp [chi, inB])]
    exact (sumTo_zero _).symm
  | succ k ih =>
    have hr := of_decide_eq_true (of_all h k (by omega))
    obtain ⟨v, hv⟩ : ∃ v : Nat, cut.getD k 0 = (v : Int) := ⟨(cut.getD k 0).toNat, by omega⟩
    have hvl : v < xs.length := by omega
    have hnew := ris_new h (show k < cut.length by omega)
    rw [hv] at hnew
    simp only [needTo, hv, Int.toNat_natCast]
    rw [ih (by omega)]
    have e1 : ∀ j, j < xs.length → chi (cut.take (k + 1)) j * xs.getD j 0 = chi (cut.take k) j * xs.getD j 0 + xs.getD j 0 * (if (v : Int) = (j : Int) then 1 else 0) := by
      intro j _
      unfold chi
      rw [inB_take_succ (by omega), hv]
      by_cases hjv : v = j
      · subst hjv; simp [hnew]
      · have : ((v : Int) == (j : Int)) = false := by simp; omega
        rw [this, Bool.or_false, if_neg (show ¬ ((v : Int) = (j : Int)) by omega)]
        omega
    rw [sumTo_congr e1, sumTo_add, sumTo_one (fun j => xs.getD j 0) v xs.length 1 hvl]
    omega

/-- What goes over the edge of a cut. -/
def overTo (es : List A5) (y cut : List Int) (back : Bool) (n : Nat) : Int := sumTo (fun i => if crossB cut back (es.getD i zA) = true then y.getD i 0 else 0) n

theorem over_bd {xs : List Int} {es : List A5} (hn : NetOK xs es) {y : List Int} (hy : Fits xs es y) (cut : List Int) (back : Bool) (n : Nat) (h : n ≤ es.length) :
    lowsTo es cut back n ≤ overTo es y cut back n ∧ (openTo es cut back n = false → overTo es y cut back n ≤ capsTo es cut back n) := by
  induction n with
  | zero => simp [lowsTo, overTo, capsTo, sumTo]
  | succ n ih =>
    obtain ⟨i1, i2⟩ := ih (by omega)
    have bd := hy.bd n (by omega)
    unfold overTo at *
    simp only [lowsTo, capsTo, openTo, sumTo]
    constructor
    · split
      · omega
      · omega
    · intro ho
      simp only [Bool.or_eq_false_iff, Bool.and_eq_false_iff] at ho
      have i3 := i2 ho.1
      by_cases hc : crossB cut back (es.getD n zA) = true
      · have hcap : ¬ (es.getD n zA).cap = -1 := by
          rcases ho.2 with h1 | h1
          · rw [hc] at h1; cases h1
          · simpa using h1
        rw [if_pos hc, if_pos ⟨hc, hcap⟩]
        omega
      · rw [if_neg hc, if_neg (fun h => hc h.1)]
        omega

theorem cut_flow {xs : List Int} {es : List A5} (hn : NetOK xs es) {y : List Int} (hy : Fits xs es y) {cut : List Int} (hr : risB cut xs.length = true) :
    needTo xs cut cut.length = overTo es y cut false es.length - overTo es y cut true es.length := by
  rw [need_sum hr cut.length (Nat.le_refl _), List.take_of_length_le (Nat.le_refl _)]
  have w1 := weigh es y (chi cut) xs.length es.length (hn.ends)
  rw [sumTo_congr (g := fun k => chi cut k * xs.getD k 0) (fun k hk => by rw [hy.bal k hk])] at w1
  rw [w1]
  unfold overTo
  rw [← sumTo_sub]
  refine sumTo_congr (fun i hi => ?_)
  have e := hn.ends i hi
  have a1 : ((frN es i : Nat) : Int) = (es.getD i zA).fr := by unfold frN; omega
  have a2 : ((toN es i : Nat) : Int) = (es.getD i zA).to := by unfold toN; omega
  unfold chi crossB
  rw [a1, a2]
  cases inB cut (es.getD i zA).fr <;> cases inB cut (es.getD i zA).to <;> simp

/-- Where a cut is violated no flow fits. -/
theorem none_fits {xs : List Int} {es : List A5} (hn : NetOK xs es) {cut : List Int} (hr : risB cut xs.length = true) (hv : violB xs es cut = true) (y : List Int) : flowErr xs es y ≠ 0 := by
  intro h0
  have hy := fits_of h0
  have hc := cut_flow hn hy hr
  have b1 := over_bd hn hy cut false es.length (Nat.le_refl _)
  have b2 := over_bd hn hy cut true es.length (Nat.le_refl _)
  unfold violB at hv
  simp only [Bool.or_eq_true, Bool.and_eq_true, Bool.not_eq_true', decide_eq_true_eq] at hv
  rcases hv with ⟨h1, h2⟩ | ⟨h1, h2⟩
  · have := b1.2 h1; omega
  · have := b2.2 h1; omega

/-! ### one unit more round a circle -/
def bump (l : List Int) (v : Nat) : List Int := l.set v (l.getD v 0 + 1)
theorem bump_len (l : List Int) (v : Nat) : (bump l v).length = l.length := by simp [bump]
theorem bump_at (l : List Int) (v i : Nat) (hv : v < l.length) : (bump l v).getD i 0 = if i = v then l.getD v 0 + 1 else l.getD i 0 := by
  unfold bump
  simp only [List.getD, List.getElem?_set]
  by_cases h : v = i
  · subst h; simp [hv]
  · rw [if_neg h, if_neg (fun e => h e.symm)]
theorem bump_net (es : List A5) (l : List Int) (v : Nat) (hv : v < l.length) (node : Int) (n : Nat) :
    netTo es (bump l v) node n = netTo es l node n + (if v < n then (if (es.getD v zA).fr = node then 1 else 0) - (if (es.getD v zA).to = node then 1 else 0) else 0) := by
  induction n with
  | zero => simp [netTo]
  | succ n ih =>
    simp only [netTo, ih, bump_at l v n hv]
    by_cases h1 : n = v
    · subst h1
      rw [if_neg (show ¬ n < n by omega), if_pos (show n < n + 1 by omega)]
      simp only [if_true]
      split <;> split <;> omega
    · by_cases h2 : v < n
      · rw [if_pos h2, if_pos (show v < n + 1 by omega), if_neg h1]
        split <;> split <;> split <;> split <;> omega
      · rw [if_neg h2, if_neg (show ¬ v < n + 1 by omega), if_neg h1]
        omega
theorem bump_cost (es : List A5) (l : List Int) (v : Nat) (hv : v < l.length) (n : Nat) : costTo es (bump l v) n = costTo es l n + (if v < n then (es.getD v zA).cost else 0) := by
  induction n with
  | zero => simp [costTo]
  | succ n ih =>
    simp only [costTo, ih, bump_at l v n hv]
    by_cases h1 : n = v
    · subst h1
      rw [if_neg (show ¬ n < n by omega), if_pos (show n < n + 1 by omega), if_pos rfl, Int.add_mul]
      omega
    · by_cases h2 : v < n
      · rw [if_pos h2, if_pos (show v < n + 1 by omega), if_neg h1]; omega
      · rw [if_neg h2, if_neg (show ¬ v < n + 1 by omega), if_neg h1]; omega

/-- What a circle's first k arcs do at a node. -/
def ringTo (es : List A5) (l : List Int) (node : Int) : Nat → Int
  | 0 => 0
  | k + 1 => ringTo es l node k + ((if (arcOf es l k).fr = node then 1 else 0) - (if (arcOf es l k).to = node then 1 else 0))
theorem ring_closed {es : List A5} {l : List Int} (h : prevB es l = true) (node : Int) (k : Nat) (hk : k < l.length) :
    ringTo es l node (k + 1) = (if (arcOf es l (l.length - 1)).to = node then 1 else 0) - (if (arcOf es l k).to = node then 1 else 0) := by
  induction k with
  | zero =>
    have := of_all h 0 hk
    simp only [prevAt, prv, if_true, beq_iff_eq] at this
    simp only [ringTo, this]; omega
  | succ k ih =>
    have := of_all h (k + 1) hk
    simp only [prevAt, prv, Nat.add_one_ne_zero, if_false, Nat.add_sub_cancel, beq_iff_eq] at this
    rw [ringTo, ih (by omega), this]; omega
theorem ring_zero {es : List A5} {l : List Int} (h : prevB es l = true) (node : Int) : ringTo es l node l.length = 0 := by
  by_cases h0 : l.length = 0
  · rw [h0]; rfl
  · have := ring_closed h node (l.length - 1) (by omega)
    rw [show l.length - 1 + 1 = l.length from by omega] at this
    omega
end Go.Proofs.YtnbccoflcoaoaaaGreat

namespace Go.Proofs.YtnbccoflcoaoaaaGreat
open Go.RowKit
set_option linter.unusedSimpArgs false
set_option linter.unusedVariables false

/-! ### a net as the ways take it: wider than one that may be handed in -/
structure NetW (xs : List Int) (es : List A5) : Prop where
  one : 1 ≤ xs.length
  ten : xs.length ≤ 16
  arcs : es.length ≤ 64
  sup : ∀ j, j < xs.length → -1441 ≤ xs.getD j 0 ∧ xs.getD j 0 ≤ 1441
  arc : ∀ j, j < es.length → arcB (es.getD j zA) xs.length = true
theorem NetOK.wide {xs : List Int} {es : List A5} (hn : NetOK xs es) : NetW xs es :=
  ⟨hn.one, by have := hn.ten; omega, by have := hn.arcs; omega, fun j hj => by have := getD_bd hn j; omega, hn.arc⟩
theorem NetW.ends {xs : List Int} {es : List A5} (hn : NetW xs es) (i : Nat) (hi : i < es.length) : 0 ≤ (es.getD i zA).fr ∧ (es.getD i zA).fr < xs.length ∧ 0 ≤ (es.getD i zA).to ∧ (es.getD i zA).to < xs.length := by
  have := arcB_out (hn.arc i hi); omega
theorem supW_bd {xs : List Int} {es : List A5} (hn : NetW xs es) (j : Nat) : -1441 ≤ xs.getD j 0 ∧ xs.getD j 0 ≤ 1441 := by
  by_cases hj : j < xs.length
  · exact hn.sup j hj
  · simp [List.getD, List.getElem?_eq_none (by omega : xs.length ≤ j)]
theorem cost_bdW {xs : List Int} {es : List A5} (hn : NetW xs es) (j : Nat) : -50 ≤ (es.getD j zA).cost ∧ (es.getD j zA).cost ≤ 50 := by
  by_cases hj : j < es.length
  · have := arcB_out (hn.arc j hj); omega
  · simp [List.getD, List.getElem?_eq_none (by omega : es.length ≤ j), zA]

/-! ### a function turned at one place -/
def upd {α : Type} (f : Nat → α) (v : Nat) (x : α) : Nat → α := fun i => if i = v then x else f i
theorem upd_same {α : Type} (f : Nat → α) (v : Nat) (x : α) : upd f v x v = x := by simp [upd]
theorem upd_ne {α : Type} (f : Nat → α) {v i : Nat} (x : α) (h : i ≠ v) : upd f v x i = f i := by simp [upd, h]

/-! ### steps and ways through a net in which some goods have been sent -/
structure St where
  arc : Nat
  back : Bool
def zS : St := ⟨0, false⟩
def St.src (es : List A5) (s : St) : Int := if s.back = true then (es.getD s.arc zA).to else (es.getD s.arc zA).fr
def St.dst (es : List A5) (s : St) : Int := if s.back = true then (es.getD s.arc zA).fr else (es.getD s.arc zA).to
def roomOf (es : List A5) (fl : List Int) (s : St) : Int :=
  if s.back = true then fl.getD s.arc 0 - (es.getD s.arc zA).lo else if (es.getD s.arc zA).cap = -1 then 1000000 - fl.getD s.arc 0 else (es.getD s.arc zA).cap - fl.getD s.arc 0

def addAt (l : List Int) (v : Nat) (d : Int) : List Int := l.set v (l.getD v 0 + d)
theorem addAt_len (l : List Int) (v : Nat) (d : Int) : (addAt l v d).length = l.length := by simp [addAt]
theorem addAt_at (l : List Int) (v i : Nat) (d : Int) (hv : v < l.length) : (addAt l v d).getD i 0 = if i = v then l.getD v 0 + d else l.getD i 0 := by
  unfold addAt
  simp only [List.getD, List.getElem?_set]
  by_cases h : v = i
  · subst h; simp [hv]
  · rw [if_neg h, if_neg (fun e => h e.symm)]
theorem addAt_net (es : List A5) (l : List Int) (v : Nat) (d : Int) (hv : v < l.length) (node : Int) (n : Nat) :
    netTo es (addAt l v d) node n = netTo es l node n + (if v < n then (if (es.getD v zA).fr = node then d else 0) - (if (es.getD v zA).to = node then d else 0) else 0) := by
  induction n with
  | zero => simp [netTo]
  | succ n ih =>
    simp only [netTo, ih, addAt_at l v n d hv]
    by_cases h1 : n = v
    · subst h1
      rw [if_neg (show ¬ n < n by omega), if_pos (show n < n + 1 by omega)]
      simp only [if_true]
      split <;> split <;> omega
    · by_cases h2 : v < n
      · rw [if_pos h2, if_pos (show v < n + 1 by omega), if_neg h1]
        split <;> split <;> split <;> split <;> omega
      · rw [if_neg h2, if_neg (show ¬ v < n + 1 by omega), if_neg h1]
        omega

def stD (s : St) (x : Int) : Int := if s.back = true then -x else x
/-- The flow behind the way's first k steps. -/
def takeTo (fl : List Int) (way : List St) (x : Int) : Nat → List Int
  | 0 => fl
  | k + 1 => addAt (takeTo fl way x k) (way.getD k zS).arc (stD (way.getD k zS) x)
theorem take_len (fl : List Int) (way : List St) (x : Int) (k : Nat) : (takeTo fl way x k).length = fl.length := by
  induction k with
  | zero => rfl
  | succ k ih => simp only [takeTo, addAt_len, ih]

/-- Where a way stands that goes back from e: behind k steps. -/
def atK (es : List A5) (way : List St) (e : Int) : Nat → Int
  | 0 => e
  | k + 1 => (way.getD k zS).src es

structure WayOK (es : List A5) (fl : List Int) (way : List St) (e : Int) : Prop where
  inr : ∀ k, k < way.length → (way.getD k zS).arc < es.length
  chain : ∀ k, k < way.length → (way.getD k zS).dst es = atK es way e k
  once : ∀ i j, i < j → j < way.length → (way.getD i zS).arc ≠ (way.getD j zS).arc
  room : ∀ k, k < way.length → 0 < roomOf es fl (way.getD k zS)

theorem take_net {es : List A5} {fl : List Int} {way : List St} {e : Int} (h : WayOK es fl way e) (hl : fl.length = es.length) (x : Int) (node : Int) (k : Nat) (hk : k ≤ way.length) :
    netTo es (takeTo fl way x k) node es.length = netTo es fl node es.length + ((if atK es way e k = node then x else 0) - (if e = node then x else 0)) := by
  induction k with
  | zero => simp only [takeTo, atK]; split <;> omega
  | succ k ih =>
    have hi := h.inr k (by omega)
    have hc := h.chain k (by omega)
    simp only [takeTo]
    rw [addAt_net es _ _ _ (by rw [take_len, hl]; exact hi), if_pos hi, ih (by omega), ← hc]
    simp only [atK]
    unfold St.dst St.src stD
    by_cases hb : (way.getD k zS).back = true
    · simp only [hb, if_true]; split <;> split <;> split <;> omega
    · simp only [hb, if_false, Bool.false_eq_true]; split <;> split <;> split <;> omega

theorem take_off {es : List A5} {fl : List Int} {way : List St} {e : Int} (h : WayOK es fl way e) (hl : fl.length = es.length) (x : Int) (i : Nat) (k : Nat) (hk : k ≤ way.length) (hn : ∀ j, j < k → (way.getD j zS).arc ≠ i) :
    (takeTo fl way x k).getD i 0 = fl.getD i 0 := by
  induction k with
  | zero => rfl
  | succ k ih =>
    have hi := h.inr k (by omega)
    simp only [takeTo]
    rw [addAt_at _ _ _ _ (by rw [take_len, hl]; exact hi), if_neg (fun e => hn k (by omega) e.symm)]
    exact ih (by omega) (fun j hj => hn j (by omega))
theorem take_on {es : List A5} {fl : List Int} {way : List St} {e : Int} (h : WayOK es fl way e) (hl : fl.length = es.length) (x : Int) (j : Nat) (k : Nat) (hk : k ≤ way.length) (hj : j < k) :
    (takeTo fl way x k).getD (way.getD j zS).arc 0 = fl.getD (way.getD j zS).arc 0 + stD (way.getD j zS) x := by
  induction k with
  | zero => omega
  | succ k ih =>
    have hi := h.inr k (by omega)
    simp only [takeTo]
    rw [addAt_at _ _ _ _ (by rw [take_len, hl]; exact hi)]
    by_cases e : j = k
    · subst e
      rw [if_pos rfl, take_off h hl x _ j (by omega) (fun i hi => h.once i j hi (by omega))]
    · rw [if_neg (h.once j k (by omega) (by omega))]
      exact ih (by omega) (by omega)

/-! ### what is known of a load -/
def posTo (l : List Int) : Nat → Int := sumTo fun v => if 0 < l.getD v 0 then l.getD v 0 else 0
structure LInv (xs : List Int) (es : List A5) (fl lf : List Int) (toGo : Int) : Prop where
  len : fl.length = es.length
  llen : lf.length = xs.length
  bd : ∀ i, i < es.length → (es.getD i zA).lo ≤ fl.getD i 0 ∧ ((es.getD i zA).cap = -1 ∨ fl.getD i 0 ≤ (es.getD i zA).cap) ∧ fl.getD i 0 + toGo ≤ 100000
  left : ∀ v, v < xs.length → lf.getD v 0 = xs.getD v 0 - netTo es fl (v : Int) es.length
  go : toGo = posTo lf xs.length

theorem sumTo_nonneg {f : Nat → Int} {n : Nat} (h : ∀ i, i < n → 0 ≤ f i) : 0 ≤ sumTo f n := by
  have := sumTo_le (f := fun _ => 0) (g := f) (n := n) h
  rwa [sumTo_zero] at this
theorem sumTo_ge {f : Nat → Int} {n : Nat} (h : ∀ i, i < n → 0 ≤ f i) {j : Nat} (hj : j < n) : f j ≤ sumTo f n := by
  induction n with
  | zero => omega
  | succ n ih =>
    simp only [sumTo]
    have h1 := sumTo_nonneg (f := f) (n := n) (fun i hi => h i (by omega))
    have h2 := h n (by omega)
    by_cases e : j = n
    · subst e; omega
    · have := ih (fun i hi => h i (by omega)) (by omega); omega
theorem pos_nonneg (l : List Int) (n : Nat) : 0 ≤ posTo l n := sumTo_nonneg (fun i _ => by split <;> omega)
theorem pos_ge (l : List Int) {n v : Nat} (hv : v < n) : l.getD v 0 ≤ posTo l n := by
  have := sumTo_ge (f := fun v => if 0 < l.getD v 0 then l.getD v 0 else 0) (n := n) (fun i _ => by split <;> omega) hv
  unfold posTo
  split at this <;> omega
theorem pos_le (l : List Int) (n : Nat) (B : Int) (hB : 0 ≤ B) (h : ∀ v, v < n → l.getD v 0 ≤ B) : posTo l n ≤ B * n := by
  induction n with
  | zero => simp [posTo, sumTo]
  | succ n ih =>
    have h1 := ih (fun v hv => h v (by omega))
    have h2 := h n (by omega)
    unfold posTo at *
    simp only [sumTo]
    rw [Int.natCast_succ, Int.mul_add, Int.mul_one]
    split <;> omega
theorem pos_some (l : List Int) (n : Nat) (h : 0 < posTo l n) : ∃ v, v < n ∧ 0 < l.getD v 0 := by
  induction n with
  | zero => simp [posTo, sumTo] at h
  | succ n ih =>
    by_cases h1 : 0 < l.getD n 0
    · exact ⟨n, by omega, h1⟩
    · unfold posTo at h ih
      simp only [sumTo] at h
      rw [if_neg h1] at h
      obtain ⟨v, hv, h2⟩ := ih (by omega)
      exact ⟨v, by omega, h2⟩

theorem sumTo_set {f g : Nat → Int} {n j : Nat} (hj : j < n) (h : ∀ i, i < n → i ≠ j → g i = f i) : sumTo g n = sumTo f n + (g j - f j) := by
  induction n with
  | zero => omega
  | succ n ih =>
    simp only [sumTo]
    by_cases e : j = n
    · subst e
      rw [sumTo_congr (f := g) (g := f) (fun i hi => h i (by omega) (by omega))]; omega
    · rw [ih (by omega) (fun i hi => h i (by omega)), h n (by omega) (by omega)]; omega

theorem net_all {xs : List Int} {es : List A5} (hn : NetW xs es) (y : List Int) : sumTo (fun v => netTo es y (v : Int) es.length) xs.length = 0 := by
  have w1 := weigh es y (fun _ => 1) xs.length es.length hn.ends
  rw [sumTo_congr (g := fun k => netTo es y (k : Int) es.length) (fun k _ => by omega)] at w1
  rw [w1, sumTo_congr (g := fun _ => 0) (fun i _ => by simp)]
  exact sumTo_zero _

theorem LInv.mild {xs : List Int} {es : List A5} (hn : NetW xs es) {fl lf : List Int} {t : Int} (h : LInv xs es fl lf t) : Mild fl es.length := by
  intro i hi
  have h1 := h.bd i hi
  have h2 := arcB_out (hn.arc i hi)
  have h3 : 0 ≤ t := by rw [h.go]; exact pos_nonneg _ _
  omega
theorem LInv.left_bd {xs : List Int} {es : List A5} (hn : NetW xs es) {fl lf : List Int} {t : Int} (h : LInv xs es fl lf t) (v : Nat) (hv : v < xs.length) : -64001441 ≤ lf.getD v 0 ∧ lf.getD v 0 ≤ 64001441 := by
  have h1 := netTo_bd es fl (v : Int) es.length (h.mild hn) es.length (Nat.le_refl _)
  have h2 := supW_bd hn v
  have h3 := hn.arcs
  rw [h.left v hv]
  omega

/-- Nothing is left to go: the flow fits. -/
theorem LInv.done {xs : List Int} {es : List A5} (hn : NetW xs es) {fl lf : List Int} {t : Int} (h : LInv xs es fl lf t) (hs : sumTo (fun v => xs.getD v 0) xs.length = 0) (ht : t ≤ 0) : Fits xs es fl := by
  have hm := h.mild hn
  have hle : ∀ v, v < xs.length → lf.getD v 0 ≤ 0 := fun v hv => by have := pos_ge lf hv; have := h.go; omega
  have hsum : sumTo (fun v => lf.getD v 0) xs.length = 0 := by
    rw [sumTo_congr (g := fun v => xs.getD v 0 - netTo es fl (v : Int) es.length) (fun v hv => h.left v hv), sumTo_sub, hs, net_all hn]; omega
  have hz : ∀ v, v < xs.length → lf.getD v 0 = 0 := by
    intro v hv
    have h1 := sumTo_ge (f := fun v => -lf.getD v 0) (n := xs.length) (fun i hi => by have := hle i hi; omega) hv
    have h2 : sumTo (fun v => -lf.getD v 0) xs.length = 0 := by
      rw [sumTo_congr (g := fun v => 0 - lf.getD v 0) (fun v _ => by omega), sumTo_sub, sumTo_zero, hsum]; omega
    have := hle v hv
    omega
  refine ⟨h.len, fun i hi => ?_, fun v hv => ?_⟩
  · have := h.bd i hi
    have := hm i hi
    exact ⟨by omega, by omega, by omega⟩
  · have := h.left v hv
    have := hz v hv
    omega

/-- x units more on a way. -/
theorem LInv.send {xs : List Int} {es : List A5} (hn : NetW xs es) {fl lf : List Int} {t : Int} (h : LInv xs es fl lf t) {way : List St} {s e : Nat} (hw : WayOK es fl way (e : Int)) (hs : atK es way (e : Int) way.length = (s : Int)) (hsl : s < xs.length) (hel : e < xs.length)
    {x : Int} (hx : 0 < x) (h1 : x ≤ lf.getD s 0) (h2 : x ≤ -lf.getD e 0) (hr : ∀ k, k < way.length → x ≤ roomOf es fl (way.getD k zS)) :
    LInv xs es (takeTo fl way x way.length) (addAt (addAt lf s (-x)) e x) (t - x) := by
  have hse : s ≠ e := by intro he; subst he; omega
  have hl0 := h.llen
  refine ⟨by rw [take_len]; exact h.len, by simp only [addAt_len]; exact h.llen, fun i hi => ?_, fun v hv => ?_, ?_⟩
  · have hb := h.bd i hi
    by_cases hon : ∃ j, j < way.length ∧ (way.getD j zS).arc = i
    · obtain ⟨j, hj, rfl⟩ := hon
      rw [take_on hw h.len x j _ (Nat.le_refl _) hj]
      have hroom := hr j hj
      unfold roomOf at hroom
      unfold stD
      by_cases hbk : (way.getD j zS).back = true
      · rw [if_pos hbk] at hroom ⊢
        exact ⟨by omega, by omega, by omega⟩
      · rw [if_neg hbk] at hroom ⊢
        by_cases hcap : (es.getD (way.getD j zS).arc zA).cap = -1
        · exact ⟨by omega, .inl hcap, by omega⟩
        · rw [if_neg hcap] at hroom
          exact ⟨by omega, .inr (by omega), by omega⟩
    · rw [take_off hw h.len x i _ (Nat.le_refl _) (fun j hj he => hon ⟨j, hj, he⟩)]
      exact ⟨hb.1, hb.2.1, by omega⟩
  · rw [take_net hw h.len x _ _ (Nat.le_refl _), hs, addAt_at _ _ _ _ (by rw [addAt_len]; omega), addAt_at _ _ _ _ (by omega), addAt_at _ _ _ _ (by omega)]
    have e1 := h.left v hv
    by_cases v1 : v = e
    · subst v1
      rw [if_pos rfl, if_neg (fun he => hse he.symm), if_neg (show ¬ ((s : Int) = (v : Int)) by omega), if_pos rfl]; omega
    · rw [if_neg v1, if_neg (show ¬ ((e : Int) = (v : Int)) by omega)]
      by_cases v2 : v = s
      · subst v2; rw [if_pos rfl, if_pos rfl]; omega
      · rw [if_neg v2, if_neg (show ¬ ((s : Int) = (v : Int)) by omega)]; omega
  · have g := h.go
    unfold posTo at g ⊢
    rw [sumTo_set (f := fun v => if 0 < lf.getD v 0 then lf.getD v 0 else 0) hsl]
    · rw [addAt_at _ _ _ _ (by rw [addAt_len]; omega), if_neg hse, addAt_at _ _ _ _ (by omega), if_pos rfl, if_pos (show 0 < lf.getD s 0 by omega)]
      split <;> omega
    · intro i hi hne
      rw [addAt_at _ _ _ _ (by rw [addAt_len]; omega), addAt_at _ _ _ _ (by omega), addAt_at _ _ _ _ (by omega)]
      by_cases he : i = e
      · subst he; rw [if_pos rfl, if_neg hne, if_neg (show ¬ 0 < lf.getD i 0 + x by omega), if_neg (show ¬ 0 < lf.getD i 0 by omega)]
      · rw [if_neg he, if_neg hne]

/-! ### the nodes that are seen, as a cut -/
def seenTo (seen : Nat → Bool) : Nat → List Int
  | 0 => []
  | k + 1 => if seen k = true then seenTo seen k ++ [(k : Int)] else seenTo seen k
theorem getD_snoc (l : List Int) (x : Int) (i : Nat) : (l ++ [x]).getD i 0 = if i < l.length then l.getD i 0 else if i = l.length then x else 0 := by
  simp only [List.getD]
  by_cases h : i < l.length
  · rw [if_pos h, List.getElem?_append_left h]
  · rw [if_neg h, List.getElem?_append_right (by omega)]
    by_cases h2 : i = l.length
    · subst h2; simp
    · rw [if_neg h2, List.getElem?_eq_none (by simp; omega)]; rfl
theorem seen_ris (seen : Nat → Bool) (n : Nat) : risB (seenTo seen n) n = true ∧ ∀ m : Int, (n : Int) ≤ m → risB (seenTo seen n) m = true := by
  induction n with
  | zero => exact ⟨rfl, fun _ _ => rfl⟩
  | succ n ih =>
    have key : ∀ m : Int, ((n + 1 : Nat) : Int) ≤ m → risB (seenTo seen (n + 1)) m = true := by
      intro m hm
      simp only [seenTo]
      split
      · refine all_t (fun i hi => ?_)
        rw [List.length_append] at hi
        simp only [List.length_cons, List.length_nil] at hi
        unfold risAt
        simp only [getD_snoc]
        by_cases hin : i < (seenTo seen n).length
        · have h1 := of_decide_eq_true (of_all (ih.2 m (by omega)) i hin)
          rw [if_pos hin, if_pos (by omega)]
          exact decide_eq_true h1
        · have hie : i = (seenTo seen n).length := by omega
          subst hie
          rw [if_neg (by omega), if_pos rfl]
          refine decide_eq_true ⟨by omega, by omega, ?_⟩
          by_cases h0 : (seenTo seen n).length = 0
          · exact .inl h0
          · right
            rw [if_pos (by omega)]
            exact (of_decide_eq_true (of_all ih.1 ((seenTo seen n).length - 1) (by omega))).2.1
      · exact ih.2 m (by omega)
    exact ⟨key _ (by omega), key⟩
theorem seen_in (seen : Nat → Bool) (n v : Nat) : inB (seenTo seen n) (v : Int) = (decide (v < n) && seen v) := by
  induction n with
  | zero => simp [seenTo, inB]
  | succ n ih =>
    simp only [seenTo]
    by_cases hs : seen n = true
    · rw [if_pos hs]
      unfold inB at ih ⊢
      rw [List.any_append, ih]
      by_cases e : v = n
      · subst e; simp [hs]
      · have h1 : ((n : Int) == (v : Int)) = false := by simp; omega
        simp only [List.any_cons, List.any_nil, h1, Bool.or_false]
        rw [show decide (v < n + 1) = decide (v < n) from decide_eq_decide.2 (by omega)]
    · rw [if_neg hs, ih]
      by_cases e : v = n
      · subst e; simp [hs]
      · rw [show decide (v < n + 1) = decide (v < n) from decide_eq_decide.2 (by omega)]
theorem seen_len (seen : Nat → Bool) (n : Nat) : (seenTo seen n).length ≤ n := by
  induction n with
  | zero => simp [seenTo]
  | succ n ih =>
    simp only [seenTo]
    split
    · rw [List.length_append]; simp only [List.length_cons, List.length_nil]; omega
    · omega
theorem seen_pos (seen : Nat → Bool) {n v : Nat} (hv : v < n) (h : seen v = true) : 0 < (seenTo seen n).length := by
  have h1 := seen_in seen n v
  rw [h, decide_eq_true hv] at h1
  obtain ⟨i, hi, _⟩ := inB_iff.1 h1
  omega

/-- As 'cut_flow', of a flow that needn't be balanced. -/
theorem cut_over {xs : List Int} {es : List A5} (hn : NetW xs es) (y : List Int) (cut : List Int) :
    sumTo (fun k => chi cut k * netTo es y (k : Int) es.length) xs.length = overTo es y cut false es.length - overTo es y cut true es.length := by
  rw [weigh es y (chi cut) xs.length es.length (hn.ends)]
  unfold overTo
  rw [← sumTo_sub]
  refine sumTo_congr (fun i hi => ?_)
  have e := hn.ends i hi
  have a1 : ((frN es i : Nat) : Int) = (es.getD i zA).fr := by unfold frN; omega
  have a2 : ((toN es i : Nat) : Int) = (es.getD i zA).to := by unfold toN; omega
  unfold chi crossB
  rw [a1, a2]
  cases inB cut (es.getD i zA).fr <;> cases inB cut (es.getD i zA).to <;> simp

theorem over_caps {es : List A5} {y cut : List Int} {back : Bool} (n : Nat) (h : ∀ i, i < n → crossB cut back (es.getD i zA) = true → (es.getD i zA).cap ≠ -1 ∧ y.getD i 0 = (es.getD i zA).cap) :
    openTo es cut back n = false ∧ overTo es y cut back n = capsTo es cut back n := by
  unfold overTo
  induction n with
  | zero => simp [openTo, capsTo, sumTo]
  | succ n ih =>
    obtain ⟨i1, i2⟩ := ih (fun i hi => h i (by omega))
    simp only [openTo, capsTo, sumTo]
    have h1 := h n (by omega)
    by_cases hc : crossB cut back (es.getD n zA) = true
    · obtain ⟨h2, h3⟩ := h1 hc
      have h4 : ((es.getD n zA).cap == -1) = false := by simpa using h2
      rw [if_pos hc, if_pos ⟨hc, h2⟩, i1, i2, hc, h4, h3]
      exact ⟨rfl, rfl⟩
    · have hcf : crossB cut back (es.getD n zA) = false := by simpa using hc
      rw [if_neg hc, if_neg (fun h => hc h.1), i1, i2, hcf]
      exact ⟨rfl, rfl⟩
theorem over_lows {es : List A5} {y cut : List Int} {back : Bool} (n : Nat) (h : ∀ i, i < n → crossB cut back (es.getD i zA) = true → y.getD i 0 = (es.getD i zA).lo) :
    overTo es y cut back n = lowsTo es cut back n := by
  unfold overTo
  induction n with
  | zero => rfl
  | succ n ih =>
    simp only [lowsTo, sumTo]
    rw [ih (fun i hi => h i (by omega))]
    by_cases hc : crossB cut back (es.getD n zA) = true
    · rw [if_pos hc, if_pos hc, h n (by omega) hc]
    · rw [if_neg hc, if_neg hc]

/-- Those who are reached, where nobody among them lacks: a violated cut. -/
theorem LInv.cut {xs : List Int} {es : List A5} (hn : NetW xs es) {fl lf : List Int} {t : Int} (h : LInv xs es fl lf t) (ht : 0 < t) (seen : Nat → Bool)
    (hst : ∀ v, v < xs.length → 0 < lf.getD v 0 → seen v = true) (hnn : ∀ v, v < xs.length → seen v = true → 0 ≤ lf.getD v 0)
    (hcl : ∀ s : St, s.arc < es.length → seen (s.src es).toNat = true → seen (s.dst es).toNat = false → roomOf es fl s = 0) :
    0 < (seenTo seen xs.length).length ∧ risB (seenTo seen xs.length) xs.length = true ∧ violB xs es (seenTo seen xs.length) = true := by
  have hr := (seen_ris seen xs.length).1
  have hin : ∀ v : Int, 0 ≤ v → v < xs.length → inB (seenTo seen xs.length) v = seen v.toNat := by
    intro v h0 h1
    have := seen_in seen xs.length v.toNat
    rw [show ((v.toNat : Nat) : Int) = v from by omega] at this
    rw [this, decide_eq_true (by omega)]; rfl
  refine ⟨?_, hr, ?_⟩
  · obtain ⟨v, hv, hp⟩ := pos_some lf xs.length (by rw [← h.go]; exact ht)
    exact seen_pos seen hv (hst v hv hp)
  · have hout := over_caps (es := es) (y := fl) (cut := seenTo seen xs.length) (back := false) es.length (fun i hi hc => by
      have e := hn.ends i hi
      unfold crossB at hc
      simp only [Bool.false_eq_true, if_false, Bool.and_eq_true, Bool.not_eq_true'] at hc
      rw [hin _ e.1 e.2.1, hin _ e.2.2.1 e.2.2.2] at hc
      have hz := hcl ⟨i, false⟩ hi (by simpa [St.src] using hc.1) (by simpa [St.dst] using hc.2)
      unfold roomOf at hz
      simp only [Bool.false_eq_true, if_false] at hz
      have hb := h.bd i hi
      split at hz
      · omega
      · rename_i hcap
        exact ⟨hcap, by omega⟩)
    have hlow := over_lows (es := es) (y := fl) (cut := seenTo seen xs.length) (back := true) es.length (fun i hi hc => by
      have e := hn.ends i hi
      unfold crossB at hc
      simp only [if_true, Bool.and_eq_true, Bool.not_eq_true'] at hc
      rw [hin _ e.1 e.2.1, hin _ e.2.2.1 e.2.2.2] at hc
      have hz := hcl ⟨i, true⟩ hi (by simpa [St.src] using hc.2) (by simpa [St.dst] using hc.1)
      unfold roomOf at hz
      simp only [if_true] at hz
      omega)
    have hco := cut_over hn fl (seenTo seen xs.length)
    have hneed := need_sum hr (seenTo seen xs.length).length (Nat.le_refl _)
    rw [List.take_of_length_le (Nat.le_refl _)] at hneed
    have hsum : sumTo (fun j => chi (seenTo seen xs.length) j * xs.getD j 0) xs.length = posTo lf xs.length + sumTo (fun k => chi (seenTo seen xs.length) k * netTo es fl (k : Int) es.length) xs.length := by
      unfold posTo
      rw [← sumTo_add]
      refine sumTo_congr (fun v hv => ?_)
      have e1 := h.left v hv
      unfold chi
      rw [hin (v : Int) (by omega) (by omega), Int.toNat_natCast]
      by_cases hs : seen v = true
      · rw [if_pos hs]
        have := hnn v hv hs
        split <;> omega
      · rw [if_neg hs, if_neg (fun hp => hs (hst v hv hp))]
        omega
    unfold violB
    rw [hout.1]
    have hg := h.go
    rw [show decide (capsTo es (seenTo seen xs.length) false es.length - lowsTo es (seenTo seen xs.length) true es.length < needTo xs (seenTo seen xs.length) (seenTo seen xs.length).length) = true from decide_eq_true (by rw [hneed, hsum, hco, ← hout.2, ← hlow, ← hg]; omega)]
    rfl

/-- All nodes together, where the supplies don't add up to 0. -/
theorem all_viol {xs : List Int} {es : List A5} (hn : NetW xs es) (hs : sumTo (fun v => xs.getD v 0) xs.length ≠ 0) :
    0 < (seenTo (fun _ => true) xs.length).length ∧ risB (seenTo (fun _ => true) xs.length) xs.length = true ∧ violB xs es (seenTo (fun _ => true) xs.length) = true := by
  have hr := (seen_ris (fun _ => true) xs.length).1
  have hin : ∀ v : Int, 0 ≤ v → v < xs.length → inB (seenTo (fun _ => true) xs.length) v = true := by
    intro v h0 h1
    have := seen_in (fun _ => true) xs.length v.toNat
    rw [show ((v.toNat : Nat) : Int) = v from by omega] at this
    rw [this, decide_eq_true (by omega)]; rfl
  have hcr : ∀ back i, i < es.length → crossB (seenTo (fun _ => true) xs.length) back (es.getD i zA) = false := by
    intro back i hi
    have e := hn.ends i hi
    unfold crossB
    rw [hin _ e.1 e.2.1, hin _ e.2.2.1 e.2.2.2]
    cases back <;> rfl
  refine ⟨seen_pos _ (v := 0) (by have := hn.one; omega) rfl, hr, ?_⟩
  have o1 := over_caps (es := es) (y := []) (cut := seenTo (fun _ => true) xs.length) (back := false) es.length (fun i hi hc => by rw [hcr false i hi] at hc; cases hc)
  have o2 := over_caps (es := es) (y := []) (cut := seenTo (fun _ => true) xs.length) (back := true) es.length (fun i hi hc => by rw [hcr true i hi] at hc; cases hc)
  have l1 := over_lows (es := es) (y := []) (cut := seenTo (fun _ => true) xs.length) (back := false) es.length (fun i hi hc => by rw [hcr false i hi] at hc; cases hc)
  have l2 := over_lows (es := es) (y := []) (cut := seenTo (fun _ => true) xs.length) (back := true) es.length (fun i hi hc => by rw [hcr true i hi] at hc; cases hc)
  have z : ∀ back, overTo es [] (seenTo (fun _ => true) xs.length) back es.length = 0 := by
    intro back
    unfold overTo
    rw [sumTo_congr (g := fun _ => 0) (fun i hi => by rw [hcr back i hi]; simp)]
    exact sumTo_zero _
  have hneed := need_sum hr (seenTo (fun _ => true) xs.length).length (Nat.le_refl _)
  rw [List.take_of_length_le (Nat.le_refl _), sumTo_congr (g := fun v => xs.getD v 0) (fun v hv => by unfold chi; rw [hin (v : Int) (by omega) (by omega)]; simp)] at hneed
  unfold violB
  rw [o1.1, o2.1, hneed, ← o1.2, ← o2.2, ← l1, ← l2, z, z]
  simp only [Bool.not_false, Bool.true_and, Bool.or_eq_true, decide_eq_true_eq]
  omega
end Go.Proofs.YtnbccoflcoaoaaaGreat
