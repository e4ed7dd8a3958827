import Derived.Test.YtnbccoflcoaoaaaGreatGSnd
namespace Go.Proofs.YtnbccoflcoaoaaaGreat
open Go.RowKit
set_option linter.unusedSimpArgs false
set_option linter.unusedVariables false

/-- A flow that fits, but for the greatest amount on an arc. -/
structure FitsW (xs : List Int) (es : List A5) (y : List Int) : Prop where
  bd : ∀ i, i < es.length → (es.getD i zA).lo ≤ y.getD i 0 ∧ ((es.getD i zA).cap = -1 ∨ y.getD i 0 ≤ (es.getD i zA).cap)
  bal : ∀ k, k < xs.length → netTo es y (k : Int) es.length = xs.getD k 0
theorem Fits.w {xs : List Int} {es : List A5} {y : List Int} (h : Fits xs es y) : FitsW xs es y := ⟨fun i hi => ⟨(h.bd i hi).1, (h.bd i hi).2.2⟩, h.bal⟩

/-- Weak duality, without the greatest amount. -/
theorem dualW {xs : List Int} {es : List A5} (hn : NetOK xs es) {x y p : List Int} (hx : FitsW xs es x) (hy : FitsW xs es y) (hh : holdB es x p = true) : costTo es x es.length ≤ costTo es y es.length := by
  have id1 : ∀ z : List Int, FitsW xs es z → sumTo (fun i => driftAt es p i * z.getD i 0) es.length = costTo es z es.length + sumTo (fun k => p.getD k 0 * xs.getD k 0) xs.length := by
    intro z hz
    have w1 := weigh es z (fun k => p.getD k 0) xs.length es.length (hn.ends)
    have w2 : sumTo (fun k => p.getD k 0 * netTo es z (k : Int) es.length) xs.length = sumTo (fun k => p.getD k 0 * xs.getD k 0) xs.length := sumTo_congr (fun k hk => by rw [hz.bal k hk])
    rw [w2] at w1
    rw [w1, costTo_sum, ← sumTo_add]
    refine sumTo_congr (fun i _ => ?_)
    unfold driftAt frN toN
    rw [Int.sub_mul, Int.sub_mul, Int.add_mul, Int.mul_comm ((es.getD i zA).cost)]
    omega
  have h1 := id1 x hx
  have h2 := id1 y hy
  have h3 : sumTo (fun i => driftAt es p i * x.getD i 0) es.length ≤ sumTo (fun i => driftAt es p i * y.getD i 0) es.length := by
    refine sumTo_le (fun i hi => ?_)
    have hd := of_decide_eq_true (of_all hh i hi)
    have bx := hx.bd i hi
    have by1 := hy.bd i hi
    obtain ⟨d, hdd⟩ : ∃ d, driftAt es p i = d := ⟨_, rfl⟩
    rw [hdd] at hd ⊢
    by_cases g1 : 0 < d
    · have := hd.1 g1
      exact Int.mul_le_mul_of_nonneg_left (by omega) (by omega)
    · by_cases g2 : d < 0
      · have := hd.2 g2
        exact Int.mul_le_mul_of_nonpos_left (by omega) (by omega)
      · have : d = 0 := by omega
        subst this; simp
  omega

theorem over_bdW {xs : List Int} {es : List A5} {y : List Int} (hy : FitsW xs es y) (cut : List Int) (back : Bool) (n : Nat) (h : n ≤ es.length) :
    lowsTo es cut back n ≤ overTo es y cut back n ∧ (openTo es cut back n = false → overTo es y cut back n ≤ capsTo es cut back n) := by
  induction n with
  | zero => simp [lowsTo, overTo, capsTo, sumTo]
  | succ n ih =>
    obtain ⟨i1, i2⟩ := ih (by omega)
    have bd := hy.bd n (by omega)
    unfold overTo at *
    simp only [lowsTo, capsTo, openTo, sumTo]
    constructor
    · split
      · omega
      · omega
    · intro ho
      simp only [Bool.or_eq_false_iff, Bool.and_eq_false_iff] at ho
      have i3 := i2 ho.1
      by_cases hc : crossB cut back (es.getD n zA) = true
      · have hcap : ¬ (es.getD n zA).cap = -1 := by
          rcases ho.2 with h1 | h1
          · rw [hc] at h1; cases h1
          · simpa using h1
        rw [if_pos hc, if_pos ⟨hc, hcap⟩]
        omega
      · rw [if_neg hc, if_neg (fun h => hc h.1)]
        omega

theorem cut_flowW {xs : List Int} {es : List A5} (hn : NetOK xs es) {y : List Int} (hy : FitsW xs es y) {cut : List Int} (hr : risB cut xs.length = true) :
    needTo xs cut cut.length = overTo es y cut false es.length - overTo es y cut true es.length := by
  rw [need_sum hr cut.length (Nat.le_refl _), List.take_of_length_le (Nat.le_refl _)]
  have w1 := weigh es y (chi cut) xs.length es.length (hn.ends)
  rw [sumTo_congr (g := fun k => chi cut k * xs.getD k 0) (fun k hk => by rw [hy.bal k hk])] at w1
  rw [w1]
  unfold overTo
  rw [← sumTo_sub]
  refine sumTo_congr (fun i hi => ?_)
  have e := hn.ends i hi
  have a1 : ((frN es i : Nat) : Int) = (es.getD i zA).fr := by unfold frN; omega
  have a2 : ((toN es i : Nat) : Int) = (es.getD i zA).to := by unfold toN; omega
  unfold chi crossB
  rw [a1, a2]
  cases inB cut (es.getD i zA).fr <;> cases inB cut (es.getD i zA).to <;> simp

/-- There is a cut that is violated. -/
def Inf (xs : List Int) (es : List A5) : Prop := ∃ cut, risB cut xs.length = true ∧ violB xs es cut = true
def Feas (xs : List Int) (es : List A5) : Prop := ∃ y, FitsW xs es y
theorem inf_feas {xs : List Int} {es : List A5} (hn : NetOK xs es) (hi : Inf xs es) (hf : Feas xs es) : False := by
  obtain ⟨cut, hr, hv⟩ := hi
  obtain ⟨y, hy⟩ := hf
  have hc := cut_flowW hn hy hr
  have b1 := over_bdW hy cut false es.length (Nat.le_refl _)
  have b2 := over_bdW hy cut true es.length (Nat.le_refl _)
  unfold violB at hv
  simp only [Bool.or_eq_true, Bool.and_eq_true, Bool.not_eq_true', decide_eq_true_eq] at hv
  rcases hv with ⟨h1, h2⟩ | ⟨h1, h2⟩
  · have := b1.2 h1; omega
  · have := b2.2 h1; omega

/-! ### potentials under which no unlimited arc pays -/
def NoNeg (es : List A5) (p : List Int) : Prop := ∀ i, i < es.length → (es.getD i zA).cap = -1 → 0 ≤ driftAt es p i
theorem noneg_of_hold {es : List A5} {x p : List Int} (h : holdB es x p = true) : NoNeg es p := by
  intro i hi hc
  have hd := of_decide_eq_true (of_all h i hi)
  rcases Int.lt_or_le (driftAt es p i) 0 with g | g
  · exact absurd hc (hd.2 g).1
  · exact g

/-- What a weight of the nodes adds up to along a circle's first k arcs. -/
def ringW (es : List A5) (l : List Int) (φ : Int → Int) : Nat → Int
  | 0 => 0
  | k + 1 => ringW es l φ k + (φ (arcOf es l k).fr - φ (arcOf es l k).to)
theorem ringW_closed {es : List A5} {l : List Int} (h : prevB es l = true) (φ : Int → Int) (k : Nat) (hk : k < l.length) :
    ringW es l φ (k + 1) = φ (arcOf es l (l.length - 1)).to - φ (arcOf es l k).to := by
  induction k with
  | zero =>
    have := of_all h 0 hk
    simp only [prevAt, prv, if_true, beq_iff_eq] at this
    simp only [ringW, this]; omega
  | succ k ih =>
    have := of_all h (k + 1) hk
    simp only [prevAt, prv, Nat.add_one_ne_zero, if_false, Nat.add_sub_cancel, beq_iff_eq] at this
    rw [ringW, ih (by omega), this]; omega
theorem ringW_zero {es : List A5} {l : List Int} (h : prevB es l = true) (φ : Int → Int) : ringW es l φ l.length = 0 := by
  by_cases h0 : l.length = 0
  · rw [h0]; rfl
  · have := ringW_closed h φ (l.length - 1) (by omega)
    rw [show l.length - 1 + 1 = l.length from by omega] at this
    omega

theorem good_noneg {es : List A5} {ci p : List Int} (hg : goodB es ci = true) (hp : NoNeg es p) : False := by
  unfold goodB at hg
  rw [next_prev] at hg
  simp only [Bool.and_eq_true, decide_eq_true_eq] at hg
  obtain ⟨⟨⟨⟨ho, hu⟩, hpr⟩, h0⟩, hc⟩ := hg
  have key : ∀ k, k ≤ ci.length → 0 ≤ circTo es ci k + ringW es ci (fun z => p.getD z.toNat 0) k := by
    intro k
    induction k with
    | zero => intro _; simp [circTo, ringW]
    | succ k ih =>
      intro hk
      have i1 := ih (by omega)
      have hv := once_out ho (i := k) (by omega)
      have hcap : (es.getD (ci.getD k 0).toNat zA).cap = -1 := by have := of_all hu k (by omega); simpa [unlAt, arcOf] using this
      have hd := hp (ci.getD k 0).toNat (by omega) hcap
      simp only [circTo, ringW, arcOf]
      unfold driftAt at hd
      omega
  have h1 := key ci.length (Nat.le_refl _)
  rw [ringW_zero hpr] at h1
  omega

/-! ### what an accepted answer tells -/
theorem ok_one {xs : List Int} {es : List A5} {a : A6} (h : okB xs es a = true) (hk : a.kind = 1) : FitsW xs es a.flow ∧ holdB es a.flow a.pots = true ∧ costTo es a.flow es.length = a.cost := by
  unfold okB at h
  rw [if_pos hk] at h
  unfold bestB holdsB at h
  simp only [Bool.and_eq_true, decide_eq_true_eq] at h
  exact ⟨(fits_of h.1.1.1.1).w, h.2.2, h.1.1.1.2⟩
theorem ok_two {xs : List Int} {es : List A5} {a : A6} (h : okB xs es a = true) (hk : a.kind = 2) : Inf xs es := by
  unfold okB at h
  rw [if_neg (by omega), if_pos hk] at h
  unfold noneB at h
  simp only [Bool.and_eq_true, decide_eq_true_eq] at h
  exact ⟨a.cut, h.1.1.1.1.1, h.2⟩
theorem ok_three {xs : List Int} {es : List A5} {a : A6} (h : okB xs es a = true) (hk : a.kind = 3) : FitsW xs es a.flow ∧ goodB es a.circ = true := by
  unfold okB at h
  rw [if_neg (by omega), if_neg (by omega), if_pos hk] at h
  unfold endB at h
  simp only [Bool.and_eq_true, decide_eq_true_eq] at h
  exact ⟨(fits_of h.1.1.1.1).w, h.2⟩
theorem ok_kind {xs : List Int} {es : List A5} {a : A6} (h : okB xs es a = true) : a.kind = 1 ∨ a.kind = 2 ∨ a.kind = 3 := by
  unfold okB at h
  split at h
  · exact .inl ‹_›
  · split at h
    · exact .inr (.inl ‹_›)
    · split at h
      · exact .inr (.inr ‹_›)
      · cases h

/-- TWO NETS THAT ARE AS GOOD AS EACH OTHER: accepted answers are of one kind, and the least costs go together. -/
theorem alike_core {xs xs' : List Int} {es es' : List A5} (hn : NetOK xs es) (hn' : NetOK xs' es') {a b : A6} (ha : okB xs es a = true) (hb : okB xs' es' b = true) (times plus : Int)
    (hN1 : Inf xs es → ¬ Feas xs' es') (hN2 : Inf xs' es' → ¬ Feas xs es) (hP1 : (∃ p, NoNeg es p) → ∃ p, NoNeg es' p) (hP2 : (∃ p, NoNeg es' p) → ∃ p, NoNeg es p)
    (hB : ∀ x p, FitsW xs es x → holdB es x p = true → ∃ x' p', FitsW xs' es' x' ∧ holdB es' x' p' = true ∧ costTo es' x' es'.length = times * costTo es x es.length + plus) :
    a.kind = b.kind ∧ (a.kind = 1 → b.cost = times * a.cost + plus) := by
  rcases ok_kind ha with ka | ka | ka <;> rcases ok_kind hb with kb | kb | kb
  · refine ⟨ka.trans kb.symm, fun _ => ?_⟩
    obtain ⟨f1, h1, c1⟩ := ok_one ha ka
    obtain ⟨f2, h2, c2⟩ := ok_one hb kb
    obtain ⟨x', p', f3, h3, c3⟩ := hB a.flow a.pots f1 h1
    have d1 := dualW hn' f2 f3 h2
    have d2 := dualW hn' f3 f2 h3
    rw [c1] at c3
    omega
  · exact absurd ⟨_, (ok_one ha ka).1⟩ (hN2 (ok_two hb kb))
  · obtain ⟨p, hp⟩ := hP1 ⟨_, noneg_of_hold (ok_one ha ka).2.1⟩
    exact (good_noneg (ok_three hb kb).2 hp).elim
  · exact absurd ⟨_, (ok_one hb kb).1⟩ (hN1 (ok_two ha ka))
  · exact ⟨ka.trans kb.symm, fun h => by omega⟩
  · exact absurd ⟨_, (ok_three hb kb).1⟩ (hN1 (ok_two ha ka))
  · obtain ⟨p, hp⟩ := hP2 ⟨_, noneg_of_hold (ok_one hb kb).2.1⟩
    exact (good_noneg (ok_three ha ka).2 hp).elim
  · exact absurd ⟨_, (ok_three ha ka).1⟩ (hN2 (ok_two hb kb))
  · exact ⟨ka.trans kb.symm, fun h => by omega⟩

/-- Where a flow goes with a flow, both ways, the cuts go together. -/
theorem inf_of_feas {xs xs' : List Int} {es es' : List A5} (hn : NetOK xs es) (h : Feas xs' es' → Feas xs es) : Inf xs es → ¬ Feas xs' es' := fun hi hf => inf_feas hn hi (h hf)
end Go.Proofs.YtnbccoflcoaoaaaGreat

namespace Go.Proofs.YtnbccoflcoaoaaaGreat
open Go.RowKit
set_option linter.unusedSimpArgs false
set_option linter.unusedVariables false

theorem getD_map {α β : Type} (f : α → β) (l : List α) (i : Nat) (d : α) (e : β) (h : f d = e) : (l.map f).getD i e = f (l.getD i d) := by
  simp only [List.getD, List.getElem?_map]
  cases l[i]? with
  | none => simp [h]
  | some x => simp
theorem getD_range {β : Type} (f : Nat → β) (n i : Nat) (d : β) (h : i < n) : ((List.range n).map f).getD i d = f i := by
  simp [List.getD, h]
theorem holdB_of {es es' : List A5} {x x' p p' : List Int} (hl : es'.length = es.length) (h : holdB es x p = true) (hh : ∀ i, i < es.length → heldAt es x p i = true → heldAt es' x' p' i = true) : holdB es' x' p' = true :=
  all_t (fun i hi => hh i (by omega) (of_all h i (by omega)))

/-! ### all arcs turned round -/
def flipA (a : A5) : A5 := ⟨a.to, a.fr, a.lo, a.cap, a.cost⟩
def revX (xs : List Int) : List Int := xs.map (fun s => -s)
def revE (es : List A5) : List A5 := es.map flipA
theorem revX_at (xs : List Int) (k : Nat) : (revX xs).getD k 0 = -(xs.getD k 0) := getD_map _ xs k 0 0 (by omega)
theorem revE_at (es : List A5) (i : Nat) : (revE es).getD i zA = flipA (es.getD i zA) := getD_map _ es i zA zA rfl
theorem revX_len (xs : List Int) : (revX xs).length = xs.length := by simp [revX]
theorem revE_len (es : List A5) : (revE es).length = es.length := by simp [revE]
theorem rev_rev (es : List A5) : revE (revE es) = es := by
  unfold revE
  rw [List.map_map]
  have : flipA ∘ flipA = id := by funext a; rfl
  rw [this, List.map_id]
theorem revX_rev (xs : List Int) : revX (revX xs) = xs := by
  unfold revX
  rw [List.map_map]
  have : (fun s : Int => -s) ∘ (fun s : Int => -s) = id := by funext a; simp
  rw [this, List.map_id]

theorem rev_net (es : List A5) (y : List Int) (node : Int) (n : Nat) : netTo (revE es) y node n = -netTo es y node n := by
  induction n with
  | zero => rfl
  | succ n ih =>
    simp only [netTo, ih, revE_at, flipA]
    split <;> split <;> omega
theorem rev_cost (es : List A5) (y : List Int) (n : Nat) : costTo (revE es) y n = costTo es y n := by
  induction n with
  | zero => rfl
  | succ n ih => simp only [costTo, ih, revE_at, flipA]
theorem rev_ok {xs : List Int} {es : List A5} (h : NetOK xs es) : NetOK (revX xs) (revE es) := by
  refine ⟨by rw [revX_len]; exact h.one, by rw [revX_len]; exact h.ten, by rw [revE_len]; exact h.arcs, fun j hj => ?_, fun j hj => ?_⟩
  · rw [revX_at]
    have := of_decide_eq_true (h.sup j (by rw [revX_len] at hj; exact hj))
    exact decide_eq_true (by omega)
  · rw [revE_at, revX_len]
    have := arcB_out (h.arc j (by rw [revE_len] at hj; exact hj))
    refine decide_eq_true ?_
    simp only [flipA]
    omega
theorem rev_fits {xs : List Int} {es : List A5} {y : List Int} (h : FitsW xs es y) : FitsW (revX xs) (revE es) y := by
  refine ⟨fun i hi => ?_, fun k hk => ?_⟩
  · rw [revE_at]; exact h.bd i (by rw [revE_len] at hi; exact hi)
  · rw [rev_net, revE_len, revX_at, h.bal k (by rw [revX_len] at hk; exact hk)]
theorem rev_drift (es : List A5) (p : List Int) (i : Nat) : driftAt (revE es) (revX p) i = driftAt es p i := by
  unfold driftAt
  rw [revE_at, revX_at, revX_at]
  simp only [flipA]
  omega
theorem rev_noneg {es : List A5} (h : ∃ p, NoNeg es p) : ∃ p, NoNeg (revE es) p := by
  obtain ⟨p, hp⟩ := h
  refine ⟨revX p, fun i hi hc => ?_⟩
  rw [rev_drift]
  rw [revE_at] at hc
  exact hp i (by rw [revE_len] at hi; exact hi) hc
theorem rev_hold {es : List A5} {x p : List Int} (h : holdB es x p = true) : holdB (revE es) x (revX p) = true :=
  holdB_of (revE_len es) h (fun i _ hh => by unfold heldAt at *; rw [rev_drift, revE_at]; exact hh)
theorem reversed_alike {xs : List Int} {es : List A5} (hn : NetOK xs es) {a b : A6} (ha : okB xs es a = true) (hb : okB (revX xs) (revE es) b = true) : a.kind = b.kind ∧ (a.kind = 1 → b.cost = 1 * a.cost + 0) := by
  refine alike_core hn (rev_ok hn) ha hb 1 0 (inf_of_feas hn ?_) (inf_of_feas (rev_ok hn) ?_) rev_noneg ?_ ?_
  · rintro ⟨y, hy⟩
    have := rev_fits hy
    rw [rev_rev, revX_rev] at this
    exact ⟨y, this⟩
  · rintro ⟨y, hy⟩; exact ⟨y, rev_fits hy⟩
  · intro h; have := rev_noneg h; rw [rev_rev] at this; exact this
  · intro x p hx hp
    exact ⟨x, revX p, rev_fits hx, rev_hold hp, by rw [revE_len, rev_cost]; omega⟩

/-! ### a price at a node -/
def halfA (a : A5) : A5 := { a with cost := a.cost.tdiv 2 }
def moveA (k p : Int) (a : A5) : A5 := { a with cost := a.cost + (if a.fr = k then p else 0) - (if a.to = k then p else 0) }
theorem half_bd {c : Int} (h1 : -50 ≤ c) (h2 : c ≤ 50) : -25 ≤ c.tdiv 2 ∧ c.tdiv 2 ≤ 25 := by
  rcases Int.lt_or_le c 0 with h | h
  · have e : c.tdiv 2 = -((-c).tdiv 2) := by rw [Int.neg_tdiv]; omega
    rw [e, Int.tdiv_eq_ediv_of_nonneg (by omega)]; omega
  · rw [Int.tdiv_eq_ediv_of_nonneg h]; omega
def halfE (es : List A5) : List A5 := es.map halfA
def moveE (k p : Int) (es : List A5) : List A5 := es.map (moveA k p)
theorem halfE_at (es : List A5) (i : Nat) : (halfE es).getD i zA = halfA (es.getD i zA) := getD_map _ es i zA zA rfl
theorem moveE_at (k p : Int) (es : List A5) (i : Nat) (hi : i < es.length) : (moveE k p es).getD i zA = moveA k p (es.getD i zA) := by
  simp [moveE, List.getD, List.getElem?_map, hi]
theorem halfE_len (es : List A5) : (halfE es).length = es.length := by simp [halfE]
theorem moveE_len (k p : Int) (es : List A5) : (moveE k p es).length = es.length := by simp [moveE]
theorem half_ok {xs : List Int} {es : List A5} (h : NetOK xs es) : NetOK xs (halfE es) := by
  refine ⟨h.one, h.ten, by rw [halfE_len]; exact h.arcs, h.sup, fun j hj => ?_⟩
  rw [halfE_at]
  have := arcB_out (h.arc j (by rw [halfE_len] at hj; exact hj))
  have := half_bd (c := (es.getD j zA).cost) (by omega) (by omega)
  refine decide_eq_true ?_
  simp only [halfA]
  omega
theorem move_ok {xs : List Int} {es : List A5} (h : NetOK xs es) (hc : ∀ j, j < es.length → -25 ≤ (es.getD j zA).cost ∧ (es.getD j zA).cost ≤ 25) {k p : Int} (h1 : -25 ≤ p) (h2 : p ≤ 25) : NetOK xs (moveE k p es) := by
  refine ⟨h.one, h.ten, by rw [moveE_len]; exact h.arcs, h.sup, fun j hj => ?_⟩
  rw [moveE_len] at hj
  rw [moveE_at k p es j hj]
  have := arcB_out (h.arc j hj)
  have := hc j hj
  refine decide_eq_true ?_
  simp only [moveA]
  split <;> split <;> omega
theorem half_small {xs : List Int} {es : List A5} (h : NetOK xs es) : ∀ j, j < (halfE es).length → -25 ≤ ((halfE es).getD j zA).cost ∧ ((halfE es).getD j zA).cost ≤ 25 := by
  intro j hj
  rw [halfE_at]
  have := arcB_out (h.arc j (by rw [halfE_len] at hj; exact hj))
  have := half_bd (c := (es.getD j zA).cost) (by omega) (by omega)
  simp only [halfA]
  omega
theorem move_net (k p : Int) (es : List A5) (y : List Int) (node : Int) (n : Nat) (hn : n ≤ es.length) : netTo (moveE k p es) y node n = netTo es y node n := by
  induction n with
  | zero => rfl
  | succ n ih => simp only [netTo, ih (by omega), moveE_at k p es n (by omega), moveA]
theorem move_cost (k p : Int) (es : List A5) (y : List Int) (n : Nat) (hn : n ≤ es.length) : costTo (moveE k p es) y n = costTo es y n + p * netTo es y k n := by
  induction n with
  | zero => simp [costTo, netTo]
  | succ n ih =>
    simp only [costTo, netTo, ih (by omega), moveE_at k p es n (by omega), moveA]
    rw [Int.mul_sub, Int.mul_add, Int.mul_sub, Int.mul_add]
    have e1 : y.getD n 0 * (if (es.getD n zA).fr = k then p else 0) = p * (if (es.getD n zA).fr = k then y.getD n 0 else 0) := by
      split
      · exact Int.mul_comm _ _
      · simp
    have e2 : y.getD n 0 * (if (es.getD n zA).to = k then p else 0) = p * (if (es.getD n zA).to = k then y.getD n 0 else 0) := by
      split
      · exact Int.mul_comm _ _
      · simp
    rw [e1, e2]
    omega
theorem move_fits {xs : List Int} {es : List A5} {y : List Int} {k p : Int} : FitsW xs (moveE k p es) y ↔ FitsW xs es y := by
  constructor
  · intro h
    refine ⟨fun i hi => ?_, fun j hj => ?_⟩
    · have := h.bd i (by rw [moveE_len]; exact hi); rw [moveE_at k p es i hi] at this; exact this
    · have := h.bal j hj; rw [moveE_len, move_net k p es y _ _ (Nat.le_refl _)] at this; exact this
  · intro h
    refine ⟨fun i hi => ?_, fun j hj => ?_⟩
    · rw [moveE_len] at hi; rw [moveE_at k p es i hi]; exact h.bd i hi
    · rw [moveE_len, move_net k p es y _ _ (Nat.le_refl _)]; exact h.bal j hj
/-- Potentials, one of them raised. -/
def raise (m k : Nat) (d : Int) (p : List Int) : List Int := (List.range m).map (fun j => p.getD j 0 + if j = k then d else 0)
theorem raise_at (m k : Nat) (d : Int) (p : List Int) (j : Nat) (hj : j < m) : (raise m k d p).getD j 0 = p.getD j 0 + if j = k then d else 0 := getD_range _ m j 0 hj
theorem move_drift {xs : List Int} {es : List A5} (hn : NetOK xs es) (k : Nat) (d : Int) (p : List Int) (i : Nat) (hi : i < es.length) : driftAt (moveE k d es) (raise xs.length k (-d) p) i = driftAt es p i := by
  have e := hn.ends i hi
  unfold driftAt
  rw [moveE_at _ _ es i hi]
  simp only [moveA]
  rw [raise_at _ _ _ _ _ (by omega), raise_at _ _ _ _ _ (by omega)]
  split <;> split <;> split <;> split <;> omega
theorem move_drift' {xs : List Int} {es : List A5} (hn : NetOK xs es) (k : Nat) (d : Int) (p : List Int) (i : Nat) (hi : i < es.length) : driftAt es (raise xs.length k d p) i = driftAt (moveE k d es) p i := by
  have e := hn.ends i hi
  unfold driftAt
  rw [moveE_at _ _ es i hi]
  simp only [moveA]
  rw [raise_at _ _ _ _ _ (by omega), raise_at _ _ _ _ _ (by omega)]
  split <;> split <;> split <;> split <;> omega
theorem moved_alike {xs : List Int} {es : List A5} (hn : NetOK xs es) (k : Nat) (hk : k < xs.length) (d : Int) (hn' : NetOK xs (moveE k d es)) {a b : A6} (ha : okB xs es a = true) (hb : okB xs (moveE k d es) b = true) :
    a.kind = b.kind ∧ (a.kind = 1 → b.cost = 1 * a.cost + d * xs.getD k 0) := by
  refine alike_core hn hn' ha hb 1 _ (inf_of_feas hn (fun ⟨y, hy⟩ => ⟨y, move_fits.1 hy⟩)) (inf_of_feas hn' (fun ⟨y, hy⟩ => ⟨y, move_fits.2 hy⟩)) ?_ ?_ ?_
  · rintro ⟨p, hp⟩
    refine ⟨raise xs.length k (-d) p, fun i hi hc => ?_⟩
    rw [moveE_len] at hi
    rw [move_drift hn k d p i hi]
    rw [moveE_at _ _ es i hi] at hc
    exact hp i hi hc
  · rintro ⟨p, hp⟩
    refine ⟨raise xs.length k d p, fun i hi hc => ?_⟩
    rw [move_drift' hn k d p i hi]
    exact hp i (by rw [moveE_len]; exact hi) (by rw [moveE_at _ _ es i hi]; exact hc)
  · intro x p hx hp
    refine ⟨x, raise xs.length k (-d) p, move_fits.2 hx, holdB_of (moveE_len _ _ es) hp (fun i hi hh => ?_), ?_⟩
    · unfold heldAt at *; rw [move_drift hn k d p i hi, moveE_at _ _ es i hi]; exact hh
    · rw [moveE_len, move_cost _ _ es x _ (Nat.le_refl _), hx.bal k hk]; omega

/-! ### all twice as great -/
def dblA (a : A5) : A5 := { a with lo := 2 * a.lo, cap := if a.cap = -1 then -1 else 2 * a.cap }
def dblX (xs : List Int) : List Int := xs.map (fun s => 2 * s)
def dblE (es : List A5) : List A5 := es.map dblA
theorem dblX_at (xs : List Int) (k : Nat) : (dblX xs).getD k 0 = 2 * xs.getD k 0 := getD_map _ xs k 0 0 (by omega)
theorem dblE_at (es : List A5) (i : Nat) : (dblE es).getD i zA = dblA (es.getD i zA) := getD_map _ es i zA zA rfl
theorem dblX_len (xs : List Int) : (dblX xs).length = xs.length := by simp [dblX]
theorem dblE_len (es : List A5) : (dblE es).length = es.length := by simp [dblE]
theorem dbl_net (es : List A5) (y : List Int) (node : Int) (n : Nat) : netTo (dblE es) (dblX y) node n = 2 * netTo es y node n := by
  induction n with
  | zero => rfl
  | succ n ih =>
    simp only [netTo, ih, dblE_at, dblX_at, dblA]
    split <;> split <;> omega
theorem dbl_cost (es : List A5) (y : List Int) (n : Nat) : costTo (dblE es) (dblX y) n = 2 * costTo es y n := by
  induction n with
  | zero => rfl
  | succ n ih =>
    simp only [costTo, ih, dblE_at, dblX_at, dblA]
    rw [Int.mul_assoc]; omega
theorem dbl_fits {xs : List Int} {es : List A5} {y : List Int} (h : FitsW xs es y) : FitsW (dblX xs) (dblE es) (dblX y) := by
  refine ⟨fun i hi => ?_, fun k hk => ?_⟩
  · have := h.bd i (by rw [dblE_len] at hi; exact hi)
    rw [dblE_at, dblX_at]
    simp only [dblA]
    split
    · exact ⟨by omega, .inl rfl⟩
    · refine ⟨by omega, .inr (by omega)⟩
  · rw [dbl_net, dblE_len, dblX_at, h.bal k (by rw [dblX_len] at hk; exact hk)]
theorem dbl_drift (es : List A5) (p : List Int) (i : Nat) : driftAt (dblE es) p i = driftAt es p i := by
  unfold driftAt; rw [dblE_at]; rfl
theorem dbl_cross (es : List A5) (cut : List Int) (back : Bool) (i : Nat) : crossB cut back ((dblE es).getD i zA) = crossB cut back (es.getD i zA) := by rw [dblE_at]; rfl
theorem dbl_tolls (es : List A5) (cut : List Int) (back : Bool) (n : Nat) : lowsTo (dblE es) cut back n = 2 * lowsTo es cut back n ∧ capsTo (dblE es) cut back n = 2 * capsTo es cut back n ∧ openTo (dblE es) cut back n = openTo es cut back n := by
  induction n with
  | zero => exact ⟨rfl, rfl, rfl⟩
  | succ n ih =>
    obtain ⟨h1, h2, h3⟩ := ih
    simp only [lowsTo, capsTo, openTo, dbl_cross, h1, h2, h3]
    rw [dblE_at]
    generalize es.getD n zA = a
    simp only [dblA]
    refine ⟨by split <;> omega, ?_, ?_⟩
    · by_cases hc : a.cap = -1
      · simp [hc]
      · have hx : ¬ (2 * a.cap = -1) := by omega
        simp only [hc, if_false, hx, ne_eq, not_false_eq_true, and_true]
        split <;> omega
    · by_cases hc : a.cap = -1
      · simp [hc]
      · have hx : ((2 * a.cap) == -1) = false := by simp; omega
        have hy : (a.cap == -1) = false := by simpa using hc
        simp only [hc, if_false, hx, hy]
theorem dbl_need (xs cut : List Int) (n : Nat) : needTo (dblX xs) cut n = 2 * needTo xs cut n := by
  induction n with
  | zero => rfl
  | succ n ih => simp only [needTo, ih, dblX_at]; omega
theorem dbl_viol (xs : List Int) (es : List A5) (cut : List Int) : violB (dblX xs) (dblE es) cut = violB xs es cut := by
  unfold violB
  obtain ⟨a1, a2, a3⟩ := dbl_tolls es cut false es.length
  obtain ⟨b1, b2, b3⟩ := dbl_tolls es cut true es.length
  rw [dblE_len, a1, a2, a3, b1, b2, b3, dbl_need]
  congr 2
  · rw [decide_eq_decide]; omega
  · rw [decide_eq_decide]; omega
theorem dbl_inf {xs : List Int} {es : List A5} : Inf (dblX xs) (dblE es) ↔ Inf xs es := by
  unfold Inf
  constructor
  · rintro ⟨cut, h1, h2⟩; exact ⟨cut, by rw [dblX_len] at h1; exact h1, by rw [dbl_viol] at h2; exact h2⟩
  · rintro ⟨cut, h1, h2⟩; exact ⟨cut, by rw [dblX_len]; exact h1, by rw [dbl_viol]; exact h2⟩
theorem dbl_cap (a : A5) : (dblA a).cap = -1 ↔ a.cap = -1 := by
  simp only [dblA]
  split
  · simp [*]
  · omega
theorem twofold_alike {xs : List Int} {es : List A5} (hn : NetOK xs es) (hn' : NetOK (dblX xs) (dblE es)) {a b : A6} (ha : okB xs es a = true) (hb : okB (dblX xs) (dblE es) b = true) : a.kind = b.kind ∧ (a.kind = 1 → b.cost = 2 * a.cost + 0) := by
  refine alike_core hn hn' ha hb 2 0 (fun h hf => inf_feas hn' (dbl_inf.2 h) hf) (fun h hf => inf_feas hn (dbl_inf.1 h) hf) ?_ ?_ ?_
  · rintro ⟨p, hp⟩
    exact ⟨p, fun i hi hc => by rw [dbl_drift]; rw [dblE_at] at hc; exact hp i (by rw [dblE_len] at hi; exact hi) ((dbl_cap _).1 hc)⟩
  · rintro ⟨p, hp⟩
    exact ⟨p, fun i hi hc => by have := hp i (by rw [dblE_len]; exact hi) (by rw [dblE_at]; exact (dbl_cap _).2 hc); rw [dbl_drift] at this; exact this⟩
  · intro x p hx hp
    refine ⟨dblX x, p, dbl_fits hx, holdB_of (dblE_len es) hp (fun i hi hh => ?_), by rw [dblE_len, dbl_cost]; omega⟩
    have h1 := of_decide_eq_true hh
    refine decide_eq_true ?_
    rw [dbl_drift, dblE_at, dblX_at]
    refine ⟨fun g => by have := h1.1 g; simp only [dblA]; omega, fun g => ?_⟩
    have h2 := h1.2 g
    refine ⟨fun e => h2.1 ((dbl_cap _).1 e), ?_⟩
    simp only [dblA]
    rw [if_neg h2.1]; omega
end Go.Proofs.YtnbccoflcoaoaaaGreat

namespace Go.Proofs.YtnbccoflcoaoaaaGreat
open Go.RowKit
set_option linter.unusedSimpArgs false
set_option linter.unusedVariables false

/-! ### halved, ahead of the doubling -/
def halvA (a : A5) : A5 := { a with lo := a.lo.tdiv 2, cap := if a.cap = -1 then -1 else a.cap.tdiv 2 }
def halvX (xs : List Int) : List Int := xs.map (fun s => s.tdiv 2)
def halvE (es : List A5) : List A5 := es.map halvA
theorem halvX_at (xs : List Int) (k : Nat) : (halvX xs).getD k 0 = (xs.getD k 0).tdiv 2 := getD_map _ xs k 0 0 rfl
theorem halvE_at (es : List A5) (i : Nat) : (halvE es).getD i zA = halvA (es.getD i zA) := getD_map _ es i zA zA rfl
theorem halvX_len (xs : List Int) : (halvX xs).length = xs.length := by simp [halvX]
theorem halvE_len (es : List A5) : (halvE es).length = es.length := by simp [halvE]
theorem half_bd2 {c m : Int} (h1 : -m ≤ c) (h2 : c ≤ m) : -m ≤ 2 * c.tdiv 2 ∧ 2 * c.tdiv 2 ≤ m ∧ -m ≤ c.tdiv 2 ∧ c.tdiv 2 ≤ m := by
  rcases Int.lt_or_le c 0 with h | h
  · have e : c.tdiv 2 = -((-c).tdiv 2) := by rw [Int.neg_tdiv]; omega
    rw [e, Int.tdiv_eq_ediv_of_nonneg (by omega)]; omega
  · rw [Int.tdiv_eq_ediv_of_nonneg h]; omega
theorem halv_arc {a : A5} {n : Int} (h : arcB a n = true) : arcB (halvA a) n = true ∧ arcB (dblA (halvA a)) n = true := by
  have h1 := arcB_out h
  have e1 : a.lo.tdiv 2 = a.lo / 2 := Int.tdiv_eq_ediv_of_nonneg (by omega)
  constructor
  · refine decide_eq_true ?_
    simp only [halvA, e1]
    by_cases hc : a.cap = -1
    · simp only [hc, if_true, true_or, true_and]; omega
    · have e2 : a.cap.tdiv 2 = a.cap / 2 := Int.tdiv_eq_ediv_of_nonneg (by omega)
      simp only [hc, if_false, e2]; omega
  · refine decide_eq_true ?_
    simp only [halvA, dblA, e1]
    by_cases hc : a.cap = -1
    · simp only [hc, if_true, true_or, true_and]; omega
    · have e2 : a.cap.tdiv 2 = a.cap / 2 := Int.tdiv_eq_ediv_of_nonneg (by omega)
      have e3 : ¬ (a.cap / 2 = -1) := by omega
      simp only [hc, if_false, e2, e3]; omega
theorem halv_ok {xs : List Int} {es : List A5} (h : NetOK xs es) : NetOK (halvX xs) (halvE es) ∧ NetOK (dblX (halvX xs)) (dblE (halvE es)) := by
  constructor
  · refine ⟨by rw [halvX_len]; exact h.one, by rw [halvX_len]; exact h.ten, by rw [halvE_len]; exact h.arcs, fun j hj => ?_, fun j hj => ?_⟩
    · rw [halvX_at]
      have := of_decide_eq_true (h.sup j (by rw [halvX_len] at hj; exact hj))
      have := half_bd2 (c := xs.getD j 0) (m := 100) (by omega) (by omega)
      exact decide_eq_true (by omega)
    · rw [halvE_at, halvX_len]; exact (halv_arc (h.arc j (by rw [halvE_len] at hj; exact hj))).1
  · refine ⟨by rw [dblX_len, halvX_len]; exact h.one, by rw [dblX_len, halvX_len]; exact h.ten, by rw [dblE_len, halvE_len]; exact h.arcs, fun j hj => ?_, fun j hj => ?_⟩
    · rw [dblX_at, halvX_at]
      have := of_decide_eq_true (h.sup j (by rw [dblX_len, halvX_len] at hj; exact hj))
      have := half_bd2 (c := xs.getD j 0) (m := 100) (by omega) (by omega)
      exact decide_eq_true (by omega)
    · rw [dblE_at, halvE_at, dblX_len, halvX_len]; exact (halv_arc (h.arc j (by rw [dblE_len, halvE_len] at hj; exact hj))).2

/-! ### an arc in two parts -/
theorem netTo_sum (es : List A5) (y : List Int) (node : Int) (n : Nat) : netTo es y node n = sumTo (fun i => ((if (es.getD i zA).fr = node then y.getD i 0 else 0) - (if (es.getD i zA).to = node then y.getD i 0 else 0))) n := by
  induction n with
  | zero => rfl
  | succ n ih => simp only [netTo, sumTo, ih]; omega
/-- A sum with one term parted in two, the second behind the last. -/
theorem sum_split {f g : Nat → Int} {n k : Nat} (hk : k < n) (h : ∀ i, i < n → i ≠ k → g i = f i) (hs : g k + g n = f k) : sumTo g (n + 1) = sumTo f n := by
  have key : ∀ m, m ≤ n → sumTo g m = sumTo f m + (if k < m then g k - f k else 0) := by
    intro m
    induction m with
    | zero => intro _; simp [sumTo]
    | succ m ih =>
      intro hm
      simp only [sumTo, ih (by omega)]
      by_cases e : m = k
      · subst e; rw [if_neg (by omega), if_pos (by omega)]; omega
      · rw [h m (by omega) e]
        by_cases g1 : k < m
        · rw [if_pos g1, if_pos (by omega)]; omega
        · rw [if_neg g1, if_neg (by omega)]; omega
  simp only [sumTo]
  rw [key n (Nat.le_refl _), if_pos hk]
  omega

/-- The arcs with arc k in two parts. -/
def cutE (es : List A5) (k : Nat) (a b : A5) : List A5 := es.set k a ++ [b]
theorem cutE_len (es : List A5) (k : Nat) (a b : A5) : (cutE es k a b).length = es.length + 1 := by simp [cutE]
theorem cutE_at (es : List A5) (k : Nat) (a b : A5) (hk : k < es.length) (i : Nat) (hi : i < es.length) : (cutE es k a b).getD i zA = if i = k then a else es.getD i zA := by
  unfold cutE
  simp only [List.getD]
  rw [List.getElem?_append_left (by simpa using hi), List.getElem?_set]
  by_cases h : k = i
  · subst h; simp [hk]
  · rw [if_neg h, if_neg (fun e => h e.symm)]
theorem cutE_last (es : List A5) (k : Nat) (a b : A5) : (cutE es k a b).getD es.length zA = b := by
  unfold cutE
  simp [List.getD]

/-- The two parts of an arc. -/
structure Parts (c a b : A5) : Prop where
  af : a.fr = c.fr ∧ a.to = c.to ∧ a.cost = c.cost
  bf : b.fr = c.fr ∧ b.to = c.to ∧ b.cost = c.cost
  lo : a.lo + b.lo = c.lo ∧ 0 ≤ a.lo ∧ 0 ≤ b.lo
  cap : (c.cap = -1 ∧ a.cap = -1 ∧ b.cap = -1) ∨ (c.cap ≠ -1 ∧ a.cap + b.cap = c.cap ∧ a.lo ≤ a.cap ∧ b.lo ≤ b.cap)

theorem parts_ok {xs : List Int} {es : List A5} (h : NetOK xs es) (h23 : es.length ≤ 23) {k : Nat} (hk : k < es.length) {a b : A5} (hp : Parts (es.getD k zA) a b) : NetOK xs (cutE es k a b) := by
  have hc := arcB_out (h.arc k hk)
  obtain ⟨⟨a1, a2, a3⟩, ⟨b1, b2, b3⟩, ⟨l1, l2, l3⟩, hcap⟩ := hp
  have oka : arcB a xs.length = true := decide_eq_true (by rcases hcap with ⟨c1, c2, c3⟩ | ⟨c1, c2, c3, c4⟩ <;> omega)
  have okb : arcB b xs.length = true := decide_eq_true (by rcases hcap with ⟨c1, c2, c3⟩ | ⟨c1, c2, c3, c4⟩ <;> omega)
  refine ⟨h.one, h.ten, by rw [cutE_len]; omega, h.sup, fun j hj => ?_⟩
  rw [cutE_len] at hj
  by_cases e : j = es.length
  · subst e; rw [cutE_last]; exact okb
  · rw [cutE_at es k a b hk j (by omega)]
    split
    · exact oka
    · exact h.arc j (by omega)

/-- What goes over the second part. -/
def share (c b : A5) (x : Int) : Int := b.lo + (if c.cap = -1 then 0 else min (x - c.lo) (b.cap - b.lo))
def cutX (es : List A5) (k : Nat) (b : A5) (x : List Int) : List Int := (List.range (es.length + 1)).map (fun i => if i = k then x.getD k 0 - share (es.getD k zA) b (x.getD k 0) else if i = es.length then share (es.getD k zA) b (x.getD k 0) else x.getD i 0)
theorem cutX_at (es : List A5) (k : Nat) (b : A5) (x : List Int) (i : Nat) (hi : i < es.length + 1) : (cutX es k b x).getD i 0 = if i = k then x.getD k 0 - share (es.getD k zA) b (x.getD k 0) else if i = es.length then share (es.getD k zA) b (x.getD k 0) else x.getD i 0 := getD_range _ _ i 0 hi
def joinX (es : List A5) (k : Nat) (y : List Int) : List Int := (List.range es.length).map (fun i => if i = k then y.getD k 0 + y.getD es.length 0 else y.getD i 0)
theorem joinX_at (es : List A5) (k : Nat) (y : List Int) (i : Nat) (hi : i < es.length) : (joinX es k y).getD i 0 = if i = k then y.getD k 0 + y.getD es.length 0 else y.getD i 0 := getD_range _ _ i 0 hi

theorem share_bd {c a b : A5} (hp : Parts c a b) {x : Int} (h1 : c.lo ≤ x) (h2 : c.cap = -1 ∨ x ≤ c.cap) : (b.lo ≤ share c b x ∧ (b.cap = -1 ∨ share c b x ≤ b.cap)) ∧ (a.lo ≤ x - share c b x ∧ (a.cap = -1 ∨ x - share c b x ≤ a.cap)) ∧ (x = c.lo → share c b x = b.lo) ∧ (c.cap ≠ -1 → x = c.cap → share c b x = b.cap) := by
  obtain ⟨_, _, ⟨l1, l2, l3⟩, hcap⟩ := hp
  unfold share
  rcases hcap with ⟨c1, c2, c3⟩ | ⟨c1, c2, c3, c4⟩
  · rw [if_pos c1]; omega
  · rw [if_neg c1]; omega

section
variable {xs : List Int} {es : List A5} {k : Nat} {a b : A5}

theorem cut_net (hk : k < es.length) (hp : Parts (es.getD k zA) a b) (x y : List Int) (node : Int) (hy : ∀ i, i < es.length → i ≠ k → y.getD i 0 = x.getD i 0) (hs : y.getD k 0 + y.getD es.length 0 = x.getD k 0) :
    netTo (cutE es k a b) y node (cutE es k a b).length = netTo es x node es.length := by
  rw [netTo_sum, netTo_sum, cutE_len]
  refine sum_split hk (fun i hi hne => ?_) ?_
  · rw [cutE_at es k a b hk i hi, if_neg hne, hy i hi hne]
  · rw [cutE_at es k a b hk k hk, if_pos rfl, cutE_last, hp.af.1, hp.af.2.1, hp.bf.1, hp.bf.2.1]
    split <;> split <;> omega
theorem cut_cost (hk : k < es.length) (hp : Parts (es.getD k zA) a b) (x y : List Int) (hy : ∀ i, i < es.length → i ≠ k → y.getD i 0 = x.getD i 0) (hs : y.getD k 0 + y.getD es.length 0 = x.getD k 0) :
    costTo (cutE es k a b) y (cutE es k a b).length = costTo es x es.length := by
  rw [costTo_sum, costTo_sum, cutE_len]
  refine sum_split hk (fun i hi hne => ?_) ?_
  · rw [cutE_at es k a b hk i hi, if_neg hne, hy i hi hne]
  · rw [cutE_at es k a b hk k hk, if_pos rfl, cutE_last, hp.af.2.2, hp.bf.2.2, ← Int.add_mul, hs]
theorem cutX_facts (hk : k < es.length) (x : List Int) : (∀ i, i < es.length → i ≠ k → (cutX es k b x).getD i 0 = x.getD i 0) ∧ (cutX es k b x).getD k 0 + (cutX es k b x).getD es.length 0 = x.getD k 0 := by
  refine ⟨fun i hi hne => ?_, ?_⟩
  · rw [cutX_at _ _ _ _ i (by omega), if_neg hne, if_neg (by omega)]
  · rw [cutX_at _ _ _ _ k (by omega), if_pos rfl, cutX_at _ _ _ _ es.length (by omega), if_neg (by omega), if_pos rfl]; omega
theorem cut_fits (hk : k < es.length) (hp : Parts (es.getD k zA) a b) {x : List Int} (h : FitsW xs es x) : FitsW xs (cutE es k a b) (cutX es k b x) := by
  obtain ⟨f1, f2⟩ := cutX_facts (b := b) hk x
  have sb := share_bd hp (h.bd k hk).1 (h.bd k hk).2
  refine ⟨fun i hi => ?_, fun j hj => ?_⟩
  · rw [cutE_len] at hi
    by_cases e : i = es.length
    · subst e
      rw [cutE_last, cutX_at _ _ _ _ _ (by omega), if_neg (by omega), if_pos rfl]
      exact sb.1
    · rw [cutE_at es k a b hk i (by omega)]
      by_cases e2 : i = k
      · subst e2
        rw [if_pos rfl, cutX_at _ _ _ _ _ (by omega), if_pos rfl]
        exact sb.2.1
      · rw [if_neg e2, f1 i (by omega) e2]; exact h.bd i (by omega)
  · rw [cut_net hk hp x _ _ f1 f2]; exact h.bal j hj
theorem join_fits (hk : k < es.length) (hp : Parts (es.getD k zA) a b) {y : List Int} (h : FitsW xs (cutE es k a b) y) : FitsW xs es (joinX es k y) := by
  have g1 : ∀ i, i < es.length → i ≠ k → y.getD i 0 = (joinX es k y).getD i 0 := fun i hi hne => by rw [joinX_at _ _ _ i hi, if_neg hne]
  have g2 : y.getD k 0 + y.getD es.length 0 = (joinX es k y).getD k 0 := by rw [joinX_at _ _ _ k hk, if_pos rfl]
  refine ⟨fun i hi => ?_, fun j hj => ?_⟩
  · by_cases e : i = k
    · subst e
      have h1 := h.bd i (by rw [cutE_len]; omega)
      have h2 := h.bd es.length (by rw [cutE_len]; omega)
      rw [cutE_at es i a b hk i hk, if_pos rfl] at h1
      rw [cutE_last] at h2
      rw [← g2]
      obtain ⟨_, _, ⟨l1, l2, l3⟩, hcap⟩ := hp
      rcases hcap with ⟨c1, c2, c3⟩ | ⟨c1, c2, c3, c4⟩ <;> omega
    · have h1 := h.bd i (by rw [cutE_len]; omega)
      rw [cutE_at es k a b hk i hi, if_neg e, g1 i hi e] at h1
      exact h1
  · rw [← cut_net hk hp (joinX es k y) y _ g1 g2]; exact h.bal j hj
theorem cut_drift (hk : k < es.length) (hp : Parts (es.getD k zA) a b) (p : List Int) (i : Nat) (hi : i < es.length) : driftAt (cutE es k a b) p i = driftAt es p i := by
  unfold driftAt
  rw [cutE_at es k a b hk i hi]
  by_cases e : i = k
  · subst e; rw [if_pos rfl, hp.af.1, hp.af.2.1, hp.af.2.2]
  · rw [if_neg e]
theorem cut_drift_last (hk : k < es.length) (hp : Parts (es.getD k zA) a b) (p : List Int) : driftAt (cutE es k a b) p es.length = driftAt es p k := by
  unfold driftAt
  rw [cutE_last, hp.bf.1, hp.bf.2.1, hp.bf.2.2]
theorem cut_noneg (hk : k < es.length) (hp : Parts (es.getD k zA) a b) (p : List Int) : NoNeg (cutE es k a b) p ↔ NoNeg es p := by
  constructor
  · intro h i hi hc
    rw [← cut_drift hk hp p i hi]
    refine h i (by rw [cutE_len]; omega) ?_
    rw [cutE_at es k a b hk i hi]
    by_cases e : i = k
    · subst e
      rw [if_pos rfl]
      rcases hp.cap with ⟨c1, c2, c3⟩ | ⟨c1, c2, c3, c4⟩
      · exact c2
      · exact absurd hc c1
    · rw [if_neg e]; exact hc
  · intro h i hi hc
    rw [cutE_len] at hi
    have hcap := hp.cap
    have hlo := hp.lo
    by_cases e : i = es.length
    · subst e
      rw [cut_drift_last hk hp]
      rw [cutE_last] at hc
      exact h k hk (by omega)
    · rw [cut_drift hk hp p i (by omega)]
      rw [cutE_at es k a b hk i (by omega)] at hc
      by_cases e2 : i = k
      · subst e2
        rw [if_pos rfl] at hc
        exact h i hk (by omega)
      · rw [if_neg e2] at hc; exact h i (by omega) hc
theorem cut_hold (hk : k < es.length) (hp : Parts (es.getD k zA) a b) {x p : List Int} (hx : FitsW xs es x) (h : holdB es x p = true) : holdB (cutE es k a b) (cutX es k b x) p = true := by
  obtain ⟨f1, f2⟩ := cutX_facts (b := b) hk x
  have sb := share_bd hp (hx.bd k hk).1 (hx.bd k hk).2
  have hhk := of_decide_eq_true (of_all h k hk)
  have hcap := hp.cap
  have hlo := hp.lo
  refine all_t (fun i hi => ?_)
  rw [cutE_len] at hi
  by_cases e : i = es.length
  · subst e
    refine decide_eq_true ?_
    rw [cut_drift_last hk hp, cutE_last, cutX_at _ _ _ _ _ (by omega), if_neg (by omega), if_pos rfl]
    refine ⟨fun g => sb.2.2.1 (hhk.1 g), fun g => ?_⟩
    have g2 := hhk.2 g
    exact ⟨by omega, sb.2.2.2 g2.1 g2.2⟩
  · by_cases e2 : i = k
    · subst e2
      refine decide_eq_true ?_
      rw [cut_drift hk hp p i hk, cutE_at es i a b hk i hk, if_pos rfl, cutX_at _ _ _ _ _ (by omega), if_pos rfl]
      refine ⟨fun g => ?_, fun g => ?_⟩
      · have g1 := hhk.1 g
        have := sb.2.2.1 g1
        omega
      · have g2 := hhk.2 g
        have := sb.2.2.2 g2.1 g2.2
        omega
    · have hh := of_all h i (by omega)
      unfold heldAt at *
      rw [cut_drift hk hp p i (by omega), cutE_at es k a b hk i (by omega), if_neg e2, f1 i (by omega) e2]
      exact hh

theorem split_alike (hn : NetOK xs es) (h23 : es.length ≤ 23) (hk : k < es.length) (hp : Parts (es.getD k zA) a b) {u v : A6} (hu : okB xs es u = true) (hv : okB xs (cutE es k a b) v = true) : u.kind = v.kind ∧ (u.kind = 1 → v.cost = 1 * u.cost + 0) := by
  have hn' := parts_ok hn h23 hk hp
  refine alike_core hn hn' hu hv 1 0 (inf_of_feas hn (fun ⟨y, hy⟩ => ⟨_, join_fits hk hp hy⟩)) (inf_of_feas hn' (fun ⟨y, hy⟩ => ⟨_, cut_fits hk hp hy⟩)) (fun ⟨p, h⟩ => ⟨p, (cut_noneg hk hp p).2 h⟩) (fun ⟨p, h⟩ => ⟨p, (cut_noneg hk hp p).1 h⟩) ?_
  intro x p hx hh
  obtain ⟨f1, f2⟩ := cutX_facts (b := b) hk x
  exact ⟨_, p, cut_fits hk hp hx, cut_hold hk hp hx hh, by rw [cut_cost hk hp x _ f1 f2]; omega⟩
theorem same_alike (hn : NetOK xs es) {u v : A6} (hu : okB xs es u = true) (hv : okB xs es v = true) : u.kind = v.kind ∧ (u.kind = 1 → v.cost = 1 * u.cost + 0) :=
  alike_core hn hn hu hv 1 0 (fun h f => inf_feas hn h f) (fun h f => inf_feas hn h f) id id (fun x p hx hh => ⟨x, p, hx, hh, by omega⟩)
end
end Go.Proofs.YtnbccoflcoaoaaaGreat

namespace Go.Proofs.YtnbccoflcoaoaaaGreat
open Go.RowKit
set_option linter.unusedSimpArgs false
set_option linter.unusedVariables false

/-! ### certificates decide the kind of every accepted answer -/
theorem cert_best {xs : List Int} {es : List A5} (hn : NetOK xs es) {x p : List Int} (hx : FitsW xs es x) (hp : holdB es x p = true) {a : A6} (ha : okB xs es a = true) : a.kind = 1 ∧ a.cost = costTo es x es.length := by
  rcases ok_kind ha with k | k | k
  · obtain ⟨f1, h1, c1⟩ := ok_one ha k
    have d1 := dualW hn hx f1 hp
    have d2 := dualW hn f1 hx h1
    exact ⟨k, by omega⟩
  · exact (inf_feas hn (ok_two ha k) ⟨x, hx⟩).elim
  · exact (good_noneg (ok_three ha k).2 (noneg_of_hold hp)).elim
theorem cert_none {xs : List Int} {es : List A5} (hn : NetOK xs es) (hi : Inf xs es) {a : A6} (ha : okB xs es a = true) : a.kind = 2 := by
  rcases ok_kind ha with k | k | k
  · exact (inf_feas hn hi ⟨_, (ok_one ha k).1⟩).elim
  · exact k
  · exact (inf_feas hn hi ⟨_, (ok_three ha k).1⟩).elim

/-! ### as much as can go -/
/-- What is known of Most's flow: from s to t goes 'much'. -/
structure MostOK (m : Nat) (es : List A5) (s t : Nat) (much : Int) (y : List Int) : Prop where
  bd : ∀ i, i < es.length → 0 ≤ y.getD i 0 ∧ y.getD i 0 ≤ (es.getD i zA).cap
  src : netTo es y (s : Int) es.length = much
  mid : ∀ k, k < m → k ≠ s → k ≠ t → netTo es y (k : Int) es.length = 0

/-- What an arc adds to what goes over the edge of a set of nodes. -/
def edge (S : Nat → Bool) (es : List A5) (v : Nat → Int) (i : Nat) : Int :=
  if S (frN es i) = true ∧ S (toN es i) = false then v i else 0
theorem most_over {m : Nat} {es : List A5} {s t : Nat} {much : Int} {y : List Int} (h : MostOK m es s t much y) (he : ∀ i, i < es.length → 0 ≤ (es.getD i zA).fr ∧ (es.getD i zA).fr < m ∧ 0 ≤ (es.getD i zA).to ∧ (es.getD i zA).to < m)
    (hs : s < m) (hst : s ≠ t) (S : Nat → Bool) (h1 : S s = true) (h2 : S t = false) :
    sumTo (fun i => (if S (frN es i) = true ∧ S (toN es i) = false then y.getD i 0 else 0) - (if S (toN es i) = true ∧ S (frN es i) = false then y.getD i 0 else 0)) es.length = much := by
  have w1 := weigh es y (fun k => if S k = true then 1 else 0) m es.length he
  have w2 : sumTo (fun k => (if S k = true then (1 : Int) else 0) * netTo es y (k : Int) es.length) m = sumTo (fun k => much * (if (s : Int) = (k : Int) then 1 else 0)) m := by
    refine sumTo_congr (fun k hk => ?_)
    by_cases e1 : k = s
    · subst e1; rw [if_pos h1, if_pos rfl, h.src]; omega
    · rw [if_neg (show ¬ ((s : Int) = (k : Int)) by omega)]
      by_cases e2 : k = t
      · subst e2; rw [h2]; simp
      · rw [h.mid k hk e1 e2]; simp
  rw [w2, sumTo_one (fun _ => much) s m 1 hs] at w1
  rw [← Int.mul_one much, w1]
  refine sumTo_congr (fun i _ => ?_)
  cases S (frN es i) <;> cases S (toN es i) <;> simp
theorem most_weak {m : Nat} {es : List A5} {s t : Nat} {much : Int} {y : List Int} (h : MostOK m es s t much y) (he : ∀ i, i < es.length → 0 ≤ (es.getD i zA).fr ∧ (es.getD i zA).fr < m ∧ 0 ≤ (es.getD i zA).to ∧ (es.getD i zA).to < m)
    (hs : s < m) (hst : s ≠ t) (S : Nat → Bool) (h1 : S s = true) (h2 : S t = false) :
    much ≤ sumTo (fun i => if S (frN es i) = true ∧ S (toN es i) = false then (es.getD i zA).cap else 0) es.length := by
  rw [← most_over h he hs hst S h1 h2]
  refine sumTo_le (fun i hi => ?_)
  have := h.bd i hi
  split <;> split <;> omega
/-- Where the arcs that go out take just that much: they are full, and nothing goes in. -/
theorem most_tight {m : Nat} {es : List A5} {s t : Nat} {much : Int} {y : List Int} (h : MostOK m es s t much y) (he : ∀ i, i < es.length → 0 ≤ (es.getD i zA).fr ∧ (es.getD i zA).fr < m ∧ 0 ≤ (es.getD i zA).to ∧ (es.getD i zA).to < m)
    (hs : s < m) (hst : s ≠ t) (S : Nat → Bool) (h1 : S s = true) (h2 : S t = false)
    (hc : sumTo (fun i => if S (frN es i) = true ∧ S (toN es i) = false then (es.getD i zA).cap else 0) es.length = much) :
    ∀ i, i < es.length → (S (frN es i) = true ∧ S (toN es i) = false → y.getD i 0 = (es.getD i zA).cap) ∧ (S (toN es i) = true ∧ S (frN es i) = false → y.getD i 0 = 0) := by
  have ho := most_over h he hs hst S h1 h2
  rw [← hc] at ho
  have key : ∀ (f g : Nat → Int) (n : Nat), (∀ i, i < n → f i ≤ g i) → sumTo f n = sumTo g n → ∀ i, i < n → f i = g i := by
    intro f g n
    induction n with
    | zero => intro _ _ i hi; omega
    | succ n ih =>
      intro hle heq i hi
      simp only [sumTo] at heq
      have a1 := sumTo_le (fun i hi => hle i (show i < n + 1 by omega)) (n := n)
      have a2 := hle n (by omega)
      by_cases e : i = n
      · subst e; omega
      · exact ih (fun j hj => hle j (by omega)) (by omega) i (by omega)
  intro i hi
  have := key _ _ _ (fun j hj => by
    have b := h.bd j hj
    show (if S (frN es j) = true ∧ S (toN es j) = false then y.getD j 0 else 0) - (if S (toN es j) = true ∧ S (frN es j) = false then y.getD j 0 else 0) ≤ (if S (frN es j) = true ∧ S (toN es j) = false then (es.getD j zA).cap else 0)
    split <;> split <;> omega) ho i hi
  have b := h.bd i hi
  constructor
  · rintro ⟨g1, g2⟩
    try dsimp only at this
    rw [if_pos ⟨g1, g2⟩, if_neg (fun e => by rw [g2] at e; cases e.1), if_pos ⟨g1, g2⟩] at this
    omega
  · rintro ⟨g1, g2⟩
    try dsimp only at this
    rw [if_neg (fun e => by rw [g2] at e; cases e.1), if_pos ⟨g1, g2⟩, if_neg (fun e => by rw [g2] at e; cases e.1)] at this
    omega

/-! ### the net with an arc back that pays -/
def backE (es : List A5) (s t : Nat) : List A5 := es ++ [⟨t, s, 0, -1, -1⟩]
theorem backE_len (es : List A5) (s t : Nat) : (backE es s t).length = es.length + 1 := by simp [backE]
theorem backE_at (es : List A5) (s t i : Nat) (hi : i < es.length) : (backE es s t).getD i zA = es.getD i zA := by
  unfold backE; simp only [List.getD]; rw [List.getElem?_append_left hi]
theorem backE_last (es : List A5) (s t : Nat) : (backE es s t).getD es.length zA = ⟨t, s, 0, -1, -1⟩ := by unfold backE; simp [List.getD]
def backX (es : List A5) (y : List Int) (much : Int) : List Int := (List.range (es.length + 1)).map (fun i => if i = es.length then much else y.getD i 0)
theorem backX_at (es : List A5) (y : List Int) (much : Int) (i : Nat) (hi : i < es.length) : (backX es y much).getD i 0 = y.getD i 0 := by
  unfold backX
  have e : ((List.range (es.length + 1)).map (fun i => if i = es.length then much else y.getD i 0)).getD i 0 = (if i = es.length then much else y.getD i 0) := by simp [List.getD, show i < es.length + 1 by omega]
  rw [e, if_neg (by omega)]
theorem backX_last (es : List A5) (y : List Int) (much : Int) : (backX es y much).getD es.length 0 = much := by
  unfold backX; simp [List.getD]
theorem back_net (es : List A5) (y : List Int) (s t : Nat) (much : Int) (node : Int) (n : Nat) (hn : n ≤ es.length) : netTo (backE es s t) (backX es y much) node n = netTo es y node n := by
  induction n with
  | zero => rfl
  | succ n ih => simp only [netTo, ih (by omega), backE_at es s t n (by omega), backX_at es y much n (by omega)]
theorem back_cost (es : List A5) (y : List Int) (s t : Nat) (much : Int) (n : Nat) (hn : n ≤ es.length) (hc : ∀ i, i < es.length → (es.getD i zA).cost = 0) : costTo (backE es s t) (backX es y much) n = 0 := by
  induction n with
  | zero => rfl
  | succ n ih => simp only [costTo, ih (by omega), backE_at es s t n (by omega), hc n (by omega)]; omega

/-- What goes out of all nodes together is nothing. -/
theorem sink {m : Nat} {es : List A5} {s t : Nat} {much : Int} {y : List Int} (h : MostOK m es s t much y) (he : ∀ i, i < es.length → 0 ≤ (es.getD i zA).fr ∧ (es.getD i zA).fr < m ∧ 0 ≤ (es.getD i zA).to ∧ (es.getD i zA).to < m)
    (hs : s < m) (ht : t < m) (hst : s ≠ t) : netTo es y (t : Int) es.length = -much := by
  have w1 := weigh es y (fun _ => 1) m es.length he
  have w0 : sumTo (fun i => ((1 : Int) - 1) * y.getD i 0) es.length = 0 := by rw [sumTo_congr (g := fun _ => 0) (fun i _ => by simp)]; exact sumTo_zero _
  rw [w0] at w1
  have w2 : sumTo (fun k => (1 : Int) * netTo es y (k : Int) es.length) m = sumTo (fun k => much * (if (s : Int) = (k : Int) then 1 else 0) + netTo es y (t : Int) es.length * (if (t : Int) = (k : Int) then 1 else 0)) m := by
    refine sumTo_congr (fun k hk => ?_)
    by_cases e1 : k = s
    · subst e1; rw [if_pos rfl, if_neg (by omega), h.src]; omega
    · rw [if_neg (show ¬ ((s : Int) = (k : Int)) by omega)]
      by_cases e2 : k = t
      · subst e2; rw [if_pos rfl]; omega
      · rw [if_neg (by omega), h.mid k hk e1 e2]; omega
  rw [w2, sumTo_add, sumTo_one (fun _ => much) s m 1 hs, sumTo_one (fun _ => netTo es y (t : Int) es.length) t m 1 ht] at w1
  omega

theorem returned_core {xs : List Int} {es : List A5} {s t : Nat} {much : Int} {y : List Int} (hn : NetOK xs es) (h23 : es.length ≤ 23) (hx0 : ∀ k, k < xs.length → xs.getD k 0 = 0) (hz : ∀ i, i < es.length → (es.getD i zA).lo = 0 ∧ (es.getD i zA).cost = 0 ∧ (es.getD i zA).cap ≠ -1)
    (hs : s < xs.length) (ht : t < xs.length) (hst : s ≠ t) (h : MostOK xs.length es s t much y) (S : Nat → Bool) (h1 : S s = true) (h2 : S t = false)
    (hc : sumTo (fun i => if S (frN es i) = true ∧ S (toN es i) = false then (es.getD i zA).cap else 0) es.length = much) {a : A6} (ha : okB xs (backE es s t) a = true) (hn' : NetOK xs (backE es s t)) : a.kind = 1 ∧ a.cost = -much := by
  have he := hn.ends
  have hm0 : 0 ≤ much := by
    rw [← hc]
    have := sumTo_le (f := fun _ => 0) (g := fun i => if S (frN es i) = true ∧ S (toN es i) = false then (es.getD i zA).cap else 0) (n := es.length) (fun i hi => by
      have := arcB_out (hn.arc i hi)
      have := hz i hi
      show 0 ≤ _
      split <;> omega)
    rw [sumTo_zero] at this
    exact this
  have hsk := sink h he hs ht hst
  have htt := most_tight h he hs hst S h1 h2 hc
  have hfit : FitsW xs (backE es s t) (backX es y much) := by
    refine ⟨fun i hi => ?_, fun k hk => ?_⟩
    · rw [backE_len] at hi
      by_cases e : i = es.length
      · subst e; rw [backE_last, backX_last]; exact ⟨hm0, .inl rfl⟩
      · rw [backE_at es s t i (by omega), backX_at es y much i (by omega)]
        have b := h.bd i (by omega)
        have z := hz i (by omega)
        exact ⟨by omega, .inr b.2⟩
    · rw [backE_len]
      simp only [netTo]
      rw [back_net es y s t much _ _ (Nat.le_refl _), backE_last, backX_last, hx0 k hk]
      simp only []
      by_cases e1 : k = s
      · subst e1
        rw [h.src, if_neg (show ¬ ((t : Int) = (k : Int)) by omega), if_pos rfl]; omega
      · by_cases e2 : k = t
        · subst e2
          rw [hsk, if_pos rfl, if_neg (show ¬ ((s : Int) = (k : Int)) by omega)]; omega
        · rw [h.mid k hk e1 e2, if_neg (show ¬ ((t : Int) = (k : Int)) by omega), if_neg (show ¬ ((s : Int) = (k : Int)) by omega)]; omega
  have pat : ∀ k, k < xs.length → ((List.range xs.length).map (fun j => if S j = true then (0 : Int) else 1)).getD k 0 = if S k = true then 0 else 1 := fun k hk => by simp [List.getD, hk]
  have hhold : holdB (backE es s t) (backX es y much) ((List.range xs.length).map (fun j => if S j = true then (0 : Int) else 1)) = true := by
    refine all_t (fun i hi => ?_)
    rw [backE_len] at hi
    refine decide_eq_true ?_
    by_cases e : i = es.length
    · subst e
      unfold driftAt
      rw [backE_last, backX_last]
      simp only [Int.toNat_natCast]
      rw [pat t ht, pat s hs, h1, h2]
      simp
    · have hi' : i < es.length := by omega
      have ends := he i hi'
      have z := hz i hi'
      have b := h.bd i hi'
      have tt := htt i hi'
      unfold driftAt
      rw [backE_at es s t i hi', backX_at es y much i hi', z.2.1, pat _ (by omega), pat _ (by omega)]
      unfold frN toN at tt
      cases g1 : S (es.getD i zA).fr.toNat <;> cases g2 : S (es.getD i zA).to.toNat
      · simp
      · have := tt.2 ⟨g2, g1⟩; rw [this, z.1]; simp
      · have := tt.1 ⟨g1, g2⟩
        rw [this]
        simp only [if_true, Bool.false_eq_true, if_false]
        exact ⟨fun g => by omega, fun _ => ⟨z.2.2, trivial⟩⟩
      · simp
  have r := cert_best hn' hfit hhold ha
  refine ⟨r.1, ?_⟩
  rw [r.2, backE_len]
  simp only [costTo]
  rw [back_cost es y s t much _ (Nat.le_refl _) (fun i hi => (hz i hi).2.1), backE_last, backX_last]
  simp only []
  omega
end Go.Proofs.YtnbccoflcoaoaaaGreat
