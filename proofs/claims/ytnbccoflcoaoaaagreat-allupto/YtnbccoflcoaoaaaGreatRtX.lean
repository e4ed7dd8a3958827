import Derived.Test.YtnbccoflcoaoaaaGreatGRta
namespace Go.Proofs.YtnbccoflcoaoaaaGreat
open Go.RowKit
set_option linter.unusedSimpArgs false
set_option linter.unusedVariables false

/-! ### the ways, exactly: the same each time -/
structure Wy where
  seen : Nat → Bool
  cost : Nat → Int
  last : Nat → St
  nw : Int
def satB (es : List A5) (y : Wy) (s : St) : Bool := y.seen (s.dstN es) && decide (y.cost (s.dstN es) ≤ y.cost (s.srcN es) + priceOf es s)
theorem satB_iff {es : List A5} {y : Wy} {s : St} : satB es y s = true ↔ Sat es y.seen y.cost s := by
  unfold satB Sat
  rw [Bool.and_eq_true, decide_eq_true_eq]
/-- One step. -/
def relaxF (es : List A5) (fl : List Int) (y : Wy) (s : St) : Wy :=
  if (y.seen (s.srcN es) && decide (0 < roomOf es fl s) && !satB es y s) = true then ⟨upd y.seen (s.dstN es) true, upd y.cost (s.dstN es) (y.cost (s.srcN es) + priceOf es s), upd y.last (s.dstN es) s, (s.dstN es : Int)⟩ else y
theorem stay_relax {es : List A5} {fl : List Int} {y : Wy} {s : St} (h : y.seen (s.srcN es) = true → 0 < roomOf es fl s → Sat es y.seen y.cost s) : relaxF es fl y s = y := by
  unfold relaxF
  rw [if_neg]
  intro hc
  simp only [Bool.and_eq_true, decide_eq_true_eq, Bool.not_eq_true'] at hc
  have := satB_iff.2 (h hc.1.1 hc.1.2)
  rw [hc.2] at this
  cases this
theorem go_relax {es : List A5} {fl : List Int} {y : Wy} {s : St} (h1 : 0 < roomOf es fl s) (h2 : y.seen (s.srcN es) = true) (h3 : ¬ Sat es y.seen y.cost s) : relaxF es fl y s = ⟨upd y.seen (s.dstN es) true, upd y.cost (s.dstN es) (y.cost (s.srcN es) + priceOf es s), upd y.last (s.dstN es) s, (s.dstN es : Int)⟩ := by
  unfold relaxF
  rw [if_pos]
  simp only [Bool.and_eq_true, decide_eq_true_eq, Bool.not_eq_true']
  refine ⟨⟨h2, h1⟩, ?_⟩
  cases hs : satB es y s with
  | false => rfl
  | true => exact absurd (satB_iff.1 hs) h3
/-- A round over the first k arcs. -/
def roundF (es : List A5) (fl : List Int) (y : Wy) : Nat → Wy
  | 0 => ⟨y.seen, y.cost, y.last, -1⟩
  | k + 1 => relaxF es fl (relaxF es fl (roundF es fl y k) ⟨k, false⟩) ⟨k, true⟩
def roundsF (es : List A5) (fl : List Int) (m : Nat) (y : Wy) : Nat → Wy
  | 0 => y
  | q + 1 => roundF es fl (roundsF es fl m y q) m
/-- What 'cheapest' finds. -/
def cheapF (es : List A5) (fl : List Int) (n : Nat) (S : Nat → Bool) : Wy := roundsF es fl es.length ⟨S, fun _ => 0, fun _ => zS, -1⟩ n

def costL (cost : Nat → Int) (n : Nat) : List Int := (List.range n).map cost
theorem costL_len (cost : Nat → Int) (n : Nat) : (costL cost n).length = n := by simp [costL]
theorem costL_at (cost : Nat → Int) (n : Nat) {i : Nat} (hi : i < n) : (costL cost n).getD i 0 = cost i := by simp [costL, List.getD, hi]

/-! ### sending, exactly -/
def readyF (lf : List Int) (v : Nat) : Bool := decide (0 < lf.getD v 0)
structure StepR (xs : List Int) (es : List A5) (fl fl' : List Int) (e0 k : Nat) (x : Int) (y : Wy) : Prop where
  ey : y = cheapF es fl xs.length (readyF (leftOf xs es fl))
  lt : e0 < xs.length
  sn : y.seen e0 = true
  neg : (leftOf xs es fl).getD e0 0 < 0
  first : ∀ u, u < e0 → y.seen u = true → 0 ≤ (leftOf xs es fl).getD u 0
  short : ∀ j, j < k → (leftOf xs es fl).getD (bk es y.last e0 j) 0 ≤ 0
  pos : 0 < (leftOf xs es fl).getD (bk es y.last e0 k) 0
  le1 : x ≤ (leftOf xs es fl).getD (bk es y.last e0 k) 0
  le2 : x ≤ -(leftOf xs es fl).getD e0 0
  le3 : ∀ j, j < k → x ≤ roomOf es fl (y.last (bk es y.last e0 j))
  eq : x = (leftOf xs es fl).getD (bk es y.last e0 k) 0 ∨ x = -(leftOf xs es fl).getD e0 0 ∨ ∃ j, j < k ∧ x = roomOf es fl (y.last (bk es y.last e0 j))
  flow : fl' = takeTo fl (wayL es y.last e0 k) x k
theorem StepR.same {xs : List Int} {es : List A5} {fl f1 f2 : List Int} {e1 e2 k1 k2 : Nat} {x1 x2 : Int} {y1 y2 : Wy} (h1 : StepR xs es fl f1 e1 k1 x1 y1) (h2 : StepR xs es fl f2 e2 k2 x2 y2) : f1 = f2 := by
  have ey : y1 = y2 := h1.ey.trans h2.ey.symm
  subst ey
  have ee : e1 = e2 := by
    rcases Nat.lt_trichotomy e1 e2 with h | h | h
    · have := h2.first e1 h h1.sn; have := h1.neg; omega
    · exact h
    · have := h1.first e2 h h2.sn; have := h2.neg; omega
  subst ee
  have ek : k1 = k2 := by
    rcases Nat.lt_trichotomy k1 k2 with h | h | h
    · have := h2.short k1 h; have := h1.pos; omega
    · exact h
    · have := h1.short k2 h; have := h2.pos; omega
  subst ek
  have ex : x1 = x2 := by
    have a1 := h1.le1
    have a2 := h1.le2
    have b1 := h2.le1
    have b2 := h2.le2
    rcases h1.eq with p | p | ⟨j, hj, p⟩ <;> rcases h2.eq with q | q | ⟨i, hi, q⟩
    · omega
    · omega
    · have := h1.le3 i hi; omega
    · omega
    · omega
    · have := h1.le3 i hi; omega
    · have := h2.le3 j hj; omega
    · have := h2.le3 j hj; omega
    · have := h2.le3 j hj; have := h1.le3 i hi; omega
  subst ex
  rw [h1.flow, h2.flow]
/-- m sendings lead from one flow to another. -/
def Reach (xs : List Int) (es : List A5) : Nat → List Int → List Int → Prop
  | 0, a, b => a = b
  | m + 1, a, b => ∃ c, Reach xs es m a c ∧ 0 < posTo (leftOf xs es c) xs.length ∧ ∃ e k x y, StepR xs es c b e k x y
theorem Reach.same {xs : List Int} {es : List A5} {m : Nat} {a b b' : List Int} (h1 : Reach xs es m a b) (h2 : Reach xs es m a b') : b = b' := by
  induction m generalizing b b' with
  | zero => exact h1.symm.trans h2
  | succ m ih =>
    obtain ⟨c, r1, _, e, k, x, y, s1⟩ := h1
    obtain ⟨c', r2, _, e', k', x', y', s2⟩ := h2
    have := ih r1 r2
    subst this
    exact s1.same s2
theorem Reach.cut {xs : List Int} {es : List A5} {m m' : Nat} {a b : List Int} (h : Reach xs es m' a b) (hm : m < m') : ∃ c d, Reach xs es m a c ∧ 0 < posTo (leftOf xs es c) xs.length ∧ ∃ e k x y, StepR xs es c d e k x y := by
  induction m' generalizing b with
  | zero => omega
  | succ m' ih =>
    obtain ⟨c, r, p, s⟩ := h
    by_cases e : m = m'
    · subst e; exact ⟨c, b, r, p, s⟩
    · exact ih r (by omega)
/-- Where sending ends: no cut, or one. -/
def EndR (xs : List Int) (es : List A5) (fl : List Int) (c : Option (List Int)) : Prop :=
  (posTo (leftOf xs es fl) xs.length = 0 ∧ c = none) ∨ (0 < posTo (leftOf xs es fl) xs.length ∧ (∀ v, v < xs.length → (cheapF es fl xs.length (readyF (leftOf xs es fl))).seen v = true → 0 ≤ (leftOf xs es fl).getD v 0) ∧ c = some (seenTo (cheapF es fl xs.length (readyF (leftOf xs es fl))).seen xs.length))
theorem EndR.noStep {xs : List Int} {es : List A5} {fl fl' : List Int} {c : Option (List Int)} (h : EndR xs es fl c) (hp : 0 < posTo (leftOf xs es fl) xs.length) {e k : Nat} {x : Int} {y : Wy} (hs : StepR xs es fl fl' e k x y) : False := by
  rcases h with ⟨h, _⟩ | ⟨_, h, _⟩
  · omega
  · have h1 := hs.sn
    rw [hs.ey] at h1
    have := h e hs.lt h1
    have := hs.neg
    omega
/-- What 'settle' makes of a flow. -/
def SettR (xs : List Int) (es : List A5) (fl r : List Int) (c : Option (List Int)) : Prop := ∃ m, Reach xs es m fl r ∧ EndR xs es r c
theorem SettR.same {xs : List Int} {es : List A5} {fl r r' : List Int} {c c' : Option (List Int)} (h1 : SettR xs es fl r c) (h2 : SettR xs es fl r' c') : r = r' ∧ c = c' := by
  obtain ⟨m, a1, b1⟩ := h1
  obtain ⟨m', a2, b2⟩ := h2
  have hm : m = m' := by
    rcases Nat.lt_trichotomy m m' with h | h | h
    · obtain ⟨c, d, r, p, e, k, x, y, s⟩ := a2.cut h
      have := a1.same r
      subst this
      exact (b1.noStep p s).elim
    · exact h
    · obtain ⟨c, d, r, p, e, k, x, y, s⟩ := a1.cut h
      have := a2.same r
      subst this
      exact (b2.noStep p s).elim
  subst hm
  have := a1.same a2
  subst this
  refine ⟨rfl, ?_⟩
  rcases b1 with ⟨p, q⟩ | ⟨p, _, q⟩ <;> rcases b2 with ⟨p', q'⟩ | ⟨p', _, q'⟩
  · rw [q, q']
  · omega
  · omega
  · rw [q, q']
end Go.Proofs.YtnbccoflcoaoaaaGreat
