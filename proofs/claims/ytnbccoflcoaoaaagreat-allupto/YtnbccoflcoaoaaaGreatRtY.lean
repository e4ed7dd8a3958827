import Derived.Test.YtnbccoflcoaoaaaGreatRtX
import Derived.Test.YtnbccoflcoaoaaaGreatGRta
import Derived.Test.YtnbccoflcoaoaaaGreatGSol
namespace Go.Proofs.YtnbccoflcoaoaaaGreat
open Go.RowKit
set_option linter.unusedSimpArgs false
set_option linter.unusedVariables false

/-! ### what Some and Solve answer, exactly: the same each time -/
def SomeRel (xs : List Int) (es : List A5) (fl cu : List Int) (err : Int) : Prop :=
  ((checkS xs es).1 ≠ 0 ∧ err = (checkS xs es).1 ∧ fl = [] ∧ cu = []) ∨
  ((checkS xs es).1 = 0 ∧ err = 0 ∧ sumTo (fun v => xs.getD v 0) xs.length ≠ 0 ∧ fl = [] ∧ cu = seenTo (fun _ => true) xs.length) ∨
  ((checkS xs es).1 = 0 ∧ err = 0 ∧ sumTo (fun v => xs.getD v 0) xs.length = 0 ∧ ∃ r c, SettR xs (costlessL es) (lowsL (costlessL es)) r c ∧ ((c = none ∧ fl = r ∧ cu = []) ∨ (fl = [] ∧ c = some cu)))
theorem SomeRel.same {xs : List Int} {es : List A5} {f1 c1 f2 c2 : List Int} {e1 e2 : Int} (h1 : SomeRel xs es f1 c1 e1) (h2 : SomeRel xs es f2 c2 e2) : f1 = f2 ∧ c1 = c2 ∧ e1 = e2 := by
  rcases h1 with ⟨a, b, c, d⟩ | ⟨a, b, s, c, d⟩ | ⟨a, b, s, r, k, hs, hc⟩ <;> rcases h2 with ⟨a', b', c', d'⟩ | ⟨a', b', s', c', d'⟩ | ⟨a', b', s', r', k', hs', hc'⟩
  · exact ⟨by rw [c, c'], by rw [d, d'], by rw [b, b']⟩
  · exact absurd a' a
  · exact absurd a' a
  · exact absurd a a'
  · exact ⟨by rw [c, c'], by rw [d, d'], by rw [b, b']⟩
  · exact absurd s' s
  · exact absurd a a'
  · exact absurd s s'
  · obtain ⟨er, ek⟩ := hs.same hs'
    subst er
    subst ek
    rcases hc with ⟨x, y, z⟩ | ⟨y, x⟩ <;> rcases hc' with ⟨x', y', z'⟩ | ⟨y', x'⟩
    · exact ⟨by rw [y, y'], by rw [z, z'], by rw [b, b']⟩
    · rw [x] at x'; cases x'
    · rw [x] at x'; cases x'
    · rw [x] at x'
      cases x'
      exact ⟨by rw [y, y'], rfl, by rw [b, b']⟩
/-- A circle, found back from the newest node. -/
def CircR (es : List A5) (y : Wy) (n : Nat) (ci : List Int) : Prop := ∃ f m, f = bk es y.last y.nw.toNat n ∧ 0 < m ∧ bk es y.last f m = f ∧ (∀ j, 0 < j → j < m → bk es y.last f j ≠ f) ∧ ci = (backL es y.last f m).reverse
theorem CircR.same {es : List A5} {y : Wy} {n : Nat} {c1 c2 : List Int} (h1 : CircR es y n c1) (h2 : CircR es y n c2) : c1 = c2 := by
  obtain ⟨f, m, a, b, c, d, e⟩ := h1
  obtain ⟨f', m', a', b', c', d', e'⟩ := h2
  have hf : f = f' := by rw [a, a']
  subst hf
  have hm : m = m' := by
    rcases Nat.lt_trichotomy m m' with h | h | h
    · exact absurd c (d' m b h)
    · exact h
    · exact absurd c' (d m' b' h)
  subst hm
  rw [e, e']
def stiffY (es : List A5) (n : Nat) : Wy := cheapF (stiffL es) (lowsL (stiffL es)) n (fun _ => true)
def BestR (xs : List Int) (es : List A5) (po : List Int) (a : A6) : Prop := ∃ r c, SettR xs es (fillK es po es.length) r c ∧ a = ⟨1, costTo es r es.length, r, costL (cheapF es r xs.length (fun _ => true)).cost xs.length, [], []⟩
theorem BestR.same {xs : List Int} {es : List A5} {po : List Int} {a b : A6} (h1 : BestR xs es po a) (h2 : BestR xs es po b) : a = b := by
  obtain ⟨r, c, s, e⟩ := h1
  obtain ⟨r', c', s', e'⟩ := h2
  obtain ⟨er, _⟩ := s.same s'
  subst er
  rw [e, e']
def SolveRel (xs : List Int) (es : List A5) (a : A6) (err : Int) : Prop :=
  ∃ fl cu, SomeRel xs es fl cu err ∧ ((err ≠ 0 ∧ a = ⟨0, 0, [], [], [], []⟩) ∨ (err = 0 ∧ cu.length ≠ 0 ∧ a = ⟨2, 0, [], [], cu, []⟩) ∨
    (err = 0 ∧ cu.length = 0 ∧ (stiffY es xs.length).nw ≠ -1 ∧ ∃ ci, CircR (stiffL es) (stiffY es xs.length) xs.length ci ∧ a = ⟨3, 0, fl, [], [], ci⟩) ∨
    (err = 0 ∧ cu.length = 0 ∧ (stiffY es xs.length).nw = -1 ∧ BestR xs es (costL (stiffY es xs.length).cost xs.length) a))
theorem SolveRel.same {xs : List Int} {es : List A5} {a b : A6} {e1 e2 : Int} (h1 : SolveRel xs es a e1) (h2 : SolveRel xs es b e2) : a = b ∧ e1 = e2 := by
  obtain ⟨fl, cu, s, h⟩ := h1
  obtain ⟨fl', cu', s', h'⟩ := h2
  obtain ⟨ef, ec, ee⟩ := s.same s'
  subst ef
  subst ec
  subst ee
  refine ⟨?_, rfl⟩
  rcases h with ⟨p, q⟩ | ⟨p, n, q⟩ | ⟨p, n, w, ci, c, q⟩ | ⟨p, n, w, q⟩ <;> rcases h' with ⟨p', q'⟩ | ⟨p', n', q'⟩ | ⟨p', n', w', ci', c', q'⟩ | ⟨p', n', w', q'⟩
  · rw [q, q']
  · exact absurd p' p
  · exact absurd p' p
  · exact absurd p' p
  · exact absurd p p'
  · rw [q, q']
  · exact absurd n' n
  · exact absurd n' n
  · exact absurd p p'
  · exact absurd n n'
  · rw [q, q', c.same c']
  · exact absurd w' w
  · exact absurd p p'
  · exact absurd n n'
  · exact absurd w w'
  · exact q.same q'

/-! ### lists that share no memory -/
def Apt (u v : Value) : Prop := u.ownBlock = none ∨ u.ownBlock ≠ v.ownBlock
def Apart4 (a b c d : Value) : Prop := Apt a b ∧ Apt a c ∧ Apt a d ∧ Apt b c ∧ Apt b d ∧ Apt c d
def ApartA (v : Value) : Prop := ∃ k c a b d e, v = .agg #[k, c, a, b, d, e] ∧ Apart4 a b d e
def ApartP (v : Value) : Prop := ∃ f k c r w s, v = .agg #[f, k, c, r, w, s] ∧ Apart4 k r w s
theorem Apt.nil (v : Value) : Apt (.slice none 0 0) v := .inl rfl
theorem Apt.nil2 (u : Value) : Apt u (.slice none 0 0) := by
  by_cases h : u.ownBlock = none
  · exact .inl h
  · exact .inr h
theorem OwnL.blkGe {w : World} {base : Nat} {v : Value} {l : List Int} (h : OwnL w base v l) : ∀ b, v.ownBlock = some b → base ≤ b ∧ b < w.heap.size := by
  obtain ⟨oa, oc, rfl, ho⟩ := h
  exact fun b hb => ho.lt b hb
theorem apt_lt {u v : Value} {m : Nat} (h1 : ∀ b, u.ownBlock = some b → b < m) (h2 : ∀ b, v.ownBlock = some b → m ≤ b) : Apt u v := by
  cases hu : u.ownBlock with
  | none => exact .inl hu
  | some b =>
    right
    intro e
    have := h1 b hu
    have := h2 b (by rw [← e]; exact hu)
    omega
end Go.Proofs.YtnbccoflcoaoaaaGreat
