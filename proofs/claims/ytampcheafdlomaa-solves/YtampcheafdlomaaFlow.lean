import Derived.Test.YtampcheafdlomaaMem
namespace Go.Proofs.Ytampcheafdlomaa
open Go.RowKit
set_option linter.unusedSimpArgs false
set_option linter.unusedVariables false

/-- Arc k of those that lie in w: its five cells. -/
theorem Arcs.get {w : World} {a : Option Addr} {n : Nat} {es : List A5} (h : Arcs w a n es) {k : Nat} (hk : k < n) :
    ∃ b off f t l c q, a = some ⟨b, off, none⟩ ∧ es.getD k zA = ⟨f, t, l, c, q⟩ ∧ b < w.heap.size ∧ w.cell? ⟨b, off + k * 5, none⟩ = some (.int .i64 f) ∧ w.cell? ⟨b, off + k * 5 + 1, none⟩ = some (.int .i64 t) ∧
      w.cell? ⟨b, off + k * 5 + 2, none⟩ = some (.int .i64 l) ∧ w.cell? ⟨b, off + k * 5 + 3, none⟩ = some (.int .i64 c) ∧ w.cell? ⟨b, off + k * 5 + 4, none⟩ = some (.int .i64 q) := by
  obtain ⟨b, off, e, hl, hc⟩ := h.lies.resolve_left (by omega)
  obtain ⟨⟨f, t, l, c, q⟩, he⟩ : ∃ a, es.getD k zA = a := ⟨_, rfl⟩
  have h0 := hc k hk 0 (by omega)
  have h1 := hc k hk 1 (by omega)
  have h2 := hc k hk 2 (by omega)
  have h3 := hc k hk 3 (by omega)
  have h4 := hc k hk 4 (by omega)
  rw [he] at h0 h1 h2 h3 h4
  exact ⟨b, off, f, t, l, c, q, e, he, hl, h0, h1, h2, h3, h4⟩

theorem Ints.get {w : World} {a : Option Addr} {n : Nat} {xs : List Int} (h : Ints w a n xs) {k : Nat} (hk : k < n) :
    ∃ b off x, a = some ⟨b, off, none⟩ ∧ xs.getD k 0 = x ∧ b < w.heap.size ∧ w.cell? ⟨b, off + k, none⟩ = some (.int .i64 x) := by
  obtain ⟨b, off, e, hl, hc⟩ := h.lies.resolve_left (by omega)
  exact ⟨b, off, _, e, rfl, hl, hc k hk⟩

/-! ### of a flow -/
def boundB (a : A5) (x : Int) : Bool := decide (a.lo ≤ x ∧ x ≤ 1000000 ∧ (a.cap = -1 ∨ x ≤ a.cap))
def boundedB (es : List A5) (fl : List Int) : Bool := (List.range es.length).all fun i => boundB (es.getD i zA) (fl.getD i 0)
/-- What goes out of a node less what comes in, over the first k arcs. -/
def netTo (es : List A5) (fl : List Int) (node : Int) : Nat → Int
  | 0 => 0
  | k + 1 => netTo es fl node k + (if (es.getD k zA).fr = node then fl.getD k 0 else 0) - (if (es.getD k zA).to = node then fl.getD k 0 else 0)
def costTo (es : List A5) (fl : List Int) : Nat → Int
  | 0 => 0
  | k + 1 => costTo es fl k + fl.getD k 0 * (es.getD k zA).cost
def balB (xs : List Int) (es : List A5) (fl : List Int) : Bool := (List.range xs.length).all fun k => decide (netTo es fl (k : Int) es.length = xs.getD k 0)
def flowErr (xs : List Int) (es : List A5) (fl : List Int) : Int :=
  if fl.length ≠ es.length then 4 else if boundedB es fl = false then 5 else if balB xs es fl = false then 6 else 0
/-- Cost's answer. -/
def costS (xs : List Int) (es : List A5) (fl : List Int) : Int × Int :=
  if (checkS xs es).1 ≠ 0 then (0, (checkS xs es).1) else if flowErr xs es fl ≠ 0 then (0, flowErr xs es fl) else (costTo es fl es.length, 0)

theorem all_t {n : Nat} {p : Nat → Bool} (h : ∀ i, i < n → p i = true) : (List.range n).all p = true := by
  rw [List.all_eq_true]; intro i hi; exact h i (List.mem_range.1 hi)
theorem all_f {n k : Nat} {p : Nat → Bool} (hk : k < n) (h : p k = false) : (List.range n).all p = false := by
  rw [List.all_eq_false]; exact ⟨k, List.mem_range.2 hk, by simp [h]⟩
theorem of_all {n : Nat} {p : Nat → Bool} (h : (List.range n).all p = true) (i : Nat) (hi : i < n) : p i = true := List.all_eq_true.1 h i (List.mem_range.2 hi)

/-- The numbers of a flow that keeps the bounds of a net that may be. -/
def Mild (fl : List Int) (n : Nat) : Prop := ∀ i, i < n → 0 ≤ fl.getD i 0 ∧ fl.getD i 0 ≤ 1000000

/-- A net that may be. -/
structure NetOK (xs : List Int) (es : List A5) : Prop where
  one : 1 ≤ xs.length
  ten : xs.length ≤ 10
  arcs : es.length ≤ 24
  sup : ∀ j, j < xs.length → supB (xs.getD j 0) = true
  arc : ∀ j, j < es.length → arcB (es.getD j zA) xs.length = true

theorem firstBad_of_none {α : Type} (p : α → Bool) (d : α) (l : List α) (i : Nat) (h : firstBad p l i = none) : ∀ j, j < l.length → p (l.getD j d) = true := by
  induction l generalizing i with
  | nil => intro j hj; simp at hj
  | cons x r ih =>
    intro j hj
    simp only [firstBad] at h
    split at h
    · cases j with
      | zero => simpa
      | succ j => simpa using ih (i + 1) h j (by simpa using hj)
    · cases h

theorem checkS_cases (xs : List Int) (es : List A5) : (checkS xs es).1 = 1 ∨ (checkS xs es).1 = 2 ∨ (checkS xs es).1 = 3 ∨ (checkS xs es = (0, 0) ∧ NetOK xs es) := by
  unfold checkS
  split
  · exact .inl rfl
  · rename_i hs
    cases h1 : firstBad supB xs 0 with
    | some i => exact .inr (.inl rfl)
    | none =>
      cases h2 : firstBad (fun a => arcB a xs.length) es 0 with
      | some i => exact .inr (.inr (.inl rfl))
      | none => exact .inr (.inr (.inr ⟨rfl, ⟨by omega, by omega, by omega, firstBad_of_none supB 0 xs 0 h1, firstBad_of_none _ zA es 0 h2⟩⟩))

theorem NetOK.zero {xs : List Int} {es : List A5} (h : NetOK xs es) : checkS xs es = (0, 0) :=
  checkS_ok (by have := h.one; have := h.ten; have := h.arcs; omega) h.sup h.arc
theorem netOK_of {xs : List Int} {es : List A5} (h : (checkS xs es).1 = 0) : NetOK xs es := by
  rcases checkS_cases xs es with h1 | h1 | h1 | h1
  · omega
  · omega
  · omega
  · exact h1.2
theorem arcB_out {a : A5} {n : Int} (h : arcB a n = true) : 0 ≤ a.fr ∧ a.fr < n ∧ 0 ≤ a.to ∧ a.to < n ∧ 0 ≤ a.lo ∧ a.lo ≤ 60 ∧ (a.cap = -1 ∨ (a.lo ≤ a.cap ∧ a.cap ≤ 60)) ∧ -50 ≤ a.cost ∧ a.cost ≤ 50 := of_decide_eq_true h
theorem boundB_out {a : A5} {x : Int} (h : boundB a x = true) : a.lo ≤ x ∧ x ≤ 1000000 ∧ (a.cap = -1 ∨ x ≤ a.cap) := of_decide_eq_true h
theorem NetOK.mild {xs : List Int} {es : List A5} (h : NetOK xs es) {fl : List Int} (hb : boundedB es fl = true) : Mild fl es.length := by
  intro i hi
  have h1 := boundB_out (of_all hb i hi)
  have h2 := arcB_out (h.arc i hi)
  omega

theorem netTo_bd (es : List A5) (fl : List Int) (node : Int) (n : Nat) (h : Mild fl n) (k : Nat) (hk : k ≤ n) : -(1000000 * (k : Int)) ≤ netTo es fl node k ∧ netTo es fl node k ≤ 1000000 * (k : Int) := by
  induction k with
  | zero => simp [netTo]
  | succ k ih =>
    have i1 := ih (by omega)
    have h1 := h k (by omega)
    simp only [netTo]
    split <;> split <;> omega
theorem costTo_bd (xs : List Int) (es : List A5) (fl : List Int) (hn : NetOK xs es) (h : Mild fl es.length) (k : Nat) (hk : k ≤ es.length) : -(50000000 * (k : Int)) ≤ costTo es fl k ∧ costTo es fl k ≤ 50000000 * (k : Int) := by
  induction k with
  | zero => simp [costTo]
  | succ k ih =>
    have i1 := ih (by omega)
    have h1 := h k (by omega)
    have h2 := arcB_out (hn.arc k (by omega))
    have h3 : -50000000 ≤ fl.getD k 0 * (es.getD k zA).cost := by
      have := Int.mul_le_mul_of_nonneg_left h2.2.2.2.2.2.2.2.1 h1.1
      omega
    have h4 : fl.getD k 0 * (es.getD k zA).cost ≤ 50000000 := by
      have := Int.mul_le_mul_of_nonneg_left h2.2.2.2.2.2.2.2.2 h1.1
      omega
    simp only [costTo]
    omega

end Go.Proofs.Ytampcheafdlomaa
