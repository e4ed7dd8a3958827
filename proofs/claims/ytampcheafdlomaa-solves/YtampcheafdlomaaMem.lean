import Derived.Test.YtampcheafdlomaaArcs
import Derived.Lib.QuietBelow
import Derived.BigQuiet
namespace Go.Proofs.Ytampcheafdlomaa
open Go.RowKit
set_option linter.unusedSimpArgs false
set_option linter.unusedVariables false

def n0 (p : Prop) : Prop := p
theorem n0.out {p : Prop} (h : n0 p) : p := h
theorem hide {p : Prop} (h : p) : Hid p := h

/-- A slice of ints that lies in w: its numbers. -/
structure Ints (w : World) (a : Option Addr) (n : Nat) (xs : List Int) : Prop where
  len : xs.length = n
  small : n ≤ 17592186044416
  wf : ∀ x ∈ xs, -9223372036854775808 ≤ x ∧ x ≤ 9223372036854775807
  lies : n = 0 ∨ ∃ b off, a = some ⟨b, off, none⟩ ∧ b < w.heap.size ∧ ∀ i, i < n → w.cell? ⟨b, off + i, none⟩ = some (.int .i64 (xs.getD i 0))

def zA : A5 := ⟨0, 0, 0, 0, 0⟩
/-- One number of an arc. -/
def A5.at (a : A5) (j : Nat) : Int := match j with | 0 => a.fr | 1 => a.to | 2 => a.lo | 3 => a.cap | _ => a.cost

/-- A slice of arcs that lies in w. -/
structure Arcs (w : World) (a : Option Addr) (n : Nat) (es : List A5) : Prop where
  len : es.length = n
  small : n ≤ 3518437208883
  wf : ∀ x ∈ es, ∀ j, -9223372036854775808 ≤ x.at j ∧ x.at j ≤ 9223372036854775807
  lies : n = 0 ∨ ∃ b off, a = some ⟨b, off, none⟩ ∧ b < w.heap.size ∧ ∀ i, i < n → ∀ j, j < 5 → w.cell? ⟨b, off + i * 5 + j, none⟩ = some (.int .i64 ((es.getD i zA).at j))

theorem Ints.below {w w' : World} {a : Option Addr} {n : Nat} {xs : List Int} (h : Ints w a n xs) (hb : Below w.heap.size w w') : Ints w' a n xs :=
  ⟨h.len, h.small, h.wf, h.lies.imp id fun ⟨b, off, e, hl, hc⟩ => ⟨b, off, e, Nat.lt_of_lt_of_le hl hb.size, fun i hi => by rw [hb.cell (p := ⟨b, off + i, none⟩) hl]; exact hc i hi⟩⟩
theorem Arcs.below {w w' : World} {a : Option Addr} {n : Nat} {es : List A5} (h : Arcs w a n es) (hb : Below w.heap.size w w') : Arcs w' a n es :=
  ⟨h.len, h.small, h.wf, h.lies.imp id fun ⟨b, off, e, hl, hc⟩ => ⟨b, off, e, Nat.lt_of_lt_of_le hl hb.size, fun i hi j hj => by rw [hb.cell (p := ⟨b, off + i * 5 + j, none⟩) hl]; exact hc i hi j hj⟩⟩

/-! ### what Check answers -/
def supB (s : Int) : Bool := decide (-100 ≤ s ∧ s ≤ 100)
/-- The first place, from i on, that a test refuses. -/
def firstBad {α : Type} (p : α → Bool) : List α → Nat → Option Nat
  | [], _ => none
  | x :: r, i => if p x then firstBad p r (i + 1) else some i

theorem firstBad_none {α : Type} (p : α → Bool) (l : List α) (i : Nat) (h : ∀ x ∈ l, p x = true) : firstBad p l i = none := by
  induction l generalizing i with
  | nil => rfl
  | cons x r ih => simp only [firstBad, h x (by simp), if_true]; exact ih (i + 1) (fun y hy => h y (by simp [hy]))

theorem firstBad_some {α : Type} (p : α → Bool) (d : α) (l : List α) (i k : Nat) (hk : k < l.length) (h : ∀ j, j < k → p (l.getD j d) = true) (hn : p (l.getD k d) = false) : firstBad p l i = some (i + k) := by
  induction l generalizing i k with
  | nil => simp at hk
  | cons x r ih =>
    cases k with
    | zero => simp only [List.getD_cons_zero] at hn; simp [firstBad, hn]
    | succ k =>
      have h0 := h 0 (by omega)
      simp only [List.getD_cons_zero] at h0
      simp only [firstBad, h0, if_true]
      rw [ih (i + 1) k (by simpa using hk) (fun j hj => by simpa using h (j + 1) (by omega)) (by simpa using hn)]
      congr 1; omega

/-- Check's answer: the error and the place. -/
def checkS (xs : List Int) (es : List A5) : Int × Int :=
  if xs.length < 1 ∨ 10 < xs.length ∨ 24 < es.length then (1, 0)
  else match firstBad supB xs 0 with
    | some i => (2, (i : Int))
    | none => match firstBad (fun a => arcB a xs.length) es 0 with
      | some i => (3, (i : Int))
      | none => (0, 0)

theorem mem_of_getD {α : Type} (d : α) (l : List α) (x : α) (h : x ∈ l) : ∃ i, i < l.length ∧ l.getD i d = x := by
  obtain ⟨i, hi, rfl⟩ := List.getElem_of_mem h
  exact ⟨i, hi, by simp [List.getD, hi]⟩

theorem checkS_size {xs : List Int} {es : List A5} (h : xs.length < 1 ∨ 10 < xs.length ∨ 24 < es.length) : checkS xs es = (1, 0) := by
  rw [checkS, if_pos h]
theorem checkS_sup {xs : List Int} {es : List A5} (h : ¬ (xs.length < 1 ∨ 10 < xs.length ∨ 24 < es.length)) {k : Nat} (hk : k < xs.length) (h1 : ∀ j, j < k → supB (xs.getD j 0) = true) (h2 : supB (xs.getD k 0) = false) : checkS xs es = (2, (k : Int)) := by
  rw [checkS, if_neg h, firstBad_some supB 0 xs 0 k hk h1 h2]; simp
theorem checkS_arc {xs : List Int} {es : List A5} (h : ¬ (xs.length < 1 ∨ 10 < xs.length ∨ 24 < es.length)) (h0 : ∀ j, j < xs.length → supB (xs.getD j 0) = true) {k : Nat} (hk : k < es.length)
    (h1 : ∀ j, j < k → arcB (es.getD j zA) xs.length = true) (h2 : arcB (es.getD k zA) xs.length = false) : checkS xs es = (3, (k : Int)) := by
  rw [checkS, if_neg h, firstBad_none supB xs 0 (fun x hx => by obtain ⟨i, hi, rfl⟩ := mem_of_getD 0 xs x hx; exact h0 i hi)]
  simp only []
  rw [firstBad_some (fun a => arcB a xs.length) zA es 0 k hk h1 h2]; simp
theorem checkS_ok {xs : List Int} {es : List A5} (h : ¬ (xs.length < 1 ∨ 10 < xs.length ∨ 24 < es.length)) (h0 : ∀ j, j < xs.length → supB (xs.getD j 0) = true) 
    (h1 : ∀ j, j < es.length → arcB (es.getD j zA) xs.length = true) : checkS xs es = (0, 0) := by
  rw [checkS, if_neg h, firstBad_none supB xs 0 (fun x hx => by obtain ⟨i, hi, rfl⟩ := mem_of_getD 0 xs x hx; exact h0 i hi)]
  simp only []
  rw [firstBad_none (fun a => arcB a xs.length) es 0 (fun x hx => by obtain ⟨i, hi, rfl⟩ := mem_of_getD zA es x hx; exact h1 i hi)]

end Go.Proofs.Ytampcheafdlomaa
