import Derived.Test.YtampcheafdlomaaFlow
namespace Go.Proofs.Ytampcheafdlomaa
open Go.RowKit
set_option linter.unusedSimpArgs false
set_option linter.unusedVariables false

/-! ### grounds, as plain functions -/
def inB (l : List Int) (v : Int) : Bool := l.any (fun x => x == v)
theorem inB_iff {l : List Int} {v : Int} : inB l v = true ↔ ∃ i, i < l.length ∧ l.getD i 0 = v := by
  unfold inB
  rw [List.any_eq_true]
  constructor
  · rintro ⟨x, hx, he⟩
    obtain ⟨i, hi, rfl⟩ := mem_of_getD 0 l x hx
    exact ⟨i, hi, by simpa using he⟩
  · rintro ⟨i, hi, rfl⟩
    exact ⟨l.getD i 0, by simp [List.getD, hi], by simp⟩
theorem inB_t {l : List Int} {v : Int} {i : Nat} (hi : i < l.length) (h : l.getD i 0 = v) : inB l v = true := inB_iff.2 ⟨i, hi, h⟩
theorem inB_f {l : List Int} {v : Int} (h : ∀ i, i < l.length → l.getD i 0 ≠ v) : inB l v = false := by
  rw [← Bool.not_eq_true, inB_iff]; rintro ⟨i, hi, e⟩; exact h i hi e

/-- Number i of a list that is to rise. -/
def risAt (l : List Int) (n : Int) (i : Nat) : Bool := decide (0 ≤ l.getD i 0 ∧ l.getD i 0 < n ∧ (i = 0 ∨ l.getD (i - 1) 0 < l.getD i 0))
def risB (l : List Int) (n : Int) : Bool := (List.range l.length).all (risAt l n)

def crossB (cut : List Int) (back : Bool) (a : A5) : Bool := if back then !inB cut a.fr && inB cut a.to else inB cut a.fr && !inB cut a.to
def lowsTo (es : List A5) (cut : List Int) (back : Bool) : Nat → Int
  | 0 => 0
  | k + 1 => lowsTo es cut back k + if crossB cut back (es.getD k zA) = true then (es.getD k zA).lo else 0
def capsTo (es : List A5) (cut : List Int) (back : Bool) : Nat → Int
  | 0 => 0
  | k + 1 => capsTo es cut back k + if crossB cut back (es.getD k zA) = true ∧ (es.getD k zA).cap ≠ -1 then (es.getD k zA).cap else 0
def openTo (es : List A5) (cut : List Int) (back : Bool) : Nat → Bool
  | 0 => false
  | k + 1 => openTo es cut back k || (crossB cut back (es.getD k zA) && ((es.getD k zA).cap == -1))
def needTo (xs : List Int) (cut : List Int) : Nat → Int
  | 0 => 0
  | k + 1 => needTo xs cut k + xs.getD (cut.getD k 0).toNat 0
def violB (xs : List Int) (es : List A5) (cut : List Int) : Bool :=
  (!openTo es cut false es.length && decide (capsTo es cut false es.length - lowsTo es cut true es.length < needTo xs cut cut.length)) ||
  (!openTo es cut true es.length && decide (needTo xs cut cut.length < lowsTo es cut false es.length - capsTo es cut true es.length))

/-- The arc that number i of a list names. -/
def arcOf (es : List A5) (l : List Int) (i : Nat) : A5 := es.getD (l.getD i 0).toNat zA
def onceAt (m : Nat) (l : List Int) (i : Nat) : Bool := decide (0 ≤ l.getD i 0 ∧ l.getD i 0 < m) && !inB (l.take i) (l.getD i 0)
def unlAt (es : List A5) (l : List Int) (i : Nat) : Bool := (arcOf es l i).cap == -1
def nextAt (es : List A5) (l : List Int) (i : Nat) : Bool := (arcOf es l i).to == (arcOf es l ((i + 1) % l.length)).fr
def circTo (es : List A5) (l : List Int) : Nat → Int
  | 0 => 0
  | k + 1 => circTo es l k + (arcOf es l k).cost
def onceB (m : Nat) (l : List Int) : Bool := (List.range l.length).all (onceAt m l)
def unlB (es : List A5) (l : List Int) : Bool := (List.range l.length).all (unlAt es l)
def nextB (es : List A5) (l : List Int) : Bool := (List.range l.length).all (nextAt es l)
def goodB (es : List A5) (l : List Int) : Bool := onceB es.length l && unlB es l && nextB es l && decide (0 < l.length) && decide (circTo es l l.length < 0)

def potAt (p : List Int) (k : Nat) : Bool := decide (-1000000 ≤ p.getD k 0 ∧ p.getD k 0 ≤ 1000000)
def potB (p : List Int) : Bool := (List.range p.length).all (potAt p)
def driftAt (es : List A5) (p : List Int) (i : Nat) : Int := (es.getD i zA).cost + p.getD (es.getD i zA).fr.toNat 0 - p.getD (es.getD i zA).to.toNat 0
def heldB (a : A5) (d x : Int) : Bool := decide ((0 < d → x = a.lo) ∧ (d < 0 → a.cap ≠ -1 ∧ x = a.cap))
def heldAt (es : List A5) (fl p : List Int) (i : Nat) : Bool := heldB (es.getD i zA) (driftAt es p i) (fl.getD i 0)
def holdB (es : List A5) (fl p : List Int) : Bool := (List.range es.length).all (heldAt es fl p)
def holdsB (xs : List Int) (es : List A5) (fl p : List Int) : Bool := decide (p.length = xs.length) && potB p && holdB es fl p

/-- An answer as plain data. -/
structure A6 where
  kind : Int
  cost : Int
  flow : List Int
  pots : List Int
  cut : List Int
  circ : List Int

def bestB (xs : List Int) (es : List A5) (a : A6) : Bool :=
  decide (flowErr xs es a.flow = 0) && decide (costTo es a.flow es.length = a.cost) && decide (a.cut.length = 0) && decide (a.circ.length = 0) && holdsB xs es a.flow a.pots
def noneB (xs : List Int) (es : List A5) (a : A6) : Bool :=
  risB a.cut xs.length && decide (a.cost = 0) && decide (a.flow.length = 0) && decide (a.pots.length = 0) && decide (a.circ.length = 0) && violB xs es a.cut
def endB (xs : List Int) (es : List A5) (a : A6) : Bool :=
  decide (flowErr xs es a.flow = 0) && decide (a.cost = 0) && decide (a.pots.length = 0) && decide (a.cut.length = 0) && goodB es a.circ
def okB (xs : List Int) (es : List A5) (a : A6) : Bool :=
  if a.kind = 1 then bestB xs es a else if a.kind = 2 then noneB xs es a else if a.kind = 3 then endB xs es a else false
/-- Accept's answer. -/
def accS (xs : List Int) (es : List A5) (a : A6) : Bool × Int :=
  if (checkS xs es).1 ≠ 0 then (false, (checkS xs es).1) else (okB xs es a, 0)

/-! ### bounds -/
theorem lows_bd {xs : List Int} {es : List A5} (hn : NetOK xs es) (cut : List Int) (back : Bool) (k : Nat) (hk : k ≤ es.length) : 0 ≤ lowsTo es cut back k ∧ lowsTo es cut back k ≤ 60 * (k : Int) := by
  induction k with
  | zero => simp [lowsTo]
  | succ k ih =>
    have := ih (by omega)
    have h2 := arcB_out (hn.arc k (by omega))
    simp only [lowsTo]
    split <;> omega
theorem caps_bd {xs : List Int} {es : List A5} (hn : NetOK xs es) (cut : List Int) (back : Bool) (k : Nat) (hk : k ≤ es.length) : 0 ≤ capsTo es cut back k ∧ capsTo es cut back k ≤ 60 * (k : Int) := by
  induction k with
  | zero => simp [capsTo]
  | succ k ih =>
    have := ih (by omega)
    have h2 := arcB_out (hn.arc k (by omega))
    simp only [capsTo]
    split <;> omega
theorem getD_bd {xs : List Int} {es : List A5} (hn : NetOK xs es) (j : Nat) : -100 ≤ xs.getD j 0 ∧ xs.getD j 0 ≤ 100 := by
  by_cases hj : j < xs.length
  · have := of_decide_eq_true (hn.sup j hj); omega
  · simp [List.getD, List.getElem?_eq_none (by omega : xs.length ≤ j)]
theorem need_bd {xs : List Int} {es : List A5} (hn : NetOK xs es) (cut : List Int) (k : Nat) : -(100 * (k : Int)) ≤ needTo xs cut k ∧ needTo xs cut k ≤ 100 * (k : Int) := by
  induction k with
  | zero => simp [needTo]
  | succ k ih =>
    have h2 := getD_bd hn (cut.getD k 0).toNat
    simp only [needTo]
    omega
theorem cost_bd1 {xs : List Int} {es : List A5} (hn : NetOK xs es) (j : Nat) : -50 ≤ (es.getD j zA).cost ∧ (es.getD j zA).cost ≤ 50 := by
  by_cases hj : j < es.length
  · have := arcB_out (hn.arc j hj); omega
  · simp [List.getD, List.getElem?_eq_none (by omega : es.length ≤ j), zA]
theorem circ_bd {xs : List Int} {es : List A5} (hn : NetOK xs es) (l : List Int) (k : Nat) : -(50 * (k : Int)) ≤ circTo es l k ∧ circTo es l k ≤ 50 * (k : Int) := by
  induction k with
  | zero => simp [circTo]
  | succ k ih =>
    have h2 := cost_bd1 hn (l.getD k 0).toNat
    simp only [circTo, arcOf]
    omega
end Go.Proofs.Ytampcheafdlomaa
