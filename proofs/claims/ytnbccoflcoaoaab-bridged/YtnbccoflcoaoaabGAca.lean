import Derived.Test.YtnbccoflcoaoaabGFlo
import Derived.Deep.QuietTactic
import Derived.BigQuiet
import Derived.Lib.SmallJoins
namespace Go.Proofs.Ytnbccoflcoaoaab
open Go.RowKit
set_option linter.unusedSimpArgs false
set_option linter.unusedVariables false

/-! ### grounds, as plain functions -/
def inB (l : List Int) (v : Int) : Bool := l.any (fun x => x == v)
theorem inB_iff {l : List Int} {v : Int} : inB l v = true ↔ ∃ i, i < l.length ∧ l.getD i 0 = v := by
  unfold inB
  rw [List.any_eq_true]
  constructor
  · rintro ⟨x, hx, he⟩
    obtain ⟨i, hi, rfl⟩ := mem_of_getD 0 l x hx
    exact ⟨i, hi, by simpa using he⟩
  · rintro ⟨i, hi, rfl⟩
    exact ⟨l.getD i 0, by simp [List.getD, hi], by simp⟩
theorem inB_t {l : List Int} {v : Int} {i : Nat} (hi : i < l.length) (h : l.getD i 0 = v) : inB l v = true := inB_iff.2 ⟨i, hi, h⟩
theorem inB_f {l : List Int} {v : Int} (h : ∀ i, i < l.length → l.getD i 0 ≠ v) : inB l v = false := by
  rw [← Bool.not_eq_true, inB_iff]; rintro ⟨i, hi, e⟩; exact h i hi e

/-- Number i of a list that is to rise. -/
def risAt (l : List Int) (n : Int) (i : Nat) : Bool := decide (0 ≤ l.getD i 0 ∧ l.getD i 0 < n ∧ (i = 0 ∨ l.getD (i - 1) 0 < l.getD i 0))
def risB (l : List Int) (n : Int) : Bool := (List.range l.length).all (risAt l n)

def crossB (cut : List Int) (back : Bool) (a : A5) : Bool := if back then !inB cut a.fr && inB cut a.to else inB cut a.fr && !inB cut a.to
def lowsTo (es : List A5) (cut : List Int) (back : Bool) : Nat → Int
  | 0 => 0
  | k + 1 => lowsTo es cut back k + if crossB cut back (es.getD k zA) = true then (es.getD k zA).lo else 0
def capsTo (es : List A5) (cut : List Int) (back : Bool) : Nat → Int
  | 0 => 0
  | k + 1 => capsTo es cut back k + if crossB cut back (es.getD k zA) = true ∧ (es.getD k zA).cap ≠ -1 then (es.getD k zA).cap else 0
def openTo (es : List A5) (cut : List Int) (back : Bool) : Nat → Bool
  | 0 => false
  | k + 1 => openTo es cut back k || (crossB cut back (es.getD k zA) && ((es.getD k zA).cap == -1))
def needTo (xs : List Int) (cut : List Int) : Nat → Int
  | 0 => 0
  | k + 1 => needTo xs cut k + xs.getD (cut.getD k 0).toNat 0
def violB (xs : List Int) (es : List A5) (cut : List Int) : Bool :=
  (!openTo es cut false es.length && decide (capsTo es cut false es.length - lowsTo es cut true es.length < needTo xs cut cut.length)) ||
  (!openTo es cut true es.length && decide (needTo xs cut cut.length < lowsTo es cut false es.length - capsTo es cut true es.length))

/-- The arc that number i of a list names. -/
def arcOf (es : List A5) (l : List Int) (i : Nat) : A5 := es.getD (l.getD i 0).toNat zA
def onceAt (m : Nat) (l : List Int) (i : Nat) : Bool := decide (0 ≤ l.getD i 0 ∧ l.getD i 0 < m) && !inB (l.take i) (l.getD i 0)
def unlAt (es : List A5) (l : List Int) (i : Nat) : Bool := (arcOf es l i).cap == -1
def nextAt (es : List A5) (l : List Int) (i : Nat) : Bool := (arcOf es l i).to == (arcOf es l ((i + 1) % l.length)).fr
def circTo (es : List A5) (l : List Int) : Nat → Int
  | 0 => 0
  | k + 1 => circTo es l k + (arcOf es l k).cost
def onceB (m : Nat) (l : List Int) : Bool := (List.range l.length).all (onceAt m l)
def unlB (es : List A5) (l : List Int) : Bool := (List.range l.length).all (unlAt es l)
def nextB (es : List A5) (l : List Int) : Bool := (List.range l.length).all (nextAt es l)
def goodB (es : List A5) (l : List Int) : Bool := onceB es.length l && unlB es l && nextB es l && decide (0 < l.length) && decide (circTo es l l.length < 0)

def potAt (p : List Int) (k : Nat) : Bool := decide (-1000000 ≤ p.getD k 0 ∧ p.getD k 0 ≤ 1000000)
def potB (p : List Int) : Bool := (List.range p.length).all (potAt p)
def driftAt (es : List A5) (p : List Int) (i : Nat) : Int := (es.getD i zA).cost + p.getD (es.getD i zA).fr.toNat 0 - p.getD (es.getD i zA).to.toNat 0
def heldB (a : A5) (d x : Int) : Bool := decide ((0 < d → x = a.lo) ∧ (d < 0 → a.cap ≠ -1 ∧ x = a.cap))
def heldAt (es : List A5) (fl p : List Int) (i : Nat) : Bool := heldB (es.getD i zA) (driftAt es p i) (fl.getD i 0)
def holdB (es : List A5) (fl p : List Int) : Bool := (List.range es.length).all (heldAt es fl p)
def holdsB (xs : List Int) (es : List A5) (fl p : List Int) : Bool := decide (p.length = xs.length) && potB p && holdB es fl p

/-- An answer as plain data. -/
structure A6 where
  kind : Int
  cost : Int
  flow : List Int
  pots : List Int
  cut : List Int
  circ : List Int

def bestB (xs : List Int) (es : List A5) (a : A6) : Bool :=
  decide (flowErr xs es a.flow = 0) && decide (costTo es a.flow es.length = a.cost) && decide (a.cut.length = 0) && decide (a.circ.length = 0) && holdsB xs es a.flow a.pots
def noneB (xs : List Int) (es : List A5) (a : A6) : Bool :=
  risB a.cut xs.length && decide (a.cost = 0) && decide (a.flow.length = 0) && decide (a.pots.length = 0) && decide (a.circ.length = 0) && violB xs es a.cut
def endB (xs : List Int) (es : List A5) (a : A6) : Bool :=
  decide (flowErr xs es a.flow = 0) && decide (a.cost = 0) && decide (a.pots.length = 0) && decide (a.cut.length = 0) && goodB es a.circ
def okB (xs : List Int) (es : List A5) (a : A6) : Bool :=
  if a.kind = 1 then bestB xs es a else if a.kind = 2 then noneB xs es a else if a.kind = 3 then endB xs es a else false
/-- Accept's answer. -/
def accS (xs : List Int) (es : List A5) (a : A6) : Bool × Int :=
  if (checkS xs es).1 ≠ 0 then (false, (checkS xs es).1) else (okB xs es a, 0)

/-! ### bounds -/
theorem lows_bd {xs : List Int} {es : List A5} (hn : NetOK xs es) (cut : List Int) (back : Bool) (k : Nat) (hk : k ≤ es.length) : 0 ≤ lowsTo es cut back k ∧ lowsTo es cut back k ≤ 60 * (k : Int) := by
  induction k with
  | zero => simp [lowsTo]
  | succ k ih =>
    have := ih (by omega)
    have h2 := arcB_out (hn.arc k (by omega))
    simp only [lowsTo]
    split <;> omega
theorem caps_bd {xs : List Int} {es : List A5} (hn : NetOK xs es) (cut : List Int) (back : Bool) (k : Nat) (hk : k ≤ es.length) : 0 ≤ capsTo es cut back k ∧ capsTo es cut back k ≤ 60 * (k : Int) := by
  induction k with
  | zero => simp [capsTo]
  | succ k ih =>
    have := ih (by omega)
    have h2 := arcB_out (hn.arc k (by omega))
    simp only [capsTo]
    split <;> omega
theorem getD_bd {xs : List Int} {es : List A5} (hn : NetOK xs es) (j : Nat) : -100 ≤ xs.getD j 0 ∧ xs.getD j 0 ≤ 100 := by
  by_cases hj : j < xs.length
  · have := of_decide_eq_true (hn.sup j hj); omega
  · simp [List.getD, List.getElem?_eq_none (by omega : xs.length ≤ j)]
theorem need_bd {xs : List Int} {es : List A5} (hn : NetOK xs es) (cut : List Int) (k : Nat) : -(100 * (k : Int)) ≤ needTo xs cut k ∧ needTo xs cut k ≤ 100 * (k : Int) := by
  induction k with
  | zero => simp [needTo]
  | succ k ih =>
    have h2 := getD_bd hn (cut.getD k 0).toNat
    simp only [needTo]
    omega
theorem cost_bd1 {xs : List Int} {es : List A5} (hn : NetOK xs es) (j : Nat) : -50 ≤ (es.getD j zA).cost ∧ (es.getD j zA).cost ≤ 50 := by
  by_cases hj : j < es.length
  · have := arcB_out (hn.arc j hj); omega
  · simp [List.getD, List.getElem?_eq_none (by omega : es.length ≤ j), zA]
theorem circ_bd {xs : List Int} {es : List A5} (hn : NetOK xs es) (l : List Int) (k : Nat) : -(50 * (k : Int)) ≤ circTo es l k ∧ circTo es l k ≤ 50 * (k : Int) := by
  induction k with
  | zero => simp [circTo]
  | succ k ih =>
    have h2 := cost_bd1 hn (l.getD k 0).toNat
    simp only [circTo, arcOf]
    omega
end Go.Proofs.Ytnbccoflcoaoaab

namespace Go.Proofs.Ytnbccoflcoaoaab
open Go.RowKit
set_option linter.unusedSimpArgs false
set_option linter.unusedVariables false

set_option maxHeartbeats 400000 in
theorem gArePotentials_any (a : Option Addr) (n c : Nat) (m : Int) (p : List Int) (w : World) (hl : Ints w a n p) :
    Calls Try.prog 67 #[.int .i64 m, .slice a n c] w fun e w' => e = .returned (.bool (decide ((p.length : Int) = m) && potB p)) ∧ w' = w := by
  have hL : Hid (p.length = n) := hl.len
  have hsm := hl.small
  cases hnm : ((n : Int) != m) with
  | true =>
    have HE : Hid (decide ((p.length : Int) = m) = false) := decide_eq_false (by rw [hL.out]; simpa using hnm)
    go_enter Try.func67, Try.ntmps67
    go_wp2
    go_ret
    exact ⟨ret_b (by rw [HE.out]; rfl), rfl⟩
  | false =>
    have HE : Hid (decide ((p.length : Int) = m) = true) := decide_eq_true (by rw [hL.out]; simpa using hnm)
    go_enter Try.func67, Try.ntmps67
    go_wp2
    go_loop [13] (fun i => ∃ k : Nat, k ≤ n ∧ i = .int .i64 k ∧ Hid (∀ j, j < k → potAt p j = true)) (fun i => n - (intOf i).toNat)
    case atStart => exact ⟨0, Nat.zero_le _, rfl, fun j hj => absurd hj (Nat.not_lt_zero j)⟩
    case round =>
      obtain ⟨k, hk, rfl, hg⟩ := hrel
      by_cases hlt : k < n
      · obtain ⟨b, off, x, rfl, hX, hb, ex⟩ := hl.get hlt
        have HX := hide hX
        clear hX
        have hlt3 : (k : Int) < (n : Int) := by omega
        by_cases hbd : -1000000 ≤ x ∧ x ≤ 1000000
        · obtain ⟨hb1, hb2⟩ := hbd
          go_wp2
          refine ⟨⟨k + 1, by omega, by go_num, ?_⟩, by simp [intOf]; omega⟩
          intro j hj
          by_cases hjk : j = k
          · subst hjk; unfold potAt; rw [HX.out]; exact decide_eq_true ⟨hb1, hb2⟩
          · exact hg.out j (by omega)
        · have HF : Hid (potB p = false) := all_f (k := k) (by rw [hL.out]; exact hlt) (by unfold potAt; rw [HX.out]; exact decide_eq_false hbd)
          go_wp2
          all_goals first
            | (go_ret
               exact ⟨ret_b (by rw [HF.out, Bool.and_false]), rfl⟩)
            | (exfalso; omega)
      · have hkn : k = n := by omega
        subst hkn
        go_wp2
        go_ret
        exact ⟨ret_b (by rw [HE.out]; exact (all_t (by rw [hL.out]; exact hg.out)).symm), rfl⟩

set_option maxHeartbeats 400000 in
theorem gIsCut_any (a : Option Addr) (n c : Nat) (m : Int) (l : List Int) (w : World) (hl : Ints w a n l) :
    Calls Try.prog 69 #[.int .i64 m, .slice a n c] w fun e w' => e = .returned (.bool (risB l m)) ∧ w' = w := by
  have hL : Hid (l.length = n) := hl.len
  have hsm := hl.small
  go_enter Try.func69, Try.ntmps69
  go_wp2
  go_loop [5, 10] (fun ab i => ∃ (k : Nat) (q : Int), k ≤ n ∧ i = .int .i64 k ∧ ab = .int .i64 q ∧ -1 ≤ q ∧ Hid (q = if k = 0 then -1 else l.getD (k - 1) 0) ∧ Hid (∀ j, j < k → risAt l m j = true)) (fun _ i => n - (intOf i).toNat)
  case atStart => exact ⟨0, -1, Nat.zero_le _, rfl, rfl, by omega, rfl, fun j hj => absurd hj (Nat.not_lt_zero j)⟩
  case round =>
    obtain ⟨k, q, hk, rfl, rfl, hq1, hq, hg⟩ := hrel
    by_cases hlt : k < n
    · obtain ⟨b, off, x, rfl, hX, hb, ex⟩ := hl.get hlt
      have HX := hide hX
      clear hX
      have hlt3 : (k : Int) < (n : Int) := by omega
      by_cases hok : q < x ∧ x < m
      · obtain ⟨h1, h2⟩ := hok
        go_wp2
        refine ⟨⟨k + 1, x, by omega, by go_num, rfl, by omega, ?_, ?_⟩, by simp [intOf]; omega⟩
        · show x = _
          rw [if_neg (by omega), show k + 1 - 1 = k from by omega]; exact HX.out.symm
        · intro j hj
          by_cases hjk : j = k
          · subst hjk
            refine decide_eq_true ?_
            rw [HX.out]
            have := hq.out
            refine ⟨by omega, h2, ?_⟩
            by_cases h0 : j = 0
            · exact .inl h0
            · right; rw [if_neg h0] at this; omega
          · exact hg.out j (by omega)
      · have HF : Hid (risB l m = false) := all_f (k := k) (by rw [hL.out]; exact hlt) (by
          refine decide_eq_false ?_
          rw [HX.out]
          have := hq.out
          rintro ⟨g1, g2, g3⟩
          by_cases h0 : k = 0
          · rw [if_pos h0] at this; omega
          · rw [if_neg h0] at this; rcases g3 with g3 | g3
            · exact h0 g3
            · omega)
        go_wp2
        all_goals first
          | (go_ret
             exact ⟨ret_b HF.out.symm, rfl⟩)
          | (exfalso; omega)
    · have hkn : k = n := by omega
      subst hkn
      go_wp2
      go_ret
      exact ⟨ret_b (all_t (by rw [hL.out]; exact hg.out)).symm, rfl⟩
end Go.Proofs.Ytnbccoflcoaoaab

namespace Go.Proofs.Ytnbccoflcoaoaab
open Go.RowKit
set_option linter.unusedSimpArgs false
set_option linter.unusedVariables false

/-! ### what crosses a cut -/
theorem ret_iib {a b c d : Int} {x y : Bool} (h : a = b) (k : c = d) (m : x = y) : Ending.returned (.tuple #[.int .i64 a, .int .i64 c, .bool x]) = .returned (.tuple #[.int .i64 b, .int .i64 d, .bool y]) := by rw [h, k, m]
theorem val_b {a b : Bool} (h : a = b) : Value.bool a = .bool b := by rw [h]
theorem lows_step {es : List A5} {cut : List Int} {back : Bool} {k : Nat} {f t l c q : Int} (hA : es.getD k zA = ⟨f, t, l, c, q⟩) {B : Bool} (hB : crossB cut back ⟨f, t, l, c, q⟩ = B) :
    lowsTo es cut back (k + 1) = lowsTo es cut back k + (if B = true then l else 0) ∧ capsTo es cut back (k + 1) = capsTo es cut back k + (if B = true ∧ c ≠ -1 then c else 0) ∧
    openTo es cut back (k + 1) = (openTo es cut back k || (B && (c == -1))) := by
  simp only [lowsTo, capsTo, openTo, hA, hB]; exact ⟨trivial, trivial, trivial⟩

end Go.Proofs.Ytnbccoflcoaoaab

namespace Go.Proofs.Ytnbccoflcoaoaab
open Go.RowKit
set_option linter.unusedSimpArgs false
set_option linter.unusedVariables false

theorem ris_out {l : List Int} {m : Int} (h : risB l m = true) {i : Nat} (hi : i < l.length) : 0 ≤ l.getD i 0 ∧ l.getD i 0 < m := by
  have := of_decide_eq_true (of_all h i hi); omega
theorem nat_of {x : Int} (h : 0 ≤ x) : ∃ v : Nat, x = (v : Int) := ⟨x.toNat, by omega⟩

theorem need_step {xs cut : List Int} {k v : Nat} {y : Int} (hv : cut.getD k 0 = (v : Int)) (hy : xs.getD v 0 = y) : needTo xs cut (k + 1) = needTo xs cut k + y := by
  simp only [needTo, hv, Int.toNat_natCast, hy]

/-- The test of a cut, out of its six numbers. -/
def violV (need lo ca li ci : Int) (oo oi : Bool) : Bool := (!oo && decide (ca - li < need)) || (!oi && decide (need < lo - ci))
theorem violV_eq (xs : List Int) (es : List A5) (cut : List Int) : violB xs es cut = violV (needTo xs cut cut.length) (lowsTo es cut false es.length) (capsTo es cut false es.length) (lowsTo es cut true es.length) (capsTo es cut true es.length) (openTo es cut false es.length) (openTo es cut true es.length) := rfl

end Go.Proofs.Ytnbccoflcoaoaab

namespace Go.Proofs.Ytnbccoflcoaoaab
open Go.RowKit
set_option linter.unusedSimpArgs false
set_option linter.unusedVariables false

theorem heldAt_eq {es : List A5} {fl p : List Int} {k f t : Nat} {l c q x pf pt : Int} (hA : es.getD k zA = ⟨f, t, l, c, q⟩) (hX : fl.getD k 0 = x) (hf : p.getD f 0 = pf) (ht : p.getD t 0 = pt) :
    heldAt es fl p k = heldB ⟨f, t, l, c, q⟩ (q + pf - pt) x := by
  simp only [heldAt, driftAt, hA, hX, Int.toNat_natCast, hf, ht]
theorem pot_out {p : List Int} (h : potB p = true) {i : Nat} (hi : i < p.length) : -1000000 ≤ p.getD i 0 ∧ p.getD i 0 ≤ 1000000 := of_decide_eq_true (of_all h i hi)
theorem heldB_t {a : A5} {d x : Int} (h : (0 < d → x = a.lo) ∧ (d < 0 → a.cap ≠ -1 ∧ x = a.cap)) : heldB a d x = true := decide_eq_true h
theorem heldB_f {a : A5} {d x : Int} (h : ¬ ((0 < d → x = a.lo) ∧ (d < 0 → a.cap ≠ -1 ∧ x = a.cap))) : heldB a d x = false := decide_eq_false h

set_option maxHeartbeats 1000000 in
theorem gHeld_any (f t l c k d x : Int) (w : World) :
    Calls Try.prog 80 #[.agg #[.int .i64 f, .int .i64 t, .int .i64 l, .int .i64 c, .int .i64 k], .int .i64 d, .int .i64 x] w fun e w' => e = .returned (.bool (heldB ⟨f, t, l, c, k⟩ d x)) ∧ Below w.heap.size w w' := by
  go_enter Try.func80, Try.ntmps80
  go_wp2
  all_goals
    go_ret
    refine ⟨ret_b ?_, ?_⟩
    · rw [Bool.eq_iff_iff]
      simp only [heldB, decide_eq_true_eq, Bool.false_eq_true, bne_iff_ne, ne_eq, beq_iff_eq, bne_eq_false_iff_eq, true_or, true_and, and_true, Bool.not_eq_true, Bool.not_eq_false, Bool.not_true, Bool.not_false, beq_eq_false_iff_ne, Bool.and_eq_true, Bool.or_eq_true, Bool.or_eq_false_iff, Bool.and_eq_false_iff, decide_eq_false_iff_not, Bool.not_eq_eq_eq_not] at *
      refine ⟨fun h => ?_, fun h => ?_⟩ <;> first | exact h.elim | omega | trivial | (simp at *; omega)
    · first
      | exact (Below.refl _ _).alloc (Nat.le_refl _) _
      | exact ((Below.refl _ _).alloc (Nat.le_refl _) _).alloc (by simp) _

end Go.Proofs.Ytnbccoflcoaoaab
