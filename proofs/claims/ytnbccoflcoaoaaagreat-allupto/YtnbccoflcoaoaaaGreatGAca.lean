import Derived.Test.YtnbccoflcoaoaaaGreatGFlo
import Derived.Deep.QuietTactic
import Derived.BigQuiet
import Derived.Lib.SmallJoins
namespace Go.Proofs.YtnbccoflcoaoaaaGreat
open Go.RowKit
set_option linter.unusedSimpArgs false
set_option linter.unusedVariables false

/-! ### grounds, as plain functions -/
def inB (l : List Int) (v : Int) : Bool := l.any (fun x => x == v)
theorem inB_iff {l : List Int} {v : Int} : inB l v = true ↔ ∃ i, i < l.length ∧ l.getD i 0 = v := by
  unfold inB
  rw [List.any_eq_true]
  constructor
  · rintro ⟨x, hx, he⟩
    obtain ⟨i, hi, rfl⟩ := mem_of_getD 0 l x hx
    exact ⟨i, hi, by simpa using he⟩
  · rintro ⟨i, hi, rfl⟩
    exact ⟨l.getD i 0, by simp [List.getD, hi], by simp⟩
theorem inB_t {l : List Int} {v : Int} {i : Nat} (hi : i < l.length) (h : l.getD i 0 = v) : inB l v = true := inB_iff.2 ⟨i, hi, h⟩
theorem inB_f {l : List Int} {v : Int} (h : ∀ i, i < l.length → l.getD i 0 ≠ v) : inB l v = false := by
  rw [← Bool.not_eq_true, inB_iff]; rintro ⟨i, hi, e⟩; exact h i hi e

/-- Number i of a list that is to rise. -/
def risAt (l : List Int) (n : Int) (i : Nat) : Bool := decide (0 ≤ l.getD i 0 ∧ l.getD i 0 < n ∧ (i = 0 ∨ l.getD (i - 1) 0 < l.getD i 0))
def risB (l : List Int) (n : Int) : Bool := (List.range l.length).all (risAt l n)

def crossB (cut : List Int) (back : Bool) (a : A5) : Bool := if back then !inB cut a.fr && inB cut a.to else inB cut a.fr && !inB cut a.to
def lowsTo (es : List A5) (cut : List Int) (back : Bool) : Nat → Int
  | 0 => 0
  | k + 1 => lowsTo es cut back k + if crossB cut back (es.getD k zA) = true then (es.getD k zA).lo else 0
def capsTo (es : List A5) (cut : List Int) (back : Bool) : Nat → Int
  | 0 => 0
  | k + 1 => capsTo es cut back k + if crossB cut back (es.getD k zA) = true ∧ (es.getD k zA).cap ≠ -1 then (es.getD k zA).cap else 0
def openTo (es : List A5) (cut : List Int) (back : Bool) : Nat → Bool
  | 0 => false
  | k + 1 => openTo es cut back k || (crossB cut back (es.getD k zA) && ((es.getD k zA).cap == -1))
def needTo (xs : List Int) (cut : List Int) : Nat → Int
  | 0 => 0
  | k + 1 => needTo xs cut k + xs.getD (cut.getD k 0).toNat 0
def violB (xs : List Int) (es : List A5) (cut : List Int) : Bool :=
  (!openTo es cut false es.length && decide (capsTo es cut false es.length - lowsTo es cut true es.length < needTo xs cut cut.length)) ||
  (!openTo es cut true es.length && decide (needTo xs cut cut.length < lowsTo es cut false es.length - capsTo es cut true es.length))

/-- The arc that number i of a list names. -/
def arcOf (es : List A5) (l : List Int) (i : Nat) : A5 := es.getD (l.getD i 0).toNat zA
def onceAt (m : Nat) (l : List Int) (i : Nat) : Bool := decide (0 ≤ l.getD i 0 ∧ l.getD i 0 < m) && !inB (l.take i) (l.getD i 0)
def unlAt (es : List A5) (l : List Int) (i : Nat) : Bool := (arcOf es l i).cap == -1
def nextAt (es : List A5) (l : List Int) (i : Nat) : Bool := (arcOf es l i).to == (arcOf es l ((i + 1) % l.length)).fr
def circTo (es : List A5) (l : List Int) : Nat → Int
  | 0 => 0
  | k + 1 => circTo es l k + (arcOf es l k).cost
def onceB (m : Nat) (l : List Int) : Bool := (List.range l.length).all (onceAt m l)
def unlB (es : List A5) (l : List Int) : Bool := (List.range l.length).all (unlAt es l)
def nextB (es : List A5) (l : List Int) : Bool := (List.range l.length).all (nextAt es l)
def goodB (es : List A5) (l : List Int) : Bool := onceB es.length l && unlB es l && nextB es l && decide (0 < l.length) && decide (circTo es l l.length < 0)

def potAt (p : List Int) (k : Nat) : Bool := decide (-1000000 ≤ p.getD k 0 ∧ p.getD k 0 ≤ 1000000)
def potB (p : List Int) : Bool := (List.range p.length).all (potAt p)
def driftAt (es : List A5) (p : List Int) (i : Nat) : Int := (es.getD i zA).cost + p.getD (es.getD i zA).fr.toNat 0 - p.getD (es.getD i zA).to.toNat 0
def heldB (a : A5) (d x : Int) : Bool := decide ((0 < d → x = a.lo) ∧ (d < 0 → a.cap ≠ -1 ∧ x = a.cap))
def heldAt (es : List A5) (fl p : List Int) (i : Nat) : Bool := heldB (es.getD i zA) (driftAt es p i) (fl.getD i 0)
def holdB (es : List A5) (fl p : List Int) : Bool := (List.range es.length).all (heldAt es fl p)
def holdsB (xs : List Int) (es : List A5) (fl p : List Int) : Bool := decide (p.length = xs.length) && potB p && holdB es fl p

/-- An answer as plain data. -/
structure A6 where
  kind : Int
  cost : Int
  flow : List Int
  pots : List Int
  cut : List Int
  circ : List Int

def bestB (xs : List Int) (es : List A5) (a : A6) : Bool :=
  decide (flowErr xs es a.flow = 0) && decide (costTo es a.flow es.length = a.cost) && decide (a.cut.length = 0) && decide (a.circ.length = 0) && holdsB xs es a.flow a.pots
def noneB (xs : List Int) (es : List A5) (a : A6) : Bool :=
  risB a.cut xs.length && decide (a.cost = 0) && decide (a.flow.length = 0) && decide (a.pots.length = 0) && decide (a.circ.length = 0) && violB xs es a.cut
def endB (xs : List Int) (es : List A5) (a : A6) : Bool :=
  decide (flowErr xs es a.flow = 0) && decide (a.cost = 0) && decide (a.pots.length = 0) && decide (a.cut.length = 0) && goodB es a.circ
def okB (xs : List Int) (es : List A5) (a : A6) : Bool :=
  if a.kind = 1 then bestB xs es a else if a.kind = 2 then noneB xs es a else if a.kind = 3 then endB xs es a else false
/-- Accept's answer. -/
def accS (xs : List Int) (es : List A5) (a : A6) : Bool × Int :=
  if (checkS xs es).1 ≠ 0 then (false, (checkS xs es).1) else (okB xs es a, 0)

/-! ### bounds -/
theorem lows_bd {xs : List Int} {es : List A5} (hn : NetOK xs es) (cut : List Int) (back : Bool) (k : Nat) (hk : k ≤ es.length) : 0 ≤ lowsTo es cut back k ∧ lowsTo es cut back k ≤ 60 * (k : Int) := by
  induction k with
  | zero => simp [lowsTo]
  | succ k ih =>
    have := ih (by omega)
    have h2 := arcB_out (hn.arc k (by omega))
    simp only [lowsTo]
    split <;> omega
theorem caps_bd {xs : List Int} {es : List A5} (hn : NetOK xs es) (cut : List Int) (back : Bool) (k : Nat) (hk : k ≤ es.length) : 0 ≤ capsTo es cut back k ∧ capsTo es cut back k ≤ 60 * (k : Int) := by
  induction k with
  | zero => simp [capsTo]
  | succ k ih =>
    have := ih (by omega)
    have h2 := arcB_out (hn.arc k (by omega))
    simp only [capsTo]
    split <;> omega
theorem getD_bd {xs : List Int} {es : List A5} (hn : NetOK xs es) (j : Nat) : -100 ≤ xs.getD j 0 ∧ xs.getD j 0 ≤ 100 := by
  by_cases hj : j < xs.length
  · have := of_decide_eq_true (hn.sup j hj); omega
  · simp [List.getD, List.getElem?_eq_none (by omega : xs.length ≤ j)]
theorem need_bd {xs : List Int} {es : List A5} (hn : NetOK xs es) (cut : List Int) (k : Nat) : -(100 * (k : Int)) ≤ needTo xs cut k ∧ needTo xs cut k ≤ 100 * (k : Int) := by
  induction k with
  | zero => simp [needTo]
  | succ k ih =>
    have h2 := getD_bd hn (cut.getD k 0).toNat
    simp only [needTo]
    omega
theorem cost_bd1 {xs : List Int} {es : List A5} (hn : NetOK xs es) (j : Nat) : -50 ≤ (es.getD j zA).cost ∧ (es.getD j zA).cost ≤ 50 := by
  by_cases hj : j < es.length
  · have := arcB_out (hn.arc j hj); omega
  · simp [List.getD, List.getElem?_eq_none (by omega : es.length ≤ j), zA]
theorem circ_bd {xs : List Int} {es : List A5} (hn : NetOK xs es) (l : List Int) (k : Nat) : -(50 * (k : Int)) ≤ circTo es l k ∧ circTo es l k ≤ 50 * (k : Int) := by
  induction k with
  | zero => simp [circTo]
  | succ k ih =>
    have h2 := cost_bd1 hn (l.getD k 0).toNat
    simp only [circTo, arcOf]
    omega
end Go.Proofs.YtnbccoflcoaoaaaGreat

namespace Go.Proofs.YtnbccoflcoaoaaaGreat
open Go.RowKit
set_option linter.unusedSimpArgs false
set_option linter.unusedVariables false

set_option maxHeartbeats 400000 in
theorem refIn_any (a : Option Addr) (n c : Nat) (v : Int) (l : List Int) (w : World) (hl : Ints w a n l) :
    Calls Tryz.prog 60 #[.slice a n c, .int .i64 v] w fun e w' => e = .returned (.bool (inB l v)) ∧ w' = w := by
  have hL : Hid (l.length = n) := hl.len
  have hsm := hl.small
  go_enter Tryz.func60, Tryz.ntmps60
  go_wp2
  go_loop [5] (fun i => ∃ k : Nat, k ≤ n ∧ i = .int .i64 k ∧ Hid (∀ j, j < k → l.getD j 0 ≠ v)) (fun i => n - (intOf i).toNat)
  case atStart => exact ⟨0, Nat.zero_le _, rfl, fun j hj => absurd hj (Nat.not_lt_zero j)⟩
  case round =>
    obtain ⟨k, hk, rfl, hg⟩ := hrel
    by_cases hlt : k < n
    · obtain ⟨b, off, x, rfl, hX, hb, ex⟩ := hl.get hlt
      have HX := hide hX
      clear hX
      have hlt3 : (k : Int) < (n : Int) := by omega
      cases hd : (x == v) with
      | true =>
        go_wp2
        go_ret
        exact ⟨ret_b (inB_t (i := k) (by rw [hL.out]; exact hlt) (by rw [HX.out]; simpa using hd)).symm, rfl⟩
      | false =>
        go_wp2
        refine ⟨⟨k + 1, by omega, by go_num, ?_⟩, by simp [intOf]; omega⟩
        intro j hj
        by_cases hjk : j = k
        · subst hjk; rw [HX.out]; simpa using hd
        · exact hg.out j (by omega)
    · have hkn : k = n := by omega
      subst hkn
      go_wp2
      go_ret
      exact ⟨ret_b (inB_f (by rw [hL.out]; exact hg.out)).symm, rfl⟩

set_option maxHeartbeats 400000 in
theorem gArePotentials_any (a : Option Addr) (n c : Nat) (m : Int) (p : List Int) (w : World) (hl : Ints w a n p) :
    Calls Tryz.prog 96 #[.int .i64 m, .slice a n c] w fun e w' => e = .returned (.bool (decide ((p.length : Int) = m) && potB p)) ∧ w' = w := by
  have hL : Hid (p.length = n) := hl.len
  have hsm := hl.small
  cases hnm : ((n : Int) != m) with
  | true =>
    have HE : Hid (decide ((p.length : Int) = m) = false) := decide_eq_false (by rw [hL.out]; simpa using hnm)
    go_enter Tryz.func96, Tryz.ntmps96
    go_wp2
    go_ret
    exact ⟨ret_b (by rw [HE.out]; rfl), rfl⟩
  | false =>
    have HE : Hid (decide ((p.length : Int) = m) = true) := decide_eq_true (by rw [hL.out]; simpa using hnm)
    go_enter Tryz.func96, Tryz.ntmps96
    go_wp2
    go_loop [13] (fun i => ∃ k : Nat, k ≤ n ∧ i = .int .i64 k ∧ Hid (∀ j, j < k → potAt p j = true)) (fun i => n - (intOf i).toNat)
    case atStart => exact ⟨0, Nat.zero_le _, rfl, fun j hj => absurd hj (Nat.not_lt_zero j)⟩
    case round =>
      obtain ⟨k, hk, rfl, hg⟩ := hrel
      by_cases hlt : k < n
      · obtain ⟨b, off, x, rfl, hX, hb, ex⟩ := hl.get hlt
        have HX := hide hX
        clear hX
        have hlt3 : (k : Int) < (n : Int) := by omega
        by_cases hbd : -1000000 ≤ x ∧ x ≤ 1000000
        · obtain ⟨hb1, hb2⟩ := hbd
          go_wp2
          refine ⟨⟨k + 1, by omega, by go_num, ?_⟩, by simp [intOf]; omega⟩
          intro j hj
          by_cases hjk : j = k
          · subst hjk; unfold potAt; rw [HX.out]; exact decide_eq_true ⟨hb1, hb2⟩
          · exact hg.out j (by omega)
        · have HF : Hid (potB p = false) := all_f (k := k) (by rw [hL.out]; exact hlt) (by unfold potAt; rw [HX.out]; exact decide_eq_false hbd)
          go_wp2
          all_goals first
            | (go_ret
               exact ⟨ret_b (by rw [HF.out, Bool.and_false]), rfl⟩)
            | (exfalso; omega)
      · have hkn : k = n := by omega
        subst hkn
        go_wp2
        go_ret
        exact ⟨ret_b (by rw [HE.out]; exact (all_t (by rw [hL.out]; exact hg.out)).symm), rfl⟩

set_option maxHeartbeats 400000 in
theorem gIsCut_any (a : Option Addr) (n c : Nat) (m : Int) (l : List Int) (w : World) (hl : Ints w a n l) :
    Calls Tryz.prog 98 #[.int .i64 m, .slice a n c] w fun e w' => e = .returned (.bool (risB l m)) ∧ w' = w := by
  have hL : Hid (l.length = n) := hl.len
  have hsm := hl.small
  go_enter Tryz.func98, Tryz.ntmps98
  go_wp2
  go_loop [5, 10] (fun ab i => ∃ (k : Nat) (q : Int), k ≤ n ∧ i = .int .i64 k ∧ ab = .int .i64 q ∧ -1 ≤ q ∧ Hid (q = if k = 0 then -1 else l.getD (k - 1) 0) ∧ Hid (∀ j, j < k → risAt l m j = true)) (fun _ i => n - (intOf i).toNat)
  case atStart => exact ⟨0, -1, Nat.zero_le _, rfl, rfl, by omega, rfl, fun j hj => absurd hj (Nat.not_lt_zero j)⟩
  case round =>
    obtain ⟨k, q, hk, rfl, rfl, hq1, hq, hg⟩ := hrel
    by_cases hlt : k < n
    · obtain ⟨b, off, x, rfl, hX, hb, ex⟩ := hl.get hlt
      have HX := hide hX
      clear hX
      have hlt3 : (k : Int) < (n : Int) := by omega
      by_cases hok : q < x ∧ x < m
      · obtain ⟨h1, h2⟩ := hok
        go_wp2
        refine ⟨⟨k + 1, x, by omega, by go_num, rfl, by omega, ?_, ?_⟩, by simp [intOf]; omega⟩
        · show x = _
          rw [if_neg (by omega), show k + 1 - 1 = k from by omega]; exact HX.out.symm
        · intro j hj
          by_cases hjk : j = k
          · subst hjk
            refine decide_eq_true ?_
            rw [HX.out]
            have := hq.out
            refine ⟨by omega, h2, ?_⟩
            by_cases h0 : j = 0
            · exact .inl h0
            · right; rw [if_neg h0] at this; omega
          · exact hg.out j (by omega)
      · have HF : Hid (risB l m = false) := all_f (k := k) (by rw [hL.out]; exact hlt) (by
          refine decide_eq_false ?_
          rw [HX.out]
          have := hq.out
          rintro ⟨g1, g2, g3⟩
          by_cases h0 : k = 0
          · rw [if_pos h0] at this; omega
          · rw [if_neg h0] at this; rcases g3 with g3 | g3
            · exact h0 g3
            · omega)
        go_wp2
        all_goals first
          | (go_ret
             exact ⟨ret_b HF.out.symm, rfl⟩)
          | (exfalso; omega)
    · have hkn : k = n := by omega
      subst hkn
      go_wp2
      go_ret
      exact ⟨ret_b (all_t (by rw [hL.out]; exact hg.out)).symm, rfl⟩
end Go.Proofs.YtnbccoflcoaoaaaGreat

namespace Go.Proofs.YtnbccoflcoaoaaaGreat
open Go.RowKit
set_option linter.unusedSimpArgs false
set_option linter.unusedVariables false

set_option maxHeartbeats 1000000 in
theorem refRising_any (a : Option Addr) (n c : Nat) (m : Int) (l : List Int) (w : World) (hl : Ints w a n l) :
    Calls Tryz.prog 43 #[.slice a n c, .int .i64 m] w fun e w' => e = .returned (.bool (risB l m)) ∧ Below w.heap.size w w' := by
  have hL : Hid (l.length = n) := hl.len
  have hsm := hl.small
  go_enter Tryz.func43, Tryz.ntmps43
  go_wp2
  go_loopw [5] (fun i wr => ∃ k : Nat, k ≤ n ∧ i = .int .i64 k ∧ Hid (∀ j, j < k → risAt l m j = true) ∧ Below w.heap.size w wr) (fun i _ => n - (intOf i).toNat)
  case atStart => exact ⟨0, Nat.zero_le _, rfl, fun j hj => absurd hj (Nat.not_lt_zero j), Below.refl _ _⟩
  case round =>
    obtain ⟨k, hk, rfl, hg, hbel⟩ := hrel
    by_cases hlt : k < n
    · obtain ⟨b, off, x, rfl, hX, hb, ex⟩ := (hl.below hbel).get hlt
      have HX := hide hX
      clear hX
      have hlt3 : (k : Int) < (n : Int) := by omega
      have bad : ¬ (0 ≤ x ∧ x < m ∧ (k = 0 ∨ l.getD (k - 1) 0 < x)) → Hid (risB l m = false) := fun h =>
        all_f (k := k) (by rw [hL.out]; exact hlt) (by refine decide_eq_false ?_; rw [HX.out]; exact h)
      have good : (0 ≤ x ∧ x < m ∧ (k = 0 ∨ l.getD (k - 1) 0 < x)) → Hid (∀ j, j < k + 1 → risAt l m j = true) := by
        intro h j hj
        by_cases hjk : j = k
        · subst hjk; refine decide_eq_true ?_; rw [HX.out]; exact h
        · exact hg.out j (by omega)
      by_cases h1 : x < 0
      · have HF := bad (by omega)
        clear bad good
        go_wp2
        go_quiet (fail)
        go_wp2
        go_ret
        exact ⟨ret_b HF.out.symm, hbel.trans (Joins.below_draws _ _ _)⟩
      have d1 : decide (x < 0) = false := by simpa using h1
      by_cases h2 : m ≤ x
      · have HF := bad (by omega)
        clear bad good
        go_wp2
        go_quiet (fail)
        go_wp2
        go_ret
        exact ⟨ret_b HF.out.symm, hbel.trans (Joins.below_draws _ _ _)⟩
      have d2 : decide (m ≤ x) = false := by simpa using h2
      cases k with
      | zero =>
        have HG := good (by omega)
        rw [Nat.add_zero] at ex
        clear bad good
        go_wp2
        go_quiet (fail)
        go_wp2
        exact ⟨⟨1, by omega, by go_num, HG.out, hbel.trans (Joins.below_draws _ _ _)⟩, by simp [intOf]; omega⟩
      | succ k =>
        have hp3 : (0 : Int) < (k : Int) + 1 := by omega
        obtain ⟨b2, off2, y, e2, hY, hb2, ey⟩ := (hl.below hbel).get (show k < n by omega)
        obtain ⟨rfl, rfl⟩ : b = b2 ∧ off = off2 := by simpa using e2
        rw [show k + 1 - 1 = k from by omega, hY] at bad good
        clear e2 hY
        by_cases h4 : x ≤ y
        · have HF := bad (by omega)
          clear bad good
          go_wp2
          go_quiet (fail)
          go_wp2
          go_ret
          exact ⟨ret_b HF.out.symm, hbel.trans (Joins.below_draws _ _ _)⟩
        · have d4 : decide (x ≤ y) = false := by simpa using h4
          have HG := good (by omega)
          clear bad good
          go_wp2
          go_quiet (fail)
          go_wp2
          exact ⟨⟨k + 1 + 1, by omega, by go_num, HG.out, hbel.trans (Joins.below_draws _ _ _)⟩, by simp [intOf]; omega⟩
    · have hkn : k = n := by omega
      subst hkn
      go_wp2
      go_ret
      exact ⟨ret_b (all_t (by rw [hL.out]; exact hg.out)).symm, hbel⟩

/-! ### what crosses a cut -/
theorem ret_iib {a b c d : Int} {x y : Bool} (h : a = b) (k : c = d) (m : x = y) : Ending.returned (.tuple #[.int .i64 a, .int .i64 c, .bool x]) = .returned (.tuple #[.int .i64 b, .int .i64 d, .bool y]) := by rw [h, k, m]
theorem val_b {a b : Bool} (h : a = b) : Value.bool a = .bool b := by rw [h]
theorem lows_step {es : List A5} {cut : List Int} {back : Bool} {k : Nat} {f t l c q : Int} (hA : es.getD k zA = ⟨f, t, l, c, q⟩) {B : Bool} (hB : crossB cut back ⟨f, t, l, c, q⟩ = B) :
    lowsTo es cut back (k + 1) = lowsTo es cut back k + (if B = true then l else 0) ∧ capsTo es cut back (k + 1) = capsTo es cut back k + (if B = true ∧ c ≠ -1 then c else 0) ∧
    openTo es cut back (k + 1) = (openTo es cut back k || (B && (c == -1))) := by
  simp only [lowsTo, capsTo, openTo, hA, hB]; exact ⟨trivial, trivial, trivial⟩

set_option maxHeartbeats 1000000 in
theorem refTolls_any (sa aa ca : Option Addr) (sn sc an ac cn cc : Nat) (xs : List Int) (es : List A5) (cut : List Int) (back : Bool) (w : World) (he : Arcs w aa an es) (hc : Ints w ca cn cut) (hn : NetOK xs es) :
    Calls Tryz.prog 59 #[.agg #[.slice sa sn sc, .slice aa an ac], .slice ca cn cc, .bool back] w fun e w' =>
      e = .returned (.tuple #[.int .i64 (lowsTo es cut back es.length), .int .i64 (capsTo es cut back es.length), .bool (openTo es cut back es.length)]) ∧ Below w.heap.size w w' := by
  have hL : Hid (es.length = an) := he.len
  have hN := hide hn
  have h24 : an ≤ 24 := by rw [← he.len]; exact hn.arcs
  clear hn
  go_enter Tryz.func59, Tryz.ntmps59
  go_wp2
  go_loopw [9, 10, 11, 12] (fun lo ca op i wr => ∃ k : Nat, k ≤ an ∧ i = .int .i64 k ∧ lo = .int .i64 (lowsTo es cut back k) ∧ ca = .int .i64 (capsTo es cut back k) ∧ op = .bool (openTo es cut back k) ∧ wr.cell? ⟨w.heap.size, 1, none⟩ = some (.slice aa an ac) ∧ Below w.heap.size w wr ∧ w.heap.size < wr.heap.size) (fun _ _ _ i _ => an - (intOf i).toNat)
  case atStart => exact ⟨0, Nat.zero_le _, rfl, rfl, rfl, rfl, by simp, (Below.refl _ _).alloc (Nat.le_refl _) _, by simp⟩
  case round =>
    obtain ⟨k, hk, rfl, rfl, rfl, rfl, c1, hbel, hsize⟩ := hrel
    by_cases hlt : k < an
    · have bl := lows_bd hN.out cut back k (by rw [hL.out]; exact hk)
      have bc := caps_bd hN.out cut back k (by rw [hL.out]; exact hk)
      have ba := arcB_out (hN.out.arc k (by rw [hL.out]; exact hlt))
      obtain ⟨b, off, f, t, l, c, q, rfl, hA, hb, e0, e1, e2, e3, e4⟩ := (he.below hbel).get hlt
      rw [hA] at ba
      simp only [] at ba
      obtain ⟨-, -, -, -, ba1, ba2, ba3, -, -⟩ := ba
      obtain ⟨B, hB⟩ : ∃ B, crossB cut back ⟨f, t, l, c, q⟩ = B := ⟨_, rfl⟩
      have HS := hide (lows_step hA hB)
      unfold crossB at hB
      clear hA
      generalize lowsTo es cut back k = LO at *
      generalize capsTo es cut back k = CA at *
      generalize openTo es cut back k = OP at *
      have hlt3 : (k : Int) < (an : Int) := by omega
      go_wp2_with fail
      refine (refIn_any ca cn cc f cut _ (hc.below (hbel.alloc hbel.size _))).mono ?_
      rintro e w1 ⟨rfl, rfl⟩
      go_wp2_with fail
      refine (refIn_any ca cn cc t cut _ (hc.below (hbel.alloc hbel.size _))).mono ?_
      rintro e w1 ⟨rfl, rfl⟩
      generalize inB cut f = F at *
      generalize inB cut t = T at *
      have c1' : (wr.alloc (.cells #[.int .i64 f, .int .i64 t, .int .i64 l, .int .i64 c, .int .i64 q] 67)).cell? ⟨w.heap.size, 1, none⟩ = some (.slice (some ⟨b, off, none⟩) an ac) := (World.cell?_alloc_lt _ _ _ hsize).trans c1
      clear e0 e1 e2 e3 e4 c1
      have HR : Hid (B = if back = true then !F && T else F && !T) := hB.symm
      clear hB
      cases hcc : (c == -1) <;> cases back <;> cases F <;> cases T <;> go_wp2
      all_goals
        obtain ⟨g1, g2, g3⟩ := HS.out
        have hB := HR.out
        simp at hB
        subst hB
        simp at hcc
        refine ⟨⟨k + 1, by omega, by go_num, val_i ?_, val_i ?_, val_b ?_, c1', hbel.alloc hbel.size _, by simp; omega⟩, by simp [intOf]; omega⟩
        · rw [g1]; simp
        · rw [g2]; simp [hcc]
        · rw [g3]; simp [hcc]
    · have hkn : k = an := by omega
      subst hkn
      go_wp2
      go_ret3
      exact ⟨ret_iib (by rw [hL.out]) (by rw [hL.out]) (by rw [hL.out]), hbel⟩
end Go.Proofs.YtnbccoflcoaoaaaGreat

namespace Go.Proofs.YtnbccoflcoaoaaaGreat
open Go.RowKit
set_option linter.unusedSimpArgs false
set_option linter.unusedVariables false

theorem ris_out {l : List Int} {m : Int} (h : risB l m = true) {i : Nat} (hi : i < l.length) : 0 ≤ l.getD i 0 ∧ l.getD i 0 < m := by
  have := of_decide_eq_true (of_all h i hi); omega
theorem nat_of {x : Int} (h : 0 ≤ x) : ∃ v : Nat, x = (v : Int) := ⟨x.toNat, by omega⟩

theorem need_step {xs cut : List Int} {k v : Nat} {y : Int} (hv : cut.getD k 0 = (v : Int)) (hy : xs.getD v 0 = y) : needTo xs cut (k + 1) = needTo xs cut k + y := by
  simp only [needTo, hv, Int.toNat_natCast, hy]

/-- The test of a cut, out of its six numbers. -/
def violV (need lo ca li ci : Int) (oo oi : Bool) : Bool := (!oo && decide (ca - li < need)) || (!oi && decide (need < lo - ci))
theorem violV_eq (xs : List Int) (es : List A5) (cut : List Int) : violB xs es cut = violV (needTo xs cut cut.length) (lowsTo es cut false es.length) (capsTo es cut false es.length) (lowsTo es cut true es.length) (capsTo es cut true es.length) (openTo es cut false es.length) (openTo es cut true es.length) := rfl

set_option maxHeartbeats 1000000 in
theorem refViolated_any (sa aa ca : Option Addr) (sn sc an ac cn cc : Nat) (xs : List Int) (es : List A5) (cut : List Int) (w : World) (hx : Ints w sa sn xs) (he : Arcs w aa an es) (hc : Ints w ca cn cut) (hn : NetOK xs es) (hr : risB cut xs.length = true) :
    Calls Tryz.prog 53 #[.agg #[.slice sa sn sc, .slice aa an ac], .slice ca cn cc] w fun e w' => e = .returned (.bool (violB xs es cut)) ∧ Below w.heap.size w w' := by
  have hL : Hid (xs.length = sn ∧ es.length = an ∧ cut.length = cn) := ⟨hx.len, he.len, hc.len⟩
  have hN := hide hn
  have hR := hide hr
  have hsm := hc.small
  have h24 : an ≤ 24 := by rw [← he.len]; exact hn.arcs
  have h10 : sn ≤ 10 := by rw [← hx.len]; exact hn.ten
  clear hn hr
  go_enter Tryz.func53, Tryz.ntmps53
  go_wp2
  go_loopw [5, 6] (fun v i wr => ∃ k : Nat, k ≤ cn ∧ i = .int .i64 k ∧ v = .int .i64 (needTo xs cut k) ∧ wr.cell? ⟨w.heap.size, 0, none⟩ = some (.slice sa sn sc) ∧ wr.cell? ⟨w.heap.size, 1, none⟩ = some (.slice aa an ac) ∧ Below w.heap.size w wr ∧ w.heap.size < wr.heap.size) (fun _ i _ => cn - (intOf i).toNat)
  case atStart => exact ⟨0, Nat.zero_le _, rfl, rfl, by simp, by simp, (Below.refl _ _).alloc (Nat.le_refl _) _, by simp⟩
  case round =>
    obtain ⟨k, hk, rfl, rfl, c0, c1, hbel, hsize⟩ := hrel
    have bd := need_bd hN.out cut k
    by_cases hlt : k < cn
    · have hri := ris_out hR.out (i := k) (by rw [hL.out.2.2]; exact hlt)
      rw [hL.out.1] at hri
      obtain ⟨b, off, x, rfl, hX, hb, ex⟩ := (hc.below hbel).get hlt
      rw [hX] at hri
      obtain ⟨v, rfl⟩ := nat_of hri.1
      have hvs : v < sn := by omega
      obtain ⟨b', off', y, rfl, hY, hb', ey⟩ := (hx.below hbel).get hvs
      have by1 := getD_bd hN.out v
      rw [hY] at by1
      have HS := hide (need_step hX hY)
      clear hX hY hri
      generalize needTo xs cut k = nd at *
      have hlt3 : (k : Int) < (cn : Int) := by omega
      have hlt4 : (v : Int) < (sn : Int) := by omega
      go_wp2
      go_quiet (fail)
      go_wp2
      exact ⟨⟨k + 1, by omega, by go_num, val_i HS.out.symm, by simpa using c0, by simpa using c1, hbel.trans (Joins.below_draws _ _ _), by simpa using hsize⟩, by simp [intOf]; omega⟩
    · have hkn : k = cn := by omega
      subst hkn
      go_wp2_with fail
      refine (refTolls_any sa aa ca sn sc an ac k cc xs es cut false _ (he.below hbel) (hc.below hbel) hN.out).mono ?_
      rintro e w1 ⟨rfl, hb1⟩
      have l0 := (hb1.cell (p := ⟨w.heap.size, 0, none⟩) hsize).trans c0
      have l1 := (hb1.cell (p := ⟨w.heap.size, 1, none⟩) hsize).trans c1
      have hB1 : Below w.heap.size w w1 := hbel.trans (hb1.mono (by omega))
      have hs1 : w.heap.size < w1.heap.size := by have := hb1.size; omega
      clear c0 c1 hb1
      go_wp2_with fail
      refine (refTolls_any sa aa ca sn sc an ac k cc xs es cut true _ (he.below hB1) (hc.below hB1) hN.out).mono ?_
      rintro e w2 ⟨rfl, hb2⟩
      have hB2 : Below w.heap.size w w2 := hB1.trans (hb2.mono (by omega))
      clear l0 l1 hb2
      have b1 := lows_bd hN.out cut false es.length (Nat.le_refl _)
      have b2 := lows_bd hN.out cut true es.length (Nat.le_refl _)
      have b3 := caps_bd hN.out cut false es.length (Nat.le_refl _)
      have b4 := caps_bd hN.out cut true es.length (Nat.le_refl _)
      have HV := hide (violV_eq xs es cut)
      rw [hL.out.2.2] at HV
      have hl24 : es.length ≤ 24 := hN.out.arcs
      clear hx he hc hN hR hL
      generalize needTo xs cut k = nd at *
      generalize lowsTo es cut false es.length = lo at *
      generalize lowsTo es cut true es.length = li at *
      generalize capsTo es cut false es.length = ca at *
      generalize capsTo es cut true es.length = ci at *
      generalize openTo es cut false es.length = oo at *
      generalize openTo es cut true es.length = oi at *
      cases oo <;> cases oi <;> go_wp2
      all_goals
        go_ret
        refine ⟨ret_b ?_, hB2⟩
        rw [HV.out]
        simp [violV, *]
end Go.Proofs.YtnbccoflcoaoaaaGreat

namespace Go.Proofs.YtnbccoflcoaoaaaGreat
open Go.RowKit
set_option linter.unusedSimpArgs false
set_option linter.unusedVariables false

theorem heldAt_eq {es : List A5} {fl p : List Int} {k f t : Nat} {l c q x pf pt : Int} (hA : es.getD k zA = ⟨f, t, l, c, q⟩) (hX : fl.getD k 0 = x) (hf : p.getD f 0 = pf) (ht : p.getD t 0 = pt) :
    heldAt es fl p k = heldB ⟨f, t, l, c, q⟩ (q + pf - pt) x := by
  simp only [heldAt, driftAt, hA, hX, Int.toNat_natCast, hf, ht]
theorem pot_out {p : List Int} (h : potB p = true) {i : Nat} (hi : i < p.length) : -1000000 ≤ p.getD i 0 ∧ p.getD i 0 ≤ 1000000 := of_decide_eq_true (of_all h i hi)
theorem heldB_t {a : A5} {d x : Int} (h : (0 < d → x = a.lo) ∧ (d < 0 → a.cap ≠ -1 ∧ x = a.cap)) : heldB a d x = true := decide_eq_true h
theorem heldB_f {a : A5} {d x : Int} (h : ¬ ((0 < d → x = a.lo) ∧ (d < 0 → a.cap ≠ -1 ∧ x = a.cap))) : heldB a d x = false := decide_eq_false h

set_option maxHeartbeats 1000000 in
theorem gHeld_any (f t l c k d x : Int) (w : World) :
    Calls Tryz.prog 111 #[.agg #[.int .i64 f, .int .i64 t, .int .i64 l, .int .i64 c, .int .i64 k], .int .i64 d, .int .i64 x] w fun e w' => e = .returned (.bool (heldB ⟨f, t, l, c, k⟩ d x)) ∧ Below w.heap.size w w' := by
  go_enter Tryz.func111, Tryz.ntmps111
  go_wp2
  all_goals
    go_ret
    refine ⟨ret_b ?_, ?_⟩
    · rw [Bool.eq_iff_iff]
      simp only [heldB, decide_eq_true_eq, Bool.false_eq_true, bne_iff_ne, ne_eq, beq_iff_eq, bne_eq_false_iff_eq, true_or, true_and, and_true, Bool.not_eq_true, Bool.not_eq_false, Bool.not_true, Bool.not_false, beq_eq_false_iff_ne, Bool.and_eq_true, Bool.or_eq_true, Bool.or_eq_false_iff, Bool.and_eq_false_iff, decide_eq_false_iff_not, Bool.not_eq_eq_eq_not] at *
      refine ⟨fun h => ?_, fun h => ?_⟩ <;> first | exact h.elim | omega | trivial | (simp at *; omega)
    · first
      | exact (Below.refl _ _).alloc (Nat.le_refl _) _
      | exact ((Below.refl _ _).alloc (Nat.le_refl _) _).alloc (by simp) _

set_option maxHeartbeats 2000000 in
theorem refHolds_any (sa aa fa pa : Option Addr) (sn sc an ac fc pn pc : Nat) (xs : List Int) (es : List A5) (fl p : List Int) (w : World) (hx : Ints w sa sn xs) (he : Arcs w aa an es) (hf : Ints w fa an fl) (hp : Ints w pa pn p) (hn : NetOK xs es) :
    Calls Tryz.prog 74 #[.agg #[.slice sa sn sc, .slice aa an ac], .slice fa an fc, .slice pa pn pc] w fun e w' => e = .returned (.bool (holdsB xs es fl p)) ∧ Below w.heap.size w w' := by
  have hL : Hid (xs.length = sn ∧ es.length = an ∧ p.length = pn) := ⟨hx.len, he.len, hp.len⟩
  have hN := hide hn
  have h24 : an ≤ 24 := by rw [← he.len]; exact hn.arcs
  have h10 : sn ≤ 10 := by rw [← hx.len]; exact hn.ten
  have hps := hp.small
  clear hn
  by_cases hpn : pn = sn
  · subst hpn
    have HE : Hid (decide (p.length = xs.length) = true) := decide_eq_true (by rw [hL.out.1, hL.out.2.2])
    have hne : ((pn : Int) != (pn : Int)) = false := by simp
    go_enter Tryz.func74, Tryz.ntmps74
    go_wp2
    go_loop [7] (fun i => ∃ k : Nat, k ≤ pn ∧ i = .int .i64 k ∧ Hid (∀ j, j < k → potAt p j = true)) (fun i => pn - (intOf i).toNat)
    case atStart => exact ⟨0, Nat.zero_le _, rfl, fun j hj => absurd hj (Nat.not_lt_zero j)⟩
    case round =>
      obtain ⟨k, hk, rfl, hg⟩ := hrel
      by_cases hlt : k < pn
      · obtain ⟨b, off, x, rfl, hX, hb, ex⟩ := hp.get hlt
        have HX := hide hX
        clear hX
        have hlt3 : (k : Int) < (pn : Int) := by omega
        by_cases hbd : -1000000 ≤ x ∧ x ≤ 1000000
        · obtain ⟨hb1, hb2⟩ := hbd
          go_wp2
          refine ⟨⟨k + 1, by omega, by go_num, ?_⟩, by simp [intOf]; omega⟩
          intro j hj
          by_cases hjk : j = k
          · subst hjk; unfold potAt; rw [HX.out]; exact decide_eq_true ⟨hb1, hb2⟩
          · exact hg.out j (by omega)
        · have HF : Hid (potB p = false) := all_f (k := k) (by rw [hL.out.2.2]; exact hlt) (by unfold potAt; rw [HX.out]; exact decide_eq_false hbd)
          go_wp2
          all_goals first
            | (go_ret
               exact ⟨ret_b (by unfold holdsB; rw [HF.out]; simp), (Below.refl _ _).alloc (Nat.le_refl _) _⟩)
            | (exfalso; omega)
      · have hkn : k = pn := by omega
        subst hkn
        have HP : Hid (potB p = true) := all_t (by rw [hL.out.2.2]; exact hg.out)
        clear hg
        go_wp2
        go_loopw [8] (fun i wr => ∃ m : Nat, m ≤ an ∧ i = .int .i64 m ∧ Hid (∀ j, j < m → heldAt es fl p j = true) ∧ wr.cell? ⟨w.heap.size, 1, none⟩ = some (.slice aa an ac) ∧ Below w.heap.size w wr ∧ w.heap.size < wr.heap.size) (fun i _ => an - (intOf i).toNat)
        case atStart => exact ⟨0, Nat.zero_le _, rfl, fun j hj => absurd hj (Nat.not_lt_zero j), by simp, (Below.refl _ _).alloc (Nat.le_refl _) _, by simp⟩
        case round =>
          obtain ⟨m, hm, rfl, hg, c1, hbel, hsize⟩ := hrel
          by_cases hlt : m < an
          · have ba := arcB_out (hN.out.arc m (by rw [hL.out.2.1]; exact hlt))
            rw [hL.out.1] at ba
            obtain ⟨b, off, f, t, l, c, q, rfl, hA, hb, e0, e1, e2, e3, e4⟩ := (he.below hbel).get hlt
            rw [hA] at ba
            simp only [] at ba
            obtain ⟨f, rfl⟩ := nat_of ba.1
            obtain ⟨t, rfl⟩ := nat_of ba.2.2.1
            obtain ⟨-, ba1, -, ba2, -, -, -, ba3, ba4⟩ := ba
            obtain ⟨b', off', x, rfl, hX, hb', ex⟩ := (hf.below hbel).get hlt
            obtain ⟨b2, off2, pf, rfl, hF, hb2, ef⟩ := (hp.below hbel).get (show f < k by omega)
            obtain ⟨b3, off3, pt, e5, hT, hb3, et⟩ := (hp.below hbel).get (show t < k by omega)
            obtain ⟨rfl, rfl⟩ : b2 = b3 ∧ off2 = off3 := by simpa using e5
            have bf := pot_out HP.out (i := f) (by rw [hL.out.2.2]; omega)
            have bt := pot_out HP.out (i := t) (by rw [hL.out.2.2]; omega)
            rw [hF] at bf
            rw [hT] at bt
            have HH := hide (heldAt_eq hA hX hF hT)
            clear hA hX hF hT e5
            have hlt3 : (m : Int) < (an : Int) := by omega
            have hlt4 : (f : Int) < (k : Int) := by omega
            have hlt5 : (t : Int) < (k : Int) := by omega
            have bad : heldB ⟨f, t, l, c, q⟩ (q + pf - pt) x = false → Hid (holdsB xs es fl p = false) := fun h => by
              have : holdB es fl p = false := all_f (k := m) (by rw [hL.out.2.1]; exact hlt) (by rw [HH.out]; exact h)
              show holdsB xs es fl p = false
              unfold holdsB; rw [this]; simp
            have good : heldB ⟨f, t, l, c, q⟩ (q + pf - pt) x = true → Hid (∀ j, j < m + 1 → heldAt es fl p j = true) := by
              intro h j hj
              by_cases hjk : j = m
              · subst hjk; rw [HH.out]; exact h
              · exact hg.out j (by omega)
            go_wp2
            obtain ⟨wa, hwa⟩ : ∃ wa, wr.alloc (.cells #[.int .i64 (f : Int), .int .i64 (t : Int), .int .i64 l, .int .i64 c, .int .i64 q] 67) = wa := ⟨_, rfl⟩
            have c1' : wa.cell? ⟨w.heap.size, 1, none⟩ = some (.slice (some ⟨b, off, none⟩) an ac) := by rw [← hwa]; exact (World.cell?_alloc_lt _ _ _ hsize).trans c1
            have ex' : wa.cell? ⟨b', off' + m, none⟩ = some (.int .i64 x) := by rw [← hwa]; exact (World.cell?_alloc_lt _ _ _ hb').trans ex
            have ef' : wa.cell? ⟨b2, off2 + f, none⟩ = some (.int .i64 pf) := by rw [← hwa]; exact (World.cell?_alloc_lt _ _ _ hb2).trans ef
            have et' : wa.cell? ⟨b2, off2 + t, none⟩ = some (.int .i64 pt) := by rw [← hwa]; exact (World.cell?_alloc_lt _ _ _ hb3).trans et
            have n0 : wa.cell? ⟨wr.heap.size, 0, none⟩ = some (.int .i64 (f : Int)) := by rw [← hwa]; simp
            have n1 : wa.cell? ⟨wr.heap.size, 1, none⟩ = some (.int .i64 (t : Int)) := by rw [← hwa]; simp
            have n2 : wa.cell? ⟨wr.heap.size, 2, none⟩ = some (.int .i64 l) := by rw [← hwa]; simp
            have n3 : wa.cell? ⟨wr.heap.size, 3, none⟩ = some (.int .i64 c) := by rw [← hwa]; simp
            have n4 : wa.cell? ⟨wr.heap.size, 4, none⟩ = some (.int .i64 q) := by rw [← hwa]; simp
            have hba : Below w.heap.size w wa := by rw [← hwa]; exact hbel.alloc hbel.size _
            have hsa : w.heap.size < wa.heap.size := by rw [← hwa]; simp; omega
            rw [hwa]
            clear hwa c1 e0 e1 e2 e3 e4 ex ef et hbel hsize HH hg
            go_quiet (fail)
            go_wp2
            clear ef' et' n0 n1 n4 bf bt ba3 ba4
            have hba' := hba.trans (Joins.below_draws w.heap.size wa nq)
            have c1'' : (wa.drewN nq).cell? ⟨w.heap.size, 1, none⟩ = some (.slice (some ⟨b, off, none⟩) an ac) := by simpa using c1'
            have ex'' : (wa.drewN nq).cell? ⟨b', off' + m, none⟩ = some (.int .i64 x) := by simpa using ex'
            have n2' : (wa.drewN nq).cell? ⟨wr.heap.size, 2, none⟩ = some (.int .i64 l) := by simpa using n2
            have n3' : (wa.drewN nq).cell? ⟨wr.heap.size, 3, none⟩ = some (.int .i64 c) := by simpa using n3
            have hsa' : w.heap.size < (wa.drewN nq).heap.size := by simpa using hsa
            clear c1' ex' n2 n3 hba hsa
            generalize wa.drewN nq = wb at *
            generalize q + pf - pt = d at *
            by_cases h1 : 0 < d
            · have d2 : decide (d < 0) = false := decide_eq_false (by omega)
              cases hxl : (x != l) with
              | true =>
                have HB := bad (heldB_f (by simp at hxl; intro h; exact hxl (h.1 h1)))
                clear bad good
                go_quiet (fail)
                go_wp2
                go_ret
                exact ⟨ret_b HB.out.symm, hba'.trans (Joins.below_draws _ _ _)⟩
              | false =>
                have HG := good (heldB_t (by simp at hxl; exact ⟨fun _ => hxl, fun h => by omega⟩))
                clear bad good
                go_quiet (fail)
                go_wp2
                go_quiet (fail)
                go_wp2
                exact ⟨⟨m + 1, by omega, by go_num, HG.out, by simpa using c1'', hba'.trans (Joins.below_draws _ _ _), by simpa using hsa'⟩, by simp [intOf]; omega⟩
            · have d1 : decide (0 < d) = false := decide_eq_false h1
              by_cases h2 : d < 0
              · cases hcc : (c == -1) with
                | true =>
                  have HB := bad (heldB_f (by simp at hcc; intro h; exact (h.2 h2).1 hcc))
                  clear bad good
                  go_quiet (fail)
                  go_wp2
                  go_quiet (fail)
                  go_wp2
                  go_ret
                  exact ⟨ret_b HB.out.symm, (hba'.trans (Joins.below_draws _ _ _)).trans (Joins.below_draws _ _ _)⟩
                | false =>
                  cases hxc : (x != c) with
                  | true =>
                    have HB := bad (heldB_f (by simp at hxc; intro h; exact hxc (h.2 h2).2))
                    clear bad good
                    go_quiet (fail)
                    go_wp2
                    go_quiet (fail)
                    go_wp2
                    go_ret
                    exact ⟨ret_b HB.out.symm, (hba'.trans (Joins.below_draws _ _ _)).trans (Joins.below_draws _ _ _)⟩
                  | false =>
                    have HG := good (heldB_t (by simp at hxc hcc; exact ⟨fun h => by omega, fun _ => ⟨hcc, hxc⟩⟩))
                    clear bad good
                    go_quiet (fail)
                    go_wp2
                    go_quiet (fail)
                    go_wp2
                    exact ⟨⟨m + 1, by omega, by go_num, HG.out, by simpa using c1'', hba'.trans (Joins.below_draws _ _ _), by simpa using hsa'⟩, by simp [intOf]; omega⟩
              · have d2 : decide (d < 0) = false := decide_eq_false h2
                have HG := good (heldB_t ⟨fun h => by omega, fun h => by omega⟩)
                clear bad good
                go_quiet (fail)
                go_wp2
                go_quiet (fail)
                go_wp2
                exact ⟨⟨m + 1, by omega, by go_num, HG.out, by simpa using c1'', hba'.trans (Joins.below_draws _ _ _), by simpa using hsa'⟩, by simp [intOf]; omega⟩
          · have hkn : m = an := by omega
            subst hkn
            go_wp2
            go_ret
            exact ⟨ret_b (by unfold holdsB; rw [HE.out, HP.out]; exact (all_t (by rw [hL.out.2.1]; exact hg.out)).symm), hbel⟩
  · have hne : ((pn : Int) != (sn : Int)) = true := by simp; omega
    have HE : Hid (decide (p.length = xs.length) = false) := decide_eq_false (by rw [hL.out.1, hL.out.2.2]; exact hpn)
    go_enter Tryz.func74, Tryz.ntmps74
    go_wp2
    go_ret
    exact ⟨ret_b (by unfold holdsB; rw [HE.out]; rfl), (Below.refl _ _).alloc (Nat.le_refl _) _⟩
end Go.Proofs.YtnbccoflcoaoaaaGreat
