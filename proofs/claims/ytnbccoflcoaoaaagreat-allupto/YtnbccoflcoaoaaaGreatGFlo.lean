import Derived.Test.YtnbccoflcoaoaaaGreatGBas
import Derived.Deep.QuietTactic
import Derived.BigQuiet
import Derived.Lib.SmallJoins
namespace Go.Proofs.YtnbccoflcoaoaaaGreat
open Go.RowKit
set_option linter.unusedSimpArgs false
set_option linter.unusedVariables false

/-- Arc k of those that lie in w: its five cells. -/
theorem Arcs.get {w : World} {a : Option Addr} {n : Nat} {es : List A5} (h : Arcs w a n es) {k : Nat} (hk : k < n) :
    ∃ b off f t l c q, a = some ⟨b, off, none⟩ ∧ es.getD k zA = ⟨f, t, l, c, q⟩ ∧ b < w.heap.size ∧ w.cell? ⟨b, off + k * 5, none⟩ = some (.int .i64 f) ∧ w.cell? ⟨b, off + k * 5 + 1, none⟩ = some (.int .i64 t) ∧
      w.cell? ⟨b, off + k * 5 + 2, none⟩ = some (.int .i64 l) ∧ w.cell? ⟨b, off + k * 5 + 3, none⟩ = some (.int .i64 c) ∧ w.cell? ⟨b, off + k * 5 + 4, none⟩ = some (.int .i64 q) := by
  obtain ⟨b, off, e, hl, hc⟩ := h.lies.resolve_left (by omega)
  obtain ⟨⟨f, t, l, c, q⟩, he⟩ : ∃ a, es.getD k zA = a := ⟨_, rfl⟩
  have h0 := hc k hk 0 (by omega)
  have h1 := hc k hk 1 (by omega)
  have h2 := hc k hk 2 (by omega)
  have h3 := hc k hk 3 (by omega)
  have h4 := hc k hk 4 (by omega)
  rw [he] at h0 h1 h2 h3 h4
  exact ⟨b, off, f, t, l, c, q, e, he, hl, h0, h1, h2, h3, h4⟩

theorem Ints.get {w : World} {a : Option Addr} {n : Nat} {xs : List Int} (h : Ints w a n xs) {k : Nat} (hk : k < n) :
    ∃ b off x, a = some ⟨b, off, none⟩ ∧ xs.getD k 0 = x ∧ b < w.heap.size ∧ w.cell? ⟨b, off + k, none⟩ = some (.int .i64 x) := by
  obtain ⟨b, off, e, hl, hc⟩ := h.lies.resolve_left (by omega)
  exact ⟨b, off, _, e, rfl, hl, hc k hk⟩

/-! ### of a flow -/
def boundB (a : A5) (x : Int) : Bool := decide (a.lo ≤ x ∧ x ≤ 1000000 ∧ (a.cap = -1 ∨ x ≤ a.cap))
def boundedB (es : List A5) (fl : List Int) : Bool := (List.range es.length).all fun i => boundB (es.getD i zA) (fl.getD i 0)
/-- What goes out of a node less what comes in, over the first k arcs. -/
def netTo (es : List A5) (fl : List Int) (node : Int) : Nat → Int
  | 0 => 0
  | k + 1 => netTo es fl node k + (if (es.getD k zA).fr = node then fl.getD k 0 else 0) - (if (es.getD k zA).to = node then fl.getD k 0 else 0)
def costTo (es : List A5) (fl : List Int) : Nat → Int
  | 0 => 0
  | k + 1 => costTo es fl k + fl.getD k 0 * (es.getD k zA).cost
def balB (xs : List Int) (es : List A5) (fl : List Int) : Bool := (List.range xs.length).all fun k => decide (netTo es fl (k : Int) es.length = xs.getD k 0)
def flowErr (xs : List Int) (es : List A5) (fl : List Int) : Int :=
  if fl.length ≠ es.length then 4 else if boundedB es fl = false then 5 else if balB xs es fl = false then 6 else 0
/-- Cost's answer. -/
def costS (xs : List Int) (es : List A5) (fl : List Int) : Int × Int :=
  if (checkS xs es).1 ≠ 0 then (0, (checkS xs es).1) else if flowErr xs es fl ≠ 0 then (0, flowErr xs es fl) else (costTo es fl es.length, 0)

theorem all_t {n : Nat} {p : Nat → Bool} (h : ∀ i, i < n → p i = true) : (List.range n).all p = true := by
  rw [List.all_eq_true]; intro i hi; exact h i (List.mem_range.1 hi)
theorem all_f {n k : Nat} {p : Nat → Bool} (hk : k < n) (h : p k = false) : (List.range n).all p = false := by
  rw [List.all_eq_false]; exact ⟨k, List.mem_range.2 hk, by simp [h]⟩
theorem of_all {n : Nat} {p : Nat → Bool} (h : (List.range n).all p = true) (i : Nat) (hi : i < n) : p i = true := List.all_eq_true.1 h i (List.mem_range.2 hi)

/-- The numbers of a flow that keeps the bounds of a net that may be. -/
def Mild (fl : List Int) (n : Nat) : Prop := ∀ i, i < n → 0 ≤ fl.getD i 0 ∧ fl.getD i 0 ≤ 1000000

/-- A net that may be. -/
structure NetOK (xs : List Int) (es : List A5) : Prop where
  one : 1 ≤ xs.length
  ten : xs.length ≤ 10
  arcs : es.length ≤ 24
  sup : ∀ j, j < xs.length → supB (xs.getD j 0) = true
  arc : ∀ j, j < es.length → arcB (es.getD j zA) xs.length = true

theorem firstBad_of_none {α : Type} (p : α → Bool) (d : α) (l : List α) (i : Nat) (h : firstBad p l i = none) : ∀ j, j < l.length → p (l.getD j d) = true := by
  induction l generalizing i with
  | nil => intro j hj; simp at hj
  | cons x r ih =>
    intro j hj
    simp only [firstBad] at h
    split at h
    · cases j with
      | zero => simpa
      | succ j => simpa using ih (i + 1) h j (by simpa using hj)
    · cases h

theorem checkS_cases (xs : List Int) (es : List A5) : (checkS xs es).1 = 1 ∨ (checkS xs es).1 = 2 ∨ (checkS xs es).1 = 3 ∨ (checkS xs es = (0, 0) ∧ NetOK xs es) := by
  unfold checkS
  split
  · exact .inl rfl
  · rename_i hs
    cases h1 : firstBad supB xs 0 with
    | some i => exact .inr (.inl rfl)
    | none =>
      cases h2 : firstBad (fun a => arcB a xs.length) es 0 with
      | some i => exact .inr (.inr (.inl rfl))
      | none => exact .inr (.inr (.inr ⟨rfl, ⟨by omega, by omega, by omega, firstBad_of_none supB 0 xs 0 h1, firstBad_of_none _ zA es 0 h2⟩⟩))

theorem NetOK.zero {xs : List Int} {es : List A5} (h : NetOK xs es) : checkS xs es = (0, 0) :=
  checkS_ok (by have := h.one; have := h.ten; have := h.arcs; omega) h.sup h.arc
theorem netOK_of {xs : List Int} {es : List A5} (h : (checkS xs es).1 = 0) : NetOK xs es := by
  rcases checkS_cases xs es with h1 | h1 | h1 | h1
  · omega
  · omega
  · omega
  · exact h1.2
theorem arcB_out {a : A5} {n : Int} (h : arcB a n = true) : 0 ≤ a.fr ∧ a.fr < n ∧ 0 ≤ a.to ∧ a.to < n ∧ 0 ≤ a.lo ∧ a.lo ≤ 60 ∧ (a.cap = -1 ∨ (a.lo ≤ a.cap ∧ a.cap ≤ 60)) ∧ -50 ≤ a.cost ∧ a.cost ≤ 50 := of_decide_eq_true h
theorem boundB_out {a : A5} {x : Int} (h : boundB a x = true) : a.lo ≤ x ∧ x ≤ 1000000 ∧ (a.cap = -1 ∨ x ≤ a.cap) := of_decide_eq_true h
theorem NetOK.mild {xs : List Int} {es : List A5} (h : NetOK xs es) {fl : List Int} (hb : boundedB es fl = true) : Mild fl es.length := by
  intro i hi
  have h1 := boundB_out (of_all hb i hi)
  have h2 := arcB_out (h.arc i hi)
  omega

theorem netTo_bd (es : List A5) (fl : List Int) (node : Int) (n : Nat) (h : Mild fl n) (k : Nat) (hk : k ≤ n) : -(1000000 * (k : Int)) ≤ netTo es fl node k ∧ netTo es fl node k ≤ 1000000 * (k : Int) := by
  induction k with
  | zero => simp [netTo]
  | succ k ih =>
    have i1 := ih (by omega)
    have h1 := h k (by omega)
    simp only [netTo]
    split <;> split <;> omega
theorem costTo_bd (xs : List Int) (es : List A5) (fl : List Int) (hn : NetOK xs es) (h : Mild fl es.length) (k : Nat) (hk : k ≤ es.length) : -(50000000 * (k : Int)) ≤ costTo es fl k ∧ costTo es fl k ≤ 50000000 * (k : Int) := by
  induction k with
  | zero => simp [costTo]
  | succ k ih =>
    have i1 := ih (by omega)
    have h1 := h k (by omega)
    have h2 := arcB_out (hn.arc k (by omega))
    have h3 : -50000000 ≤ fl.getD k 0 * (es.getD k zA).cost := by
      have := Int.mul_le_mul_of_nonneg_left h2.2.2.2.2.2.2.2.1 h1.1
      omega
    have h4 : fl.getD k 0 * (es.getD k zA).cost ≤ 50000000 := by
      have := Int.mul_le_mul_of_nonneg_left h2.2.2.2.2.2.2.2.2 h1.1
      omega
    simp only [costTo]
    omega

end Go.Proofs.YtnbccoflcoaoaaaGreat

namespace Go.Proofs.YtnbccoflcoaoaaaGreat
open Go.RowKit
set_option linter.unusedSimpArgs false
set_option linter.unusedVariables false

theorem boundB_f {f t l c q x : Int} (h : x < l ∨ 1000000 < x ∨ (¬ c = -1 ∧ c < x)) : boundB ⟨f, t, l, c, q⟩ x = false := decide_eq_false (by simp only []; omega)
theorem boundB_t {f t l c q x : Int} (h : l ≤ x ∧ x ≤ 1000000 ∧ (c = -1 ∨ x ≤ c)) : boundB ⟨f, t, l, c, q⟩ x = true := decide_eq_true h

set_option maxHeartbeats 400000 in
theorem gWithinBounds_any (f t l c k x : Int) (w : World) :
    Calls Tryz.prog 94 #[.agg #[.int .i64 f, .int .i64 t, .int .i64 l, .int .i64 c, .int .i64 k], .int .i64 x] w fun e w' => e = .returned (.bool (boundB ⟨f, t, l, c, k⟩ x)) ∧ Below w.heap.size w w' := by
  go_enter Tryz.func94, Tryz.ntmps94
  go_wp2
  all_goals
    go_ret
    refine ⟨ret_b ?_, ?_⟩
    · rw [Bool.eq_iff_iff]
      simp only [boundB, decide_eq_true_eq, Bool.false_eq_true, bne_iff_ne, ne_eq, beq_iff_eq, bne_eq_false_iff_eq, true_or, true_and, and_true, Bool.not_eq_true, Bool.not_eq_false, Bool.not_true, Bool.not_false, beq_eq_false_iff_ne, Bool.and_eq_true, Bool.or_eq_true, Bool.or_eq_false_iff, Bool.and_eq_false_iff, decide_eq_false_iff_not, Bool.not_eq_eq_eq_not] at *
      refine ⟨fun h => ?_, fun h => ?_⟩ <;> first | exact h.elim | omega | trivial | (simp at *; omega)
    · first
      | exact (Below.refl _ _).alloc (Nat.le_refl _) _
      | exact ((Below.refl _ _).alloc (Nat.le_refl _) _).alloc (by simp) _

set_option maxHeartbeats 1000000 in
theorem refBounded_any (sa aa fa : Option Addr) (sn sc an ac fc : Nat) (es : List A5) (fl : List Int) (w : World) (he : Arcs w aa an es) (hf : Ints w fa an fl) (h24 : an ≤ 24) :
    Calls Tryz.prog 57 #[.agg #[.slice sa sn sc, .slice aa an ac], .slice fa an fc] w fun e w' => e = .returned (.bool (boundedB es fl)) ∧ Below w.heap.size w w' := by
  have hL : Hid (es.length = an) := he.len
  go_enter Tryz.func57, Tryz.ntmps57
  go_wp2
  go_loopw [5] (fun i wr => ∃ k : Nat, k ≤ an ∧ i = .int .i64 k ∧ Hid (∀ j, j < k → boundB (es.getD j zA) (fl.getD j 0) = true) ∧ wr.cell? ⟨w.heap.size, 1, none⟩ = some (.slice aa an ac) ∧ Below w.heap.size w wr ∧ w.heap.size < wr.heap.size) (fun i _ => an - (intOf i).toNat)
  case atStart => exact ⟨0, Nat.zero_le _, rfl, fun j hj => absurd hj (Nat.not_lt_zero j), by simp, (Below.refl _ _).alloc (Nat.le_refl _) _, by simp⟩
  case round =>
    obtain ⟨k, hk, rfl, hg, c1, hbel, hsize⟩ := hrel
    by_cases hlt : k < an
    · obtain ⟨b, off, f, t, l, c, q, rfl, hA, hb, e0, e1, e2, e3, e4⟩ := (he.below hbel).get hlt
      obtain ⟨b', off', x, rfl, hX, hb', ex⟩ := (hf.below hbel).get hlt
      have HA := hide hA
      have HX := hide hX
      clear hA hX
      have hlt3 : (k : Int) < (an : Int) := by omega
      have hs2 : w.heap.size < wr.heap.size + 1 := by omega
      go_wp2
      all_goals first
        | (go_ret
           try simp only [bne_iff_ne, bne_eq_false_iff_eq, ne_eq] at *
           exact ⟨ret_b (all_f (k := k) (by rw [hL.out]; exact hlt) (by rw [HA.out, HX.out]; exact boundB_f (by omega))).symm, hbel.alloc hbel.size _⟩)
        | (refine ⟨⟨k + 1, by omega, by go_num, ?_, (World.cell?_alloc_lt _ _ _ hsize).trans c1, hbel.alloc hbel.size _, by simp; omega⟩, by simp [intOf]; omega⟩
           try simp only [bne_iff_ne, bne_eq_false_iff_eq, ne_eq] at *
           intro j hj
           by_cases hjk : j = k
           · subst hjk; rw [HA.out, HX.out]; exact boundB_t (by omega)
           · exact hg.out j (by omega))
    · have hkn : k = an := by omega
      subst hkn
      go_wp2
      go_ret
      exact ⟨ret_b (all_t (by rw [hL.out]; exact hg.out)).symm, hbel⟩
end Go.Proofs.YtnbccoflcoaoaaaGreat

namespace Go.Proofs.YtnbccoflcoaoaaaGreat
open Go.RowKit
set_option linter.unusedSimpArgs false
set_option linter.unusedVariables false

theorem ret_i {a b : Int} (h : a = b) : Ending.returned (.int .i64 a) = .returned (.int .i64 b) := by rw [h]
theorem val_i {a b : Int} (h : a = b) : Value.int .i64 a = .int .i64 b := by rw [h]

theorem netTo_step {es : List A5} {fl : List Int} {node : Int} {k : Nat} {f t l c q x : Int} (hA : es.getD k zA = ⟨f, t, l, c, q⟩) (hX : fl.getD k 0 = x) :
    netTo es fl node (k + 1) = netTo es fl node k + (if f = node then x else 0) - (if t = node then x else 0) := by
  simp only [netTo, hA, hX]

set_option maxHeartbeats 1000000 in
theorem refNet_any (sa aa fa : Option Addr) (sn sc an ac fc : Nat) (es : List A5) (fl : List Int) (node : Int) (w : World) (he : Arcs w aa an es) (hf : Ints w fa an fl) (h24 : an ≤ 24) (hm : Mild fl an) :
    Calls Tryz.prog 58 #[.agg #[.slice sa sn sc, .slice aa an ac], .slice fa an fc, .int .i64 node] w fun e w' => e = .returned (.int .i64 (netTo es fl node es.length)) ∧ Below w.heap.size w w' := by
  have hL : Hid (es.length = an) := he.len
  have hM : Hid (Mild fl an) := hm
  clear hm
  go_enter Tryz.func58, Tryz.ntmps58
  go_wp2
  go_loop [7, 8] (fun v i => ∃ k : Nat, k ≤ an ∧ i = .int .i64 k ∧ v = .int .i64 (netTo es fl node k)) (fun _ i => an - (intOf i).toNat)
  case atStart => exact ⟨0, Nat.zero_le _, rfl, rfl⟩
  case round =>
    obtain ⟨k, hk, rfl, rfl⟩ := hrel
    have hbd := netTo_bd es fl node an hM.out k hk
    by_cases hlt : k < an
    · have hxm := hM.out k hlt
      obtain ⟨b, off, f, t, l, c, q, rfl, hA, hb, e0, e1, e2, e3, e4⟩ := he.get hlt
      obtain ⟨b', off', x, rfl, hX, hb', ex⟩ := hf.get hlt
      rw [hX] at hxm
      have HS := hide (netTo_step (node := node) hA hX)
      clear hA hX e2 e3 e4
      generalize netTo es fl node k = v at *
      have hlt3 : (k : Int) < (an : Int) := by omega
      cases hfn : (f == node) <;> cases htn : (t == node) <;> go_wp2
      all_goals
        refine ⟨⟨k + 1, by omega, by go_num, ?_⟩, by simp [intOf]; omega⟩
        rw [HS.out]
        simp only [beq_iff_eq, beq_eq_false_iff_ne] at hfn htn
        simp [hfn, htn]
    · have hkn : k = an := by omega
      subst hkn
      go_wp2
      go_ret
      exact ⟨ret_i (by rw [hL.out]), (Below.refl _ _).alloc (Nat.le_refl _) _⟩

set_option maxHeartbeats 1000000 in
theorem gSurplus_any (sa aa fa : Option Addr) (sn sc an ac fc : Nat) (es : List A5) (fl : List Int) (node : Int) (w : World) (he : Arcs w aa an es) (hf : Ints w fa an fl) (h24 : an ≤ 24) (hm : Mild fl an) :
    Calls Tryz.prog 95 #[.agg #[.slice sa sn sc, .slice aa an ac], .slice fa an fc, .int .i64 node] w fun e w' => e = .returned (.int .i64 (netTo es fl node es.length)) ∧ Below w.heap.size w w' := by
  have hL : Hid (es.length = an) := he.len
  have hM : Hid (Mild fl an) := hm
  clear hm
  go_enter Tryz.func95, Tryz.ntmps95
  go_wp2
  go_loopw [7, 13] (fun v i wr => ∃ k : Nat, k ≤ an ∧ i = .int .i64 k ∧ v = .int .i64 (netTo es fl node k) ∧ Below w.heap.size w wr) (fun _ i _ => an - (intOf i).toNat)
  case atStart => exact ⟨0, Nat.zero_le _, rfl, rfl, (Below.refl _ _).alloc (Nat.le_refl _) _⟩
  case round =>
    obtain ⟨k, hk, rfl, rfl, hbel⟩ := hrel
    have hbd := netTo_bd es fl node an hM.out k hk
    by_cases hlt : k < an
    · have hxm := hM.out k hlt
      obtain ⟨b, off, f, t, l, c, q, rfl, hA, hb, e0, e1, e2, e3, e4⟩ := (he.below hbel).get hlt
      obtain ⟨b', off', x, rfl, hX, hb', ex⟩ := (hf.below hbel).get hlt
      rw [hX] at hxm
      have HS := hide (netTo_step (node := node) hA hX)
      clear hA hX
      generalize netTo es fl node k = v at *
      have hlt3 : (k : Int) < (an : Int) := by omega
      cases hfn : (f == node) <;> cases htn : (t == node) <;> go_wp2
      all_goals
        refine ⟨⟨k + 1, by omega, by go_num, ?_, hbel.alloc hbel.size _⟩, by simp [intOf]; omega⟩
        rw [HS.out]
        simp only [beq_iff_eq, beq_eq_false_iff_ne] at hfn htn
        simp [hfn, htn]
    · have hkn : k = an := by omega
      subst hkn
      go_wp2
      go_ret
      exact ⟨ret_i (by rw [hL.out]), hbel⟩
end Go.Proofs.YtnbccoflcoaoaaaGreat

namespace Go.Proofs.YtnbccoflcoaoaaaGreat
open Go.RowKit
set_option linter.unusedSimpArgs false
set_option linter.unusedVariables false

theorem costTo_step {es : List A5} {fl : List Int} {k : Nat} {f t l c q x : Int} (hA : es.getD k zA = ⟨f, t, l, c, q⟩) (hX : fl.getD k 0 = x) :
    costTo es fl (k + 1) = costTo es fl k + x * q := by
  simp only [costTo, hA, hX]
theorem prod_bd {x q : Int} (h1 : 0 ≤ x) (h2 : x ≤ 1000000) (h3 : -50 ≤ q) (h4 : q ≤ 50) : -50000000 ≤ x * q ∧ x * q ≤ 50000000 := by
  have a := Int.mul_le_mul_of_nonneg_left h3 h1
  have b := Int.mul_le_mul_of_nonneg_left h4 h1
  omega

set_option maxHeartbeats 1000000 in
theorem gCostOf_any (sa aa fa : Option Addr) (sn sc an ac fc : Nat) (xs : List Int) (es : List A5) (fl : List Int) (w : World) (he : Arcs w aa an es) (hf : Ints w fa an fl) (hn : NetOK xs es) (hm : Mild fl an) :
    Calls Tryz.prog 70 #[.agg #[.slice sa sn sc, .slice aa an ac], .slice fa an fc] w fun e w' => e = .returned (.int .i64 (costTo es fl es.length)) ∧ Below w.heap.size w w' := by
  have hL : Hid (es.length = an) := he.len
  have hM : Hid (Mild fl an ∧ NetOK xs es) := ⟨hm, hn⟩
  have h24 : an ≤ 24 := by rw [← he.len]; exact hn.arcs
  clear hm hn
  go_enter Tryz.func70, Tryz.ntmps70
  go_wp2
  go_loopw [5, 11] (fun v i wr => ∃ k : Nat, k ≤ an ∧ i = .int .i64 k ∧ v = .int .i64 (costTo es fl k) ∧ Below w.heap.size w wr) (fun _ i _ => an - (intOf i).toNat)
  case atStart => exact ⟨0, Nat.zero_le _, rfl, rfl, (Below.refl _ _).alloc (Nat.le_refl _) _⟩
  case round =>
    obtain ⟨k, hk, rfl, rfl, hbel⟩ := hrel
    have hbd := costTo_bd xs es fl hM.out.2 (by rw [hL.out]; exact hM.out.1) k (by rw [hL.out]; exact hk)
    by_cases hlt : k < an
    · have hxm := hM.out.1 k hlt
      have hq := (arcB_out (hM.out.2.arc k (by rw [hL.out]; exact hlt))).2.2.2.2.2.2.2
      obtain ⟨b, off, f, t, l, c, q, rfl, hA, hb, e0, e1, e2, e3, e4⟩ := (he.below hbel).get hlt
      obtain ⟨b', off', x, rfl, hX, hb', ex⟩ := (hf.below hbel).get hlt
      rw [hX] at hxm
      rw [hA] at hq
      have hp := prod_bd hxm.1 hxm.2 hq.1 hq.2
      have HS := hide (costTo_step hA hX)
      clear hA hX hq hxm
      generalize costTo es fl k = v at *
      have hlt3 : (k : Int) < (an : Int) := by omega
      go_wp2
      have ex2 : (wr.alloc (.cells #[.int .i64 f, .int .i64 t, .int .i64 l, .int .i64 c, .int .i64 q] 67)).cell? ⟨b', off' + k, none⟩ = some (.int .i64 x) := (World.cell?_alloc_lt _ _ _ hb').trans ex
      go_quiet (fail)
      go_wp2
      exact ⟨⟨k + 1, by omega, by go_num, by rw [HS.out], (hbel.alloc hbel.size _).trans (Joins.below_draws _ _ _)⟩, by simp [intOf]; omega⟩
    · have hkn : k = an := by omega
      subst hkn
      go_wp2
      go_ret
      exact ⟨ret_i (by rw [hL.out]), hbel⟩

theorem flowErr_len {xs : List Int} {es : List A5} {fl : List Int} (h : fl.length ≠ es.length) : flowErr xs es fl = 4 := by rw [flowErr, if_pos h]
theorem flowErr_bound {xs : List Int} {es : List A5} {fl : List Int} (h : fl.length = es.length) (hb : boundedB es fl = false) : flowErr xs es fl = 5 := by rw [flowErr, if_neg (by omega), if_pos hb]
theorem flowErr_bal {xs : List Int} {es : List A5} {fl : List Int} (h : fl.length = es.length) (hb : boundedB es fl = true) (hc : balB xs es fl = false) : flowErr xs es fl = 6 := by rw [flowErr, if_neg (by omega), if_neg (by simp [hb]), if_pos hc]
theorem flowErr_ok {xs : List Int} {es : List A5} {fl : List Int} (h : fl.length = es.length) (hb : boundedB es fl = true) (hc : balB xs es fl = true) : flowErr xs es fl = 0 := by rw [flowErr, if_neg (by omega), if_neg (by simp [hb]), if_neg (by simp [hc])]

set_option maxHeartbeats 1000000 in
theorem refFlowError_any (sa aa fa : Option Addr) (sn sc an ac fn fc : Nat) (xs : List Int) (es : List A5) (fl : List Int) (w : World) (hx : Ints w sa sn xs) (he : Arcs w aa an es) (hf : Ints w fa fn fl) (hn : NetOK xs es) :
    Calls Tryz.prog 49 #[.agg #[.slice sa sn sc, .slice aa an ac], .slice fa fn fc] w fun e w' => e = .returned (.int .i64 (flowErr xs es fl)) ∧ Below w.heap.size w w' := by
  have hL : Hid (xs.length = sn ∧ es.length = an ∧ fl.length = fn) := ⟨hx.len, he.len, hf.len⟩
  have h24 : an ≤ 24 := by rw [← he.len]; exact hn.arcs
  have h10 : sn ≤ 10 := by rw [← hx.len]; exact hn.ten
  have hN := hide hn
  have hfs := hf.small
  clear hn
  by_cases hfn : fn = an
  · subst hfn
    have hlen : Hid (fl.length = es.length) := by have := hL.out; show _ = _; omega
    have hne : ((fn : Int) != (fn : Int)) = false := by simp
    go_enter Tryz.func49, Tryz.ntmps49
    go_wp2_with fail
    have hb0 : Below w.heap.size w (w.alloc (.cells #[.slice sa sn sc, .slice aa fn ac] 48)) := (Below.refl _ _).alloc (Nat.le_refl _) _
    refine (refBounded_any sa aa fa sn sc fn ac fc es fl _ (he.below hb0) (hf.below hb0) h24).mono ?_
    rintro e w1 ⟨rfl, hb1⟩
    have k0 : w1.cell? ⟨w.heap.size, 0, none⟩ = some (.slice sa sn sc) := (hb1.cell (by simp)).trans (by go_simp)
    have k1 : w1.cell? ⟨w.heap.size, 1, none⟩ = some (.slice aa fn ac) := (hb1.cell (by simp)).trans (by go_simp)
    have hz1 : w.heap.size < w1.heap.size := by have := hb1.size; simp at this; omega
    have hB1 : Below w.heap.size w w1 := hb0.trans (hb1.mono (by simp))
    clear hb1 hb0
    cases hB : boundedB es fl with
    | false =>
      have HF := hide (flowErr_bound (xs := xs) hlen.out hB)
      clear hB
      go_wp2
      go_ret
      exact ⟨ret_i HF.out.symm, hB1⟩
    | true =>
      have hM : Hid (Mild fl fn) := by have := hN.out.mild hB; rw [hL.out.2.1] at this; exact this
      have HBd := hide hB
      clear hB
      go_wp2
      go_loopw [6, 7] (fun i v wr => ∃ k : Nat, k ≤ sn ∧ i = .int .i64 k ∧ Hid (∀ j, j < k → decide (netTo es fl (j : Int) es.length = xs.getD j 0) = true) ∧ wr.cell? ⟨w.heap.size, 0, none⟩ = some (.slice sa sn sc) ∧ wr.cell? ⟨w.heap.size, 1, none⟩ = some (.slice aa fn ac) ∧ Below w.heap.size w wr ∧ w.heap.size < wr.heap.size) (fun i _ _ => sn - (intOf i).toNat)
      case atStart => exact ⟨0, Nat.zero_le _, rfl, fun j hj => absurd hj (Nat.not_lt_zero j), k0, k1, hB1, hz1⟩
      case round =>
        clear k0 k1 hB1 hz1
        obtain ⟨k, hk, rfl, hg, c0, c1, hbel, hsize⟩ := hrel
        by_cases hlt : k < sn
        · obtain ⟨b, off, x, rfl, hX, hb, ex⟩ := (hx.below hbel).get hlt
          have HX := hide hX
          clear hX
          have hlt3 : (k : Int) < (sn : Int) := by omega
          go_wp2_with fail
          refine (refNet_any (some ⟨b, off, none⟩) aa fa sn sc fn ac fc es fl k _ (he.below hbel) (hf.below hbel) h24 hM.out).mono ?_
          rintro e w2 ⟨rfl, hb2⟩
          have l0 := (hb2.cell (p := ⟨w.heap.size, 0, none⟩) hsize).trans c0
          have l1 := (hb2.cell (p := ⟨w.heap.size, 1, none⟩) hsize).trans c1
          have lx := (hb2.cell (p := ⟨b, off + k, none⟩) hb).trans ex
          have hB2 : Below w.heap.size w w2 := hbel.trans (hb2.mono (by omega))
          have hs2 : w.heap.size < w2.heap.size := by have := hb2.size; omega
          clear c0 c1 ex hb2
          obtain ⟨v, hv⟩ : ∃ v, netTo es fl k es.length = v := ⟨_, rfl⟩
          have HV := hide hv
          rw [hv]
          clear hv
          cases hd : (v != x) with
          | true =>
            go_wp2
            go_ret
            have : decide (netTo es fl (k : Int) es.length = xs.getD k 0) = false := by rw [HV.out, HX.out]; exact decide_eq_false (by simpa using hd)
            exact ⟨ret_i (flowErr_bal hlen.out HBd.out (all_f (k := k) (by rw [hL.out.1]; exact hlt) this)).symm, hB2⟩
          | false =>
            go_wp2
            go_roundw
            case rel =>
              refine ⟨k + 1, by omega, by go_num, ?_, l0, l1, hB2, hs2⟩
              intro j hj
              by_cases hjk : j = k
              · subst hjk; rw [HV.out, HX.out]; exact decide_eq_true (by simpa using hd)
              · exact hg.out j (by omega)
            case measure => simp [intOf]; omega
        · have hkn : k = sn := by omega
          subst hkn
          go_wp2
          go_ret
          exact ⟨ret_i (flowErr_ok hlen.out HBd.out (all_t (by rw [hL.out.1]; exact hg.out))).symm, hbel⟩
  · have hne : ((fn : Int) != (an : Int)) = true := by simp; omega
    have HF := hide (flowErr_len (xs := xs) (es := es) (fl := fl) (by have := hL.out; omega))
    go_enter Tryz.func49, Tryz.ntmps49
    go_wp2
    go_ret
    exact ⟨ret_i HF.out.symm, (Below.refl _ _).alloc (Nat.le_refl _) _⟩
end Go.Proofs.YtnbccoflcoaoaaaGreat

namespace Go.Proofs.YtnbccoflcoaoaaaGreat
open Go.RowKit
set_option linter.unusedSimpArgs false
set_option linter.unusedVariables false

set_option maxHeartbeats 1000000 in
theorem gFlowError_any (sa aa fa : Option Addr) (sn sc an ac fn fc : Nat) (xs : List Int) (es : List A5) (fl : List Int) (w : World) (hx : Ints w sa sn xs) (he : Arcs w aa an es) (hf : Ints w fa fn fl) (hn : NetOK xs es) :
    Calls Tryz.prog 69 #[.agg #[.slice sa sn sc, .slice aa an ac], .slice fa fn fc] w fun e w' => e = .returned (.int .i64 (flowErr xs es fl)) ∧ Below w.heap.size w w' := by
  have hL : Hid (xs.length = sn ∧ es.length = an ∧ fl.length = fn) := ⟨hx.len, he.len, hf.len⟩
  have h24 : an ≤ 24 := by rw [← he.len]; exact hn.arcs
  have h10 : sn ≤ 10 := by rw [← hx.len]; exact hn.ten
  have hN := hide hn
  have hfs := hf.small
  clear hn
  by_cases hfn : fn = an
  · subst hfn
    have hlen : Hid (fl.length = es.length) := by have := hL.out; show _ = _; omega
    have hne : ((fn : Int) != (fn : Int)) = false := by simp
    go_enter Tryz.func69, Tryz.ntmps69
    go_wp2
    go_loopw [18] (fun i wr => ∃ k : Nat, k ≤ fn ∧ i = .int .i64 k ∧ Hid (∀ j, j < k → boundB (es.getD j zA) (fl.getD j 0) = true) ∧ wr.cell? ⟨w.heap.size, 0, none⟩ = some (.slice sa sn sc) ∧ wr.cell? ⟨w.heap.size, 1, none⟩ = some (.slice aa fn ac) ∧ Below w.heap.size w wr ∧ w.heap.size < wr.heap.size) (fun i _ => fn - (intOf i).toNat)
    case atStart => exact ⟨0, Nat.zero_le _, rfl, fun j hj => absurd hj (Nat.not_lt_zero j), by simp, by simp, (Below.refl _ _).alloc (Nat.le_refl _) _, by simp⟩
    case round =>
      obtain ⟨k, hk, rfl, hg, c0, c1, hbel, hsize⟩ := hrel
      by_cases hlt : k < fn
      · obtain ⟨b, off, f, t, l, c, q, rfl, hA, hb, e0, e1, e2, e3, e4⟩ := (he.below hbel).get hlt
        obtain ⟨b', off', x, rfl, hX, hb', ex⟩ := (hf.below hbel).get hlt
        have HA := hide hA
        have HX := hide hX
        clear hA hX
        have hlt3 : (k : Int) < (fn : Int) := by omega
        obtain ⟨B, hB⟩ : ∃ B, boundB ⟨f, t, l, c, q⟩ x = B := ⟨_, rfl⟩
        have cQ0 : n0 (∀ w0 : World, Calls Tryz.prog 94 #[.agg #[.int .i64 f, .int .i64 t, .int .i64 l, .int .i64 c, .int .i64 q], .int .i64 x] w0 fun e w' => e = .returned (.bool B) ∧ Below w0.heap.size w0 w') := fun w0 => by rw [← hB]; exact gWithinBounds_any f t l c q x w0
        have HB := hide hB
        clear hB
        go_wp2
        obtain ⟨wa, hwa⟩ : ∃ wa, wr.alloc (.cells #[.int .i64 f, .int .i64 t, .int .i64 l, .int .i64 c, .int .i64 q] 67) = wa := ⟨_, rfl⟩
        have k0 := cell_regrown (w := wa) (a := ⟨w.heap.size, 0, none⟩) (by rw [← hwa]; exact (World.cell?_alloc_lt _ _ _ hsize).trans c0)
        have k1 := cell_regrown (w := wa) (a := ⟨w.heap.size, 1, none⟩) (by rw [← hwa]; exact (World.cell?_alloc_lt _ _ _ hsize).trans c1)
        have kx := cell_regrown (w := wa) (a := ⟨b', off' + k, none⟩) (by rw [← hwa]; exact (World.cell?_alloc_lt _ _ _ hb').trans ex)
        have l0 := cell_regrown (w := wa) (a := ⟨wr.heap.size, 0, none⟩) (v := .int .i64 f) (by rw [← hwa]; simp)
        have l1 := cell_regrown (w := wa) (a := ⟨wr.heap.size, 1, none⟩) (v := .int .i64 t) (by rw [← hwa]; simp)
        have l2 := cell_regrown (w := wa) (a := ⟨wr.heap.size, 2, none⟩) (v := .int .i64 l) (by rw [← hwa]; simp)
        have l3 := cell_regrown (w := wa) (a := ⟨wr.heap.size, 3, none⟩) (v := .int .i64 c) (by rw [← hwa]; simp)
        have l4 := cell_regrown (w := wa) (a := ⟨wr.heap.size, 4, none⟩) (v := .int .i64 q) (by rw [← hwa]; simp)
        have hba : Below w.heap.size w wa := by rw [← hwa]; exact hbel.alloc hbel.size _
        have hsa : w.heap.size < wa.heap.size := by rw [← hwa]; simp; omega
        rw [hwa]
        clear hwa c0 c1 e0 e1 e2 e3 e4 ex hbel hsize
        have cQ : ∀ d os, Calls Tryz.prog 94 #[.agg #[.int .i64 f, .int .i64 t, .int .i64 l, .int .i64 c, .int .i64 q], .int .i64 x] (Sort.grow (redrawn wa d) os) fun e w'' => e = .returned (.bool B) ∧ ∃ p : Regrown, w'' = Sort.grow (redrawn wa p.d) p.os := fun d os => Calls.regrown_of (cQ0.out _)
        refine wp_region_quiet_below (by kernel_rfl) (by kernel_rfl) ?_
        repeat (quiet_step (first | exact cQ _ _))
        refine wpQuiet_nil ?_
        intro _ hw'
        obtain ⟨⟨dq, osq⟩, hw''⟩ := hw'
        subst hw''
        have k0' := k0 dq osq
        have k1' := k1 dq osq
        have hbr := below_regrown wa dq osq
        generalize Sort.grow (redrawn wa dq) osq = w2 at *
        clear k0 k1 kx l0 l1 l2 l3 l4 cQ cQ0
        have hb2 : Below w.heap.size w w2 := hba.trans (hbr.mono hba.size)
        have hs2 : w.heap.size < w2.heap.size := by have := hbr.size; omega
        clear hbr
        cases B with
        | true =>
          go_wp2
          go_roundw
          case rel =>
            refine ⟨k + 1, by omega, by go_num, ?_, k0', k1', hb2, hs2⟩
            intro j hj
            by_cases hjk : j = k
            · subst hjk; rw [HA.out, HX.out]; exact HB.out
            · exact hg.out j (by omega)
          case measure => simp [intOf]; omega
        | false =>
          go_wp2
          go_ret
          exact ⟨ret_i (flowErr_bound hlen.out (all_f (k := k) (by rw [hL.out.2.1]; exact hlt) (by rw [HA.out, HX.out]; exact HB.out))).symm, hb2⟩
      · have hkn : k = fn := by omega
        subst hkn
        have hB : boundedB es fl = true := all_t (by rw [hL.out.2.1]; exact hg.out)
        have hM : Hid (Mild fl k) := by have := hN.out.mild hB; rw [hL.out.2.1] at this; exact this
        have HBd := hide hB
        clear hB hg
        go_wp2
        go_loopw [34] (fun i wr => ∃ m : Nat, m ≤ sn ∧ i = .int .i64 m ∧ Hid (∀ j, j < m → decide (netTo es fl (j : Int) es.length = xs.getD j 0) = true) ∧ wr.cell? ⟨w.heap.size, 0, none⟩ = some (.slice sa sn sc) ∧ wr.cell? ⟨w.heap.size, 1, none⟩ = some (.slice aa k ac) ∧ Below w.heap.size w wr ∧ w.heap.size < wr.heap.size) (fun i _ => sn - (intOf i).toNat)
        case atStart => exact ⟨0, Nat.zero_le _, rfl, fun j hj => absurd hj (Nat.not_lt_zero j), c0, c1, hbel, hsize⟩
        case round =>
          clear c0 c1 hbel hsize
          obtain ⟨m, hm, rfl, hg, c0, c1, hbel, hsize⟩ := hrel
          by_cases hlt : m < sn
          · obtain ⟨b, off, x, rfl, hX, hb, ex⟩ := (hx.below hbel).get hlt
            have HX := hide hX
            clear hX
            have hlt3 : (m : Int) < (sn : Int) := by omega
            go_wp2_with fail
            refine (gSurplus_any (some ⟨b, off, none⟩) aa fa sn sc k ac fc es fl m _ (he.below hbel) (hf.below hbel) h24 hM.out).mono ?_
            rintro e w2 ⟨rfl, hb2⟩
            have l0 := (hb2.cell (p := ⟨w.heap.size, 0, none⟩) hsize).trans c0
            have l1 := (hb2.cell (p := ⟨w.heap.size, 1, none⟩) hsize).trans c1
            have hB2 : Below w.heap.size w w2 := hbel.trans (hb2.mono (by omega))
            have hs2 : w.heap.size < w2.heap.size := by have := hb2.size; omega
            clear c0 c1 ex hb2
            obtain ⟨v, hv⟩ : ∃ v, netTo es fl m es.length = v := ⟨_, rfl⟩
            have HV := hide hv
            rw [hv]
            clear hv
            cases hd : (v != x) with
            | true =>
              go_wp2
              go_ret
              have : decide (netTo es fl (m : Int) es.length = xs.getD m 0) = false := by rw [HV.out, HX.out]; exact decide_eq_false (by simpa using hd)
              exact ⟨ret_i (flowErr_bal hlen.out HBd.out (all_f (k := m) (by rw [hL.out.1]; exact hlt) this)).symm, hB2⟩
            | false =>
              go_wp2
              go_roundw
              case rel =>
                refine ⟨m + 1, by omega, by go_num, ?_, l0, l1, hB2, hs2⟩
                intro j hj
                by_cases hjk : j = m
                · subst hjk; rw [HV.out, HX.out]; exact decide_eq_true (by simpa using hd)
                · exact hg.out j (by omega)
              case measure => simp [intOf]; omega
          · have hkn : m = sn := by omega
            subst hkn
            go_wp2
            go_ret
            exact ⟨ret_i (flowErr_ok hlen.out HBd.out (all_t (by rw [hL.out.1]; exact hg.out))).symm, hbel⟩
  · have hne : ((fn : Int) != (an : Int)) = true := by simp; omega
    have HF := hide (flowErr_len (xs := xs) (es := es) (fl := fl) (by have := hL.out; omega))
    go_enter Tryz.func69, Tryz.ntmps69
    go_wp2
    go_ret
    exact ⟨ret_i HF.out.symm, (Below.refl _ _).alloc (Nat.le_refl _) _⟩
end Go.Proofs.YtnbccoflcoaoaaaGreat

namespace Go.Proofs.YtnbccoflcoaoaaaGreat
open Go.RowKit
set_option linter.unusedSimpArgs false
set_option linter.unusedVariables false

theorem costS_check {xs : List Int} {es : List A5} {fl : List Int} {c : Int} (h : (checkS xs es).1 = c) (hc : c ≠ 0) : costS xs es fl = (0, c) := by rw [costS, h, if_pos hc]
theorem costS_flow {xs : List Int} {es : List A5} {fl : List Int} {c : Int} (hn : NetOK xs es) (h : flowErr xs es fl = c) (hc : c ≠ 0) : costS xs es fl = (0, c) := by
  rw [costS, hn.zero, if_neg (by simp), h, if_pos hc]
theorem costS_ok {xs : List Int} {es : List A5} {fl : List Int} (hn : NetOK xs es) (h : flowErr xs es fl = 0) : costS xs es fl = (costTo es fl es.length, 0) := by
  rw [costS, hn.zero, if_neg (by simp), h, if_neg (by simp)]
theorem flowErr_zero {xs : List Int} {es : List A5} {fl : List Int} (h : flowErr xs es fl = 0) : fl.length = es.length ∧ boundedB es fl = true ∧ balB xs es fl = true := by
  unfold flowErr at h
  split at h
  · omega
  · split at h
    · omega
    · split at h
      · omega
      · refine ⟨by omega, by simpa using ‹¬ boundedB es fl = false›, by simpa using ‹¬ balB xs es fl = false›⟩
theorem ret_ii {a b c d : Int} (h : a = b) (k : c = d) : Ending.returned (.tuple #[.int .i64 a, .int .i64 c]) = .returned (.tuple #[.int .i64 b, .int .i64 d]) := by rw [h, k]

set_option maxHeartbeats 1000000 in
theorem gCost_any (sa aa fa : Option Addr) (sn sc an ac fn fc : Nat) (xs : List Int) (es : List A5) (fl : List Int) (w : World) (hx : Ints w sa sn xs) (he : Arcs w aa an es) (hf : Ints w fa fn fl) :
    Calls Tryz.prog 48 #[.agg #[.slice sa sn sc, .slice aa an ac], .slice fa fn fc] w fun e w' => e = .returned (.tuple #[.int .i64 (costS xs es fl).1, .int .i64 (costS xs es fl).2]) ∧ Below w.heap.size w w' := by
  have hb0 : Below w.heap.size w (w.alloc (.cells #[.slice sa sn sc, .slice aa an ac] 48)) := (Below.refl _ _).alloc (Nat.le_refl _) _
  go_enter Tryz.func48, Tryz.ntmps48
  go_wp2_with fail
  refine (gCheck_any sa aa sn sc an ac xs es _ (hx.below hb0) (he.below hb0)).mono ?_
  rintro e w1 ⟨rfl, hb1⟩
  have k0 : w1.cell? ⟨w.heap.size, 0, none⟩ = some (.slice sa sn sc) := (hb1.cell (by simp)).trans (by go_simp)
  have k1 : w1.cell? ⟨w.heap.size, 1, none⟩ = some (.slice aa an ac) := (hb1.cell (by simp)).trans (by go_simp)
  have hz1 : w.heap.size < w1.heap.size := by have := hb1.size; simp at this; omega
  have hB1 : Below w.heap.size w w1 := hb0.trans (hb1.mono (by simp))
  clear hb1 hb0
  obtain ⟨c, hc⟩ : ∃ c, (checkS xs es).1 = c := ⟨_, rfl⟩
  rw [hc]
  cases hz : (c != 0) with
  | true =>
    have HS := hide (costS_check (fl := fl) hc (by simpa using hz))
    clear hc
    go_wp2
    go_ret2
    exact ⟨ret_ii (by rw [HS.out]) (by rw [HS.out]), hB1⟩
  | false =>
    have hn := netOK_of (hc.trans (by simpa using hz))
    have hN := hide hn
    clear hc
    go_wp2_with fail
    refine (gFlowError_any sa aa fa sn sc an ac fn fc xs es fl _ (hx.below hB1) (he.below hB1) (hf.below hB1) hn).mono ?_
    rintro e w2 ⟨rfl, hb2⟩
    have l0 := (hb2.cell (p := ⟨w.heap.size, 0, none⟩) hz1).trans k0
    have l1 := (hb2.cell (p := ⟨w.heap.size, 1, none⟩) hz1).trans k1
    have hB2 : Below w.heap.size w w2 := hB1.trans (hb2.mono (by omega))
    clear k0 k1 hb2 hB1 hz1 hn
    obtain ⟨c2, hc2⟩ : ∃ c, flowErr xs es fl = c := ⟨_, rfl⟩
    rw [hc2]
    cases hz2 : (c2 != 0) with
    | true =>
      have HS := hide (costS_flow hN.out hc2 (by simpa using hz2))
      clear hc2
      go_wp2
      go_ret2
      exact ⟨ret_ii (by rw [HS.out]) (by rw [HS.out]), hB2⟩
    | false =>
      have h0 := hc2.trans (by simpa using hz2)
      obtain ⟨hl, hbd, -⟩ := flowErr_zero h0
      have hfn : fn = an := by rw [← hf.len, ← he.len]; exact hl
      subst hfn
      have hM : Mild fl fn := by have := hN.out.mild hbd; rw [he.len] at this; exact this
      have HS := hide (costS_ok hN.out h0)
      clear hc2 h0 hl hbd
      go_wp2_with fail
      refine (gCostOf_any sa aa fa sn sc fn ac fc xs es fl _ (he.below hB2) (hf.below hB2) hN.out hM).mono ?_
      rintro e w3 ⟨rfl, hb3⟩
      have hB3 : Below w.heap.size w w3 := hB2.trans (hb3.mono hB2.size)
      clear hM
      go_wp2
      go_ret2
      exact ⟨ret_ii (by rw [HS.out]) (by rw [HS.out]), hB3⟩

set_option maxHeartbeats 1000000 in
theorem refCost_any (sa aa fa : Option Addr) (sn sc an ac fn fc : Nat) (xs : List Int) (es : List A5) (fl : List Int) (w : World) (hx : Ints w sa sn xs) (he : Arcs w aa an es) (hf : Ints w fa fn fl) :
    Calls Tryz.prog 31 #[.agg #[.slice sa sn sc, .slice aa an ac], .slice fa fn fc] w fun e w' => e = .returned (.tuple #[.int .i64 (costS xs es fl).1, .int .i64 (costS xs es fl).2]) ∧ Below w.heap.size w w' := by
  have hb0 : Below w.heap.size w (w.alloc (.cells #[.slice sa sn sc, .slice aa an ac] 48)) := (Below.refl _ _).alloc (Nat.le_refl _) _
  go_enter Tryz.func31, Tryz.ntmps31
  go_wp2_with fail
  refine (refCheck_any sa aa sn sc an ac xs es _ (hx.below hb0) (he.below hb0)).mono ?_
  rintro e w1 ⟨rfl, hb1⟩
  have k0 : w1.cell? ⟨w.heap.size, 0, none⟩ = some (.slice sa sn sc) := (hb1.cell (by simp)).trans (by go_simp)
  have k1 : w1.cell? ⟨w.heap.size, 1, none⟩ = some (.slice aa an ac) := (hb1.cell (by simp)).trans (by go_simp)
  have hz1 : w.heap.size < w1.heap.size := by have := hb1.size; simp at this; omega
  have hB1 : Below w.heap.size w w1 := hb0.trans (hb1.mono (by simp))
  clear hb1 hb0
  obtain ⟨c, hc⟩ : ∃ c, (checkS xs es).1 = c := ⟨_, rfl⟩
  rw [hc]
  cases hz : (c != 0) with
  | true =>
    have HS := hide (costS_check (fl := fl) hc (by simpa using hz))
    clear hc
    go_wp2
    go_ret2
    exact ⟨ret_ii (by rw [HS.out]) (by rw [HS.out]), hB1⟩
  | false =>
    have hn := netOK_of (hc.trans (by simpa using hz))
    have hN := hide hn
    clear hc
    go_wp2_with fail
    refine (refFlowError_any sa aa fa sn sc an ac fn fc xs es fl _ (hx.below hB1) (he.below hB1) (hf.below hB1) hn).mono ?_
    rintro e w2 ⟨rfl, hb2⟩
    have l0 := (hb2.cell (p := ⟨w.heap.size, 0, none⟩) hz1).trans k0
    have l1 := (hb2.cell (p := ⟨w.heap.size, 1, none⟩) hz1).trans k1
    have hB2 : Below w.heap.size w w2 := hB1.trans (hb2.mono (by omega))
    have hz2' : w.heap.size < w2.heap.size := by have := hb2.size; omega
    clear k0 k1 hb2 hB1 hz1 hn
    obtain ⟨c2, hc2⟩ : ∃ c, flowErr xs es fl = c := ⟨_, rfl⟩
    rw [hc2]
    cases hz2 : (c2 != 0) with
    | true =>
      have HS := hide (costS_flow hN.out hc2 (by simpa using hz2))
      clear hc2
      go_wp2
      go_ret2
      exact ⟨ret_ii (by rw [HS.out]) (by rw [HS.out]), hB2⟩
    | false =>
      have h0 := hc2.trans (by simpa using hz2)
      obtain ⟨hl, hbd, -⟩ := flowErr_zero h0
      have hfn : fn = an := by rw [← hf.len, ← he.len]; exact hl
      subst hfn
      have hM : Hid (Mild fl fn) := by have := hN.out.mild hbd; rw [he.len] at this; exact this
      have hL : Hid (es.length = fn) := he.len
      have h24 : fn ≤ 24 := by rw [← he.len]; exact hN.out.arcs
      have HS := hide (costS_ok hN.out h0)
      clear hc2 h0 hl hbd
      go_wp2
      go_loopw [8, 9] (fun v i wr => ∃ k : Nat, k ≤ fn ∧ i = .int .i64 k ∧ v = .int .i64 (costTo es fl k) ∧ wr.cell? ⟨w.heap.size, 1, none⟩ = some (.slice aa fn ac) ∧ Below w.heap.size w wr) (fun _ i _ => fn - (intOf i).toNat)
      case atStart => exact ⟨0, Nat.zero_le _, rfl, rfl, l1, hB2⟩
      case round =>
        clear l0 l1 hB2 hz2'
        obtain ⟨k, hk, rfl, rfl, c1, hbel⟩ := hrel
        have hbd := costTo_bd xs es fl hN.out (by rw [hL.out]; exact hM.out) k (by rw [hL.out]; exact hk)
        by_cases hlt : k < fn
        · have hxm := hM.out k hlt
          have hq := (arcB_out (hN.out.arc k (by rw [hL.out]; exact hlt))).2.2.2.2.2.2.2
          obtain ⟨b, off, f, t, l, c, q, rfl, hA, hb, e0, e1, e2, e3, e4⟩ := (he.below hbel).get hlt
          obtain ⟨b', off', x, rfl, hX, hb', ex⟩ := (hf.below hbel).get hlt
          rw [hX] at hxm
          rw [hA] at hq
          have hp := prod_bd hxm.1 hxm.2 hq.1 hq.2
          have HP := hide (costTo_step hA hX)
          clear hA hX hq hxm
          generalize costTo es fl k = v at *
          have hlt3 : (k : Int) < (fn : Int) := by omega
          go_wp2
          go_quiet (fail)
          go_wp2
          exact ⟨⟨k + 1, by omega, by go_num, by rw [HP.out], by simpa using c1, hbel.trans (Joins.below_draws _ _ _)⟩, by simp [intOf]; omega⟩
        · have hkn : k = fn := by omega
          subst hkn
          go_wp2
          go_ret2
          exact ⟨ret_ii (by rw [HS.out, hL.out]) (by rw [HS.out]), hbel⟩

set_option maxHeartbeats 400000 in
theorem cost_any (sa aa fa : Option Addr) (sn sc an ac fn fc : Nat) (xs : List Int) (es : List A5) (fl : List Int) (w : World) (hx : Ints w sa sn xs) (he : Arcs w aa an es) (hf : Ints w fa fn fl) :
    Calls Tryz.prog 30 #[.agg #[.slice sa sn sc, .slice aa an ac], .slice fa fn fc] w fun e w' => e = .returned (.tuple #[.int .i64 (costS xs es fl).1, .int .i64 (costS xs es fl).2]) ∧ Below w.heap.size w w' := by
  have hb0 : Below w.heap.size w (w.alloc (.cells #[.slice sa sn sc, .slice aa an ac] 48)) := (Below.refl _ _).alloc (Nat.le_refl _) _
  go_enter Tryz.func30, Tryz.ntmps30
  go_wp2_with fail
  refine (gCost_any sa aa fa sn sc an ac fn fc xs es fl _ (hx.below hb0) (he.below hb0) (hf.below hb0)).mono ?_
  rintro e w1 ⟨rfl, hb⟩
  go_wp2
  go_ret2
  exact ⟨rfl, hb0.trans (hb.mono (by simp))⟩

set_option maxHeartbeats 400000 in
theorem own_any (a : Option Addr) (n c : Nat) (xs : List Int) (w : World) (hx : Ints w a n xs) :
    Calls Tryz.prog 4 #[.slice a n c] w fun e w' => ∃ a' c', e = .returned (.slice a' n c') ∧ Ints w' a' n xs ∧ Fresh w.heap.size n a' ∧ Below w.heap.size w w' := by
  go_enter Tryz.func4, Tryz.ntmps4
  go_wp2_with (at_builtin; refine wpList_copy_ints rfl _ _ rfl rfl a n c rfl xs hx ?_)
  intro a' c' w1 hI hF hb
  go_wp2
  go_ret
  exact ⟨a', c', rfl, hI, hF, hb⟩

end Go.Proofs.YtnbccoflcoaoaaaGreat
