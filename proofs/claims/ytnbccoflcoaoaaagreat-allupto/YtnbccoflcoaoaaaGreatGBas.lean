import Derived.Test.YtnbccoflcoaoaaaGreatProg
import Derived.WalkKit
import Derived.WalkSpells
import Derived.WalkLawsBesides
import Derived.Lib.QuietBelow
import Derived.BigQuiet
import Derived.Lib.SmallJoins
namespace Go.Proofs.YtnbccoflcoaoaaaGreat
open Go.RowKit
set_option linter.unusedSimpArgs false
set_option linter.unusedVariables false

/-- An arc as plain numbers. -/
structure A5 where
  fr : Int
  to : Int
  lo : Int
  cap : Int
  cost : Int

/-- An arc's value. -/
def A5.val (a : A5) : Value := .agg #[.int .i64 a.fr, .int .i64 a.to, .int .i64 a.lo, .int .i64 a.cap, .int .i64 a.cost]

/-- May it be an arc between n nodes? -/
def arcB (a : A5) (n : Int) : Bool :=
  decide (0 ≤ a.fr ∧ a.fr < n ∧ 0 ≤ a.to ∧ a.to < n ∧ 0 ≤ a.lo ∧ a.lo ≤ 60 ∧ (a.cap = -1 ∨ (a.lo ≤ a.cap ∧ a.cap ≤ 60)) ∧ -50 ≤ a.cost ∧ a.cost ≤ 50)

/-- Two answers are one if the Bools are. -/
theorem ret_b {x y : Bool} (h : x = y) : Ending.returned (.bool x) = .returned (.bool y) := by rw [h]

set_option maxHeartbeats 1000000 in
theorem refArcFits_any (f t l c k n : Int) (w : World) :
    Calls Tryz.prog 29 #[.agg #[.int .i64 f, .int .i64 t, .int .i64 l, .int .i64 c, .int .i64 k], .int .i64 n] w fun e w' => e = .returned (.bool (arcB ⟨f, t, l, c, k⟩ n)) ∧ Below w.heap.size w w' := by
  go_enter Tryz.func29, Tryz.ntmps29
  go_wp2
  all_goals
    go_ret
    refine ⟨ret_b ?_, (Below.refl _ _).alloc (Nat.le_refl _) _⟩
    rw [Bool.eq_iff_iff]
    simp only [arcB, decide_eq_true_eq, Bool.false_eq_true, bne_iff_ne, ne_eq, beq_iff_eq, bne_eq_false_iff_eq, true_or, true_and, Bool.not_eq_true, Bool.not_eq_false, Bool.not_true, Bool.not_false, beq_eq_false_iff_ne, Bool.and_eq_true, Bool.or_eq_true, Bool.or_eq_false_iff, Bool.and_eq_false_iff, decide_eq_false_iff_not, Bool.not_eq_eq_eq_not] at *
    refine ⟨fun h => ?_, fun h => ?_⟩ <;> first | exact h.elim | omega

theorem gUnlimited_any (f t l c k : Int) (w : World) :
    Calls Tryz.prog 68 #[.agg #[.int .i64 f, .int .i64 t, .int .i64 l, .int .i64 c, .int .i64 k]] w fun e w' => e = .returned (.bool (c == -1)) ∧ Below w.heap.size w w' := by
  go_enter Tryz.func68, Tryz.ntmps68
  go_wp2
  go_ret
  exact ⟨rfl, (Below.refl _ _).alloc (Nat.le_refl _) _⟩

set_option maxHeartbeats 1000000 in
theorem gArcMayBe_any (f t l c k n : Int) (w : World) :
    Calls Tryz.prog 47 #[.agg #[.int .i64 f, .int .i64 t, .int .i64 l, .int .i64 c, .int .i64 k], .int .i64 n] w fun e w' => e = .returned (.bool (arcB ⟨f, t, l, c, k⟩ n)) ∧ Below w.heap.size w w' := by
  go_enter Tryz.func47, Tryz.ntmps47
  go_wp2
  all_goals
    go_ret
    refine ⟨ret_b ?_, ?_⟩
    · rw [Bool.eq_iff_iff]
      simp only [arcB, decide_eq_true_eq, Bool.false_eq_true, bne_iff_ne, ne_eq, beq_iff_eq, bne_eq_false_iff_eq, true_or, true_and, Bool.not_eq_true, Bool.not_eq_false, Bool.not_true, Bool.not_false, beq_eq_false_iff_ne, Bool.and_eq_true, Bool.or_eq_true, Bool.or_eq_false_iff, Bool.and_eq_false_iff, decide_eq_false_iff_not, Bool.not_eq_eq_eq_not] at *
      refine ⟨fun h => ?_, fun h => ?_⟩ <;> first | exact h.elim | omega
    · first
      | exact (Below.refl _ _).alloc (Nat.le_refl _) _
      | exact ((Below.refl _ _).alloc (Nat.le_refl _) _).alloc (by simp) _
end Go.Proofs.YtnbccoflcoaoaaaGreat

namespace Go.Proofs.YtnbccoflcoaoaaaGreat
open Go.RowKit
set_option linter.unusedSimpArgs false
set_option linter.unusedVariables false

def n0 (p : Prop) : Prop := p
theorem n0.out {p : Prop} (h : n0 p) : p := h
theorem hide {p : Prop} (h : p) : Hid p := h

/-- A slice of ints that lies in w: its numbers. -/
structure Ints (w : World) (a : Option Addr) (n : Nat) (xs : List Int) : Prop where
  len : xs.length = n
  small : n ≤ 17592186044416
  wf : ∀ x ∈ xs, -9223372036854775808 ≤ x ∧ x ≤ 9223372036854775807
  lies : n = 0 ∨ ∃ b off, a = some ⟨b, off, none⟩ ∧ b < w.heap.size ∧ ∀ i, i < n → w.cell? ⟨b, off + i, none⟩ = some (.int .i64 (xs.getD i 0))

def zA : A5 := ⟨0, 0, 0, 0, 0⟩
/-- One number of an arc. -/
def A5.at (a : A5) (j : Nat) : Int := match j with | 0 => a.fr | 1 => a.to | 2 => a.lo | 3 => a.cap | _ => a.cost

/-- A slice of arcs that lies in w. -/
structure Arcs (w : World) (a : Option Addr) (n : Nat) (es : List A5) : Prop where
  len : es.length = n
  small : n ≤ 3518437208883
  wf : ∀ x ∈ es, ∀ j, -9223372036854775808 ≤ x.at j ∧ x.at j ≤ 9223372036854775807
  lies : n = 0 ∨ ∃ b off, a = some ⟨b, off, none⟩ ∧ b < w.heap.size ∧ ∀ i, i < n → ∀ j, j < 5 → w.cell? ⟨b, off + i * 5 + j, none⟩ = some (.int .i64 ((es.getD i zA).at j))

theorem Ints.below {w w' : World} {a : Option Addr} {n : Nat} {xs : List Int} (h : Ints w a n xs) (hb : Below w.heap.size w w') : Ints w' a n xs :=
  ⟨h.len, h.small, h.wf, h.lies.imp id fun ⟨b, off, e, hl, hc⟩ => ⟨b, off, e, Nat.lt_of_lt_of_le hl hb.size, fun i hi => by rw [hb.cell (p := ⟨b, off + i, none⟩) hl]; exact hc i hi⟩⟩
theorem Arcs.below {w w' : World} {a : Option Addr} {n : Nat} {es : List A5} (h : Arcs w a n es) (hb : Below w.heap.size w w') : Arcs w' a n es :=
  ⟨h.len, h.small, h.wf, h.lies.imp id fun ⟨b, off, e, hl, hc⟩ => ⟨b, off, e, Nat.lt_of_lt_of_le hl hb.size, fun i hi j hj => by rw [hb.cell (p := ⟨b, off + i * 5 + j, none⟩) hl]; exact hc i hi j hj⟩⟩

/-! ### what Check answers -/
def supB (s : Int) : Bool := decide (-100 ≤ s ∧ s ≤ 100)
/-- The first place, from i on, that a test refuses. -/
def firstBad {α : Type} (p : α → Bool) : List α → Nat → Option Nat
  | [], _ => none
  | x :: r, i => if p x then firstBad p r (i + 1) else some i

theorem firstBad_none {α : Type} (p : α → Bool) (l : List α) (i : Nat) (h : ∀ x ∈ l, p x = true) : firstBad p l i = none := by
  induction l generalizing i with
  | nil => rfl
  | cons x r ih => simp only [firstBad, h x (by simp), if_true]; exact ih (i + 1) (fun y hy => h y (by simp [hy]))

theorem firstBad_some {α : Type} (p : α → Bool) (d : α) (l : List α) (i k : Nat) (hk : k < l.length) (h : ∀ j, j < k → p (l.getD j d) = true) (hn : p (l.getD k d) = false) : firstBad p l i = some (i + k) := by
  induction l generalizing i k with
  | nil => simp at hk
  | cons x r ih =>
    cases k with
    | zero => simp only [List.getD_cons_zero] at hn; simp [firstBad, hn]
    | succ k =>
      have h0 := h 0 (by omega)
      simp only [List.getD_cons_zero] at h0
      simp only [firstBad, h0, if_true]
      rw [ih (i + 1) k (by simpa using hk) (fun j hj => by simpa using h (j + 1) (by omega)) (by simpa using hn)]
      congr 1; omega

/-- Check's answer: the error and the place. -/
def checkS (xs : List Int) (es : List A5) : Int × Int :=
  if xs.length < 1 ∨ 10 < xs.length ∨ 24 < es.length then (1, 0)
  else match firstBad supB xs 0 with
    | some i => (2, (i : Int))
    | none => match firstBad (fun a => arcB a xs.length) es 0 with
      | some i => (3, (i : Int))
      | none => (0, 0)

theorem mem_of_getD {α : Type} (d : α) (l : List α) (x : α) (h : x ∈ l) : ∃ i, i < l.length ∧ l.getD i d = x := by
  obtain ⟨i, hi, rfl⟩ := List.getElem_of_mem h
  exact ⟨i, hi, by simp [List.getD, hi]⟩

theorem checkS_size {xs : List Int} {es : List A5} (h : xs.length < 1 ∨ 10 < xs.length ∨ 24 < es.length) : checkS xs es = (1, 0) := by
  rw [checkS, if_pos h]
theorem checkS_sup {xs : List Int} {es : List A5} (h : ¬ (xs.length < 1 ∨ 10 < xs.length ∨ 24 < es.length)) {k : Nat} (hk : k < xs.length) (h1 : ∀ j, j < k → supB (xs.getD j 0) = true) (h2 : supB (xs.getD k 0) = false) : checkS xs es = (2, (k : Int)) := by
  rw [checkS, if_neg h, firstBad_some supB 0 xs 0 k hk h1 h2]; simp
theorem checkS_arc {xs : List Int} {es : List A5} (h : ¬ (xs.length < 1 ∨ 10 < xs.length ∨ 24 < es.length)) (h0 : ∀ j, j < xs.length → supB (xs.getD j 0) = true) {k : Nat} (hk : k < es.length)
    (h1 : ∀ j, j < k → arcB (es.getD j zA) xs.length = true) (h2 : arcB (es.getD k zA) xs.length = false) : checkS xs es = (3, (k : Int)) := by
  rw [checkS, if_neg h, firstBad_none supB xs 0 (fun x hx => by obtain ⟨i, hi, rfl⟩ := mem_of_getD 0 xs x hx; exact h0 i hi)]
  simp only []
  rw [firstBad_some (fun a => arcB a xs.length) zA es 0 k hk h1 h2]; simp
theorem checkS_ok {xs : List Int} {es : List A5} (h : ¬ (xs.length < 1 ∨ 10 < xs.length ∨ 24 < es.length)) (h0 : ∀ j, j < xs.length → supB (xs.getD j 0) = true) 
    (h1 : ∀ j, j < es.length → arcB (es.getD j zA) xs.length = true) : checkS xs es = (0, 0) := by
  rw [checkS, if_neg h, firstBad_none supB xs 0 (fun x hx => by obtain ⟨i, hi, rfl⟩ := mem_of_getD 0 xs x hx; exact h0 i hi)]
  simp only []
  rw [firstBad_none (fun a => arcB a xs.length) es 0 (fun x hx => by obtain ⟨i, hi, rfl⟩ := mem_of_getD zA es x hx; exact h1 i hi)]

end Go.Proofs.YtnbccoflcoaoaaaGreat

namespace Go.Proofs.YtnbccoflcoaoaaaGreat
open Go.RowKit
set_option linter.unusedSimpArgs false
set_option linter.unusedVariables false

theorem supB_t {s : Int} (h1 : ¬ s < -100) (h2 : ¬ 100 < s) : supB s = true := decide_eq_true (by omega)
theorem supB_f {s : Int} (h : s < -100 ∨ 100 < s) : supB s = false := decide_eq_false (by omega)

set_option maxHeartbeats 1000000 in
theorem refCheck_any (sa aa : Option Addr) (sn sc an ac : Nat) (xs : List Int) (es : List A5) (w : World) (hx : Ints w sa sn xs) (he : Arcs w aa an es) :
    Calls Tryz.prog 13 #[.agg #[.slice sa sn sc, .slice aa an ac]] w fun e w' => e = .returned (.tuple #[.int .i64 (checkS xs es).1, .int .i64 (checkS xs es).2]) ∧ Below w.heap.size w w' := by
  obtain ⟨xl, xs1, _, xc⟩ := hx
  obtain ⟨el, es1, _, ec⟩ := he
  by_cases hsz : sn < 1 ∨ 10 < sn ∨ 24 < an
  · have hS : checkS xs es = (1, 0) := checkS_size (by omega)
    rw [hS]
    clear xc ec hS
    go_enter Tryz.func13, Tryz.ntmps13
    go_wp2
    all_goals
      go_ret2
      exact ⟨rfl, (Below.refl _ _).alloc (Nat.le_refl _) _⟩
  · have hL : Hid (xs.length = sn ∧ es.length = an) := ⟨xl, el⟩
    have hE : Hid (n0 (an = 0 ∨ ∃ b off, aa = some ⟨b, off, none⟩ ∧ b < w.heap.size ∧ ∀ i, i < an → ∀ j, j < 5 → w.cell? ⟨b, off + i * 5 + j, none⟩ = some (.int .i64 ((es.getD i zA).at j)))) := ec
    have hX : Hid (n0 (sn = 0 ∨ ∃ b off, sa = some ⟨b, off, none⟩ ∧ b < w.heap.size ∧ ∀ i, i < sn → w.cell? ⟨b, off + i, none⟩ = some (.int .i64 (xs.getD i 0)))) := xc
    clear xc ec xl el
    have a1 : (1 : Int) ≤ sn := by omega
    have a2 : (sn : Int) ≤ 10 := by omega
    have a3 : (an : Int) ≤ 24 := by omega
    clear hsz
    go_enter Tryz.func13, Tryz.ntmps13
    go_wp2
    go_loop [4] (fun i => ∃ k : Nat, k ≤ sn ∧ i = .int .i64 k ∧ Hid (∀ j, j < k → supB (xs.getD j 0) = true)) (fun i => sn - (intOf i).toNat)
    case atStart => exact ⟨0, Nat.zero_le _, rfl, fun j hj => absurd hj (Nat.not_lt_zero j)⟩
    case round =>
      obtain ⟨k, hk, rfl, hg⟩ := hrel
      by_cases hlt : k < sn
      · obtain ⟨b, off, rfl, hb, hc⟩ := (hX.out.out.resolve_left (by omega))
        have hck := hc k hlt
        generalize hs : xs.getD k 0 = s at hck
        have HS := hide hs
        clear hc hs
        go_wp2
        · go_ret2
          rw [checkS_sup (by rw [hL.out.1, hL.out.2]; omega) (by rw [hL.out.1]; exact hlt) hg.out (by rw [HS.out]; exact supB_f (by omega))]
          exact ⟨rfl, (Below.refl _ _).alloc (Nat.le_refl _) _⟩
        · refine ⟨⟨k + 1, by omega, by go_num, ?_⟩, by simp [intOf]; omega⟩
          intro j hj
          by_cases hjk : j = k
          · subst hjk; rw [HS.out]; exact supB_t (by omega) (by omega)
          · exact hg.out j (by omega)
        · go_ret2
          rw [checkS_sup (by rw [hL.out.1, hL.out.2]; omega) (by rw [hL.out.1]; exact hlt) hg.out (by rw [HS.out]; exact supB_f (by omega))]
          exact ⟨rfl, (Below.refl _ _).alloc (Nat.le_refl _) _⟩
      · have hkn : k = sn := by omega
        have hG : Hid (∀ j, j < xs.length → supB (xs.getD j 0) = true) := fun j hj => hg.out j (by rw [hL.out.1] at hj; omega)
        clear hg hkn
        go_wp2
        go_loopw [5, 6] (fun i o wr => ∃ k : Nat, k ≤ an ∧ i = .int .i64 k ∧ Hid (∀ j, j < k → arcB (es.getD j zA) xs.length = true) ∧ wr.cell? ⟨w.heap.size, 0, none⟩ = some (.slice sa sn sc) ∧ wr.cell? ⟨w.heap.size, 1, none⟩ = some (.slice aa an ac) ∧ Below w.heap.size w wr) (fun i _ _ => an - (intOf i).toNat)
        case atStart => exact ⟨0, Nat.zero_le _, rfl, fun j hj => absurd hj (Nat.not_lt_zero j), by simp, by simp, (Below.refl _ _).alloc (Nat.le_refl _) _⟩
        case round =>
          obtain ⟨k, hk, rfl, hg, c0, c1, hbel⟩ := hrel
          by_cases hlt2 : k < an
          · obtain ⟨b, off, rfl, hb, hc⟩ := (hE.out.out.resolve_left (by omega))
            have e0 := (hbel.cell (p := ⟨b, off + k * 5, none⟩) hb).trans (hc k hlt2 0 (by omega))
            have e1 := (hbel.cell (p := ⟨b, off + k * 5 + 1, none⟩) hb).trans (hc k hlt2 1 (by omega))
            have e2 := (hbel.cell (p := ⟨b, off + k * 5 + 2, none⟩) hb).trans (hc k hlt2 2 (by omega))
            have e3 := (hbel.cell (p := ⟨b, off + k * 5 + 3, none⟩) hb).trans (hc k hlt2 3 (by omega))
            have e4 := (hbel.cell (p := ⟨b, off + k * 5 + 4, none⟩) hb).trans (hc k hlt2 4 (by omega))
            clear hc
            have HA : Hid (∃ a, es.getD k zA = a) := ⟨_, rfl⟩
            obtain ⟨a, ha⟩ := HA.out
            clear HA
            rw [ha] at e0 e1 e2 e3 e4
            have HA := hide ha
            clear ha
            obtain ⟨f, t, l, c, q⟩ := a
            simp only [A5.at] at e0 e1 e2 e3 e4
            go_wp2
            have k0 := cell_regrown c0
            have k1 := cell_regrown c1
            have l0 := cell_regrown e0
            have l1 := cell_regrown e1
            have l2 := cell_regrown e2
            have l3 := cell_regrown e3
            have l4 := cell_regrown e4
            clear c0 c1 e0 e1 e2 e3 e4
            obtain ⟨B, hB⟩ : ∃ B, arcB ⟨f, t, l, c, q⟩ sn = B := ⟨_, rfl⟩
            have cQ : ∀ d os, Calls Tryz.prog 29 #[.agg #[.int .i64 f, .int .i64 t, .int .i64 l, .int .i64 c, .int .i64 q], .int .i64 sn] (Sort.grow (redrawn wr d) os) fun e w'' => e = .returned (.bool B) ∧ ∃ p : Regrown, w'' = Sort.grow (redrawn wr p.d) p.os := fun d os => Calls.regrown_of (by rw [← hB]; exact refArcFits_any f t l c q sn _)
            have HB := hide hB
            clear hB
            have hlt3 : (k : Int) < (an : Int) := by omega
            refine wp_region_quiet_below (by kernel_rfl) (by kernel_rfl) ?_
            repeat (quiet_step (first | exact cQ _ _))
            refine wpQuiet_nil ?_
            intro _ hw'
            obtain ⟨⟨dq, osq⟩, hw''⟩ := hw'
            subst hw''
            have k0' := k0 dq osq
            have k1' := k1 dq osq
            have hbr := below_regrown wr dq osq
            generalize Sort.grow (redrawn wr dq) osq = w2 at *
            clear k0 k1 l0 l1 l2 l3 l4 cQ
            have hb2 : Below w.heap.size w w2 := hbel.trans (hbr.mono hbel.size)
            clear hbr
            cases B with
            | true =>
              go_wp2
              go_roundw
              case rel =>
                refine ⟨k + 1, by omega, by go_num, ?_, k0', k1', hb2⟩
                intro j hj
                by_cases hjk : j = k
                · subst hjk; rw [HA.out, hL.out.1]; exact HB.out
                · exact hg.out j (by omega)
              case measure => simp [intOf]; omega
            | false =>
              go_wp2
              go_ret2
              rw [checkS_arc (by rw [hL.out.1, hL.out.2]; omega) hG.out (by rw [hL.out.2]; exact hlt2) hg.out (by rw [HA.out, hL.out.1]; exact HB.out)]
              exact ⟨rfl, hb2⟩
          · have hkn : k = an := by omega
            subst hkn
            go_wp2
            go_ret2
            rw [checkS_ok (by rw [hL.out.1, hL.out.2]; omega) hG.out (fun j hj => hg.out j (by rw [hL.out.2] at hj; exact hj))]
            exact ⟨rfl, hbel⟩
end Go.Proofs.YtnbccoflcoaoaaaGreat

namespace Go.Proofs.YtnbccoflcoaoaaaGreat
open Go.RowKit
set_option linter.unusedSimpArgs false
set_option linter.unusedVariables false

set_option maxHeartbeats 1000000 in
theorem gCheck_any (sa aa : Option Addr) (sn sc an ac : Nat) (xs : List Int) (es : List A5) (w : World) (hx : Ints w sa sn xs) (he : Arcs w aa an es) :
    Calls Tryz.prog 28 #[.agg #[.slice sa sn sc, .slice aa an ac]] w fun e w' => e = .returned (.tuple #[.int .i64 (checkS xs es).1, .int .i64 (checkS xs es).2]) ∧ Below w.heap.size w w' := by
  obtain ⟨xl, xs1, _, xc⟩ := hx
  obtain ⟨el, es1, _, ec⟩ := he
  by_cases hsz : sn < 1 ∨ 10 < sn ∨ 24 < an
  · have hS : checkS xs es = (1, 0) := checkS_size (by omega)
    rw [hS]
    clear xc ec hS
    go_enter Tryz.func28, Tryz.ntmps28
    go_wp2
    all_goals
      go_ret2
      exact ⟨rfl, (Below.refl _ _).alloc (Nat.le_refl _) _⟩
  · have hL : Hid (xs.length = sn ∧ es.length = an) := ⟨xl, el⟩
    have hE : Hid (n0 (an = 0 ∨ ∃ b off, aa = some ⟨b, off, none⟩ ∧ b < w.heap.size ∧ ∀ i, i < an → ∀ j, j < 5 → w.cell? ⟨b, off + i * 5 + j, none⟩ = some (.int .i64 ((es.getD i zA).at j)))) := ec
    have hX : Hid (n0 (sn = 0 ∨ ∃ b off, sa = some ⟨b, off, none⟩ ∧ b < w.heap.size ∧ ∀ i, i < sn → w.cell? ⟨b, off + i, none⟩ = some (.int .i64 (xs.getD i 0)))) := xc
    clear xc ec xl el
    have a1 : (1 : Int) ≤ sn := by omega
    have a2 : (sn : Int) ≤ 10 := by omega
    have a3 : (an : Int) ≤ 24 := by omega
    clear hsz
    go_enter Tryz.func28, Tryz.ntmps28
    go_wp2
    go_loop [27] (fun i => ∃ k : Nat, k ≤ sn ∧ i = .int .i64 k ∧ Hid (∀ j, j < k → supB (xs.getD j 0) = true)) (fun i => sn - (intOf i).toNat)
    case atStart => exact ⟨0, Nat.zero_le _, rfl, fun j hj => absurd hj (Nat.not_lt_zero j)⟩
    case round =>
      obtain ⟨k, hk, rfl, hg⟩ := hrel
      by_cases hlt : k < sn
      · obtain ⟨b, off, rfl, hb, hc⟩ := (hX.out.out.resolve_left (by omega))
        have hck := hc k hlt
        generalize hs : xs.getD k 0 = s at hck
        have HS := hide hs
        clear hc hs
        go_wp2
        · go_ret2
          rw [checkS_sup (by rw [hL.out.1, hL.out.2]; omega) (by rw [hL.out.1]; exact hlt) hg.out (by rw [HS.out]; exact supB_f (by omega))]
          exact ⟨rfl, (Below.refl _ _).alloc (Nat.le_refl _) _⟩
        · refine ⟨⟨k + 1, by omega, by go_num, ?_⟩, by simp [intOf]; omega⟩
          intro j hj
          by_cases hjk : j = k
          · subst hjk; rw [HS.out]; exact supB_t (by omega) (by omega)
          · exact hg.out j (by omega)
        · go_ret2
          rw [checkS_sup (by rw [hL.out.1, hL.out.2]; omega) (by rw [hL.out.1]; exact hlt) hg.out (by rw [HS.out]; exact supB_f (by omega))]
          exact ⟨rfl, (Below.refl _ _).alloc (Nat.le_refl _) _⟩
      · have hkn : k = sn := by omega
        have hG : Hid (∀ j, j < xs.length → supB (xs.getD j 0) = true) := fun j hj => hg.out j (by rw [hL.out.1] at hj; omega)
        clear hg hkn
        go_wp2
        go_loopw [43] (fun i wr => ∃ k : Nat, k ≤ an ∧ i = .int .i64 k ∧ Hid (∀ j, j < k → arcB (es.getD j zA) xs.length = true) ∧ wr.cell? ⟨w.heap.size, 0, none⟩ = some (.slice sa sn sc) ∧ Below w.heap.size w wr ∧ w.heap.size < wr.heap.size) (fun i _ => an - (intOf i).toNat)
        case atStart => exact ⟨0, Nat.zero_le _, rfl, fun j hj => absurd hj (Nat.not_lt_zero j), by simp, (Below.refl _ _).alloc (Nat.le_refl _) _, by simp⟩
        case round =>
          obtain ⟨k, hk, rfl, hg, c0, hbel, hsize⟩ := hrel
          by_cases hlt2 : k < an
          · obtain ⟨b, off, rfl, hb, hc⟩ := (hE.out.out.resolve_left (by omega))
            have e0 := (hbel.cell (p := ⟨b, off + k * 5, none⟩) hb).trans (hc k hlt2 0 (by omega))
            have e1 := (hbel.cell (p := ⟨b, off + k * 5 + 1, none⟩) hb).trans (hc k hlt2 1 (by omega))
            have e2 := (hbel.cell (p := ⟨b, off + k * 5 + 2, none⟩) hb).trans (hc k hlt2 2 (by omega))
            have e3 := (hbel.cell (p := ⟨b, off + k * 5 + 3, none⟩) hb).trans (hc k hlt2 3 (by omega))
            have e4 := (hbel.cell (p := ⟨b, off + k * 5 + 4, none⟩) hb).trans (hc k hlt2 4 (by omega))
            clear hc
            have HA : Hid (∃ a, es.getD k zA = a) := ⟨_, rfl⟩
            obtain ⟨a, ha⟩ := HA.out
            clear HA
            rw [ha] at e0 e1 e2 e3 e4
            have HA := hide ha
            clear ha
            obtain ⟨f, t, l, c, q⟩ := a
            simp only [A5.at] at e0 e1 e2 e3 e4
            have hlt3 : (k : Int) < (an : Int) := by omega
            obtain ⟨B, hB⟩ : ∃ B, arcB ⟨f, t, l, c, q⟩ sn = B := ⟨_, rfl⟩
            have cQ : n0 (∀ w0, Calls Tryz.prog 47 #[.agg #[.int .i64 f, .int .i64 t, .int .i64 l, .int .i64 c, .int .i64 q], .int .i64 sn] w0 fun e w' => e = .returned (.bool B) ∧ Below w0.heap.size w0 w') := fun w0 => by rw [← hB]; exact gArcMayBe_any f t l c q sn w0
            have HB := hide hB
            clear hB
            go_wp2_with fail
            refine (cQ.out _).mono ?_
            rintro e w1 ⟨rfl, hb1⟩
            have c0' := (hb1.cell (p := ⟨w.heap.size, 0, none⟩) (by simp; omega)).trans ((World.cell?_alloc_old _ _ _ (by simp; omega)).trans c0)
            have hb2 : Below w.heap.size w w1 := (hbel.alloc hbel.size _).trans (hb1.mono (by simp; omega))
            have hs2 : w.heap.size < w1.heap.size := by have := hb1.size; simp at this; omega
            clear c0 e0 e1 e2 e3 e4 hb1 cQ
            cases B with
            | true =>
              go_wp2
              go_roundw
              case rel =>
                refine ⟨k + 1, by omega, by go_num, ?_, c0', hb2, hs2⟩
                intro j hj
                by_cases hjk : j = k
                · subst hjk; rw [HA.out, hL.out.1]; exact HB.out
                · exact hg.out j (by omega)
              case measure => simp [intOf]; omega
            | false =>
              go_wp2
              go_ret2
              rw [checkS_arc (by rw [hL.out.1, hL.out.2]; omega) hG.out (by rw [hL.out.2]; exact hlt2) hg.out (by rw [HA.out, hL.out.1]; exact HB.out)]
              exact ⟨rfl, hb2⟩
          · have hkn : k = an := by omega
            subst hkn
            go_wp2
            go_ret2
            rw [checkS_ok (by rw [hL.out.1, hL.out.2]; omega) hG.out (fun j hj => hg.out j (by rw [hL.out.2] at hj; exact hj))]
            exact ⟨rfl, hbel⟩
end Go.Proofs.YtnbccoflcoaoaaaGreat

namespace Go.Proofs.YtnbccoflcoaoaaaGreat
open Go.RowKit
set_option linter.unusedSimpArgs false
set_option linter.unusedVariables false

section
variable {P : Program} (w : World)

/-- append(nil, l...): a fresh row, or nil where there is nothing. -/
theorem run_append_copy (t ty e : TypeId) (i : TypeInfo) (z : Value) (size bytes : Nat) (ht : P.underlying t = some (.slice e)) (hi : P.info? e = some i) (hz : i.zero = some z)
    (hsize : i.size = size) (hby : i.bytes = bytes) (hzs : z.cells.size = size) (hsz : 0 < size)
    (sa : Option Addr) (m c : Nat) (news : List Value) (hl : news.length = m * size) (hsrc : m = 0 ∨ ∃ ad, sa = some ad ∧ ∀ j u, news[j]? = some u → w.cell? (ad.add j) = some u) (h1 : ∀ u ∈ news, u.oneCell' = true)
    (h63 : m ≤ maxLen) (hbytes : m * bytes ≤ 140737488355328) :
    ∃ v' w', (Builtin.append_ #[t, t] ty #[.slice none 0 0, .slice sa m c]).run P w = .ok v' w' ∧ w'.ownsRow w.heap.size e size v' m news ∧ w.grownBy w' none := by
  have hown := World.ownsRow_nil w w.heap.size e size
  by_cases hm : m = 0
  · subst hm
    have hn : news = [] := List.eq_nil_of_length_eq_zero (by simpa using hl)
    subst hn
    refine ⟨.slice none 0 0, w, ?_, hown, ⟨rfl, rfl, rfl, Nat.le_refl _, fun _ _ _ => rfl⟩⟩
    cases sa with
    | none => simp [Builtin.append_, run_underlying ht, sizeOf, typeInfo, hi, Builtin.lenOf, Builtin.firstCells, loadCells, loadCellsFrom]
    | some ad => simp [Builtin.append_, run_underlying ht, sizeOf, typeInfo, hi, Builtin.lenOf, Builtin.firstCells, loadCells, loadCellsFrom]
  · obtain ⟨ad, rfl, hnews⟩ := hsrc.resolve_left hm
    obtain ⟨v', w', hr, h2, h3, _⟩ := run_append_own (P := P) w w.heap.size t ty e i z size bytes ht hi hz hsize hby hzs hsz (.slice none 0 0) 0 [] hown ad m c news hl hnews h1 (by omega) (by simpa using hbytes) (Nat.le_refl _)
    exact ⟨v', w', hr, by simpa using h2, h3⟩

theorem wpList_append_copy {ops : Array Oper} {rest : List Oper} {o : Oper} {a : Act} {Q : Exit → Act → World → Prop} (hgd : o.guard = none) (s x : Operand) (t : TypeId)
    (ho : o.op = .call { callee := .builtin .append, args := #[s, x], argTypes := #[t, t] })
    (e : TypeId) (i : TypeInfo) (z : Value) (size bytes : Nat) (ht : P.underlying t = some (.slice e)) (hi : P.info? e = some i) (hz : i.zero = some z)
    (hsize : i.size = size) (hby : i.bytes = bytes) (hzs : z.cells.size = size) (hsz : 0 < size)
    (hs : a.eval s = .slice none 0 0) (sa : Option Addr) (m c : Nat) (hx : a.eval x = .slice sa m c)
    (news : List Value) (hl : news.length = m * size) (hsrc : m = 0 ∨ ∃ ad, sa = some ad ∧ ∀ j u, news[j]? = some u → w.cell? (ad.add j) = some u) (h1 : ∀ u ∈ news, u.oneCell' = true)
    (h63 : m ≤ maxLen) (hbytes : m * bytes ≤ 140737488355328)
    (h : ∀ v' w', w'.ownsRow w.heap.size e size v' m news → w.grownBy w' none → wpList P ops Q rest (a.put o.dst v') w') : wpList P ops Q (o :: rest) a w := by
  refine wpList_plain hgd fun _ hK => ?_
  obtain ⟨v', w', hr, h2, h3⟩ := run_append_copy (P := P) w t o.type e i z size bytes ht hi hz hsize hby hzs hsz sa m c news hl hsrc h1 h63 hbytes
  unfold Oper.wp execOp
  simp only [ho, resolve, invoke, builtin, Sem.run_bind, Sem.run_pure, Result.andThen_ok, List.map_toArray, List.map_cons, List.map_nil, hs, hx, hr]
  exact hK _ _ (h v' w' h2 h3)
end

/-- Its array was made from block lo on (or there is nothing in it). -/
def Fresh (lo n : Nat) (a : Option Addr) : Prop := n = 0 ∨ ∃ b off, a = some ⟨b, off, none⟩ ∧ lo ≤ b

theorem Ints.keep {w w' : World} {a : Option Addr} {n lo : Nat} {xs : List Int} (h : Ints w a n xs) (hf : Fresh lo n a) (hsz : w.heap.size ≤ w'.heap.size) (hc : ∀ b off, lo ≤ b → b < w.heap.size → w'.cell? ⟨b, off, none⟩ = w.cell? ⟨b, off, none⟩) : Ints w' a n xs := by
  refine ⟨h.len, h.small, h.wf, ?_⟩
  by_cases hn : n = 0
  · exact .inl hn
  · obtain ⟨b, off, e, hl, hc'⟩ := h.lies.resolve_left hn
    obtain ⟨b2, off2, e2, hlo⟩ := hf.resolve_left hn
    rw [e] at e2
    obtain ⟨rfl, rfl⟩ : b = b2 ∧ off = off2 := by simpa using e2
    exact .inr ⟨b, off, e, Nat.lt_of_lt_of_le hl hsz, fun i hi => by rw [hc b _ hlo hl]; exact hc' i hi⟩

theorem Arcs.keep {w w' : World} {a : Option Addr} {n lo : Nat} {xs : List A5} (h : Arcs w a n xs) (hf : Fresh lo n a) (hsz : w.heap.size ≤ w'.heap.size) (hc : ∀ b off, lo ≤ b → b < w.heap.size → w'.cell? ⟨b, off, none⟩ = w.cell? ⟨b, off, none⟩) : Arcs w' a n xs := by
  refine ⟨h.len, h.small, h.wf, ?_⟩
  by_cases hn : n = 0
  · exact .inl hn
  · obtain ⟨b, off, e, hl, hc'⟩ := h.lies.resolve_left hn
    obtain ⟨b2, off2, e2, hlo⟩ := hf.resolve_left hn
    rw [e] at e2
    obtain ⟨rfl, rfl⟩ : b = b2 ∧ off = off2 := by simpa using e2
    exact .inr ⟨b, off, e, Nat.lt_of_lt_of_le hl hsz, fun i hi j hj => by rw [hc b _ hlo hl]; exact hc' i hi j hj⟩

/-- The cells of a list of ints. -/
def intCells (xs : List Int) : List Value := xs.map (Value.int .i64)
def A5.cells (a : A5) : List Value := [.int .i64 a.fr, .int .i64 a.to, .int .i64 a.lo, .int .i64 a.cap, .int .i64 a.cost]
def arcCells : List A5 → List Value
  | [] => []
  | a :: r => a.cells ++ arcCells r

theorem arcCells_length (es : List A5) : (arcCells es).length = es.length * 5 := by
  induction es with
  | nil => rfl
  | cons a r ih => simp only [arcCells, List.length_append, ih, A5.cells, List.length_cons, List.length_nil]; omega
theorem arcCells_one (es : List A5) : ∀ u ∈ arcCells es, u.oneCell' = true := by
  induction es with
  | nil => intro u hu; cases hu
  | cons a r ih =>
    intro u hu
    simp only [arcCells, List.mem_append] at hu
    rcases hu with hu | hu
    · simp only [A5.cells, List.mem_cons, List.not_mem_nil, or_false] at hu
      rcases hu with rfl | rfl | rfl | rfl | rfl <;> rfl
    · exact ih u hu
theorem A5.cells_at (a : A5) (j : Nat) (hj : j < 5) : a.cells[j]? = some (.int .i64 (a.at j)) := by
  match j, hj with
  | 0, _ => rfl
  | 1, _ => rfl
  | 2, _ => rfl
  | 3, _ => rfl
  | 4, _ => rfl
theorem arcCells_at (es : List A5) (i j : Nat) (hi : i < es.length) (hj : j < 5) : (arcCells es)[i * 5 + j]? = some (.int .i64 ((es.getD i zA).at j)) := by
  induction es generalizing i with
  | nil => simp at hi
  | cons a r ih =>
    cases i with
    | zero =>
      simp only [arcCells, Nat.zero_mul, Nat.zero_add, List.getD_cons_zero]
      rw [List.getElem?_append_left (by simp [A5.cells]; omega)]
      exact a.cells_at j hj
    | succ i =>
      simp only [arcCells, List.getD_cons_succ]
      rw [List.getElem?_append_right (by simp [A5.cells]; omega)]
      rw [← ih i (by simpa using hi)]
      congr 1
      simp [A5.cells]; omega
theorem intCells_at (xs : List Int) (i : Nat) (hi : i < xs.length) : (intCells xs)[i]? = some (.int .i64 (xs.getD i 0)) := by
  simp [intCells, hi, List.getD]

theorem own_cell {w : World} {base : Nat} {e : TypeId} {size n g cap : Nat} {cur : Array Value} {xs : List Value} (hh : w.heap[g]? = some (.cells cur e (0, 0))) (ht : cur.toList.take (n * size) = xs) (j : Nat) (u : Value) (hj : xs[j]? = some u) : w.cell? ⟨g, j, none⟩ = some u := by
  rw [Joins.cell_of_block hh]
  subst ht
  rw [List.getElem?_take] at hj
  split at hj
  · simpa using hj
  · cases hj

/-- The row that an append has made of a list of ints. -/
theorem ints_of_own {w : World} {lo : Nat} {e : TypeId} {v : Value} {n : Nat} {xs : List Int} (h : w.ownsRow lo e 1 v n (intCells xs)) (hl : xs.length = n) (hs : n ≤ 17592186044416) (hw : ∀ x ∈ xs, -9223372036854775808 ≤ x ∧ x ≤ 9223372036854775807) :
    ∃ a c, v = .slice a n c ∧ Ints w a n xs ∧ Fresh lo n a := by
  rcases h.2 with ⟨rfl, rfl⟩ | ⟨g, cap, cur, rfl, hg, hh, _, _, hc, ht⟩
  · exact ⟨none, 0, rfl, ⟨hl, hs, hw, .inl rfl⟩, .inl rfl⟩
  · have hlt : g < w.heap.size := by
      rcases Nat.lt_or_ge g w.heap.size with h' | h'
      · exact h'
      · rw [Array.getElem?_eq_none h'] at hh; cases hh
    refine ⟨_, _, rfl, ⟨hl, hs, hw, .inr ⟨g, 0, rfl, hlt, fun i hi => ?_⟩⟩, .inr ⟨g, 0, rfl, hg⟩⟩
    rw [Nat.zero_add]
    exact own_cell (base := lo) (cap := cap) hh ht i _ (intCells_at xs i (by omega))

theorem arcs_of_own {w : World} {lo : Nat} {e : TypeId} {v : Value} {n : Nat} {es : List A5} (h : w.ownsRow lo e 5 v n (arcCells es)) (hl : es.length = n) (hs : n ≤ 3518437208883) (hw : ∀ x ∈ es, ∀ j, -9223372036854775808 ≤ x.at j ∧ x.at j ≤ 9223372036854775807) :
    ∃ a c, v = .slice a n c ∧ Arcs w a n es ∧ Fresh lo n a := by
  rcases h.2 with ⟨rfl, rfl⟩ | ⟨g, cap, cur, rfl, hg, hh, _, _, hc, ht⟩
  · exact ⟨none, 0, rfl, ⟨hl, hs, hw, .inl rfl⟩, .inl rfl⟩
  · have hlt : g < w.heap.size := by
      rcases Nat.lt_or_ge g w.heap.size with h' | h'
      · exact h'
      · rw [Array.getElem?_eq_none h'] at hh; cases hh
    refine ⟨_, _, rfl, ⟨hl, hs, hw, .inr ⟨g, 0, rfl, hlt, fun i hi j hj => ?_⟩⟩, .inr ⟨g, 0, rfl, hg⟩⟩
    rw [Nat.zero_add]
    exact own_cell (base := lo) (cap := cap) hh ht _ _ (arcCells_at es i j (by omega) hj)

/-- The source of the append, of a list of ints that lies in w. -/
theorem Ints.src {w : World} {a : Option Addr} {n : Nat} {xs : List Int} (h : Ints w a n xs) : n = 0 ∨ ∃ ad, a = some ad ∧ ∀ j u, (intCells xs)[j]? = some u → w.cell? (ad.add j) = some u := by
  refine h.lies.imp id fun ⟨b, off, e, _, hc⟩ => ⟨_, e, fun j u hj => ?_⟩
  have hlt : j < xs.length := by
    rcases Nat.lt_or_ge j xs.length with h' | h'
    · exact h'
    · simp [intCells, h'] at hj
  rw [intCells_at xs j hlt] at hj
  rw [← hj, ← hc j (by rw [← h.len]; exact hlt)]
  cases j <;> simp [Addr.add]
theorem Arcs.src {w : World} {a : Option Addr} {n : Nat} {es : List A5} (h : Arcs w a n es) : n = 0 ∨ ∃ ad, a = some ad ∧ ∀ j u, (arcCells es)[j]? = some u → w.cell? (ad.add j) = some u := by
  refine h.lies.imp id fun ⟨b, off, e, _, hc⟩ => ⟨_, e, fun j u hj => ?_⟩
  have hlt : j < es.length * 5 := by
    rcases Nat.lt_or_ge j (es.length * 5) with h' | h'
    · exact h'
    · rw [List.getElem?_eq_none (by rw [arcCells_length]; exact h')] at hj; cases hj
  have h2 := arcCells_at es (j / 5) (j % 5) (by omega) (by omega)
  rw [show j / 5 * 5 + j % 5 = j from by omega] at h2
  rw [h2] at hj
  rw [← hj, ← hc (j / 5) (by rw [← h.len]; omega) (j % 5) (by omega)]
  rw [show off + j / 5 * 5 + j % 5 = off + j from by omega]
  cases j <;> simp [Addr.add]
end Go.Proofs.YtnbccoflcoaoaaaGreat

namespace Go.Proofs.YtnbccoflcoaoaaaGreat
open Go.RowKit
set_option linter.unusedSimpArgs false
set_option linter.unusedVariables false

theorem infoInt : (Tryz.prog.info? 3).map (fun i => (i.zero, i.size, i.bytes)) = some (some (.int .i64 0), 1, 8) := by kernel_rfl
theorem infoArc : (Tryz.prog.info? 67).map (fun i => (i.zero, i.size, i.bytes)) = some (some (.agg #[.int .i64 0, .int .i64 0, .int .i64 0, .int .i64 0, .int .i64 0]), 5, 40) := by kernel_rfl

theorem intCells_length (xs : List Int) : (intCells xs).length = xs.length := by simp [intCells]
theorem intCells_one (xs : List Int) : ∀ u ∈ intCells xs, u.oneCell' = true := by
  intro u hu; simp only [intCells, List.mem_map] at hu; obtain ⟨x, _, rfl⟩ := hu; rfl

/-- In the walk: append(nil, l...) of ints that lie there. -/
theorem wpList_copy_ints {w : World} {ops : Array Oper} {rest : List Oper} {o : Oper} {a : Act} {Q : Exit → Act → World → Prop} (hgd : o.guard = none) (s x : Operand)
    (ho : o.op = .call { callee := .builtin .append, args := #[s, x], argTypes := #[32, 32] })
    (hs : a.eval s = .slice none 0 0) (sa : Option Addr) (m c : Nat) (hx : a.eval x = .slice sa m c) (xs : List Int) (hX : Ints w sa m xs)
    (h : ∀ a' c' w', Ints w' a' m xs → Fresh w.heap.size m a' → Below w.heap.size w w' → wpList Tryz.prog ops Q rest (a.put o.dst (.slice a' m c')) w') : wpList Tryz.prog ops Q (o :: rest) a w := by
  obtain ⟨i0, hi, hz0, hz1, hz2⟩ := info_parts infoInt
  have hsm := hX.small
  refine wpList_append_copy w hgd s x 32 ho 3 i0 _ 1 8 Tryz.underlying32 hi hz0 hz1 hz2 rfl (by decide) hs sa m c hx (intCells xs) (by rw [intCells_length, hX.len]; omega) hX.src (intCells_one xs) (by unfold maxLen; omega) (by omega) ?_
  intro v' w' hown hgr
  obtain ⟨a', c', rfl, hI, hF⟩ := ints_of_own hown hX.len hsm hX.wf
  exact h a' c' w' hI hF ((Below.refl _ _).grown hgr (Nat.le_refl _) (fun k hk => by cases hk))

theorem wpList_copy_arcs {w : World} {ops : Array Oper} {rest : List Oper} {o : Oper} {a : Act} {Q : Exit → Act → World → Prop} (hgd : o.guard = none) (s x : Operand)
    (ho : o.op = .call { callee := .builtin .append, args := #[s, x], argTypes := #[46, 46] })
    (hs : a.eval s = .slice none 0 0) (sa : Option Addr) (m c : Nat) (hx : a.eval x = .slice sa m c) (es : List A5) (hX : Arcs w sa m es)
    (h : ∀ a' c' w', Arcs w' a' m es → Fresh w.heap.size m a' → Below w.heap.size w w' → wpList Tryz.prog ops Q rest (a.put o.dst (.slice a' m c')) w') : wpList Tryz.prog ops Q (o :: rest) a w := by
  obtain ⟨i0, hi, hz0, hz1, hz2⟩ := info_parts infoArc
  have hsm := hX.small
  refine wpList_append_copy w hgd s x 46 ho 67 i0 _ 5 40 Tryz.underlying46 hi hz0 hz1 hz2 rfl (by decide) hs sa m c hx (arcCells es) (by rw [arcCells_length, hX.len]) hX.src (arcCells_one es) (by unfold maxLen; omega) (by omega) ?_
  intro v' w' hown hgr
  obtain ⟨a', c', rfl, hI, hF⟩ := arcs_of_own hown hX.len hsm hX.wf
  exact h a' c' w' hI hF ((Below.refl _ _).grown hgr (Nat.le_refl _) (fun k hk => by cases hk))

set_option maxHeartbeats 1000000 in
theorem refCopy_any (sa aa : Option Addr) (sn sc an ac : Nat) (xs : List Int) (es : List A5) (w : World) (hx : Ints w sa sn xs) (he : Arcs w aa an es) :
    Calls Tryz.prog 27 #[.agg #[.slice sa sn sc, .slice aa an ac]] w fun e w' => ∃ sa' sc' aa' ac', e = .returned (.agg #[.slice sa' sn sc', .slice aa' an ac']) ∧ Ints w' sa' sn xs ∧ Arcs w' aa' an es ∧ Fresh w.heap.size sn sa' ∧ Fresh w.heap.size an aa' ∧ Below w.heap.size w w' := by
  go_enter Tryz.func27, Tryz.ntmps27
  go_wp2_with (at_builtin; refine wpList_copy_ints rfl _ _ rfl rfl sa sn sc rfl xs (hx.below ?_) ?_)
  · exact (((Below.refl _ _).alloc (Nat.le_refl _) _).alloc (by simp) _).alloc (by simp; omega) _
  intro sa' sc' w1 hI hF hb
  have hz1 : w.heap.size + 1 + 1 < w1.heap.size := by have := hb.size; simp at this; omega
  have c0 : w1.cell? ⟨w.heap.size, 0, none⟩ = some (.slice sa sn sc) := (hb.cell (by simp; omega)).trans (by go_simp)
  have c1 : w1.cell? ⟨w.heap.size, 1, none⟩ = some (.slice aa an ac) := (hb.cell (by simp; omega)).trans (by go_simp)
  have r0 : w1.cell? ⟨w.heap.size + 1, 0, none⟩ = some (.slice none 0 0) := (hb.cell (by simp)).trans (by go_simp)
  have r1 : w1.cell? ⟨w.heap.size + 1, 1, none⟩ = some (.slice none 0 0) := (hb.cell (by simp)).trans (by go_simp)
  have d0 : w1.cell? ⟨w.heap.size + 1 + 1, 0, none⟩ = some (.slice none 0 0) := (hb.cell (by simp)).trans (by go_simp)
  have d1 : w1.cell? ⟨w.heap.size + 1 + 1, 1, none⟩ = some (.slice none 0 0) := (hb.cell (by simp)).trans (by go_simp)
  have f0 : w1.frozen? ⟨w.heap.size + 1, 0, none⟩ = false := (hb.frozen (by simp)).trans (by go_simp)
  have f1 : w1.frozen? ⟨w.heap.size + 1, 1, none⟩ = false := (hb.frozen (by simp)).trans (by go_simp)
  have g0 : w1.frozen? ⟨w.heap.size + 1 + 1, 0, none⟩ = false := (hb.frozen (by simp)).trans (by go_simp)
  have g1 : w1.frozen? ⟨w.heap.size + 1 + 1, 1, none⟩ = false := (hb.frozen (by simp)).trans (by go_simp)
  have hb1 : Below w.heap.size w w1 := by
    refine Below.trans ?_ (hb.mono ?_)
    · exact (((Below.refl _ _).alloc (Nat.le_refl _) _).alloc (by simp) _).alloc (by simp; omega) _
    · omega
  have hF1 : Fresh (w.heap.size + 1 + 1 + 1) sn sa' := hF
  clear hF hb hx
  go_wp2_with (at_builtin; refine wpList_copy_arcs rfl _ _ rfl rfl aa an ac rfl es (he.below ?_) ?_)
  · exact hb1.setCell (by show w.heap.size ≤ w.heap.size + 1 + 1; omega) _
  intro aa' ac' w2 hA hG hb2
  have hz2 : w1.heap.size ≤ w2.heap.size := by have := hb2.size; simpa using this
  have r0' : w2.cell? ⟨w.heap.size + 1, 0, none⟩ = some (.slice none 0 0) := (hb2.cell (by simp; omega)).trans (by go_simp)
  have r1' : w2.cell? ⟨w.heap.size + 1, 1, none⟩ = some (.slice none 0 0) := (hb2.cell (by simp; omega)).trans (by go_simp)
  have d0' : w2.cell? ⟨w.heap.size + 1 + 1, 0, none⟩ = some (.slice sa' sn sc') := (hb2.cell (by simp; omega)).trans (by go_simp)
  have d1' : w2.cell? ⟨w.heap.size + 1 + 1, 1, none⟩ = some (.slice none 0 0) := (hb2.cell (by simp; omega)).trans (by go_simp)
  have f0' : w2.frozen? ⟨w.heap.size + 1, 0, none⟩ = false := (hb2.frozen (by simp; omega)).trans (by go_simp)
  have f1' : w2.frozen? ⟨w.heap.size + 1, 1, none⟩ = false := (hb2.frozen (by simp; omega)).trans (by go_simp)
  have g1' : w2.frozen? ⟨w.heap.size + 1 + 1, 1, none⟩ = false := (hb2.frozen (by simp; omega)).trans (by go_simp)
  have hb3 : Below w.heap.size w w2 := (hb1.setCell (by show w.heap.size ≤ w.heap.size + 1 + 1; omega) _).trans (hb2.mono (by omega))
  have hI2 : Ints w2 sa' sn xs := hI.keep hF1 hz2 (fun b off hlo hlt => by
    rw [hb2.cell (p := ⟨b, off, none⟩) hlt]
    exact World.cell?_of_block (Below.heap_setCell _ _ _ _ (by show b ≠ w.heap.size + 1 + 1; omega)))
  clear c0 c1 r0 r1 d0 d1 f0 f1 g0 g1 hb2 hI hb1 he
  go_wp2
  have hk : ∀ b off, w.heap.size + 1 + 1 + 1 ≤ b → b < w2.heap.size → (((w2.setCell ⟨w.heap.size + 1 + 1, 1, none⟩ (Value.slice aa' an ac')).setCell ⟨w.heap.size + 1, 0, none⟩ (Value.slice sa' sn sc')).setCell ⟨w.heap.size + 1, 1, none⟩ (Value.slice aa' an ac')).cell? ⟨b, off, none⟩ = w2.cell? ⟨b, off, none⟩ := by
    intro b off hlo hlt
    refine World.cell?_of_block ?_
    rw [Below.heap_setCell _ _ _ _ (by show b ≠ w.heap.size + 1; omega), Below.heap_setCell _ _ _ _ (by show b ≠ w.heap.size + 1; omega), Below.heap_setCell _ _ _ _ (by show b ≠ w.heap.size + 1 + 1; omega)]
  have q0 : ((w2.setCell ⟨w.heap.size + 1 + 1, 1, none⟩ (Value.slice aa' an ac')).setCell ⟨w.heap.size + 1, 0, none⟩ (Value.slice sa' sn sc')).cell? ⟨w.heap.size + 1, 0, none⟩ = some (.slice sa' sn sc') := by go_simp
  have q1 : (((w2.setCell ⟨w.heap.size + 1 + 1, 1, none⟩ (Value.slice aa' an ac')).setCell ⟨w.heap.size + 1, 0, none⟩ (Value.slice sa' sn sc')).setCell ⟨w.heap.size + 1, 1, none⟩ (Value.slice aa' an ac')).cell? ⟨w.heap.size + 1, 1, none⟩ = some (.slice aa' an ac') := by go_simp
  refine bodyPost_ret (v := .agg #[.slice sa' sn sc', .slice aa' an ac']) (by simp [results, Tryz.results27, go_sem, q0, q1]) rfl ⟨sa', sc', aa', ac', rfl, ?_, ?_, ?_, ?_, ?_⟩
  · exact hI2.keep hF1 (by simp) hk
  · exact hA.keep (hG.imp id fun ⟨b, off, e, h⟩ => ⟨b, off, e, by omega⟩) (by simp) hk
  · exact hF1.imp id fun ⟨b, off, e, h⟩ => ⟨b, off, e, by omega⟩
  · exact hG.imp id fun ⟨b, off, e, h⟩ => ⟨b, off, e, by omega⟩
  · exact ((hb3.setCell (by show w.heap.size ≤ w.heap.size + 1 + 1; omega) _).setCell (by show w.heap.size ≤ w.heap.size + 1; omega) _).setCell (by show w.heap.size ≤ w.heap.size + 1; omega) _
end Go.Proofs.YtnbccoflcoaoaaaGreat

namespace Go.Proofs.YtnbccoflcoaoaaaGreat
open Go.RowKit
set_option linter.unusedSimpArgs false
set_option linter.unusedVariables false

theorem bcell {W w1 : World} (hb : Below W.heap.size W w1) : (∀ b o, b < W.heap.size → w1.cell? ⟨b, o, none⟩ = W.cell? ⟨b, o, none⟩) ∧ (∀ b o, b < W.heap.size → w1.frozen? ⟨b, o, none⟩ = W.frozen? ⟨b, o, none⟩) :=
  ⟨fun b o h => hb.cell (p := ⟨b, o, none⟩) h, fun b o h => hb.frozen (p := ⟨b, o, none⟩) h⟩

set_option maxHeartbeats 400000 in
theorem check_any (sa aa : Option Addr) (sn sc an ac : Nat) (xs : List Int) (es : List A5) (w : World) (hx : Ints w sa sn xs) (he : Arcs w aa an es) :
    Calls Tryz.prog 12 #[.agg #[.slice sa sn sc, .slice aa an ac]] w fun e w' => e = .returned (.tuple #[.int .i64 (checkS xs es).1, .int .i64 (checkS xs es).2]) ∧ Below w.heap.size w w' := by
  go_enter Tryz.func12, Tryz.ntmps12
  go_wp2_with fail
  refine (gCheck_any sa aa sn sc an ac xs es _ (hx.below ((Below.refl _ _).alloc (Nat.le_refl _) _)) (he.below ((Below.refl _ _).alloc (Nat.le_refl _) _))).mono ?_
  rintro e w1 ⟨rfl, hb⟩
  go_wp2
  go_ret2
  exact ⟨rfl, ((Below.refl _ _).alloc (Nat.le_refl _) _).trans (hb.mono (by simp))⟩

end Go.Proofs.YtnbccoflcoaoaaaGreat

namespace Go.Proofs.YtnbccoflcoaoaaaGreat
open Go.RowKit
set_option linter.unusedSimpArgs false
set_option linter.unusedVariables false

theorem arcCells_snoc (l : List A5) (a : A5) : arcCells (l ++ [a]) = arcCells l ++ a.cells := by
  induction l with
  | nil => simp [arcCells]
  | cons b r ih => simp only [List.cons_append, arcCells, ih, List.append_assoc]

theorem wpList_push_arc {w : World} {ops : Array Oper} {rest : List Oper} {o : Oper} {a : Act} {Q : Exit → Act → World → Prop} (hgd : o.guard = none) (s x : Operand)
    (ho : o.op = .call { callee := .builtin .append, args := #[s, x], argTypes := #[46, 46] }) (base : Nat) (oa : Option Addr) (oc : Nat) (l : List A5) (n : Nat) (hln : l.length = n)
    (hs : a.eval s = .slice oa n oc) (hown : w.ownsRow base 67 5 (.slice oa n oc) n (arcCells l)) (g : Nat) (y : A5) (c : Nat) (hx : a.eval x = .slice (some ⟨g, 0, none⟩) 1 c) (hy : ∀ j, j < 5 → w.cell? ⟨g, j, none⟩ = some (.int .i64 (y.at j)))
    (hl : n ≤ 1000) (hb : base ≤ w.heap.size)
    (h : ∀ g' c' w', w'.ownsRow base 67 5 (.slice (some ⟨g', 0, none⟩) (n + 1) c') (n + 1) (arcCells (l ++ [y])) → w.grownBy w' (Value.slice oa n oc).ownBlock → wpList Tryz.prog ops Q rest (a.put o.dst (.slice (some ⟨g', 0, none⟩) (n + 1) c')) w') : wpList Tryz.prog ops Q (o :: rest) a w := by
  obtain ⟨i0, hi, hz0, hz1, hz2⟩ := info_parts infoArc
  refine wpList_append_own w hgd s x 46 ho base 67 i0 _ 5 40 Tryz.underlying46 hi hz0 hz1 hz2 rfl (by decide) _ n (arcCells l) hs hown ⟨g, 0, none⟩ 1 c y.cells hx rfl ?_ ?_ (by unfold maxLen; omega) (by omega) hb ?_
  · intro j u hj
    have hj5 : j < 5 := by
      rcases Nat.lt_or_ge j 5 with h' | h'
      · exact h'
      · rw [List.getElem?_eq_none (by simpa [A5.cells] using h')] at hj; cases hj
    rw [y.cells_at j hj5] at hj
    cases hj
    have := hy j hj5
    cases j <;> simpa [Addr.add] using this
  · intro u hu
    simp only [A5.cells, List.mem_cons, List.not_mem_nil, or_false] at hu
    rcases hu with rfl | rfl | rfl | rfl | rfl <;> rfl
  · intro v' w' hown' hgr _
    rcases hown'.2 with ⟨_, h0⟩ | ⟨g', cap, cur, rfl, r⟩
    · omega
    · exact h g' cap w' (by rw [arcCells_snoc]; exact hown') hgr

end Go.Proofs.YtnbccoflcoaoaaaGreat
