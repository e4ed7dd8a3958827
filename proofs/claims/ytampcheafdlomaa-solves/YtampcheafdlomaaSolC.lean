import Derived.Test.YtampcheafdlomaaOwnK
import Derived.Test.YtampcheafdlomaaAccM
namespace Go.Proofs.Ytampcheafdlomaa
open Go.RowKit Go.Deep
set_option linter.unusedSimpArgs false
set_option linter.unusedVariables false

/-! ### what Solve may answer -/
def SolveAns (xs : List Int) (es : List A5) (a : A6) (err : Int) : Prop :=
  ((checkS xs es).1 ≠ 0 ∧ err = (checkS xs es).1 ∧ a = ⟨0, 0, [], [], [], []⟩) ∨ ((checkS xs es).1 = 0 ∧ err = 0 ∧ okB xs es a = true)

/-- Short lists of small numbers. -/
def Small (l : List Int) : Prop := l.length ≤ 24 ∧ ∀ x ∈ l, -1000000 ≤ x ∧ x ≤ 1000000
theorem Small.nil : Small [] := ⟨by simp, fun x hx => by simp at hx⟩
theorem Small.of_nil {l : List Int} (h : l.length = 0) : Small l := by
  have : l = [] := List.eq_nil_of_length_eq_zero h
  subst this; exact Small.nil
theorem Small.of {l : List Int} (h : l.length ≤ 24) (hb : ∀ i, i < l.length → -1000000 ≤ l.getD i 0 ∧ l.getD i 0 ≤ 1000000) : Small l :=
  ⟨h, fun x hx => by obtain ⟨i, hi, rfl⟩ := mem_of_getD 0 l x hx; exact hb i hi⟩
theorem Small.ints {w : World} {base : Nat} {oa : Option Addr} {oc : Nat} {l : List Int} (hs : Small l) (h : w.ownsRow base 3 1 (.slice oa l.length oc) l.length (intCells l)) : Ints w oa l.length l :=
  own_ints h (by have := hs.1; omega) (fun x hx => by have := hs.2 x hx; omega)

/-- Numbers of m things, none twice: at most m. -/
theorem once_len {m : Nat} {l : List Int} (h : onceB m l = true) : l.length ≤ m := by
  have key : ∀ k, k ≤ l.length → sumTo (fun v => if inB (l.take k) (v : Int) = true then 1 else 0) m = k := by
    intro k
    induction k with
    | zero =>
      intro _
      rw [sumTo_congr (g := fun _ => 0) (fun v _ => by simp [inB])]
      exact sumTo_zero _
    | succ k ih =>
      intro hk
      have h1 := of_all h k (by omega)
      simp only [onceAt, Bool.and_eq_true, decide_eq_true_eq, Bool.not_eq_true'] at h1
      obtain ⟨⟨a, b⟩, c⟩ := h1
      obtain ⟨v, hv⟩ : ∃ v : Nat, l.getD k 0 = (v : Int) := ⟨(l.getD k 0).toNat, by omega⟩
      rw [hv] at a b c
      rw [sumTo_set (f := fun v => if inB (l.take k) (v : Int) = true then 1 else 0) (j := v) (by omega) (fun i hi hne => by
        rw [inB_take_succ (by omega), hv]
        have : ((v : Int) == (i : Int)) = false := by simp; omega
        rw [this, Bool.or_false]), ih (by omega), inB_take_succ (by omega), hv, c]
      simp
  have h1 := key l.length (Nat.le_refl _)
  have h2 := sumTo_le (f := fun v => if inB (l.take l.length) (v : Int) = true then 1 else 0) (g := fun _ => 1) (n := m) (fun i _ => by split <;> omega)
  have h3 : ∀ n : Nat, sumTo (fun _ => 1) n = n := by
    intro n
    induction n with
    | zero => rfl
    | succ n ih => simp only [sumTo, ih]; omega
  rw [h1, h3] at h2
  omega

theorem fits_small {xs : List Int} {es : List A5} (hn : NetOK xs es) {y : List Int} (h : flowErr xs es y = 0) : Small y := by
  have hf := fits_of h
  refine Small.of (by rw [hf.len]; exact hn.arcs) (fun i hi => ?_)
  have h1 := hf.bd i (by rw [← hf.len]; exact hi)
  have h2 := arcB_out (hn.arc i (by rw [← hf.len]; exact hi))
  omega
theorem ok_small {xs : List Int} {es : List A5} (hn : NetOK xs es) {a : A6} (h : okB xs es a = true) : Small a.flow ∧ Small a.pots ∧ Small a.cut ∧ Small a.circ := by
  unfold okB at h
  split at h
  · unfold bestB holdsB at h
    simp only [Bool.and_eq_true, decide_eq_true_eq] at h
    obtain ⟨⟨⟨⟨h1, _⟩, h3⟩, h4⟩, ⟨⟨h5, h6⟩, _⟩⟩ := h
    refine ⟨fits_small hn h1, Small.of (by have := hn.ten; omega) (fun i hi => of_decide_eq_true (of_all h6 i hi)), Small.of_nil h3, Small.of_nil h4⟩
  · split at h
    · unfold noneB at h
      simp only [Bool.and_eq_true, decide_eq_true_eq] at h
      obtain ⟨⟨⟨⟨⟨h1, _⟩, h3⟩, h4⟩, h5⟩, _⟩ := h
      have hr : ∀ i, i < a.cut.length → i ≤ (a.cut.getD i 0) := by
        intro i
        induction i with
        | zero => intro hi; have := of_decide_eq_true (of_all h1 0 hi); omega
        | succ i ih =>
          intro hi
          have := ih (by omega)
          have := ris_lt h1 (show i < i + 1 by omega) hi
          omega
      refine ⟨Small.of_nil h3, Small.of_nil h4, Small.of ?_ (fun i hi => ?_), Small.of_nil h5⟩
      · by_cases h0 : a.cut.length = 0
        · omega
        · have h6 := hr (a.cut.length - 1) (by omega)
          have h7 := of_decide_eq_true (of_all h1 (a.cut.length - 1) (by omega))
          have := hn.ten
          omega
      · have h7 := of_decide_eq_true (of_all h1 i hi)
        have := hn.ten
        omega
    · split at h
      · unfold endB at h
        simp only [Bool.and_eq_true, decide_eq_true_eq] at h
        obtain ⟨⟨⟨⟨h1, _⟩, h3⟩, h4⟩, h5⟩ := h
        unfold goodB at h5
        simp only [Bool.and_eq_true, decide_eq_true_eq] at h5
        have ho := h5.1.1.1.1
        refine ⟨fits_small hn h1, Small.of_nil h3, Small.of_nil h4, Small.of (by have := once_len ho; have := hn.arcs; omega) (fun i hi => ?_)⟩
        have := once_out ho hi
        have := hn.arcs
        omega
      · cases h
theorem SolveAns.small {xs : List Int} {es : List A5} {a : A6} {err : Int} (h : SolveAns xs es a err) : Small a.flow ∧ Small a.pots ∧ Small a.cut ∧ Small a.circ := by
  rcases h with ⟨_, _, rfl⟩ | ⟨h1, _, h2⟩
  · exact ⟨Small.nil, Small.nil, Small.nil, Small.nil⟩
  · exact ok_small (netOK_of h1) h2

/-- The value of an answer whose lists are the call's own. -/
def OwnA (w : World) (base : Nat) (v : Value) (a : A6) : Prop :=
  ∃ fa fc pa pc ca cc ra rc, v = .agg #[.int .i64 a.kind, .int .i64 a.cost, .slice fa a.flow.length fc, .slice pa a.pots.length pc, .slice ca a.cut.length cc, .slice ra a.circ.length rc] ∧
    w.ownsRow base 3 1 (.slice fa a.flow.length fc) a.flow.length (intCells a.flow) ∧ w.ownsRow base 3 1 (.slice pa a.pots.length pc) a.pots.length (intCells a.pots) ∧
    w.ownsRow base 3 1 (.slice ca a.cut.length cc) a.cut.length (intCells a.cut) ∧ w.ownsRow base 3 1 (.slice ra a.circ.length rc) a.circ.length (intCells a.circ)

/-- SOLVE's CONTRACT. -/
def SolveC : Prop := ∀ (sa aa : Option Addr) (sn sc an ac : Nat) (xs : List Int) (es : List A5) (w : World), Ints w sa sn xs → Arcs w aa an es →
  Calls Try.prog 23 #[.agg #[.slice sa sn sc, .slice aa an ac]] w fun e w' => ∃ (a : A6) (err : Int) (v : Value), e = .returned (.tuple #[v, .int .i64 err]) ∧ OwnA w' w.heap.size v a ∧ SolveAns xs es a err ∧ Below w.heap.size w w'

theorem OwnA.below {w w' : World} {base : Nat} {v : Value} {a : A6} (h : OwnA w base v a) (hb : Below w.heap.size w w') : OwnA w' base v a := by
  obtain ⟨fa, fc, pa, pc, ca, cc, ra, rc, rfl, h1, h2, h3, h4⟩ := h
  exact ⟨fa, fc, pa, pc, ca, cc, ra, rc, rfl, h1.kept (grown_of_below hb none) (by cases fa <;> simp [Value.ownBlock]), h2.kept (grown_of_below hb none) (by cases pa <;> simp [Value.ownBlock]), h3.kept (grown_of_below hb none) (by cases ca <;> simp [Value.ownBlock]), h4.kept (grown_of_below hb none) (by cases ra <;> simp [Value.ownBlock])⟩
theorem OwnA.mono {w : World} {base base' : Nat} {v : Value} {a : A6} (h : OwnA w base v a) (hb : base' ≤ base) : OwnA w base' v a := by
  obtain ⟨fa, fc, pa, pc, ca, cc, ra, rc, rfl, h1, h2, h3, h4⟩ := h
  exact ⟨fa, fc, pa, pc, ca, cc, ra, rc, rfl, ownsRow_mono h1 hb, ownsRow_mono h2 hb, ownsRow_mono h3 hb, ownsRow_mono h4 hb⟩
/-- What is owned from 'base' on stays so while a cell below is written. -/
theorem OwnA.setBelow {w : World} {base : Nat} {v : Value} {a : A6} (h : OwnA w base v a) {b o : Nat} (hb : b < base) (u : Value) : OwnA (w.setCell ⟨b, o, none⟩ u) base v a := by
  obtain ⟨fa, fc, pa, pc, ca, cc, ra, rc, rfl, h1, h2, h3, h4⟩ := h
  exact ⟨fa, fc, pa, pc, ca, cc, ra, rc, rfl, ownsRow_setCell_below h1 hb u, ownsRow_setCell_below h2 hb u, ownsRow_setCell_below h3 hb u, ownsRow_setCell_below h4 hb u⟩

end Go.Proofs.Ytampcheafdlomaa
