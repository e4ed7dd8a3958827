import Derived.Test.YtnbccoflcoaoaaaGreatGBas
import Derived.Test.YtnbccoflcoaoaaaGreatGSnd
import Derived.Deep.RegionWith
import Derived.Test.YtnbccoflcoaoaaaGreatGAcc
namespace Go.Proofs.YtnbccoflcoaoaaaGreat
open Go.RowKit Go.Deep
set_option linter.unusedSimpArgs false
set_option linter.unusedVariables false

/-! ### lists of the call's own; what Some may answer -/
theorem grown_of_below {w w' : World} (h : Below w.heap.size w w') (row : Option Nat) : w.grownBy w' row := ⟨h.os, h.tape, h.output, h.size, fun k hk _ => h.block k hk⟩

/-- In the walk: append(l, y), l a row of numbers of the call's own. -/
theorem wpList_push_int {w : World} {ops : Array Oper} {rest : List Oper} {o : Oper} {a : Act} {Q : Exit → Act → World → Prop} (hgd : o.guard = none) (s x : Operand)
    (ho : o.op = .call { callee := .builtin .append, args := #[s, x], argTypes := #[32, 32] }) (base : Nat) (oa : Option Addr) (oc : Nat) (l : List Int)
    (hs : a.eval s = .slice oa l.length oc) (hown : w.ownsRow base 3 1 (.slice oa l.length oc) l.length (intCells l)) (g : Nat) (y : Int) (c : Nat) (hx : a.eval x = .slice (some ⟨g, 0, none⟩) 1 c) (hy : w.cell? ⟨g, 0, none⟩ = some (.int .i64 y))
    (hl : l.length ≤ 1000) (hb : base ≤ w.heap.size)
    (h : ∀ g' c' w', w'.ownsRow base 3 1 (.slice (some ⟨g', 0, none⟩) (l.length + 1) c') (l.length + 1) (intCells (l ++ [y])) → w.grownBy w' (Value.slice oa l.length oc).ownBlock → wpList Tryz.prog ops Q rest (a.put o.dst (.slice (some ⟨g', 0, none⟩) (l.length + 1) c')) w') : wpList Tryz.prog ops Q (o :: rest) a w := by
  obtain ⟨i0, hi, hz0, hz1, hz2⟩ := info_parts infoInt
  refine wpList_append_own w hgd s x 32 ho base 3 i0 _ 1 8 Tryz.underlying32 hi hz0 hz1 hz2 rfl (by decide) _ l.length (intCells l) hs hown ⟨g, 0, none⟩ 1 c [.int .i64 y] hx rfl ?_ ?_ (by unfold maxLen; omega) (by omega) hb ?_
  · intro j u hj
    cases j with
    | zero => simp at hj; subst hj; simpa [Addr.add] using hy
    | succ j => simp at hj
  · intro u hu; simp at hu; subst hu; rfl
  · intro v' w' hown' hgr _
    have hlen : intCells (l ++ [y]) = intCells l ++ [.int .i64 y] := by simp [intCells]
    rcases hown'.2 with ⟨_, h0⟩ | ⟨g', cap, cur, rfl, r⟩
    · omega
    · exact h g' cap w' (by rw [hlen]; exact hown') hgr

theorem intCells_at' (l : List Int) (j : Nat) (h : j < l.length) : (intCells l)[j]? = some (.int .i64 (l.getD j 0)) := by
  simp [intCells, List.getD, h]

theorem own_ints {w : World} {base : Nat} {oa : Option Addr} {oc : Nat} {l : List Int} (h : w.ownsRow base 3 1 (.slice oa l.length oc) l.length (intCells l)) (hs : l.length ≤ 17592186044416) (hb : ∀ x ∈ l, -9223372036854775808 ≤ x ∧ x ≤ 9223372036854775807) : Ints w oa l.length l := by
  obtain ⟨a, c, e, hI, _⟩ := ints_of_own h rfl hs hb
  cases e
  exact hI

theorem ownsRow_mono {w : World} {base base' : Nat} {e : TypeId} {size : Nat} {v : Value} {n : Nat} {xs : List Value} (h : w.ownsRow base e size v n xs) (hb : base' ≤ base) : w.ownsRow base' e size v n xs :=
  ⟨h.1, h.2.imp id fun ⟨g, cap, cur, a, b, r⟩ => ⟨g, cap, cur, a, by omega, r⟩⟩

/-- A list of the call's own. -/
def OwnL (w : World) (base : Nat) (v : Value) (l : List Int) : Prop := ∃ oa oc, v = .slice oa l.length oc ∧ w.ownsRow base 3 1 (.slice oa l.length oc) l.length (intCells l)

theorem OwnL.lit (w : World) : OwnL (w.alloc (.cells #[] 3)) w.heap.size (.slice (some ⟨w.heap.size, 0, none⟩) 0 0) [] :=
  ⟨_, _, rfl, World.ownsRow_lit w #[] 0 (Nat.le_refl _) (by unfold maxLen; omega) rfl⟩

theorem OwnL.push {w : World} {base g c : Nat} {l : List Int} {y : Int} (h : w.ownsRow base 3 1 (.slice (some ⟨g, 0, none⟩) (l.length + 1) c) (l.length + 1) (intCells (l ++ [y]))) : OwnL w base (.slice (some ⟨g, 0, none⟩) (l.length + 1) c) (l ++ [y]) := by
  have e : (l ++ [y]).length = l.length + 1 := by simp
  refine ⟨some ⟨g, 0, none⟩, c, by rw [e], by rw [e]; exact h⟩

theorem OwnL.mono {w : World} {base base' : Nat} {v : Value} {l : List Int} (h : OwnL w base v l) (hb : base' ≤ base) : OwnL w base' v l := by
  obtain ⟨oa, oc, e, ho⟩ := h
  exact ⟨oa, oc, e, ownsRow_mono ho hb⟩

theorem row_ints {w : World} {b n : Nat} {l : List Int} (h : w.rowIs b 3 n (fun i => .int .i64 (l.getD i 0))) (hl : l.length = n) (hs : n ≤ 17592186044416) (hb : ∀ i, i < n → -9223372036854775808 ≤ l.getD i 0 ∧ l.getD i 0 ≤ 9223372036854775807) : Ints w (some ⟨b, 0, none⟩) n l := by
  refine ⟨hl, hs, fun x hx => ?_, .inr ⟨b, 0, rfl, h.lt, fun i hi => by rw [Nat.zero_add]; exact h.cell hi⟩⟩
  obtain ⟨i, hi, rfl⟩ := mem_of_getD 0 l x hx
  exact hb i (by omega)

/-- What Some may answer: a flow, a cut, an error. -/
def SomeAns (xs : List Int) (es : List A5) (fl cu : List Int) (err : Int) : Prop :=
  ((checkS xs es).1 ≠ 0 ∧ err = (checkS xs es).1 ∧ fl = [] ∧ cu = []) ∨
  ((checkS xs es).1 = 0 ∧ err = 0 ∧ ((cu = [] ∧ flowErr xs es fl = 0 ∧ fl.length ≤ 24 ∧ (∀ x ∈ fl, 0 ≤ x ∧ x ≤ 1000000)) ∨ (fl = [] ∧ 0 < cu.length ∧ cu.length ≤ 10 ∧ risB cu xs.length = true ∧ violB xs es cu = true)))

theorem row_own {w : World} {base b n : Nat} {l : List Int} (h : w.rowIs b 3 n (fun i => .int .i64 (l.getD i 0))) (hl : l.length = n) (hb : base ≤ b) (hn : n ≤ 1000) : OwnL w base (.slice (some ⟨b, 0, none⟩) n n) l := by
  subst hl
  obtain ⟨cur, hh, hs, hc⟩ := h
  refine ⟨some ⟨b, 0, none⟩, l.length, rfl, by simp [intCells_length], .inr ⟨b, l.length, cur, rfl, hb, hh, Nat.le_refl _, by unfold maxLen; omega, by omega, ?_⟩⟩
  apply List.ext_getElem?
  intro i
  rw [List.getElem?_take]
  by_cases hi : i < l.length
  · rw [if_pos (by omega), intCells_at' l i hi, Array.getElem?_toList]
    exact hc i hi
  · rw [if_neg (by omega), List.getElem?_eq_none (by rw [intCells_length]; omega)]

theorem OwnL.nil (w : World) (base : Nat) : OwnL w base (.slice none 0 0) [] := ⟨none, 0, rfl, World.ownsRow_nil _ _ _ _⟩

theorem OwnL.grow {w w' : World} {base : Nat} {v : Value} {l : List Int} (h : OwnL w base v l) (hb : Below w.heap.size w w') : OwnL w' base v l := by
  obtain ⟨oa, oc, rfl, ho⟩ := h
  exact ⟨oa, oc, rfl, ho.kept (grown_of_below hb none) (by cases oa <;> simp [Value.ownBlock])⟩

theorem SomeAns.wf {xs : List Int} {es : List A5} {fl cu : List Int} {err : Int} (h : SomeAns xs es fl cu err) : (fl.length ≤ 24 ∧ ∀ x ∈ fl, -9223372036854775808 ≤ x ∧ x ≤ 9223372036854775807) ∧ (cu.length ≤ 10 ∧ ∀ x ∈ cu, -9223372036854775808 ≤ x ∧ x ≤ 9223372036854775807) := by
  rcases h with ⟨_, _, rfl, rfl⟩ | ⟨hc, _, ⟨rfl, _, h1, h2⟩ | ⟨rfl, _, h1, h2, _⟩⟩
  · exact ⟨⟨by simp, fun x hx => by simp at hx⟩, by simp, fun x hx => by simp at hx⟩
  · exact ⟨⟨h1, fun x hx => by have := h2 x hx; omega⟩, by simp, fun x hx => by simp at hx⟩
  · refine ⟨⟨by simp, fun x hx => by simp at hx⟩, h1, fun x hx => ?_⟩
    obtain ⟨i, hi, rfl⟩ := mem_of_getD 0 cu x hx
    have h3 := of_decide_eq_true (of_all h2 i hi)
    have h4 := (netOK_of hc).ten
    omega

/-- SOME's CONTRACT. -/
def SomeC : Prop := ∀ (sa aa : Option Addr) (sn sc an ac : Nat) (xs : List Int) (es : List A5) (w : World), Ints w sa sn xs → Arcs w aa an es →
  Calls Tryz.prog 34 #[.agg #[.slice sa sn sc, .slice aa an ac]] w fun e w' => ∃ fv cv fl cu err, e = .returned (.tuple #[fv, cv, .int .i64 err]) ∧ OwnL w' w.heap.size fv fl ∧ OwnL w' w.heap.size cv cu ∧ (fv = .slice none 0 0 ∨ cv = .slice none 0 0) ∧ SomeAns xs es fl cu err ∧ Below w.heap.size w w'
end Go.Proofs.YtnbccoflcoaoaaaGreat

namespace Go.Proofs.YtnbccoflcoaoaaaGreat
open Go.RowKit Go.Deep
set_option linter.unusedSimpArgs false
set_option linter.unusedVariables false

/-! ### what Solve may answer -/
def SolveAns (xs : List Int) (es : List A5) (a : A6) (err : Int) : Prop :=
  ((checkS xs es).1 ≠ 0 ∧ err = (checkS xs es).1 ∧ a = ⟨0, 0, [], [], [], []⟩) ∨ ((checkS xs es).1 = 0 ∧ err = 0 ∧ okB xs es a = true)

/-- Short lists of small numbers. -/
def Small (l : List Int) : Prop := l.length ≤ 24 ∧ ∀ x ∈ l, -1000000 ≤ x ∧ x ≤ 1000000
theorem Small.nil : Small [] := ⟨by simp, fun x hx => by simp at hx⟩
theorem Small.of_nil {l : List Int} (h : l.length = 0) : Small l := by
  have : l = [] := List.eq_nil_of_length_eq_zero h
  subst this; exact Small.nil
theorem Small.of {l : List Int} (h : l.length ≤ 24) (hb : ∀ i, i < l.length → -1000000 ≤ l.getD i 0 ∧ l.getD i 0 ≤ 1000000) : Small l :=
  ⟨h, fun x hx => by obtain ⟨i, hi, rfl⟩ := mem_of_getD 0 l x hx; exact hb i hi⟩
theorem Small.ints {w : World} {base : Nat} {oa : Option Addr} {oc : Nat} {l : List Int} (hs : Small l) (h : w.ownsRow base 3 1 (.slice oa l.length oc) l.length (intCells l)) : Ints w oa l.length l :=
  own_ints h (by have := hs.1; omega) (fun x hx => by have := hs.2 x hx; omega)

/-- Numbers of m things, none twice: at most m. -/
theorem once_len {m : Nat} {l : List Int} (h : onceB m l = true) : l.length ≤ m := by
  have key : ∀ k, k ≤ l.length → sumTo (fun v => if inB (l.take k) (v : Int) = true then 1 else 0) m = k := by
    intro k
    induction k with
    | zero =>
      intro _
      rw [sumTo_congr (g := fun _ => 0) (fun v _ => by simp [inB])]
      exact sumTo_zero _
    | succ k ih =>
      intro hk
      have h1 := of_all h k (by omega)
      simp only [onceAt, Bool.and_eq_true, decide_eq_true_eq, Bool.not_eq_true'] at h1
      obtain ⟨⟨a, b⟩, c⟩ := h1
      obtain ⟨v, hv⟩ : ∃ v : Nat, l.getD k 0 = (v : Int) := ⟨(l.getD k 0).toNat, by omega⟩
      rw [hv] at a b c
      rw [sumTo_set (f := fun v => if inB (l.take k) (v : Int) = true then 1 else 0) (j := v) (by omega) (fun i hi hne => by
        rw [inB_take_succ (by omega), hv]
        have : ((v : Int) == (i : Int)) = false := by simp; omega
        rw [this, Bool.or_false]), ih (by omega), inB_take_succ (by omega), hv, c]
      simp
  have h1 := key l.length (Nat.le_refl _)
  have h2 := sumTo_le (f := fun v => if inB (l.take l.length) (v : Int) = true then 1 else 0) (g := fun _ => 1) (n := m) (fun i _ => by split <;> omega)
  have h3 : ∀ n : Nat, sumTo (fun _ => 1) n = n := by
    intro n
    induction n with
    | zero => rfl
    | succ n ih => simp only [sumTo, ih]; omega
  rw [h1, h3] at h2
  omega

theorem fits_small {xs : List Int} {es : List A5} (hn : NetOK xs es) {y : List Int} (h : flowErr xs es y = 0) : Small y := by
  have hf := fits_of h
  refine Small.of (by rw [hf.len]; exact hn.arcs) (fun i hi => ?_)
  have h1 := hf.bd i (by rw [← hf.len]; exact hi)
  have h2 := arcB_out (hn.arc i (by rw [← hf.len]; exact hi))
  omega
theorem ok_small {xs : List Int} {es : List A5} (hn : NetOK xs es) {a : A6} (h : okB xs es a = true) : Small a.flow ∧ Small a.pots ∧ Small a.cut ∧ Small a.circ := by
  unfold okB at h
  split at h
  · unfold bestB holdsB at h
    simp only [Bool.and_eq_true, decide_eq_true_eq] at h
    obtain ⟨⟨⟨⟨h1, _⟩, h3⟩, h4⟩, ⟨⟨h5, h6⟩, _⟩⟩ := h
    refine ⟨fits_small hn h1, Small.of (by have := hn.ten; omega) (fun i hi => of_decide_eq_true (of_all h6 i hi)), Small.of_nil h3, Small.of_nil h4⟩
  · split at h
    · unfold noneB at h
      simp only [Bool.and_eq_true, decide_eq_true_eq] at h
      obtain ⟨⟨⟨⟨⟨h1, _⟩, h3⟩, h4⟩, h5⟩, _⟩ := h
      have hr : ∀ i, i < a.cut.length → i ≤ (a.cut.getD i 0) := by
        intro i
        induction i with
        | zero => intro hi; have := of_decide_eq_true (of_all h1 0 hi); omega
        | succ i ih =>
          intro hi
          have := ih (by omega)
          have := ris_lt h1 (show i < i + 1 by omega) hi
          omega
      refine ⟨Small.of_nil h3, Small.of_nil h4, Small.of ?_ (fun i hi => ?_), Small.of_nil h5⟩
      · by_cases h0 : a.cut.length = 0
        · omega
        · have h6 := hr (a.cut.length - 1) (by omega)
          have h7 := of_decide_eq_true (of_all h1 (a.cut.length - 1) (by omega))
          have := hn.ten
          omega
      · have h7 := of_decide_eq_true (of_all h1 i hi)
        have := hn.ten
        omega
    · split at h
      · unfold endB at h
        simp only [Bool.and_eq_true, decide_eq_true_eq] at h
        obtain ⟨⟨⟨⟨h1, _⟩, h3⟩, h4⟩, h5⟩ := h
        unfold goodB at h5
        simp only [Bool.and_eq_true, decide_eq_true_eq] at h5
        have ho := h5.1.1.1.1
        refine ⟨fits_small hn h1, Small.of_nil h3, Small.of_nil h4, Small.of (by have := once_len ho; have := hn.arcs; omega) (fun i hi => ?_)⟩
        have := once_out ho hi
        have := hn.arcs
        omega
      · cases h
theorem SolveAns.small {xs : List Int} {es : List A5} {a : A6} {err : Int} (h : SolveAns xs es a err) : Small a.flow ∧ Small a.pots ∧ Small a.cut ∧ Small a.circ := by
  rcases h with ⟨_, _, rfl⟩ | ⟨h1, _, h2⟩
  · exact ⟨Small.nil, Small.nil, Small.nil, Small.nil⟩
  · exact ok_small (netOK_of h1) h2

/-- The value of an answer whose lists are the call's own. -/
def OwnA (w : World) (base : Nat) (v : Value) (a : A6) : Prop :=
  ∃ fa fc pa pc ca cc ra rc, v = .agg #[.int .i64 a.kind, .int .i64 a.cost, .slice fa a.flow.length fc, .slice pa a.pots.length pc, .slice ca a.cut.length cc, .slice ra a.circ.length rc] ∧
    w.ownsRow base 3 1 (.slice fa a.flow.length fc) a.flow.length (intCells a.flow) ∧ w.ownsRow base 3 1 (.slice pa a.pots.length pc) a.pots.length (intCells a.pots) ∧
    w.ownsRow base 3 1 (.slice ca a.cut.length cc) a.cut.length (intCells a.cut) ∧ w.ownsRow base 3 1 (.slice ra a.circ.length rc) a.circ.length (intCells a.circ)

/-- SOLVE's CONTRACT. -/
def SolveC : Prop := ∀ (sa aa : Option Addr) (sn sc an ac : Nat) (xs : List Int) (es : List A5) (w : World), Ints w sa sn xs → Arcs w aa an es →
  Calls Tryz.prog 36 #[.agg #[.slice sa sn sc, .slice aa an ac]] w fun e w' => ∃ (a : A6) (err : Int) (v : Value), e = .returned (.tuple #[v, .int .i64 err]) ∧ OwnA w' w.heap.size v a ∧ SolveAns xs es a err ∧ Below w.heap.size w w'

theorem OwnA.below {w w' : World} {base : Nat} {v : Value} {a : A6} (h : OwnA w base v a) (hb : Below w.heap.size w w') : OwnA w' base v a := by
  obtain ⟨fa, fc, pa, pc, ca, cc, ra, rc, rfl, h1, h2, h3, h4⟩ := h
  exact ⟨fa, fc, pa, pc, ca, cc, ra, rc, rfl, h1.kept (grown_of_below hb none) (by cases fa <;> simp [Value.ownBlock]), h2.kept (grown_of_below hb none) (by cases pa <;> simp [Value.ownBlock]), h3.kept (grown_of_below hb none) (by cases ca <;> simp [Value.ownBlock]), h4.kept (grown_of_below hb none) (by cases ra <;> simp [Value.ownBlock])⟩
theorem OwnA.mono {w : World} {base base' : Nat} {v : Value} {a : A6} (h : OwnA w base v a) (hb : base' ≤ base) : OwnA w base' v a := by
  obtain ⟨fa, fc, pa, pc, ca, cc, ra, rc, rfl, h1, h2, h3, h4⟩ := h
  exact ⟨fa, fc, pa, pc, ca, cc, ra, rc, rfl, ownsRow_mono h1 hb, ownsRow_mono h2 hb, ownsRow_mono h3 hb, ownsRow_mono h4 hb⟩
/-- What is owned from 'base' on stays so while a cell below is written. -/
theorem OwnA.setBelow {w : World} {base : Nat} {v : Value} {a : A6} (h : OwnA w base v a) {b o : Nat} (hb : b < base) (u : Value) : OwnA (w.setCell ⟨b, o, none⟩ u) base v a := by
  obtain ⟨fa, fc, pa, pc, ca, cc, ra, rc, rfl, h1, h2, h3, h4⟩ := h
  exact ⟨fa, fc, pa, pc, ca, cc, ra, rc, rfl, ownsRow_setCell_below h1 hb u, ownsRow_setCell_below h2 hb u, ownsRow_setCell_below h3 hb u, ownsRow_setCell_below h4 hb u⟩

end Go.Proofs.YtnbccoflcoaoaaaGreat

namespace Go.Proofs.YtnbccoflcoaoaaaGreat
open Go.RowKit Go.Deep
set_option linter.unusedSimpArgs false
set_option linter.unusedVariables false

theorem own_cap {w : World} {base : Nat} {e : TypeId} {size : Nat} {oa : Option Addr} {n oc : Nat} {xs : List Value} (h : w.ownsRow base e size (.slice oa n oc) n xs) : n ≤ oc := by
  rcases h.2 with ⟨e, h0⟩ | ⟨g, cap, cur, e, _, _, hn, _⟩
  · omega
  · cases e; exact hn

set_option maxHeartbeats 2000000 in
theorem refSolveFits_any (sa aa fa pa ca ra : Option Addr) (sn sc an ac fc pc cc rc : Nat) (xs : List Int) (es : List A5) (kd cs : Int) (fl po cu ci : List Int) (err : Int) (w : World) (hx : Ints w sa sn xs) (he : Arcs w aa an es)
    (ha : Ans w fa pa ca ra fl.length po.length cu.length ci.length fl po cu ci) (hle : ci.length ≤ rc) (hA : SolveAns xs es ⟨kd, cs, fl, po, cu, ci⟩ err) :
    Calls Tryz.prog 37 #[.agg #[.slice sa sn sc, .slice aa an ac], .agg #[.int .i64 kd, .int .i64 cs, .slice fa fl.length fc, .slice pa po.length pc, .slice ca cu.length cc, .slice ra ci.length rc], .int .i64 err] w fun e w' => e = .returned (.bool true) ∧ Below w.heap.size w w' := by
  have HX := hide hx
  have HE := hide he
  have HN := hide ha
  have HA := hide hA
  have hbx := boxed_new w (.slice sa sn sc) (.slice aa an ac) (.int .i64 kd) (.int .i64 cs) (.slice fa fl.length fc) (.slice pa po.length pc) (.slice ca cu.length cc) (.slice ra ci.length rc) 48 35
  have hb0 := Joins.below_alloc2 w (.cells #[.slice sa sn sc, .slice aa an ac] 48) (.cells #[.int .i64 kd, .int .i64 cs, .slice fa fl.length fc, .slice pa po.length pc, .slice ca cu.length cc, .slice ra ci.length rc] 35)
  have HBX := hide hbx
  clear hx he ha hA hbx
  go_enter Tryz.func37, Tryz.ntmps37
  go_wp2_with fail
  refine (refCheck_any sa aa sn sc an ac xs es _ (HX.out.below hb0) (HE.out.below hb0)).mono ?_
  rintro e w1 ⟨rfl, hb1⟩
  have hB1 : Below w.heap.size w w1 := hb0.trans (hb1.mono (by simp; omega))
  obtain ⟨k0, k1, k2, k3, k4, k5, k6, k7, hz1⟩ := HBX.out.below hb1
  clear hb0 hb1
  obtain ⟨wn, hwn⟩ : ∃ wn, (checkS xs es).1 = wn := ⟨_, rfl⟩
  have HWN := hide hwn
  rw [hwn]
  generalize (checkS xs es).2 = pl
  clear hwn
  rcases HA.out with ⟨h1, h2, h3⟩ | ⟨h1, rfl, h2⟩
  · rw [HWN.out] at h1 h2
    subst h2
    cases h3
    have hwb : (err != 0) = true := by simpa using h1
    clear h1 HA
    go_wp2
    go_ret
    exact ⟨ret_b (by simp), hB1⟩
  · have hn := netOK_of h1
    rw [HWN.out] at h1
    subst h1
    have CA : n0 (Calls Tryz.prog 51 #[.agg #[.slice sa sn sc, .slice aa an ac], .agg #[.int .i64 kd, .int .i64 cs, .slice fa fl.length fc, .slice pa po.length pc, .slice ca cu.length cc, .slice ra ci.length rc]] w1 fun e w' => e = .returned (.bool true) ∧ Below w1.heap.size w1 w') := by
      rw [← h2]; exact refAccepted_any sa aa fa pa ca ra sn sc an ac _ fc _ pc _ cc _ rc kd cs xs es fl po cu ci w1 (HX.out.below hB1) (HE.out.below hB1) hn (HN.out.below hB1) hle
    clear h2 HA
    go_wp2_with fail
    refine Calls.mono CA.out ?_
    rintro e w2 ⟨rfl, hb2⟩
    have hB2 : Below w.heap.size w w2 := hB1.trans (hb2.mono hB1.size)
    clear CA hb2
    go_wp2
    go_ret
    exact ⟨ret_b (by simp), hB2⟩

theorem OwnA.open_ {w : World} {base : Nat} {v : Value} {a : A6} {xs : List Int} {es : List A5} {err : Int} (h : OwnA w base v a) (hs : SolveAns xs es a err) :
    ∃ fa fc pa pc ca cc ra rc, v = .agg #[.int .i64 a.kind, .int .i64 a.cost, .slice fa a.flow.length fc, .slice pa a.pots.length pc, .slice ca a.cut.length cc, .slice ra a.circ.length rc] ∧ Ans w fa pa ca ra a.flow.length a.pots.length a.cut.length a.circ.length a.flow a.pots a.cut a.circ ∧ a.circ.length ≤ rc := by
  obtain ⟨fa, fc, pa, pc, ca, cc, ra, rc, rfl, h1, h2, h3, h4⟩ := h
  obtain ⟨s1, s2, s3, s4⟩ := hs.small
  exact ⟨fa, fc, pa, pc, ca, cc, ra, rc, rfl, ⟨s1.ints h1, s2.ints h2, s3.ints h3, s4.ints h4⟩, own_cap h4⟩

/-- The box of an answer. -/
def ansAt (w : World) (g : Nat) (kd cs : Int) (v2 v3 v4 v5 : Value) : Prop := w.cell? ⟨g, 0, none⟩ = some (.int .i64 kd) ∧ w.cell? ⟨g, 1, none⟩ = some (.int .i64 cs) ∧ w.cell? ⟨g, 2, none⟩ = some v2 ∧ w.cell? ⟨g, 3, none⟩ = some v3 ∧ w.cell? ⟨g, 4, none⟩ = some v4 ∧ w.cell? ⟨g, 5, none⟩ = some v5

end Go.Proofs.YtnbccoflcoaoaaaGreat
