import Derived.Test.YtampcheafdlomaaCopy
import Derived.Test.YtampcheafdlomaaSomP
import Derived.Deep.RegionWith
namespace Go.Proofs.Ytampcheafdlomaa
open Go.RowKit Go.Deep
set_option linter.unusedSimpArgs false
set_option linter.unusedVariables false

/-! ### lists of the call's own; what Some may answer -/
theorem grown_of_below {w w' : World} (h : Below w.heap.size w w') (row : Option Nat) : w.grownBy w' row := ⟨h.os, h.tape, h.output, h.size, fun k hk _ => h.block k hk⟩

/-- In the walk: append(l, y), l a row of numbers of the call's own. -/
theorem wpList_push_int {w : World} {ops : Array Oper} {rest : List Oper} {o : Oper} {a : Act} {Q : Exit → Act → World → Prop} (hgd : o.guard = none) (s x : Operand)
    (ho : o.op = .call { callee := .builtin .append, args := #[s, x], argTypes := #[22, 22] }) (base : Nat) (oa : Option Addr) (oc : Nat) (l : List Int)
    (hs : a.eval s = .slice oa l.length oc) (hown : w.ownsRow base 3 1 (.slice oa l.length oc) l.length (intCells l)) (g : Nat) (y : Int) (c : Nat) (hx : a.eval x = .slice (some ⟨g, 0, none⟩) 1 c) (hy : w.cell? ⟨g, 0, none⟩ = some (.int .i64 y))
    (hl : l.length ≤ 1000) (hb : base ≤ w.heap.size)
    (h : ∀ g' c' w', w'.ownsRow base 3 1 (.slice (some ⟨g', 0, none⟩) (l.length + 1) c') (l.length + 1) (intCells (l ++ [y])) → w.grownBy w' (Value.slice oa l.length oc).ownBlock → wpList Try.prog ops Q rest (a.put o.dst (.slice (some ⟨g', 0, none⟩) (l.length + 1) c')) w') : wpList Try.prog ops Q (o :: rest) a w := by
  obtain ⟨i0, hi, hz0, hz1, hz2⟩ := info_parts infoInt
  refine wpList_append_own w hgd s x 22 ho base 3 i0 _ 1 8 Try.underlying22 hi hz0 hz1 hz2 rfl (by decide) _ l.length (intCells l) hs hown ⟨g, 0, none⟩ 1 c [.int .i64 y] hx rfl ?_ ?_ (by unfold maxLen; omega) (by omega) hb ?_
  · intro j u hj
    cases j with
    | zero => simp at hj; subst hj; simpa [Addr.add] using hy
    | succ j => simp at hj
  · intro u hu; simp at hu; subst hu; rfl
  · intro v' w' hown' hgr _
    have hlen : intCells (l ++ [y]) = intCells l ++ [.int .i64 y] := by simp [intCells]
    rcases hown'.2 with ⟨_, h0⟩ | ⟨g', cap, cur, rfl, r⟩
    · omega
    · exact h g' cap w' (by rw [hlen]; exact hown') hgr

theorem intCells_at' (l : List Int) (j : Nat) (h : j < l.length) : (intCells l)[j]? = some (.int .i64 (l.getD j 0)) := by
  simp [intCells, List.getD, h]

theorem own_ints {w : World} {base : Nat} {oa : Option Addr} {oc : Nat} {l : List Int} (h : w.ownsRow base 3 1 (.slice oa l.length oc) l.length (intCells l)) (hs : l.length ≤ 17592186044416) (hb : ∀ x ∈ l, -9223372036854775808 ≤ x ∧ x ≤ 9223372036854775807) : Ints w oa l.length l := by
  obtain ⟨a, c, e, hI, _⟩ := ints_of_own h rfl hs hb
  cases e
  exact hI

theorem ownsRow_mono {w : World} {base base' : Nat} {e : TypeId} {size : Nat} {v : Value} {n : Nat} {xs : List Value} (h : w.ownsRow base e size v n xs) (hb : base' ≤ base) : w.ownsRow base' e size v n xs :=
  ⟨h.1, h.2.imp id fun ⟨g, cap, cur, a, b, r⟩ => ⟨g, cap, cur, a, by omega, r⟩⟩

/-- A list of the call's own. -/
def OwnL (w : World) (base : Nat) (v : Value) (l : List Int) : Prop := ∃ oa oc, v = .slice oa l.length oc ∧ w.ownsRow base 3 1 (.slice oa l.length oc) l.length (intCells l)

theorem OwnL.lit (w : World) : OwnL (w.alloc (.cells #[] 3)) w.heap.size (.slice (some ⟨w.heap.size, 0, none⟩) 0 0) [] :=
  ⟨_, _, rfl, World.ownsRow_lit w #[] 0 (Nat.le_refl _) (by unfold maxLen; omega) rfl⟩

theorem OwnL.push {w : World} {base g c : Nat} {l : List Int} {y : Int} (h : w.ownsRow base 3 1 (.slice (some ⟨g, 0, none⟩) (l.length + 1) c) (l.length + 1) (intCells (l ++ [y]))) : OwnL w base (.slice (some ⟨g, 0, none⟩) (l.length + 1) c) (l ++ [y]) := by
  have e : (l ++ [y]).length = l.length + 1 := by simp
  refine ⟨some ⟨g, 0, none⟩, c, by rw [e], by rw [e]; exact h⟩

theorem OwnL.mono {w : World} {base base' : Nat} {v : Value} {l : List Int} (h : OwnL w base v l) (hb : base' ≤ base) : OwnL w base' v l := by
  obtain ⟨oa, oc, e, ho⟩ := h
  exact ⟨oa, oc, e, ownsRow_mono ho hb⟩

theorem row_ints {w : World} {b n : Nat} {l : List Int} (h : w.rowIs b 3 n (fun i => .int .i64 (l.getD i 0))) (hl : l.length = n) (hs : n ≤ 17592186044416) (hb : ∀ i, i < n → -9223372036854775808 ≤ l.getD i 0 ∧ l.getD i 0 ≤ 9223372036854775807) : Ints w (some ⟨b, 0, none⟩) n l := by
  refine ⟨hl, hs, fun x hx => ?_, .inr ⟨b, 0, rfl, h.lt, fun i hi => by rw [Nat.zero_add]; exact h.cell hi⟩⟩
  obtain ⟨i, hi, rfl⟩ := mem_of_getD 0 l x hx
  exact hb i (by omega)

/-- What Some may answer: a flow, a cut, an error. -/
def SomeAns (xs : List Int) (es : List A5) (fl cu : List Int) (err : Int) : Prop :=
  ((checkS xs es).1 ≠ 0 ∧ err = (checkS xs es).1 ∧ fl = [] ∧ cu = []) ∨
  ((checkS xs es).1 = 0 ∧ err = 0 ∧ ((cu = [] ∧ flowErr xs es fl = 0 ∧ fl.length ≤ 24 ∧ (∀ x ∈ fl, 0 ≤ x ∧ x ≤ 1000000)) ∨ (fl = [] ∧ 0 < cu.length ∧ cu.length ≤ 10 ∧ risB cu xs.length = true ∧ violB xs es cu = true)))

theorem row_own {w : World} {base b n : Nat} {l : List Int} (h : w.rowIs b 3 n (fun i => .int .i64 (l.getD i 0))) (hl : l.length = n) (hb : base ≤ b) (hn : n ≤ 1000) : OwnL w base (.slice (some ⟨b, 0, none⟩) n n) l := by
  subst hl
  obtain ⟨cur, hh, hs, hc⟩ := h
  refine ⟨some ⟨b, 0, none⟩, l.length, rfl, by simp [intCells_length], .inr ⟨b, l.length, cur, rfl, hb, hh, Nat.le_refl _, by unfold maxLen; omega, by omega, ?_⟩⟩
  apply List.ext_getElem?
  intro i
  rw [List.getElem?_take]
  by_cases hi : i < l.length
  · rw [if_pos (by omega), intCells_at' l i hi, Array.getElem?_toList]
    exact hc i hi
  · rw [if_neg (by omega), List.getElem?_eq_none (by rw [intCells_length]; omega)]

theorem OwnL.nil (w : World) (base : Nat) : OwnL w base (.slice none 0 0) [] := ⟨none, 0, rfl, World.ownsRow_nil _ _ _ _⟩

theorem OwnL.grow {w w' : World} {base : Nat} {v : Value} {l : List Int} (h : OwnL w base v l) (hb : Below w.heap.size w w') : OwnL w' base v l := by
  obtain ⟨oa, oc, rfl, ho⟩ := h
  exact ⟨oa, oc, rfl, ho.kept (grown_of_below hb none) (by cases oa <;> simp [Value.ownBlock])⟩

theorem SomeAns.wf {xs : List Int} {es : List A5} {fl cu : List Int} {err : Int} (h : SomeAns xs es fl cu err) : (fl.length ≤ 24 ∧ ∀ x ∈ fl, -9223372036854775808 ≤ x ∧ x ≤ 9223372036854775807) ∧ (cu.length ≤ 10 ∧ ∀ x ∈ cu, -9223372036854775808 ≤ x ∧ x ≤ 9223372036854775807) := by
  rcases h with ⟨_, _, rfl, rfl⟩ | ⟨hc, _, ⟨rfl, _, h1, h2⟩ | ⟨rfl, _, h1, h2, _⟩⟩
  · exact ⟨⟨by simp, fun x hx => by simp at hx⟩, by simp, fun x hx => by simp at hx⟩
  · exact ⟨⟨h1, fun x hx => by have := h2 x hx; omega⟩, by simp, fun x hx => by simp at hx⟩
  · refine ⟨⟨by simp, fun x hx => by simp at hx⟩, h1, fun x hx => ?_⟩
    obtain ⟨i, hi, rfl⟩ := mem_of_getD 0 cu x hx
    have h3 := of_decide_eq_true (of_all h2 i hi)
    have h4 := (netOK_of hc).ten
    omega

/-- SOME's CONTRACT. -/
def SomeC : Prop := ∀ (sa aa : Option Addr) (sn sc an ac : Nat) (xs : List Int) (es : List A5) (w : World), Ints w sa sn xs → Arcs w aa an es →
  Calls Try.prog 21 #[.agg #[.slice sa sn sc, .slice aa an ac]] w fun e w' => ∃ fv cv fl cu err, e = .returned (.tuple #[fv, cv, .int .i64 err]) ∧ OwnL w' w.heap.size fv fl ∧ OwnL w' w.heap.size cv cu ∧ (fv = .slice none 0 0 ∨ cv = .slice none 0 0) ∧ SomeAns xs es fl cu err ∧ Below w.heap.size w w'
end Go.Proofs.Ytampcheafdlomaa
