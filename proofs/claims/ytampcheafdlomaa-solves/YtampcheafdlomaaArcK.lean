import Derived.Test.YtampcheafdlomaaCopy
namespace Go.Proofs.Ytampcheafdlomaa
open Go.RowKit
set_option linter.unusedSimpArgs false
set_option linter.unusedVariables false

theorem arcCells_snoc (l : List A5) (a : A5) : arcCells (l ++ [a]) = arcCells l ++ a.cells := by
  induction l with
  | nil => simp [arcCells]
  | cons b r ih => simp only [List.cons_append, arcCells, ih, List.append_assoc]

theorem wpList_push_arc {w : World} {ops : Array Oper} {rest : List Oper} {o : Oper} {a : Act} {Q : Exit → Act → World → Prop} (hgd : o.guard = none) (s x : Operand)
    (ho : o.op = .call { callee := .builtin .append, args := #[s, x], argTypes := #[23, 23] }) (base : Nat) (oa : Option Addr) (oc : Nat) (l : List A5) (n : Nat) (hln : l.length = n)
    (hs : a.eval s = .slice oa n oc) (hown : w.ownsRow base 54 5 (.slice oa n oc) n (arcCells l)) (g : Nat) (y : A5) (c : Nat) (hx : a.eval x = .slice (some ⟨g, 0, none⟩) 1 c) (hy : ∀ j, j < 5 → w.cell? ⟨g, j, none⟩ = some (.int .i64 (y.at j)))
    (hl : n ≤ 1000) (hb : base ≤ w.heap.size)
    (h : ∀ g' c' w', w'.ownsRow base 54 5 (.slice (some ⟨g', 0, none⟩) (n + 1) c') (n + 1) (arcCells (l ++ [y])) → w.grownBy w' (Value.slice oa n oc).ownBlock → wpList Try.prog ops Q rest (a.put o.dst (.slice (some ⟨g', 0, none⟩) (n + 1) c')) w') : wpList Try.prog ops Q (o :: rest) a w := by
  obtain ⟨i0, hi, hz0, hz1, hz2⟩ := info_parts infoArc
  refine wpList_append_own w hgd s x 23 ho base 54 i0 _ 5 40 Try.underlying23 hi hz0 hz1 hz2 rfl (by decide) _ n (arcCells l) hs hown ⟨g, 0, none⟩ 1 c y.cells hx rfl ?_ ?_ (by unfold maxLen; omega) (by omega) hb ?_
  · intro j u hj
    have hj5 : j < 5 := by
      rcases Nat.lt_or_ge j 5 with h' | h'
      · exact h'
      · rw [List.getElem?_eq_none (by simpa [A5.cells] using h')] at hj; cases hj
    rw [y.cells_at j hj5] at hj
    cases hj
    have := hy j hj5
    cases j <;> simpa [Addr.add] using this
  · intro u hu
    simp only [A5.cells, List.mem_cons, List.not_mem_nil, or_false] at hu
    rcases hu with rfl | rfl | rfl | rfl | rfl <;> rfl
  · intro v' w' hown' hgr _
    rcases hown'.2 with ⟨_, h0⟩ | ⟨g', cap, cur, rfl, r⟩
    · omega
    · exact h g' cap w' (by rw [arcCells_snoc]; exact hown') hgr

end Go.Proofs.Ytampcheafdlomaa
