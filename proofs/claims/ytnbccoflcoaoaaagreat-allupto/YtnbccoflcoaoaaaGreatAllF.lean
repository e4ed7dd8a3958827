import Derived.Test.YtnbccoflcoaoaaaGreatAllE
import Derived.ArgAppend
namespace Go.Proofs.YtnbccoflcoaoaaaGreat
open Go.RowKit Go.Deep
set_option linter.unusedSimpArgs false
set_option linter.unusedVariables false

/-! ### mine: a list is its owner's -/
theorem own_take {w : World} {base : Nat} {e : TypeId} {g n m cap : Nat} {xs ys : List Value} (h : w.ownsRow base e 1 (.slice (some ⟨g, 0, none⟩) (n + m) cap) (n + m) (xs ++ ys)) (hx : xs.length = n) : w.ownsRow base e 1 (.slice (some ⟨g, 0, none⟩) n cap) n xs := by
  rcases h.2 with ⟨e1, _⟩ | ⟨g', cap', cur, e1, h1, h2, h3, h4, h5, h6⟩
  · cases e1
  · cases e1
    refine ⟨by omega, .inr ⟨g, cap, cur, rfl, h1, h2, by omega, h4, h5, ?_⟩⟩
    rw [Nat.mul_one] at h6 ⊢
    have h7 := congrArg (List.take n) h6
    rw [List.take_take, Nat.min_eq_left (by omega), List.take_left' hx] at h7
    exact h7
theorem own_cellAt {w : World} {base : Nat} {e : TypeId} {g n cap : Nat} {xs : List Value} (h : w.ownsRow base e 1 (.slice (some ⟨g, 0, none⟩) n cap) n xs) (j : Nat) (u : Value) (hj : xs[j]? = some u) : w.cell? ⟨g, j, none⟩ = some u := by
  have hl : j < n := by
    have h0 := h.1
    have := (List.getElem?_eq_some_iff.1 hj).1
    omega
  have := h.cellAt j (by omega)
  rw [this]; exact hj

/-- In the walk: append(l, marks...), l a row of the call's own: l itself stays what it was. -/
theorem wpList_push_keep {w : World} {ops : Array Oper} {rest : List Oper} {o : Oper} {a : Act} {Q : Exit → Act → World → Prop} (hgd : o.guard = none) (s x : Operand)
    (ho : o.op = .call { callee := .builtin .append, args := #[s, x], argTypes := #[32, 32] }) (base : Nat) (v : Value) (n : Nat) (xs : List Value) (hs : a.eval s = v) (hown : w.ownsRow base 3 1 v n xs) (g m c : Nat) (news : List Value)
    (hx : a.eval x = .slice (some ⟨g, 0, none⟩) m c) (hn : news.length = m) (hm : 0 < m) (hc : ∀ j u, news[j]? = some u → w.cell? ⟨g, j, none⟩ = some u) (h1c : ∀ u ∈ news, u.oneCell' = true) (hle : n + m ≤ 100000) (hb : base ≤ w.heap.size)
    (h : ∀ v' w', w'.ownsRow base 3 1 v' (n + m) (xs ++ news) → w'.ownsRow base 3 1 v n xs → w.grownBy w' v.ownBlock → (∀ b, v'.ownBlock = some b → v.ownBlock = some b ∨ w.heap.size ≤ b) → wpList Tryz.prog ops Q rest (a.put o.dst v') w') : wpList Tryz.prog ops Q (o :: rest) a w := by
  obtain ⟨i0, hi, hz0, hz1, hz2⟩ := info_parts infoInt
  have hcc : ∀ j u, news[j]? = some u → w.cell? ((⟨g, 0, none⟩ : Addr).add j) = some u := fun j u hj => by rw [Addr.add_lit, Nat.zero_add]; exact hc j u hj
  rcases hown.2 with ⟨rfl, h0⟩ | ⟨g1, cap, cur, rfl, h1, h2, h3, h4, h5, h6⟩
  · subst h0
    have hxs : xs = [] := List.eq_nil_of_length_eq_zero (by have := hown.1; omega)
    subst hxs
    refine wpList_append_grows w hgd s x 32 ho 3 i0 _ 1 8 Tryz.underlying32 hi hz0 hz1 hz2 rfl (by decide) none 0 0 [] hs (fun _ => ⟨rfl, rfl⟩) rfl (fun b hb => by cases hb) ⟨g, 0, none⟩ m c news hx (by omega) hcc h1c (by omega) (by unfold maxLen; omega) (by omega) ?_
    intro v' w' r1 r2
    exact h v' w' (ownsRow_mono r1 hb) (World.ownsRow_nil _ _ _ _) r2 (fun b hb => .inr (r1.lt b hb).1)
  · by_cases hfit : n + m ≤ cap
    · refine wpList_append_fits w hgd s x 32 ho base 3 i0 1 Tryz.underlying32 hi hz1 g1 n cap xs hs hown ⟨g, 0, none⟩ m c news hx (by omega) hcc h1c hfit ?_
      intro w' r1 r2
      exact h _ w' r1 (own_take r1 (by have := hown.1; omega)) r2 (fun b hb => .inl hb)
    · refine wpList_append_grows w hgd s x 32 ho 3 i0 _ 1 8 Tryz.underlying32 hi hz0 hz1 hz2 rfl (by decide) (some ⟨g1, 0, none⟩) n cap xs hs (fun e => by cases e) (by have := hown.1; omega) (fun b hb j u hj => by cases hb; rw [Addr.add_lit, Nat.zero_add]; exact own_cellAt hown j u hj) ⟨g, 0, none⟩ m c news hx (by omega) hcc h1c (by omega) (by unfold maxLen; omega) (by omega) ?_
      intro v' w' r1 r2
      refine h v' w' (ownsRow_mono r1 hb) (hown.kept r2 (.inr (by simp [Value.ownBlock]))) ?_ (fun b hb => .inr (r1.lt b hb).1)
      exact ⟨r2.os, r2.tape, r2.output, r2.size, fun k h1 _ => r2.block k h1 (by simp)⟩

/-- A list with m places, the first j of which bear the mark. -/
def Slot (w : World) (base : Nat) (v : Value) (m j : Nat) (mk : Int) : Prop := ∃ xs, w.ownsRow base 3 1 v m xs ∧ ∀ i, i < j → xs[i]? = some (.int .i64 mk)
theorem Slot.start {w : World} {base : Nat} {v : Value} {m : Nat} {xs : List Value} (h : w.ownsRow base 3 1 v m xs) (mk : Int) : Slot w base v m 0 mk := ⟨xs, h, fun i hi => by omega⟩
theorem heap_set_same {w : World} {g i : Nat} {u : Value} {cur : Array Value} {e : TypeId} (h : w.heap[g]? = some (.cells cur e (0, 0))) : (w.setCell ⟨g, i, none⟩ u).heap[g]? = some (.cells (cur.setIfInBounds i u) e (0, 0)) := by
  simp [World.setCell, Array.getElem?_modify, h]
theorem Slot.keep {w : World} {base : Nat} {v : Value} {m j : Nat} {mk : Int} (h : Slot w base v m j mk) (b i : Nat) : Slot (w.setCell ⟨b, i, none⟩ (.int .i64 mk)) base v m j mk := by
  obtain ⟨xs, h1, h2⟩ := h
  rcases h1.2 with ⟨rfl, h0⟩ | ⟨g, cap, cur, rfl, a1, a2, a3, a4, a5, a6⟩
  · exact ⟨xs, ⟨h1.1, .inl ⟨rfl, h0⟩⟩, h2⟩
  · by_cases e : b = g
    · subst e
      refine ⟨(cur.setIfInBounds i (.int .i64 mk)).toList.take (m * 1), ⟨?_, .inr ⟨b, cap, _, rfl, a1, heap_set_same a2, a3, a4, by simp; omega, rfl⟩⟩, fun q hq => ?_⟩
      · rw [List.length_take]; simp; omega
      · have h3 := h2 q hq
        have hqm : q < m := by have := (List.getElem?_eq_some_iff.1 h3).1; have := h1.1; omega
        rw [← a6, List.getElem?_take, if_pos (by omega)] at h3
        rw [List.getElem?_take, if_pos (by omega)]
        rw [Array.getElem?_toList] at h3 ⊢
        rw [Array.getElem?_setIfInBounds]
        split
        · rename_i e; subst e; rw [if_pos (by omega)]
        · exact h3
    · refine ⟨xs, ⟨h1.1, .inr ⟨g, cap, cur, rfl, a1, ?_, a3, a4, a5, a6⟩⟩, h2⟩
      rw [Below.heap_setCell _ _ _ _ (fun h => e (by rw [h]))]
      exact a2
theorem Slot.write {w : World} {base g m cap j : Nat} {mk : Int} (h : Slot w base (.slice (some ⟨g, 0, none⟩) m cap) m j mk) (hj : j < m) : Slot (w.setCell ⟨g, j, none⟩ (.int .i64 mk)) base (.slice (some ⟨g, 0, none⟩) m cap) m (j + 1) mk := by
  obtain ⟨xs, h1, h2⟩ := h
  rcases h1.2 with ⟨e, h0⟩ | ⟨g', cap', cur, e, a1, a2, a3, a4, a5, a6⟩
  · cases e
  · cases e
    refine ⟨(cur.setIfInBounds j (.int .i64 mk)).toList.take (m * 1), ⟨?_, .inr ⟨g, cap, _, rfl, a1, heap_set_same a2, a3, a4, by simp; omega, rfl⟩⟩, fun q hq => ?_⟩
    · rw [List.length_take]; simp; omega
    · rw [List.getElem?_take, if_pos (by omega), Array.getElem?_toList, Array.getElem?_setIfInBounds]
      split
      · rename_i e; subst e; rw [if_pos (by omega)]
      · have h3 := h2 q (by omega)
        rw [← a6, List.getElem?_take, if_pos (by omega), Array.getElem?_toList] at h3
        exact h3
theorem Slot.blk {w w' : World} {base : Nat} {v : Value} {m j : Nat} {mk : Int} (h : Slot w base v m j mk) (hb : ∀ k, v.ownBlock = some k → w'.heap[k]? = w.heap[k]?) : Slot w' base v m j mk := by
  obtain ⟨xs, h1, h2⟩ := h
  exact ⟨xs, own_blk h1 hb, h2⟩
end Go.Proofs.YtnbccoflcoaoaaaGreat
