import Derived.Test.YtampcheafdlomaaMem
import Derived.Lib.SmallJoins
namespace Go.Proofs.Ytampcheafdlomaa
open Go.RowKit
set_option linter.unusedSimpArgs false
set_option linter.unusedVariables false

section
variable {P : Program} (w : World)

/-- append(nil, l...): a fresh row, or nil where there is nothing. -/
theorem run_append_copy (t ty e : TypeId) (i : TypeInfo) (z : Value) (size bytes : Nat) (ht : P.underlying t = some (.slice e)) (hi : P.info? e = some i) (hz : i.zero = some z)
    (hsize : i.size = size) (hby : i.bytes = bytes) (hzs : z.cells.size = size) (hsz : 0 < size)
    (sa : Option Addr) (m c : Nat) (news : List Value) (hl : news.length = m * size) (hsrc : m = 0 ∨ ∃ ad, sa = some ad ∧ ∀ j u, news[j]? = some u → w.cell? (ad.add j) = some u) (h1 : ∀ u ∈ news, u.oneCell' = true)
    (h63 : m ≤ maxLen) (hbytes : m * bytes ≤ 140737488355328) :
    ∃ v' w', (Builtin.append_ #[t, t] ty #[.slice none 0 0, .slice sa m c]).run P w = .ok v' w' ∧ w'.ownsRow w.heap.size e size v' m news ∧ w.grownBy w' none := by
  have hown := World.ownsRow_nil w w.heap.size e size
  by_cases hm : m = 0
  · subst hm
    have hn : news = [] := List.eq_nil_of_length_eq_zero (by simpa using hl)
    subst hn
    refine ⟨.slice none 0 0, w, ?_, hown, ⟨rfl, rfl, rfl, Nat.le_refl _, fun _ _ _ => rfl⟩⟩
    cases sa with
    | none => simp [Builtin.append_, run_underlying ht, sizeOf, typeInfo, hi, Builtin.lenOf, Builtin.firstCells, loadCells, loadCellsFrom]
    | some ad => simp [Builtin.append_, run_underlying ht, sizeOf, typeInfo, hi, Builtin.lenOf, Builtin.firstCells, loadCells, loadCellsFrom]
  · obtain ⟨ad, rfl, hnews⟩ := hsrc.resolve_left hm
    obtain ⟨v', w', hr, h2, h3, _⟩ := run_append_own (P := P) w w.heap.size t ty e i z size bytes ht hi hz hsize hby hzs hsz (.slice none 0 0) 0 [] hown ad m c news hl hnews h1 (by omega) (by simpa using hbytes) (Nat.le_refl _)
    exact ⟨v', w', hr, by simpa using h2, h3⟩

theorem wpList_append_copy {ops : Array Oper} {rest : List Oper} {o : Oper} {a : Act} {Q : Exit → Act → World → Prop} (hgd : o.guard = none) (s x : Operand) (t : TypeId)
    (ho : o.op = .call { callee := .builtin .append, args := #[s, x], argTypes := #[t, t] })
    (e : TypeId) (i : TypeInfo) (z : Value) (size bytes : Nat) (ht : P.underlying t = some (.slice e)) (hi : P.info? e = some i) (hz : i.zero = some z)
    (hsize : i.size = size) (hby : i.bytes = bytes) (hzs : z.cells.size = size) (hsz : 0 < size)
    (hs : a.eval s = .slice none 0 0) (sa : Option Addr) (m c : Nat) (hx : a.eval x = .slice sa m c)
    (news : List Value) (hl : news.length = m * size) (hsrc : m = 0 ∨ ∃ ad, sa = some ad ∧ ∀ j u, news[j]? = some u → w.cell? (ad.add j) = some u) (h1 : ∀ u ∈ news, u.oneCell' = true)
    (h63 : m ≤ maxLen) (hbytes : m * bytes ≤ 140737488355328)
    (h : ∀ v' w', w'.ownsRow w.heap.size e size v' m news → w.grownBy w' none → wpList P ops Q rest (a.put o.dst v') w') : wpList P ops Q (o :: rest) a w := by
  refine wpList_plain hgd fun _ hK => ?_
  obtain ⟨v', w', hr, h2, h3⟩ := run_append_copy (P := P) w t o.type e i z size bytes ht hi hz hsize hby hzs hsz sa m c news hl hsrc h1 h63 hbytes
  unfold Oper.wp execOp
  simp only [ho, resolve, invoke, builtin, Sem.run_bind, Sem.run_pure, Result.andThen_ok, List.map_toArray, List.map_cons, List.map_nil, hs, hx, hr]
  exact hK _ _ (h v' w' h2 h3)
end

/-- Its array was made from block lo on (or there is nothing in it). -/
def Fresh (lo n : Nat) (a : Option Addr) : Prop := n = 0 ∨ ∃ b off, a = some ⟨b, off, none⟩ ∧ lo ≤ b

theorem Ints.keep {w w' : World} {a : Option Addr} {n lo : Nat} {xs : List Int} (h : Ints w a n xs) (hf : Fresh lo n a) (hsz : w.heap.size ≤ w'.heap.size) (hc : ∀ b off, lo ≤ b → b < w.heap.size → w'.cell? ⟨b, off, none⟩ = w.cell? ⟨b, off, none⟩) : Ints w' a n xs := by
  refine ⟨h.len, h.small, h.wf, ?_⟩
  by_cases hn : n = 0
  · exact .inl hn
  · obtain ⟨b, off, e, hl, hc'⟩ := h.lies.resolve_left hn
    obtain ⟨b2, off2, e2, hlo⟩ := hf.resolve_left hn
    rw [e] at e2
    obtain ⟨rfl, rfl⟩ : b = b2 ∧ off = off2 := by simpa using e2
    exact .inr ⟨b, off, e, Nat.lt_of_lt_of_le hl hsz, fun i hi => by rw [hc b _ hlo hl]; exact hc' i hi⟩

theorem Arcs.keep {w w' : World} {a : Option Addr} {n lo : Nat} {xs : List A5} (h : Arcs w a n xs) (hf : Fresh lo n a) (hsz : w.heap.size ≤ w'.heap.size) (hc : ∀ b off, lo ≤ b → b < w.heap.size → w'.cell? ⟨b, off, none⟩ = w.cell? ⟨b, off, none⟩) : Arcs w' a n xs := by
  refine ⟨h.len, h.small, h.wf, ?_⟩
  by_cases hn : n = 0
  · exact .inl hn
  · obtain ⟨b, off, e, hl, hc'⟩ := h.lies.resolve_left hn
    obtain ⟨b2, off2, e2, hlo⟩ := hf.resolve_left hn
    rw [e] at e2
    obtain ⟨rfl, rfl⟩ : b = b2 ∧ off = off2 := by simpa using e2
    exact .inr ⟨b, off, e, Nat.lt_of_lt_of_le hl hsz, fun i hi j hj => by rw [hc b _ hlo hl]; exact hc' i hi j hj⟩

/-- The cells of a list of ints. -/
def intCells (xs : List Int) : List Value := xs.map (Value.int .i64)
def A5.cells (a : A5) : List Value := [.int .i64 a.fr, .int .i64 a.to, .int .i64 a.lo, .int .i64 a.cap, .int .i64 a.cost]
def arcCells : List A5 → List Value
  | [] => []
  | a :: r => a.cells ++ arcCells r

theorem arcCells_length (es : List A5) : (arcCells es).length = es.length * 5 := by
  induction es with
  | nil => rfl
  | cons a r ih => simp only [arcCells, List.length_append, ih, A5.cells, List.length_cons, List.length_nil]; omega
theorem arcCells_one (es : List A5) : ∀ u ∈ arcCells es, u.oneCell' = true := by
  induction es with
  | nil => intro u hu; cases hu
  | cons a r ih =>
    intro u hu
    simp only [arcCells, List.mem_append] at hu
    rcases hu with hu | hu
    · simp only [A5.cells, List.mem_cons, List.not_mem_nil, or_false] at hu
      rcases hu with rfl | rfl | rfl | rfl | rfl <;> rfl
    · exact ih u hu
theorem A5.cells_at (a : A5) (j : Nat) (hj : j < 5) : a.cells[j]? = some (.int .i64 (a.at j)) := by
  match j, hj with
  | 0, _ => rfl
  | 1, _ => rfl
  | 2, _ => rfl
  | 3, _ => rfl
  | 4, _ => rfl
theorem arcCells_at (es : List A5) (i j : Nat) (hi : i < es.length) (hj : j < 5) : (arcCells es)[i * 5 + j]? = some (.int .i64 ((es.getD i zA).at j)) := by
  induction es generalizing i with
  | nil => simp at hi
  | cons a r ih =>
    cases i with
    | zero =>
      simp only [arcCells, Nat.zero_mul, Nat.zero_add, List.getD_cons_zero]
      rw [List.getElem?_append_left (by simp [A5.cells]; omega)]
      exact a.cells_at j hj
    | succ i =>
      simp only [arcCells, List.getD_cons_succ]
      rw [List.getElem?_append_right (by simp [A5.cells]; omega)]
      rw [← ih i (by simpa using hi)]
      congr 1
      simp [A5.cells]; omega
theorem intCells_at (xs : List Int) (i : Nat) (hi : i < xs.length) : (intCells xs)[i]? = some (.int .i64 (xs.getD i 0)) := by
  simp [intCells, hi, List.getD]

theorem own_cell {w : World} {base : Nat} {e : TypeId} {size n g cap : Nat} {cur : Array Value} {xs : List Value} (hh : w.heap[g]? = some (.cells cur e (0, 0))) (ht : cur.toList.take (n * size) = xs) (j : Nat) (u : Value) (hj : xs[j]? = some u) : w.cell? ⟨g, j, none⟩ = some u := by
  rw [Joins.cell_of_block hh]
  subst ht
  rw [List.getElem?_take] at hj
  split at hj
  · simpa using hj
  · cases hj

/-- The row that an append has made of a list of ints. -/
theorem ints_of_own {w : World} {lo : Nat} {e : TypeId} {v : Value} {n : Nat} {xs : List Int} (h : w.ownsRow lo e 1 v n (intCells xs)) (hl : xs.length = n) (hs : n ≤ 17592186044416) (hw : ∀ x ∈ xs, -9223372036854775808 ≤ x ∧ x ≤ 9223372036854775807) :
    ∃ a c, v = .slice a n c ∧ Ints w a n xs ∧ Fresh lo n a := by
  rcases h.2 with ⟨rfl, rfl⟩ | ⟨g, cap, cur, rfl, hg, hh, _, _, hc, ht⟩
  · exact ⟨none, 0, rfl, ⟨hl, hs, hw, .inl rfl⟩, .inl rfl⟩
  · have hlt : g < w.heap.size := by
      rcases Nat.lt_or_ge g w.heap.size with h' | h'
      · exact h'
      · rw [Array.getElem?_eq_none h'] at hh; cases hh
    refine ⟨_, _, rfl, ⟨hl, hs, hw, .inr ⟨g, 0, rfl, hlt, fun i hi => ?_⟩⟩, .inr ⟨g, 0, rfl, hg⟩⟩
    rw [Nat.zero_add]
    exact own_cell (base := lo) (cap := cap) hh ht i _ (intCells_at xs i (by omega))

theorem arcs_of_own {w : World} {lo : Nat} {e : TypeId} {v : Value} {n : Nat} {es : List A5} (h : w.ownsRow lo e 5 v n (arcCells es)) (hl : es.length = n) (hs : n ≤ 3518437208883) (hw : ∀ x ∈ es, ∀ j, -9223372036854775808 ≤ x.at j ∧ x.at j ≤ 9223372036854775807) :
    ∃ a c, v = .slice a n c ∧ Arcs w a n es ∧ Fresh lo n a := by
  rcases h.2 with ⟨rfl, rfl⟩ | ⟨g, cap, cur, rfl, hg, hh, _, _, hc, ht⟩
  · exact ⟨none, 0, rfl, ⟨hl, hs, hw, .inl rfl⟩, .inl rfl⟩
  · have hlt : g < w.heap.size := by
      rcases Nat.lt_or_ge g w.heap.size with h' | h'
      · exact h'
      · rw [Array.getElem?_eq_none h'] at hh; cases hh
    refine ⟨_, _, rfl, ⟨hl, hs, hw, .inr ⟨g, 0, rfl, hlt, fun i hi j hj => ?_⟩⟩, .inr ⟨g, 0, rfl, hg⟩⟩
    rw [Nat.zero_add]
    exact own_cell (base := lo) (cap := cap) hh ht _ _ (arcCells_at es i j (by omega) hj)

/-- The source of the append, of a list of ints that lies in w. -/
theorem Ints.src {w : World} {a : Option Addr} {n : Nat} {xs : List Int} (h : Ints w a n xs) : n = 0 ∨ ∃ ad, a = some ad ∧ ∀ j u, (intCells xs)[j]? = some u → w.cell? (ad.add j) = some u := by
  refine h.lies.imp id fun ⟨b, off, e, _, hc⟩ => ⟨_, e, fun j u hj => ?_⟩
  have hlt : j < xs.length := by
    rcases Nat.lt_or_ge j xs.length with h' | h'
    · exact h'
    · simp [intCells, h'] at hj
  rw [intCells_at xs j hlt] at hj
  rw [← hj, ← hc j (by rw [← h.len]; exact hlt)]
  cases j <;> simp [Addr.add]
theorem Arcs.src {w : World} {a : Option Addr} {n : Nat} {es : List A5} (h : Arcs w a n es) : n = 0 ∨ ∃ ad, a = some ad ∧ ∀ j u, (arcCells es)[j]? = some u → w.cell? (ad.add j) = some u := by
  refine h.lies.imp id fun ⟨b, off, e, _, hc⟩ => ⟨_, e, fun j u hj => ?_⟩
  have hlt : j < es.length * 5 := by
    rcases Nat.lt_or_ge j (es.length * 5) with h' | h'
    · exact h'
    · rw [List.getElem?_eq_none (by rw [arcCells_length]; exact h')] at hj; cases hj
  have h2 := arcCells_at es (j / 5) (j % 5) (by omega) (by omega)
  rw [show j / 5 * 5 + j % 5 = j from by omega] at h2
  rw [h2] at hj
  rw [← hj, ← hc (j / 5) (by rw [← h.len]; omega) (j % 5) (by omega)]
  rw [show off + j / 5 * 5 + j % 5 = off + j from by omega]
  cases j <;> simp [Addr.add]
end Go.Proofs.Ytampcheafdlomaa
