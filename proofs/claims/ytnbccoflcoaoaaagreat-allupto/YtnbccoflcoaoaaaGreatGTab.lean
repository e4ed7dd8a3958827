import Derived.Test.YtnbccoflcoaoaaaGreatGSol
namespace Go.Proofs.YtnbccoflcoaoaaaGreat
open Go.RowKit Go.Deep
set_option linter.unusedSimpArgs false
set_option linter.unusedVariables false

/-! ### tables: lists of lists -/
/-- A table that lies in w. -/
structure Tab (w : World) (a : Option Addr) (n : Nat) (t : List (List Int)) : Prop where
  len : t.length = n
  small : n ≤ 5864062014805
  lies : n = 0 ∨ ∃ b off, a = some ⟨b, off, none⟩ ∧ b < w.heap.size ∧ ∀ i, i < n → ∃ ra rc, w.cell? ⟨b, off + i, none⟩ = some (.slice ra (t.getD i []).length rc) ∧ Ints w ra (t.getD i []).length (t.getD i [])

theorem Tab.below {w w' : World} {a : Option Addr} {n : Nat} {t : List (List Int)} (h : Tab w a n t) (hb : Below w.heap.size w w') : Tab w' a n t :=
  ⟨h.len, h.small, h.lies.imp id fun ⟨b, off, e, hl, hc⟩ => ⟨b, off, e, Nat.lt_of_lt_of_le hl hb.size, fun i hi => by
    obtain ⟨ra, rc, h1, h2⟩ := hc i hi
    exact ⟨ra, rc, by rw [hb.cell (p := ⟨b, off + i, none⟩) hl]; exact h1, h2.below hb⟩⟩⟩
/-- Row k of those that lie in w. -/
theorem Tab.get {w : World} {a : Option Addr} {n : Nat} {t : List (List Int)} (h : Tab w a n t) {k : Nat} (hk : k < n) :
    ∃ b off ra rn rc, a = some ⟨b, off, none⟩ ∧ (t.getD k []).length = rn ∧ b < w.heap.size ∧ w.cell? ⟨b, off + k, none⟩ = some (.slice ra rn rc) ∧ Ints w ra rn (t.getD k []) := by
  obtain ⟨b, off, e, hl, hc⟩ := h.lies.resolve_left (by omega)
  obtain ⟨ra, rc, h1, h2⟩ := hc k hk
  exact ⟨b, off, ra, _, rc, e, rfl, hl, h1, h2⟩

theorem infoInts : (Tryz.prog.info? 32).map (fun i => (i.zero, i.size, i.bytes)) = some (some (.slice none 0 0), 1, 24) := by kernel_rfl

theorem own_apart {w : World} {b1 b2 : Nat} {e1 e2 : TypeId} {s1 s2 n1 n2 : Nat} {v1 v2 : Value} {x1 x2 : List Value} (h1 : w.ownsRow b1 e1 s1 v1 n1 x1) (h2 : w.ownsRow b2 e2 s2 v2 n2 x2) (hne : e1 ≠ e2) : v1.ownBlock = none ∨ v1.ownBlock ≠ v2.ownBlock := by
  rcases h1.2 with ⟨rfl, _⟩ | ⟨g, c, cur, rfl, _, hh, _⟩
  · exact .inl rfl
  · right
    rcases h2.2 with ⟨rfl, _⟩ | ⟨g', c', cur', rfl, _, hh', _⟩
    · simp [Value.ownBlock]
    · intro e
      simp only [Value.ownBlock, Option.some.injEq] at e
      subst e
      rw [hh] at hh'
      cases hh'
      exact hne rfl

/-- A table of the call's own: the list of its rows, and each row. -/
structure OwnT (w : World) (base : Nat) (v : Value) (t : List (List Int)) : Prop where
  row : ∃ oa oc vs, v = .slice oa t.length oc ∧ vs.length = t.length ∧ w.ownsRow base 32 1 (.slice oa t.length oc) t.length vs ∧ ∀ i, i < t.length → ∃ ra rc, vs[i]? = some (.slice ra (t.getD i []).length rc) ∧ w.ownsRow base 3 1 (.slice ra (t.getD i []).length rc) (t.getD i []).length (intCells (t.getD i []))
theorem OwnT.nil (w : World) (base : Nat) : OwnT w base (.slice none 0 0) [] := ⟨none, 0, [], rfl, rfl, World.ownsRow_nil _ _ _ _, fun i hi => by simp at hi⟩
theorem OwnT.below {w w' : World} {base : Nat} {v : Value} {t : List (List Int)} (h : OwnT w base v t) (hb : Below w.heap.size w w') : OwnT w' base v t := by
  obtain ⟨oa, oc, vs, e, hl, ho, hr⟩ := h.row
  refine ⟨oa, oc, vs, e, hl, ho.kept (grown_of_below hb none) (by cases oa <;> simp [Value.ownBlock]), fun i hi => ?_⟩
  obtain ⟨ra, rc, h1, h2⟩ := hr i hi
  exact ⟨ra, rc, h1, h2.kept (grown_of_below hb none) (by cases ra <;> simp [Value.ownBlock])⟩
theorem OwnT.mono {w : World} {base base' : Nat} {v : Value} {t : List (List Int)} (h : OwnT w base v t) (hb : base' ≤ base) : OwnT w base' v t := by
  obtain ⟨oa, oc, vs, e, hl, ho, hr⟩ := h.row
  refine ⟨oa, oc, vs, e, hl, ownsRow_mono ho hb, fun i hi => ?_⟩
  obtain ⟨ra, rc, h1, h2⟩ := hr i hi
  exact ⟨ra, rc, h1, ownsRow_mono h2 hb⟩
theorem OwnT.blk {w : World} {base : Nat} {v : Value} {t : List (List Int)} (h : OwnT w base v t) : ∀ k, v.ownBlock = some k → base ≤ k ∧ k < w.heap.size := by
  obtain ⟨oa, oc, vs, rfl, _, ho, _⟩ := h.row
  exact fun k hk => ho.lt k hk
theorem getD_snocL (t : List (List Int)) (r : List Int) (i : Nat) (hi : i < t.length + 1) : (t ++ [r]).getD i [] = if i < t.length then t.getD i [] else r := by
  simp only [List.getD]
  by_cases h : i < t.length
  · rw [if_pos h, List.getElem?_append_left h]
  · rw [if_neg h, List.getElem?_append_right (by omega), show i - t.length = 0 from by omega]; rfl
theorem OwnT.tab {w : World} {base : Nat} {v : Value} {t : List (List Int)} (h : OwnT w base v t) (hs : t.length ≤ 5864062014805) (hb : ∀ i, i < t.length → (t.getD i []).length ≤ 17592186044416 ∧ ∀ x ∈ t.getD i [], -9223372036854775808 ≤ x ∧ x ≤ 9223372036854775807) : ∃ a c, v = .slice a t.length c ∧ Tab w a t.length t ∧ t.length ≤ c := by
  obtain ⟨oa, oc, vs, e, hl, ho, hr⟩ := h.row
  rcases ho.2 with ⟨e2, h0⟩ | ⟨g, cap, cur, e2, hg, hh, hcap, hm, hc, ht⟩
  · exact ⟨oa, oc, e, ⟨rfl, hs, .inl h0⟩, by rw [h0]; exact Nat.zero_le _⟩
  · cases e2
    have hlt : g < w.heap.size := by
      rcases Nat.lt_or_ge g w.heap.size with h' | h'
      · exact h'
      · rw [Array.getElem?_eq_none h'] at hh; cases hh
    refine ⟨_, _, e, ⟨rfl, hs, .inr ⟨g, 0, rfl, hlt, fun i hi => ?_⟩⟩, hcap⟩
    obtain ⟨ra, rc, h1, h2⟩ := hr i hi
    refine ⟨ra, rc, ?_, own_ints h2 (hb i hi).1 (hb i hi).2⟩
    rw [Nat.zero_add]
    exact own_cell (base := base) (cap := oc) hh (by rw [Nat.mul_one] at ht ⊢; exact ht) i _ h1

/-- In the walk: append(c, l), c a table of the call's own, l a row of the call's own. -/
theorem wpList_push_row {w : World} {ops : Array Oper} {rest : List Oper} {o : Oper} {a : Act} {Q : Exit → Act → World → Prop} (hgd : o.guard = none) (s x : Operand)
    (ho : o.op = .call { callee := .builtin .append, args := #[s, x], argTypes := #[23, 23] }) (base : Nat) (v : Value) (t : List (List Int))
    (hs : a.eval s = v) (hown : OwnT w base v t) (g : Nat) (ra : Option Addr) (rn rc : Nat) (l : List Int) (hln : l.length = rn) (c : Nat) (hx : a.eval x = .slice (some ⟨g, 0, none⟩) 1 c) (hy : w.cell? ⟨g, 0, none⟩ = some (.slice ra rn rc)) (hrow : w.ownsRow base 3 1 (.slice ra rn rc) rn (intCells l))
    (hl : t.length < 5864062014805) (hb : base ≤ w.heap.size)
    (h : ∀ v' w', OwnT w' base v' (t ++ [l]) → w.grownBy w' v.ownBlock → wpList Tryz.prog ops Q rest (a.put o.dst v') w') : wpList Tryz.prog ops Q (o :: rest) a w := by
  subst hln
  obtain ⟨oa, oc, vs, rfl, hvl, ho', hr⟩ := hown.row
  obtain ⟨i0, hi, hz0, hz1, hz2⟩ := info_parts infoInts
  refine wpList_append_own w hgd s x 23 ho base 32 i0 _ 1 24 Tryz.underlying23 hi hz0 hz1 hz2 rfl (by decide) _ t.length vs hs ho' ⟨g, 0, none⟩ 1 c [.slice ra l.length rc] hx rfl ?_ ?_ (by unfold maxLen; omega) (by omega) hb ?_
  · intro j u hj
    cases j with
    | zero => simp at hj; subst hj; simpa [Addr.add] using hy
    | succ j => simp at hj
  · intro u hu; simp at hu; subst hu; rfl
  · intro v' w' hown' hgr _
    have hrows : ∀ i, i < (t ++ [l]).length → ∃ ra' rc', (vs ++ [.slice ra l.length rc])[i]? = some (.slice ra' ((t ++ [l]).getD i []).length rc') ∧ w'.ownsRow base 3 1 (.slice ra' ((t ++ [l]).getD i []).length rc') ((t ++ [l]).getD i []).length (intCells ((t ++ [l]).getD i [])) := by
      intro i hi
      rw [List.length_append] at hi
      simp only [List.length_cons, List.length_nil] at hi
      rw [getD_snocL _ _ _ (by omega)]
      by_cases hil : i < t.length
      · rw [if_pos hil]
        obtain ⟨ra', rc', h1, h2⟩ := hr i hil
        exact ⟨ra', rc', by rw [List.getElem?_append_left (by omega)]; exact h1, h2.kept hgr (own_apart h2 ho' (by decide))⟩
      · rw [if_neg hil]
        refine ⟨ra, rc, ?_, hrow.kept hgr (own_apart hrow ho' (by decide))⟩
        rw [List.getElem?_append_right (by omega), show i - vs.length = 0 from by omega]; rfl
    have e1 : (t ++ [l]).length = t.length + 1 := by simp
    rcases hown'.2 with ⟨_, h0⟩ | ⟨g', cap, cur, rfl, r⟩
    · omega
    · exact h _ w' ⟨some ⟨g', 0, none⟩, cap, vs ++ [.slice ra l.length rc], by rw [e1], by simp; omega, by rw [e1]; exact hown', hrows⟩ hgr

/-- In the walk: append(nil, l...), a row of the call's own. -/
theorem wpList_copy_own {w : World} {ops : Array Oper} {rest : List Oper} {o : Oper} {a : Act} {Q : Exit → Act → World → Prop} (hgd : o.guard = none) (s x : Operand)
    (ho : o.op = .call { callee := .builtin .append, args := #[s, x], argTypes := #[32, 32] })
    (hs : a.eval s = .slice none 0 0) (sa : Option Addr) (m c : Nat) (hx : a.eval x = .slice sa m c) (xs : List Int) (hX : Ints w sa m xs)
    (h : ∀ a' c' w', w'.ownsRow w.heap.size 3 1 (.slice a' m c') m (intCells xs) → Below w.heap.size w w' → wpList Tryz.prog ops Q rest (a.put o.dst (.slice a' m c')) w') : wpList Tryz.prog ops Q (o :: rest) a w := by
  obtain ⟨i0, hi, hz0, hz1, hz2⟩ := info_parts infoInt
  have hsm := hX.small
  refine wpList_append_copy w hgd s x 32 ho 3 i0 _ 1 8 Tryz.underlying32 hi hz0 hz1 hz2 rfl (by decide) hs sa m c hx (intCells xs) (by rw [intCells_length, hX.len]; omega) hX.src (intCells_one xs) (by unfold maxLen; omega) (by omega) ?_
  intro v' w' hown hgr
  have hb := (Below.refl _ _).grown hgr (Nat.le_refl _) (fun k hk => by cases hk)
  rcases hown.2 with ⟨rfl, rfl⟩ | ⟨g, cap, cur, rfl, r⟩
  · exact h none 0 w' hown hb
  · exact h _ _ w' hown hb

/-- Every row is short enough, every number is one. -/
def TabWf (t : List (List Int)) : Prop := ∀ i, i < t.length → (t.getD i []).length ≤ 17592186044416 ∧ ∀ x ∈ t.getD i [], -9223372036854775808 ≤ x ∧ x ≤ 9223372036854775807
theorem Tab.wf {w : World} {a : Option Addr} {n : Nat} {t : List (List Int)} (h : Tab w a n t) : TabWf t := fun i hi => by
  obtain ⟨b, off, ra, rn, rc, _, e, _, _, hI⟩ := h.get (show i < n by rw [← h.len]; exact hi)
  exact ⟨by rw [e]; exact hI.small, hI.wf⟩
theorem take_snocL (t : List (List Int)) {k : Nat} (hk : k < t.length) : t.take (k + 1) = t.take k ++ [t.getD k []] := by
  rw [List.take_add_one]
  congr 1
  simp [List.getD, hk]

end Go.Proofs.YtnbccoflcoaoaaaGreat

namespace Go.Proofs.YtnbccoflcoaoaaaGreat
open Go.RowKit Go.Deep
set_option linter.unusedSimpArgs false
set_option linter.unusedVariables false

/-! ### what Assign may answer -/
def tAt (t : List (List Int)) (i j : Nat) : Int := (t.getD i []).getD j 0
def entB (x : Int) : Bool := decide (x = -1 ∨ (0 ≤ x ∧ x ≤ 50))
def rowB (n : Nat) (r : List Int) : Bool := decide (r.length = n) && (List.range r.length).all (fun j => entB (r.getD j 0))
def tabB (t : List (List Int)) : Bool := decide (1 ≤ t.length ∧ t.length ≤ 8) && (List.range t.length).all (fun i => rowB t.length (t.getD i []))

/-- A plan as plain data. -/
structure P6 where
  fits : Bool
  cols : List Int
  cost : Int
  rw : List Int
  cw : List Int
  short : List Int
def colAt (t : List (List Int)) (l : List Int) (i : Nat) : Bool := decide (0 ≤ l.getD i 0 ∧ l.getD i 0 < t.length) && !inB (l.take i) (l.getD i 0) && decide (tAt t i (l.getD i 0).toNat ≠ -1)
def colsB (t : List (List Int)) (l : List Int) : Bool := decide (l.length = t.length) && (List.range l.length).all (colAt t l)
def colCost (t : List (List Int)) (l : List Int) : Nat → Int := sumTo fun i => tAt t i (l.getD i 0).toNat
def modB (l : List Int) (n : Nat) : Bool := (List.range l.length).all (fun i => decide (-1000000 ≤ l.getD i 0 ∧ l.getD i 0 ≤ 1000000)) && decide (l.length = n)
def worAt (t : List (List Int)) (p : P6) (i j : Nat) : Bool := decide (tAt t i j ≠ -1 → p.rw.getD i 0 + p.cw.getD j 0 ≤ tAt t i j ∧ (p.cols.getD i 0 = (j : Int) → p.rw.getD i 0 + p.cw.getD j 0 = tAt t i j))
def worB (t : List (List Int)) (p : P6) : Bool := modB p.rw t.length && modB p.cw t.length && (List.range t.length).all (fun i => (List.range t.length).all (worAt t p i))
def openB (t : List (List Int)) (l : List Int) (j : Nat) : Bool := (List.range l.length).any (fun i => decide (tAt t (l.getD i 0).toNat j ≠ -1))
def openN (t : List (List Int)) (l : List Int) : Nat → Int := sumTo fun j => if openB t l j = true then 1 else 0
def shortB (t : List (List Int)) (l : List Int) : Bool := decide (openN t l t.length < l.length)
def emptyB (p : P6) : Bool := decide (p.cols.length = 0) && decide (p.cost = 0) && decide (p.rw.length = 0) && decide (p.cw.length = 0)
def planS (t : List (List Int)) (p : P6) (e : Int) : Bool :=
  if tabB t = false then decide (e = 9) && !p.fits && emptyB p && decide (p.short.length = 0)
  else if e ≠ 0 then false
  else if p.fits = false then risB p.short t.length && emptyB p && shortB t p.short
  else colsB t p.cols && decide (colCost t p.cols p.cols.length = p.cost) && decide (p.short.length = 0) && worB t p

theorem tab_out {t : List (List Int)} (h : tabB t = true) : 1 ≤ t.length ∧ t.length ≤ 8 ∧ (∀ i, i < t.length → (t.getD i []).length = t.length) ∧ ∀ i j, i < t.length → j < t.length → tAt t i j = -1 ∨ (0 ≤ tAt t i j ∧ tAt t i j ≤ 50) := by
  unfold tabB at h
  rw [Bool.and_eq_true, decide_eq_true_eq] at h
  have hr : ∀ i, i < t.length → _ := fun i hi => of_all h.2 i hi
  simp only [rowB, Bool.and_eq_true, decide_eq_true_eq] at hr
  exact ⟨h.1.1, h.1.2, fun i hi => (hr i hi).1, fun i j hi hj => of_decide_eq_true (of_all (hr i hi).2 j (by rw [(hr i hi).1]; exact hj))⟩

theorem ris_small {l : List Int} {n : Nat} (h : risB l n = true) (hn : n ≤ 10) : Small l := by
  have hr : ∀ i, i < l.length → (i : Int) ≤ (l.getD i 0) := by
    intro i
    induction i with
    | zero => intro hi; have := of_decide_eq_true (of_all h 0 hi); omega
    | succ i ih =>
      intro hi
      have := ih (by omega)
      have := ris_lt h (show i < i + 1 by omega) hi
      omega
  refine Small.of ?_ (fun i hi => ?_)
  · by_cases h0 : l.length = 0
    · omega
    · have h6 := hr (l.length - 1) (by omega)
      have h7 := of_decide_eq_true (of_all h (l.length - 1) (by omega))
      omega
  · have h7 := of_decide_eq_true (of_all h i hi)
    omega
theorem plan_small {t : List (List Int)} {p : P6} {e : Int} (h : planS t p e = true) : Small p.cols ∧ Small p.rw ∧ Small p.cw ∧ Small p.short := by
  unfold planS at h
  split at h
  · simp only [emptyB, Bool.and_eq_true, decide_eq_true_eq] at h
    exact ⟨Small.of_nil h.1.2.1.1.1, Small.of_nil h.1.2.1.2, Small.of_nil h.1.2.2, Small.of_nil h.2⟩
  · rename_i ht
    obtain ⟨t1, t2, t3, t4⟩ := tab_out (by simpa using ht)
    split at h
    · cases h
    · split at h
      · simp only [emptyB, Bool.and_eq_true, decide_eq_true_eq] at h
        exact ⟨Small.of_nil h.1.2.1.1.1, Small.of_nil h.1.2.1.2, Small.of_nil h.1.2.2, ris_small h.1.1 (by omega)⟩
      · simp only [worB, modB, colsB, Bool.and_eq_true, decide_eq_true_eq] at h
        obtain ⟨⟨⟨⟨h1, h2⟩, _⟩, h4⟩, ⟨⟨h5, h6⟩, h7, h8⟩, _⟩ := h
        refine ⟨Small.of (by omega) (fun i hi => ?_), Small.of (by omega) (fun i hi => of_decide_eq_true (of_all h5 i hi)), Small.of (by omega) (fun i hi => of_decide_eq_true (of_all h7 i hi)), Small.of_nil h4⟩
        have h9 := of_all h2 i hi
        simp only [colAt, Bool.and_eq_true, decide_eq_true_eq] at h9
        omega

/-- The value of a plan whose lists are the call's own. -/
def OwnP (w : World) (base : Nat) (v : Value) (p : P6) : Prop :=
  ∃ ca cc ra rc wa wc sa sc, v = .agg #[.bool p.fits, .slice ca p.cols.length cc, .int .i64 p.cost, .slice ra p.rw.length rc, .slice wa p.cw.length wc, .slice sa p.short.length sc] ∧
    w.ownsRow base 3 1 (.slice ca p.cols.length cc) p.cols.length (intCells p.cols) ∧ w.ownsRow base 3 1 (.slice ra p.rw.length rc) p.rw.length (intCells p.rw) ∧
    w.ownsRow base 3 1 (.slice wa p.cw.length wc) p.cw.length (intCells p.cw) ∧ w.ownsRow base 3 1 (.slice sa p.short.length sc) p.short.length (intCells p.short)
theorem OwnP.below {w w' : World} {base : Nat} {v : Value} {p : P6} (h : OwnP w base v p) (hb : Below w.heap.size w w') : OwnP w' base v p := by
  obtain ⟨ca, cc, ra, rc, wa, wc, sa, sc, rfl, h1, h2, h3, h4⟩ := h
  exact ⟨ca, cc, ra, rc, wa, wc, sa, sc, rfl, h1.kept (grown_of_below hb none) (by cases ca <;> simp [Value.ownBlock]), h2.kept (grown_of_below hb none) (by cases ra <;> simp [Value.ownBlock]), h3.kept (grown_of_below hb none) (by cases wa <;> simp [Value.ownBlock]), h4.kept (grown_of_below hb none) (by cases sa <;> simp [Value.ownBlock])⟩
theorem OwnP.mono {w : World} {base base' : Nat} {v : Value} {p : P6} (h : OwnP w base v p) (hb : base' ≤ base) : OwnP w base' v p := by
  obtain ⟨ca, cc, ra, rc, wa, wc, sa, sc, rfl, h1, h2, h3, h4⟩ := h
  exact ⟨ca, cc, ra, rc, wa, wc, sa, sc, rfl, ownsRow_mono h1 hb, ownsRow_mono h2 hb, ownsRow_mono h3 hb, ownsRow_mono h4 hb⟩
theorem OwnP.setBelow {w : World} {base : Nat} {v : Value} {p : P6} (h : OwnP w base v p) {b o : Nat} (hb : b < base) (u : Value) : OwnP (w.setCell ⟨b, o, none⟩ u) base v p := by
  obtain ⟨ca, cc, ra, rc, wa, wc, sa, sc, rfl, h1, h2, h3, h4⟩ := h
  exact ⟨ca, cc, ra, rc, wa, wc, sa, sc, rfl, ownsRow_setCell_below h1 hb u, ownsRow_setCell_below h2 hb u, ownsRow_setCell_below h3 hb u, ownsRow_setCell_below h4 hb u⟩
/-- Its four lists, as they lie. -/
structure Pla (w : World) (ca ra wa sa : Option Addr) (p : P6) : Prop where
  cl : Ints w ca p.cols.length p.cols
  rl : Ints w ra p.rw.length p.rw
  wl : Ints w wa p.cw.length p.cw
  sl : Ints w sa p.short.length p.short
theorem Pla.below {w w' : World} {ca ra wa sa : Option Addr} {p : P6} (h : Pla w ca ra wa sa p) (hb : Below w.heap.size w w') : Pla w' ca ra wa sa p := ⟨h.cl.below hb, h.rl.below hb, h.wl.below hb, h.sl.below hb⟩
theorem OwnP.open_ {w : World} {base : Nat} {v : Value} {p : P6} {t : List (List Int)} {e : Int} (h : OwnP w base v p) (hp : planS t p e = true) :
    ∃ ca cc ra rc wa wc sa sc, v = .agg #[.bool p.fits, .slice ca p.cols.length cc, .int .i64 p.cost, .slice ra p.rw.length rc, .slice wa p.cw.length wc, .slice sa p.short.length sc] ∧ Pla w ca ra wa sa p ∧ p.cols.length ≤ cc := by
  obtain ⟨ca, cc, ra, rc, wa, wc, sa, sc, rfl, h1, h2, h3, h4⟩ := h
  obtain ⟨s1, s2, s3, s4⟩ := plan_small hp
  refine ⟨ca, cc, ra, rc, wa, wc, sa, sc, rfl, ⟨s1.ints h1, s2.ints h2, s3.ints h3, s4.ints h4⟩, ?_⟩
  rcases h1.2 with ⟨e, h0⟩ | ⟨g, cap, cur, e, _, _, hn, _⟩
  · omega
  · cases e; exact hn

/-- ASSIGN's CONTRACT. -/
def AssignC : Prop := ∀ (ta : Option Addr) (tn tc : Nat) (t : List (List Int)) (w : World), Tab w ta tn t → tn ≤ tc →
  Calls Tryz.prog 21 #[.slice ta tn tc] w fun e w' => ∃ (p : P6) (err : Int) (v : Value), e = .returned (.tuple #[v, .int .i64 err]) ∧ OwnP w' w.heap.size v p ∧ planS t p err = true ∧ Below w.heap.size w w'
end Go.Proofs.YtnbccoflcoaoaaaGreat

namespace Go.Proofs.YtnbccoflcoaoaaaGreat
open Go.RowKit Go.Deep
set_option linter.unusedSimpArgs false
set_option linter.unusedVariables false

theorem tab_f1 {t : List (List Int)} (h : ¬ (1 ≤ t.length ∧ t.length ≤ 8)) : tabB t = false := by unfold tabB; rw [decide_eq_false h]; rfl
theorem tab_f2 {t : List (List Int)} {k : Nat} (hk : k < t.length) (h : rowB t.length (t.getD k []) = false) : tabB t = false := by unfold tabB; rw [all_f hk h, Bool.and_false]
theorem tab_t {t : List (List Int)} (h : 1 ≤ t.length ∧ t.length ≤ 8) (hr : ∀ k, k < t.length → rowB t.length (t.getD k []) = true) : tabB t = true := by unfold tabB; rw [decide_eq_true h, all_t hr]; rfl

set_option maxHeartbeats 2000000 in
theorem refTableFits_any (ta : Option Addr) (tn tc : Nat) (t : List (List Int)) (w : World) (ht : Tab w ta tn t) :
    Calls Tryz.prog 42 #[.slice ta tn tc] w fun e w' => e = .returned (.bool (tabB t)) ∧ w' = w := by
  have hlen := hide ht.len
  have hsm := ht.small
  have HT := hide ht
  clear ht
  by_cases h8 : 1 ≤ tn ∧ tn ≤ 8
  · obtain ⟨h1, h2⟩ := h8
    have h1b : (1 : Int) ≤ (tn : Int) := by omega
    have h2b : (tn : Int) ≤ 8 := by omega
    go_enter Tryz.func42, Tryz.ntmps42
    go_wp2
    go_loop [3, 4] (fun i j => ∃ k : Nat, k ≤ tn ∧ i = .int .i64 k ∧ Hid (∀ q, q < k → rowB t.length (t.getD q []) = true)) (fun i _ => tn - (intOf i).toNat)
    case atStart => exact ⟨0, Nat.zero_le _, rfl, fun q hq => by omega⟩
    case round =>
      obtain ⟨k, hk, rfl, hg⟩ := hrel
      by_cases hlt : k < tn
      · have hlt3 : (k : Int) < (tn : Int) := by omega
        obtain ⟨b, off, ra, rn, rc, rfl, hrn, hbb, cr, hI⟩ := HT.out.get hlt
        have HI := hide hI
        have hrs := hI.small
        clear hI
        by_cases hre : rn = tn
        · subst hre
          go_wp2
          go_loop [4] (fun j => ∃ q : Nat, q ≤ rn ∧ j = .int .i64 q ∧ Hid (∀ m, m < q → entB ((t.getD k []).getD m 0) = true)) (fun j => rn - (intOf j).toNat)
          case atStart => exact ⟨0, Nat.zero_le _, rfl, fun q hq => by omega⟩
          case round =>
            obtain ⟨q, hq, rfl, hg2⟩ := hrel
            by_cases hlt2 : q < rn
            · have hlt4 : (q : Int) < (rn : Int) := by omega
              obtain ⟨b2, off2, x, rfl, hX, hb2, cx⟩ := HI.out.get hlt2
              have HX := hide hX
              clear hX
              have good : Hid ((x = -1 ∨ (0 ≤ x ∧ x ≤ 50)) → ∀ m, m < q + 1 → entB ((t.getD k []).getD m 0) = true) := fun hx m hm => by
                by_cases e : m = q
                · subst e; rw [HX.out]; exact decide_eq_true hx
                · exact hg2.out m (by omega)
              have bad : Hid (¬ (x = -1 ∨ (0 ≤ x ∧ x ≤ 50)) → tabB t = false) := fun hx => tab_f2 (k := k) (by rw [hlen.out]; exact hlt) (by
                unfold rowB
                rw [all_f (k := q) (by rw [hrn]; exact hlt2) (by rw [HX.out]; exact decide_eq_false hx), Bool.and_false])
              by_cases hx1 : x = -1
              · subst hx1
                go_wp2
                exact ⟨⟨q + 1, by omega, by go_num, good.out (.inl rfl)⟩, by simp [intOf]; omega⟩
              · have hxb : (x != -1) = true := by simpa using hx1
                by_cases hx0 : x < 0
                · have HB := hide (bad.out (by omega))
                  clear good bad hx1
                  go_wp2
                  go_ret
                  exact ⟨ret_b HB.out.symm, rfl⟩
                · by_cases hx5 : 50 < x
                  · have HB := hide (bad.out (by omega))
                    clear good bad hx1
                    go_wp2
                    all_goals first
                      | (exfalso; omega)
                      | (go_ret
                         exact ⟨ret_b HB.out.symm, rfl⟩)
                  · have HG := hide (good.out (by omega))
                    clear good bad hx1
                    go_wp2
                    all_goals first
                      | (exfalso; omega)
                      | exact ⟨⟨q + 1, by omega, by go_num, HG.out⟩, by simp [intOf]; omega⟩
            · have hqn : q = rn := by omega
              subst hqn
              have HG : Hid (∀ m, m < k + 1 → rowB t.length (t.getD m []) = true) := fun m hm => by
                by_cases e : m = k
                · subst e
                  unfold rowB
                  rw [hrn, hlen.out, all_t hg2.out]; simp
                · exact hg.out m (by omega)
              clear hg2
              go_wp2
              exact ⟨⟨k + 1, by omega, by go_num, HG.out⟩, by simp [intOf]; omega⟩
        · have hneb : ((rn : Int) != (tn : Int)) = true := by simp; omega
          have HB : Hid (tabB t = false) := tab_f2 (k := k) (by rw [hlen.out]; exact hlt) (by unfold rowB; rw [hrn, hlen.out, decide_eq_false hre]; rfl)
          go_wp2
          all_goals first
            | (exfalso; omega)
            | (go_ret
               exact ⟨ret_b HB.out.symm, rfl⟩)
      · have hkn : k = tn := by omega
        subst hkn
        have HB : Hid (tabB t = true) := tab_t (by rw [hlen.out]; omega) (fun q hq => hg.out q (by rw [hlen.out] at hq; exact hq))
        go_wp2
        go_ret
        exact ⟨ret_b HB.out.symm, rfl⟩
  · have HB : Hid (tabB t = false) := tab_f1 (by rw [hlen.out]; exact h8)
    by_cases h1 : tn < 1
    · have h1b : (tn : Int) < 1 := by omega
      clear h8
      go_enter Tryz.func42, Tryz.ntmps42
      go_wp2
      go_ret
      exact ⟨ret_b HB.out.symm, rfl⟩
    · have h1b : ¬ ((tn : Int) < 1) := by omega
      have h2b : (8 : Int) < (tn : Int) := by omega
      clear h8
      go_enter Tryz.func42, Tryz.ntmps42
      go_wp2
      all_goals first
        | (exfalso; omega)
        | (go_ret
           exact ⟨ret_b HB.out.symm, rfl⟩)
end Go.Proofs.YtnbccoflcoaoaaaGreat
