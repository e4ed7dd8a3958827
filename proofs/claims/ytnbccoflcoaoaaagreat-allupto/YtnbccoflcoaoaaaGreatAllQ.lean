import Derived.Test.YtnbccoflcoaoaaaGreatAllO
import Derived.Test.YtnbccoflcoaoaaaGreatAllP
import Derived.Deep.RegionHeldLaw
import Derived.Test.YtnbccoflcoaoaaaGreatGSol
import Derived.Test.YtnbccoflcoaoaaaGreatGRte
namespace Go.Proofs.YtnbccoflcoaoaaaGreat
open Go.RowKit Go.Deep
set_option linter.unusedSimpArgs false
set_option linter.unusedVariables false

/-! ### answers and flows, as All keeps them -/
theorem infoAnswer : (Tryz.prog.info? 35).map (fun i => (i.zero, i.size, i.bytes)) = some (some (.agg #[.int .i64 0, .int .i64 0, .slice none 0 0, .slice none 0 0, .slice none 0 0, .slice none 0 0]), 6, 112) := by kernel_rfl
def ans6 (kd cs : Int) (v2 v3 v4 v5 : Value) : List Value := [.int .i64 kd, .int .i64 cs, v2, v3, v4, v5]
/-- In a region that draws: append(answers, a). -/
theorem step_push_ans {w : World} {ops : Array Oper} {op : Oper} {a : Act} {K : Act → World → Prop} {Q : Exit → Act → World → Prop} {E : Prop} (hgd : op.guard = none) (s x : Operand)
    (ho : op.op = .call { callee := .builtin .append, args := #[s, x], argTypes := #[24, 24] }) (base : Nat) (v : Value) (n : Nat) (cs : List Value)
    (hs : a.eval s = v) (hown : w.ownsRow base 35 6 v n cs) (g : Nat) (kd co : Int) (v2 v3 v4 v5 : Value) (h2 : v2.oneCell' = true) (h3 : v3.oneCell' = true) (h4 : v4.oneCell' = true) (h5 : v5.oneCell' = true) (c : Nat) (hx : a.eval x = .slice (some ⟨g, 0, none⟩) 1 c) (hy : ∀ j u, (ans6 kd co v2 v3 v4 v5)[j]? = some u → w.cell? ⟨g, j, none⟩ = some u)
    (hl : n ≤ 1099511627776) (hb : base ≤ w.heap.size)
    (h : ∀ g' c' w', w'.ownsRow base 35 6 (.slice (some ⟨g', 0, none⟩) (n + 1) c') (n + 1) (cs ++ ans6 kd co v2 v3 v4 v5) → w.grownBy w' v.ownBlock → K (a.put op.dst (.slice (some ⟨g', 0, none⟩) (n + 1) c')) w') :
    if Region.wanted op (yielded ops a.tmps) = true then Oper.wp Tryz.prog op a w K Q else E := by
  have hw : Region.wanted op (yielded ops a.tmps) = true := by simp [Region.wanted, hgd]
  rw [if_pos hw]
  obtain ⟨i0, hi, hz0, hz1, hz2⟩ := info_parts infoAnswer
  refine wp_append_own w s x 24 ho base 35 i0 _ 6 112 Tryz.underlying24 hi hz0 hz1 hz2 rfl (by decide) v n cs hs hown ⟨g, 0, none⟩ 1 c (ans6 kd co v2 v3 v4 v5) hx rfl ?_ ?_ (by unfold maxLen; omega) (by omega) hb ?_
  · intro j u hj
    rw [Addr.add_lit, Nat.zero_add]
    exact hy j u hj
  · intro u hu
    simp only [ans6, List.mem_cons, List.not_mem_nil, or_false] at hu
    rcases hu with rfl | rfl | rfl | rfl | rfl | rfl
    · rfl
    · rfl
    · exact h2
    · exact h3
    · exact h4
    · exact h5
  · intro v' w' hown' hgr _
    obtain ⟨g', c', cur, e1, _⟩ | ⟨_, h0⟩ := hown'.2.symm
    · subst e1; exact h g' c' w' hown' hgr
    · omega
/-- In a region that draws: append(flows, l): the row is the old one or a new one. -/
theorem step_push_flow {w : World} {ops : Array Oper} {op : Oper} {a : Act} {K : Act → World → Prop} {Q : Exit → Act → World → Prop} {E : Prop} (hgd : op.guard = none) (s x : Operand)
    (ho : op.op = .call { callee := .builtin .append, args := #[s, x], argTypes := #[23, 23] }) (base : Nat) (v : Value) (n : Nat) (cs : List Value)
    (hs : a.eval s = v) (hown : w.ownsRow base 32 1 v n cs) (g : Nat) (u : Value) (hu : u.oneCell' = true) (c : Nat) (hx : a.eval x = .slice (some ⟨g, 0, none⟩) 1 c) (hy : w.cell? ⟨g, 0, none⟩ = some u)
    (hl : n ≤ 1099511627776) (hb : base ≤ w.heap.size)
    (h : ∀ g' c' w', w'.ownsRow base 32 1 (.slice (some ⟨g', 0, none⟩) (n + 1) c') (n + 1) (cs ++ [u]) → w.grownBy w' v.ownBlock → (v.ownBlock = some g' ∨ w.heap.size ≤ g') → K (a.put op.dst (.slice (some ⟨g', 0, none⟩) (n + 1) c')) w') :
    if Region.wanted op (yielded ops a.tmps) = true then Oper.wp Tryz.prog op a w K Q else E := by
  have hw : Region.wanted op (yielded ops a.tmps) = true := by simp [Region.wanted, hgd]
  rw [if_pos hw]
  obtain ⟨i0, hi, hz0, hz1, hz2⟩ := info_parts infoInts
  have hcc : ∀ j y, [u][j]? = some y → w.cell? ((⟨g, 0, none⟩ : Addr).add j) = some y := fun j y hj => by
    rw [Addr.add_lit, Nat.zero_add]
    match j, hj with
    | 0, hj => simp at hj; subst hj; exact hy
    | j + 1, hj => simp at hj
  have h1c : ∀ y ∈ [u], y.oneCell' = true := fun y hy => by simp at hy; subst hy; exact hu
  rcases hown.2 with ⟨rfl, h0⟩ | ⟨g1, cap, cur, rfl, a1, a2, a3, a4, a5, a6⟩
  · subst h0
    have hxs : cs = [] := List.eq_nil_of_length_eq_zero (by have := hown.1; omega)
    subst hxs
    obtain ⟨v', w', hrun, r1, r2, _⟩ := run_append_own (P := Tryz.prog) w w.heap.size 23 op.type 32 i0 _ 1 24 Tryz.underlying23 hi hz0 hz1 hz2 rfl (by decide) (.slice none 0 0) 0 [] (World.ownsRow_nil w _ 32 1) ⟨g, 0, none⟩ 1 c [u] rfl hcc h1c (by unfold maxLen; omega) (by omega) (Nat.le_refl _)
    obtain ⟨g', c', e1⟩ := own_some r1 (by omega)
    subst e1
    unfold Oper.wp
    simp [execOp, ho, resolve, invoke, builtin, hs, hx, hrun, Result.andThen]
    exact h g' c' w' (ownsRow_mono r1 hb) r2 (.inr (r1.lt g' rfl).1)
  · by_cases hfit : n + 1 ≤ cap
    · obtain ⟨w', hrun, r1, r2⟩ := run_append_fits (P := Tryz.prog) w base 23 op.type 32 i0 1 Tryz.underlying23 hi hz1 g1 n cap cs hown ⟨g, 0, none⟩ 1 c [u] rfl hcc h1c hfit
      unfold Oper.wp
      simp [execOp, ho, resolve, invoke, builtin, hs, hx, hrun, Result.andThen]
      exact h g1 cap w' r1 r2 (.inl rfl)
    · obtain ⟨v', w', hrun, r1, r2⟩ := run_append_arg_grows (P := Tryz.prog) w 23 op.type 32 i0 _ 1 24 Tryz.underlying23 hi hz0 hz1 hz2 rfl (by decide) ⟨g1, 0, none⟩ n cap cs (by have := hown.1; omega) (fun j y hj => by rw [Addr.add_lit, Nat.zero_add]; exact own_cellAt hown j y hj) ⟨g, 0, none⟩ 1 c [u] rfl hcc (by omega) (by unfold maxLen; omega) (by omega)
      obtain ⟨g', c', e1⟩ := own_some r1 (by omega)
      subst e1
      unfold Oper.wp
      simp [execOp, ho, resolve, invoke, builtin, hs, hx, hrun, Result.andThen]
      exact h g' c' w' (ownsRow_mono r1 hb) ⟨r2.os, r2.tape, r2.output, r2.size, fun k k1 _ => r2.block k k1 (by simp)⟩ (.inr (r1.lt g' rfl).1)

/-- A list of numbers in safe memory. -/
def ListP (w : World) (P : Nat → Prop) (v : Value) (l : List Int) : Prop := l.length ≤ 2097152 ∧ ∃ a c, v = .slice a l.length c ∧ l.length ≤ c ∧ Ints w a l.length l ∧ ∀ b off, a = some ⟨b, off, none⟩ → P b
theorem ListP.keep {w w' : World} {P P' : Nat → Prop} {v : Value} {l : List Int} (h : ListP w P v l) (hs : w.heap.size ≤ w'.heap.size) (hk : ∀ b, P b → w'.heap[b]? = w.heap[b]?) (hP : ∀ b, P b → P' b) : ListP w' P' v l := by
  obtain ⟨h1, a, c, h2, h5, h3, h4⟩ := h
  exact ⟨h1, a, c, h2, h5, h3.blk hs (fun b off e => hk b (h4 b off e)), fun b off e => hP b (h4 b off e)⟩
def FloAt (w : World) (P : Nat → Prop) (fcs : List Value) (nf : Nat) (fls : Nat → List Int) : Prop := ∀ i, i < nf → ∃ v, fcs[i]? = some v ∧ ListP w P v (fls i)
theorem FloAt.flows {w : World} {P : Nat → Prop} {fcs : List Value} {nf : Nat} {fls : Nat → List Int} (h : FloAt w P fcs nf fls) : FlowsAt w P fcs nf fls := fun i hi => by
  obtain ⟨v, h1, h2, a, c, rfl, _, h3, h4⟩ := h i hi
  exact ⟨h2, a, c, h1, h3, h4⟩
def AnssAt (w : World) (P : Nat → Prop) (acs : List Value) (na : Nat) (anss : Nat → A6) : Prop :=
  ∀ i, i < na → ∃ v2 v3 v4 v5, acs[i * 6]? = some (.int .i64 (anss i).kind) ∧ acs[i * 6 + 1]? = some (.int .i64 (anss i).cost) ∧ acs[i * 6 + 2]? = some v2 ∧ acs[i * 6 + 3]? = some v3 ∧ acs[i * 6 + 4]? = some v4 ∧ acs[i * 6 + 5]? = some v5 ∧
    ListP w P v2 (anss i).flow ∧ ListP w P v3 (anss i).pots ∧ ListP w P v4 (anss i).cut ∧ ListP w P v5 (anss i).circ
structure Flo (w : World) (base0 : Nat) (P : Nat → Prop) (fv : Value) (nf : Nat) (fls : Nat → List Int) : Prop where
  row : ∃ fa fc fcs, fv = .slice fa nf fc ∧ w.ownsRow base0 32 1 (.slice fa nf fc) nf fcs ∧ FloAt w P fcs nf fls
  out : ∀ b, fv.ownBlock = some b → ¬ P b
structure Anz (w : World) (base0 : Nat) (P : Nat → Prop) (av : Value) (na : Nat) (anss : Nat → A6) : Prop where
  row : ∃ aa ac acs, av = .slice aa na ac ∧ w.ownsRow base0 35 6 (.slice aa na ac) na acs ∧ AnssAt w P acs na anss
theorem Flo.keep {w w' : World} {base0 : Nat} {P P' : Nat → Prop} {fv : Value} {nf : Nat} {fls : Nat → List Int} (h : Flo w base0 P fv nf fls) (hs : w.heap.size ≤ w'.heap.size) (hk : ∀ b, P b → w'.heap[b]? = w.heap[b]?) (hP : ∀ b, P b → P' b) (ha : ∀ b, fv.ownBlock = some b → w'.heap[b]? = w.heap[b]? ∧ ¬ P' b) : Flo w' base0 P' fv nf fls := by
  obtain ⟨fa, fc, fcs, rfl, h2, h3⟩ := h.row
  refine ⟨⟨fa, fc, fcs, rfl, own_blk h2 (fun k e => (ha k e).1), fun i hi => ?_⟩, fun b e => (ha b e).2⟩
  obtain ⟨v, e, hl⟩ := h3 i hi
  exact ⟨v, e, hl.keep hs hk hP⟩
theorem Anz.keep {w w' : World} {base0 : Nat} {P P' : Nat → Prop} {av : Value} {na : Nat} {anss : Nat → A6} (h : Anz w base0 P av na anss) (hs : w.heap.size ≤ w'.heap.size) (hk : ∀ b, P b → w'.heap[b]? = w.heap[b]?) (hP : ∀ b, P b → P' b) (ha : ∀ b, av.ownBlock = some b → w'.heap[b]? = w.heap[b]?) : Anz w' base0 P' av na anss := by
  obtain ⟨aa, ac, acs, rfl, h2, h3⟩ := h.row
  refine ⟨⟨aa, ac, acs, rfl, own_blk h2 (fun k e => ha k e), fun i hi => ?_⟩⟩
  obtain ⟨v2, v3, v4, v5, e0, e1, e2, e3, e4, e5, l2, l3, l4, l5⟩ := h3 i hi
  exact ⟨v2, v3, v4, v5, e0, e1, e2, e3, e4, e5, l2.keep hs hk hP, l3.keep hs hk hP, l4.keep hs hk hP, l5.keep hs hk hP⟩
/-- One flow more. -/
theorem Flo.push {w : World} {base0 : Nat} {P : Nat → Prop} {nf : Nat} {fls : Nat → List Int} {fcs : List Value} {g' c' : Nat} {v : Value} {l : List Int} (hlen : fcs.length = nf) (hown : w.ownsRow base0 32 1 (.slice (some ⟨g', 0, none⟩) (nf + 1) c') (nf + 1) (fcs ++ [v])) (hf : FloAt w P fcs nf fls) (hl : ListP w P v l) (hg : ¬ P g') : Flo w base0 P (.slice (some ⟨g', 0, none⟩) (nf + 1) c') (nf + 1) (fun i => if i = nf then l else fls i) := by
  refine ⟨⟨_, _, _, rfl, hown, fun i hi => ?_⟩, fun b e => by simp [Value.ownBlock] at e; subst e; exact hg⟩
  by_cases e : i = nf
  · subst e
    exact ⟨v, by rw [List.getElem?_append_right (by omega)]; simp [hlen], by show ListP w P v (if i = i then l else fls i); rw [if_pos rfl]; exact hl⟩
  · obtain ⟨u, h1, h2⟩ := hf i (by omega)
    exact ⟨u, by rw [List.getElem?_append_left (by omega)]; exact h1, by show ListP w P u (if i = nf then l else fls i); rw [if_neg e]; exact h2⟩
theorem Anz.push {w : World} {base0 : Nat} {P : Nat → Prop} {na : Nat} {anss : Nat → A6} {acs : List Value} {g' c' : Nat} {a : A6} {v2 v3 v4 v5 : Value} (hlen : acs.length = na * 6) (hown : w.ownsRow base0 35 6 (.slice (some ⟨g', 0, none⟩) (na + 1) c') (na + 1) (acs ++ ans6 a.kind a.cost v2 v3 v4 v5)) (hf : AnssAt w P acs na anss) (l2 : ListP w P v2 a.flow) (l3 : ListP w P v3 a.pots) (l4 : ListP w P v4 a.cut) (l5 : ListP w P v5 a.circ) : Anz w base0 P (.slice (some ⟨g', 0, none⟩) (na + 1) c') (na + 1) (fun i => if i = na then a else anss i) := by
  refine ⟨⟨_, _, _, rfl, hown, fun i hi => ?_⟩⟩
  by_cases e : i = na
  · subst e
    simp only [if_true]
    refine ⟨v2, v3, v4, v5, ?_, ?_, ?_, ?_, ?_, ?_, l2, l3, l4, l5⟩
    · rw [List.getElem?_append_right (by omega), show i * 6 - acs.length = 0 by omega]; rfl
    · rw [List.getElem?_append_right (by omega), show i * 6 + 1 - acs.length = 1 by omega]; rfl
    · rw [List.getElem?_append_right (by omega), show i * 6 + 2 - acs.length = 2 by omega]; rfl
    · rw [List.getElem?_append_right (by omega), show i * 6 + 3 - acs.length = 3 by omega]; rfl
    · rw [List.getElem?_append_right (by omega), show i * 6 + 4 - acs.length = 4 by omega]; rfl
    · rw [List.getElem?_append_right (by omega), show i * 6 + 5 - acs.length = 5 by omega]; rfl
  · obtain ⟨u2, u3, u4, u5, e0, e1, e2, e3, e4, e5, m2, m3, m4, m5⟩ := hf i (by omega)
    simp only [if_neg e]
    refine ⟨u2, u3, u4, u5, ?_, ?_, ?_, ?_, ?_, ?_, m2, m3, m4, m5⟩
    · rw [List.getElem?_append_left (by omega)]; exact e0
    · rw [List.getElem?_append_left (by omega)]; exact e1
    · rw [List.getElem?_append_left (by omega)]; exact e2
    · rw [List.getElem?_append_left (by omega)]; exact e3
    · rw [List.getElem?_append_left (by omega)]; exact e4
    · rw [List.getElem?_append_left (by omega)]; exact e5
end Go.Proofs.YtnbccoflcoaoaaaGreat
