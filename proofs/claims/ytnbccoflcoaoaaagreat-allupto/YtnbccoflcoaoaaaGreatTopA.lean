import Derived.Test.YtnbccoflcoaoaaaGreatStpA
namespace Go.Proofs.YtnbccoflcoaoaaaGreat
open Go.RowKit Go.Deep
set_option linter.unusedSimpArgs false
set_option linter.unusedVariables false

/-! ### what All leans on -/
/-- Lists of numbers of the call's own join what is kept safe. -/
theorem AllS.add {w : World} {wb base0 : Nat} {P Q : Nat → Prop} {nl nf na np : Nat} {fw : Nat → Value} {fls : Nat → List Int} {anss : Nat → A6} {pst : Nat → List Int × List Int} (h : AllS w wb base0 P nl nf na np fw fls anss pst) (hQ : ∀ b, Q b → Typed w b 3) : AllS w wb base0 (fun b => P b ∨ Q b) nl nf na np fw fls anss pst := by
  have hs : Safe w base0 (fun b => P b ∨ Q b) := ⟨fun b hb => hb.elim (h.lst.safe.lt b) (fun hq => by obtain ⟨c, e⟩ := hQ b hq; exact (Array.getElem?_eq_some_iff.1 e).1), fun b hb => hb.elim (h.lst.safe.ty b) (fun hq => .inr (.inl (hQ b hq)))⟩
  refine ⟨h.lst.more hs (fun b hb => .inl hb), h.flo.keep (Nat.le_refl _) (fun _ _ => rfl) (fun b hb => .inl hb) (fun b e => ⟨rfl, fun hp => ?_⟩), h.anz.keep (Nat.le_refl _) (fun _ _ => rfl) (fun b hb => .inl hb) (fun _ _ => rfl), h.past.keep (Nat.le_refl _) (fun _ _ => rfl) (fun b hb => .inl hb) (fun _ _ => rfl), fun b hb => .inl (h.low b hb)⟩
  rcases hp with hp | hp
  · exact h.flo.out b e hp
  · exact absurd ((h.flo.ty b e).1.uniq (hQ b hp)) (by decide)
/-- One of the World's rows has grown, and the box holds it. -/
theorem AllS.grow {w w3 : World} {wb base0 : Nat} {P : Nat → Prop} {nl nf na np : Nat} {fw : Nat → Value} {fls : Nat → List Int} {anss : Nat → A6} {pst : Nat → List Int × List Int} (h : AllS w wb base0 P nl nf na np fw fls anss pst) {i : Nat} (hi4 : i ≠ 4) (v : Value) (hsz : w.heap.size ≤ w3.heap.size) (hk : ∀ k, k < w.heap.size → (fw i).ownBlock ≠ some k → w3.heap[k]? = w.heap[k]?) (hiT : ∀ b, (fw i).ownBlock = some b → base0 ≤ b ∧ ¬ P b ∧ ∃ t, Typed w b t ∧ t ≠ 31 ∧ t ≠ 57) :
    Lst (w3.setCell ⟨wb, i, none⟩ v) wb base0 P nl (fun k => if k = i then v else fw k) ∧ (∀ k, k < w.heap.size → k ≠ wb → (fw i).ownBlock ≠ some k → (w3.setCell ⟨wb, i, none⟩ v).heap[k]? = w.heap[k]?) ∧ (∀ b, P b → (w3.setCell ⟨wb, i, none⟩ v).heap[b]? = w.heap[b]?) ∧ w.heap.size ≤ (w3.setCell ⟨wb, i, none⟩ v).heap.size ∧ (∀ k, k ≠ wb → (w3.setCell ⟨wb, i, none⟩ v).heap[k]? = w3.heap[k]?) := by
  have hw : w3.heap[wb]? = w.heap[wb]? := hk wb h.lst.box.lt (fun e => by
    obtain ⟨_, _, t, h1, h2, _⟩ := hiT wb e
    exact h2 (h1.uniq (row_typed h.lst.box)))
  have hPw : ∀ b, P b → b ≠ wb := fun b hb e => by subst e; exact h.lst.safe.not h.lst.wlo (row_typed h.lst.box) (by decide) (by decide) hb
  have hP3 : ∀ b, P b → w3.heap[b]? = w.heap[b]? := fun b hb => hk b (h.lst.safe.lt b hb) (fun e => (hiT b e).2.1 hb)
  have hL3 : Lst w3 wb base0 P nl fw := h.lst.keep hsz hP3 hw (fun b e => hk b (h.lst.ty b e).2.2 (fun e2 => by
    obtain ⟨_, _, t, h1, _, h3⟩ := hiT b e2
    exact h3 (h1.uniq (h.lst.ty b e).1)))
  have hse : ∀ k, k ≠ wb → (w3.setCell ⟨wb, i, none⟩ v).heap[k]? = w3.heap[k]? := fun k hkn => Below.heap_setCell _ _ _ _ hkn
  exact ⟨hL3.setBox hi4 v, fun k k1 k2 k3 => (hse k k2).trans (hk k k1 k3), fun b hb => (hse b (hPw b hb)).trans (hP3 b hb), by simpa [World.setCell] using hsz, hse⟩
theorem AllS.pushF {w w3 : World} {wb base0 : Nat} {P : Nat → Prop} {nl nf na np : Nat} {fw : Nat → Value} {fls : Nat → List Int} {anss : Nat → A6} {pst : Nat → List Int × List Int} (h : AllS w wb base0 P nl nf na np fw fls anss pst) {fa : Option Addr} {fc : Nat} {fcs : List Value} (e1 : fw 1 = .slice fa nf fc) (hown : w.ownsRow base0 32 1 (.slice fa nf fc) nf fcs) (hat : FloAt w P fcs nf fls) {u : Value} {l : List Int} (hl : ListP w P u l) {g' c' : Nat} (hsz : w.heap.size ≤ w3.heap.size) (hk : ∀ k, k < w.heap.size → (Value.slice fa nf fc).ownBlock ≠ some k → w3.heap[k]? = w.heap[k]?) (hown3 : w3.ownsRow base0 32 1 (.slice (some ⟨g', 0, none⟩) (nf + 1) c') (nf + 1) (fcs ++ [u])) (hor : (Value.slice fa nf fc).ownBlock = some g' ∨ w.heap.size ≤ g') :
    AllS (w3.setCell ⟨wb, 1, none⟩ (.slice (some ⟨g', 0, none⟩) (nf + 1) c')) wb base0 P nl (nf + 1) na np (fun k => if k = 1 then .slice (some ⟨g', 0, none⟩) (nf + 1) c' else fw k) (fun i => if i = nf then l else fls i) anss pst ∧ (∀ b, P b → (w3.setCell ⟨wb, 1, none⟩ (.slice (some ⟨g', 0, none⟩) (nf + 1) c')).heap[b]? = w.heap[b]?) ∧ w.heap.size ≤ (w3.setCell ⟨wb, 1, none⟩ (.slice (some ⟨g', 0, none⟩) (nf + 1) c')).heap.size := by
  obtain ⟨hL, hK, hP, hS, hse⟩ := h.grow (i := 1) (by decide) (.slice (some ⟨g', 0, none⟩) (nf + 1) c') hsz (by rw [e1]; exact hk) (fun b e => ⟨(h.flo.ty b e).2.1, h.flo.out b e, _, (h.flo.ty b e).1, by decide, by decide⟩)
  have hrow : ∀ {t : TypeId} {b : Nat}, Typed w b t → t ≠ 31 → t ≠ 32 → b < w.heap.size → (w3.setCell ⟨wb, 1, none⟩ (.slice (some ⟨g', 0, none⟩) (nf + 1) c')).heap[b]? = w.heap[b]? := fun hT h1 h2 hl => hK _ hl (fun e => by subst e; exact h1 (hT.uniq (row_typed h.lst.box))) (fun e => h2 (hT.uniq (h.flo.ty _ e).1))
  have hgw : g' ≠ wb := fun e => by
    subst e
    have h1 := (own_typed hown3 g' rfl).1
    have h2 : w3.heap[g']? = w.heap[g']? := hk g' h.lst.box.lt (fun e => absurd ((own_typed hown g' e).1.uniq (row_typed h.lst.box)) (by decide))
    obtain ⟨c, ec⟩ := h1
    obtain ⟨c2, ec2⟩ := row_typed h.lst.box
    rw [h2, ec2] at ec
    cases ec
  refine ⟨⟨hL, ?_, ?_, ?_, h.low⟩, hP, hS⟩
  · show Flo _ base0 P (if (1 : Nat) = 1 then _ else fw 1) (nf + 1) _
    rw [if_pos rfl]
    refine Flo.push (by have := hown.1; omega) (own_blk hown3 (fun k e => hse k ?_)) (fun i hi => ?_) (hl.keep hS hP (fun _ h => h)) (fun hp => ?_)
    · simp only [Value.ownBlock, Option.some.injEq] at e
      subst e; exact hgw
    · obtain ⟨x, ex, hx⟩ := hat i hi
      exact ⟨x, ex, hx.keep hS hP (fun _ h => h)⟩
    · rcases hor with h1 | h1
      · exact h.flo.out g' (by rw [e1]; exact h1) hp
      · have := h.lst.safe.lt g' hp; omega
  · show Anz _ base0 P (if (2 : Nat) = 1 then _ else fw 2) na anss
    rw [if_neg (by decide)]
    exact h.anz.keep hS hP (fun _ h => h) (fun b e => hrow (h.anz.ty b e).1 (by decide) (by decide) (h.anz.ty b e).2.2)
  · show Past _ base0 P (if (5 : Nat) = 1 then _ else fw 5) np pst
    rw [if_neg (by decide)]
    exact h.past.keep hS hP (fun _ h => h) (fun b e => hrow (h.past.ty b e).1 (by decide) (by decide) (h.past.ty b e).2.2)
theorem AllS.pushA {w w3 : World} {wb base0 : Nat} {P : Nat → Prop} {nl nf na np : Nat} {fw : Nat → Value} {fls : Nat → List Int} {anss : Nat → A6} {pst : Nat → List Int × List Int} (h : AllS w wb base0 P nl nf na np fw fls anss pst) {fa : Option Addr} {fc : Nat} {acs : List Value} (e2 : fw 2 = .slice fa na fc) (hown : w.ownsRow base0 35 6 (.slice fa na fc) na acs) (hat : AnssAt w P acs na anss) {a : A6} {v2 v3 v4 v5 : Value} (l2 : ListP w P v2 a.flow) (l3 : ListP w P v3 a.pots) (l4 : ListP w P v4 a.cut) (l5 : ListP w P v5 a.circ) {g' c' : Nat} (hsz : w.heap.size ≤ w3.heap.size) (hk : ∀ k, k < w.heap.size → (Value.slice fa na fc).ownBlock ≠ some k → w3.heap[k]? = w.heap[k]?) (hown3 : w3.ownsRow base0 35 6 (.slice (some ⟨g', 0, none⟩) (na + 1) c') (na + 1) (acs ++ ans6 a.kind a.cost v2 v3 v4 v5)) :
    AllS (w3.setCell ⟨wb, 2, none⟩ (.slice (some ⟨g', 0, none⟩) (na + 1) c')) wb base0 P nl nf (na + 1) np (fun k => if k = 2 then .slice (some ⟨g', 0, none⟩) (na + 1) c' else fw k) fls (fun i => if i = na then a else anss i) pst ∧ (∀ b, P b → (w3.setCell ⟨wb, 2, none⟩ (.slice (some ⟨g', 0, none⟩) (na + 1) c')).heap[b]? = w.heap[b]?) ∧ w.heap.size ≤ (w3.setCell ⟨wb, 2, none⟩ (.slice (some ⟨g', 0, none⟩) (na + 1) c')).heap.size := by
  obtain ⟨hL, hK, hP, hS, hse⟩ := h.grow (i := 2) (by decide) (.slice (some ⟨g', 0, none⟩) (na + 1) c') hsz (by rw [e2]; exact hk) (fun b e => ⟨(h.anz.ty b e).2.1, h.lst.safe.not (h.anz.ty b e).2.1 (h.anz.ty b e).1 (by decide) (by decide), _, (h.anz.ty b e).1, by decide, by decide⟩)
  have hrow : ∀ {t : TypeId} {b : Nat}, Typed w b t → t ≠ 31 → t ≠ 35 → b < w.heap.size → (w3.setCell ⟨wb, 2, none⟩ (.slice (some ⟨g', 0, none⟩) (na + 1) c')).heap[b]? = w.heap[b]? := fun hT h1 h2 hl => hK _ hl (fun e => by subst e; exact h1 (hT.uniq (row_typed h.lst.box))) (fun e => h2 (hT.uniq (h.anz.ty _ e).1))
  have hgw : g' ≠ wb := fun e => by
    subst e
    have h1 := (own_typed hown3 g' rfl).1
    have h2 : w3.heap[g']? = w.heap[g']? := hk g' h.lst.box.lt (fun e => absurd ((own_typed hown g' e).1.uniq (row_typed h.lst.box)) (by decide))
    obtain ⟨c, ec⟩ := h1
    obtain ⟨c2, ec2⟩ := row_typed h.lst.box
    rw [h2, ec2] at ec
    cases ec
  refine ⟨⟨hL, ?_, ?_, ?_, h.low⟩, hP, hS⟩
  · show Flo _ base0 P (if (1 : Nat) = 2 then _ else fw 1) nf fls
    rw [if_neg (by decide)]
    exact h.flo.keep hS hP (fun _ h => h) (fun b e => ⟨hrow (h.flo.ty b e).1 (by decide) (by decide) (h.flo.ty b e).2.2, h.flo.out b e⟩)
  · show Anz _ base0 P (if (2 : Nat) = 2 then _ else fw 2) (na + 1) _
    rw [if_pos rfl]
    refine Anz.push (by have := hown.1; omega) (own_blk hown3 (fun k e => hse k ?_)) (fun i hi => ?_) (l2.keep hS hP (fun _ h => h)) (l3.keep hS hP (fun _ h => h)) (l4.keep hS hP (fun _ h => h)) (l5.keep hS hP (fun _ h => h))
    · simp only [Value.ownBlock, Option.some.injEq] at e
      subst e; exact hgw
    · obtain ⟨v2, v3, v4, v5, e0, e1, e2, e3, e4, e5, k2, k3, k4, k5⟩ := hat i hi
      exact ⟨v2, v3, v4, v5, e0, e1, e2, e3, e4, e5, k2.keep hS hP (fun _ h => h), k3.keep hS hP (fun _ h => h), k4.keep hS hP (fun _ h => h), k5.keep hS hP (fun _ h => h)⟩
  · show Past _ base0 P (if (5 : Nat) = 2 then _ else fw 5) np pst
    rw [if_neg (by decide)]
    exact h.past.keep hS hP (fun _ h => h) (fun b e => hrow (h.past.ty b e).1 (by decide) (by decide) (h.past.ty b e).2.2)
/-- In the walk: append(flows, l): the row is the old one or a new one. -/
theorem wpList_push_flow {w : World} {ops : Array Oper} {rest : List Oper} {o : Oper} {a : Act} {Q : Exit → Act → World → Prop} (hgd : o.guard = none) (s x : Operand)
    (ho : o.op = .call { callee := .builtin .append, args := #[s, x], argTypes := #[23, 23] }) (base : Nat) (v : Value) (n : Nat) (cs : List Value)
    (hs : a.eval s = v) (hown : w.ownsRow base 32 1 v n cs) (g : Nat) (u : Value) (hu : u.oneCell' = true) (c : Nat) (hx : a.eval x = .slice (some ⟨g, 0, none⟩) 1 c) (hy : w.cell? ⟨g, 0, none⟩ = some u)
    (hl : n ≤ 1099511627776) (hb : base ≤ w.heap.size)
    (h : ∀ g' c' w', w'.ownsRow base 32 1 (.slice (some ⟨g', 0, none⟩) (n + 1) c') (n + 1) (cs ++ [u]) → w.grownBy w' v.ownBlock → (v.ownBlock = some g' ∨ w.heap.size ≤ g') → wpList Tryz.prog ops Q rest (a.put o.dst (.slice (some ⟨g', 0, none⟩) (n + 1) c')) w') : wpList Tryz.prog ops Q (o :: rest) a w := by
  refine wpList_plain hgd fun K hK => ?_
  have h1 := step_push_flow (ops := ops) (K := K) (Q := Q) (E := True) hgd s x ho base v n cs hs hown g u hu c hx hy hl hb (fun g' c' w' k1 k2 k3 => hK _ _ (h g' c' w' k1 k2 k3))
  rw [if_pos (by simp [Region.wanted, hgd])] at h1
  exact h1
theorem own_listP {w : World} {base : Nat} {P : Nat → Prop} {v : Value} {l : List Int} (h : w.ownsRow base 3 1 v l.length (intCells l)) (hl : l.length ≤ 2097152) (hw : ∀ x ∈ l, -9223372036854775808 ≤ x ∧ x ≤ 9223372036854775807) (hP : ∀ b, v.ownBlock = some b → P b) : ListP w P v l := by
  obtain ⟨a, c, rfl⟩ := own_shape h
  refine ⟨hl, a, c, rfl, own_cap h, own_ints h (by omega) hw, fun b off e => hP b ?_⟩
  rw [e]
  rcases h.2 with ⟨e1, h0⟩ | ⟨g, cap, cur, e1, _⟩
  · simp only [Value.slice.injEq] at e1
    rw [e1.1] at e
    cases e
  · simp only [Value.slice.injEq] at e1
    rw [e1.1] at e
    cases e
    rfl
end Go.Proofs.YtnbccoflcoaoaaaGreat
