import Derived.Test.YtnbccoflcoaoaaaGreatAllR
import Derived.Test.YtnbccoflcoaoaaaGreatAllV
import Derived.Test.YtnbccoflcoaoaaaGreatAllI
namespace Go.Proofs.YtnbccoflcoaoaaaGreat
open Go.RowKit Go.Deep
set_option linter.unusedSimpArgs false
set_option linter.unusedVariables false

/-! ### All's state -/
/-- What was told, as All keeps it: its lists are safe. -/
def PastP (w : World) (P : Nat → Prop) (pcs : List Value) (np : Nat) (pst : Nat → List Int × List Int) : Prop :=
  ∀ i, i < np → (∀ j, j < 4 → pcs[i * 5 + j]? = some (.int .i64 ((pst i).1.getD j 0))) ∧ ∃ a c, pcs[i * 5 + 4]? = some (.slice a (pst i).2.length c) ∧ Ints w a (pst i).2.length (pst i).2 ∧ ∀ b off, a = some ⟨b, off, none⟩ → P b
theorem PastP.at_ {w : World} {P : Nat → Prop} {pcs : List Value} {np : Nat} {pst : Nat → List Int × List Int} (h : PastP w P pcs np pst) : PastAt w pcs np pst := fun i hi => by
  obtain ⟨h1, a, c, h2, h3, _⟩ := h i hi
  exact ⟨h1, a, c, h2, h3⟩
structure Past (w : World) (base0 : Nat) (P : Nat → Prop) (pv : Value) (np : Nat) (pst : Nat → List Int × List Int) : Prop where
  row : ∃ pa pc pcs, pv = .slice pa np pc ∧ w.ownsRow base0 44 5 (.slice pa np pc) np pcs ∧ PastP w P pcs np pst
theorem PastP.keep {w w' : World} {P P' : Nat → Prop} {pcs : List Value} {np : Nat} {pst : Nat → List Int × List Int} (h : PastP w P pcs np pst) (hs : w.heap.size ≤ w'.heap.size) (hk : ∀ b, P b → w'.heap[b]? = w.heap[b]?) (hP : ∀ b, P b → P' b) : PastP w' P' pcs np pst := fun i hi => by
  obtain ⟨h1, a, c, h2, h3, h4⟩ := h i hi
  exact ⟨h1, a, c, h2, h3.blk hs (fun b off e => hk b (h4 b off e)), fun b off e => hP b (h4 b off e)⟩
theorem Past.keep {w w' : World} {base0 : Nat} {P P' : Nat → Prop} {pv : Value} {np : Nat} {pst : Nat → List Int × List Int} (h : Past w base0 P pv np pst) (hs : w.heap.size ≤ w'.heap.size) (hk : ∀ b, P b → w'.heap[b]? = w.heap[b]?) (hP : ∀ b, P b → P' b) (ha : ∀ b, pv.ownBlock = some b → w'.heap[b]? = w.heap[b]?) : Past w' base0 P' pv np pst := by
  obtain ⟨pa, pc, pcs, rfl, h2, h3⟩ := h.row
  exact ⟨⟨pa, pc, pcs, rfl, own_blk h2 (fun k e => ha k e), h3.keep hs hk hP⟩⟩
theorem Past.ty {w : World} {base0 : Nat} {P : Nat → Prop} {pv : Value} {np : Nat} {pst : Nat → List Int × List Int} (h : Past w base0 P pv np pst) : ∀ b, pv.ownBlock = some b → Typed w b 44 ∧ base0 ≤ b ∧ b < w.heap.size := by
  obtain ⟨pa, pc, pcs, rfl, h2, _⟩ := h.row
  exact own_typed h2
theorem Flo.ty {w : World} {base0 : Nat} {P : Nat → Prop} {pv : Value} {np : Nat} {pst : Nat → List Int} (h : Flo w base0 P pv np pst) : ∀ b, pv.ownBlock = some b → Typed w b 32 ∧ base0 ≤ b ∧ b < w.heap.size := by
  obtain ⟨pa, pc, pcs, rfl, h2, _⟩ := h.row
  exact own_typed h2
theorem Anz.ty {w : World} {base0 : Nat} {P : Nat → Prop} {pv : Value} {np : Nat} {pst : Nat → A6} (h : Anz w base0 P pv np pst) : ∀ b, pv.ownBlock = some b → Typed w b 35 ∧ base0 ≤ b ∧ b < w.heap.size := by
  obtain ⟨pa, pc, pcs, rfl, h2, _⟩ := h.row
  exact own_typed h2
theorem Lst.ty {w : World} {wb base0 : Nat} {P : Nat → Prop} {nl : Nat} {fw : Nat → Value} (h : Lst w wb base0 P nl fw) : ∀ b, (fw 4).ownBlock = some b → Typed w b 57 ∧ base0 ≤ b ∧ b < w.heap.size := by
  obtain ⟨la, lc, lcs, h1, h2, _⟩ := h.arr
  rw [h1]
  exact own_typed h2

structure AllS (w : World) (wb base0 : Nat) (P : Nat → Prop) (nl nf na np : Nat) (fw : Nat → Value) (fls : Nat → List Int) (anss : Nat → A6) (pst : Nat → List Int × List Int) : Prop where
  lst : Lst w wb base0 P nl fw
  flo : Flo w base0 P (fw 1) nf fls
  anz : Anz w base0 P (fw 2) na anss
  past : Past w base0 P (fw 5) np pst
  low : ∀ b, b < base0 → P b
theorem AllS.keep {w w' : World} {wb base0 : Nat} {P : Nat → Prop} {nl nf na np : Nat} {fw : Nat → Value} {fls : Nat → List Int} {anss : Nat → A6} {pst : Nat → List Int × List Int} (h : AllS w wb base0 P nl nf na np fw fls anss pst) (hs : w.heap.size ≤ w'.heap.size)
    (hk : ∀ b, b < w.heap.size → (P b ∨ b = wb ∨ Typed w b 57 ∨ Typed w b 32 ∨ Typed w b 35 ∨ (fw 5).ownBlock = some b) → w'.heap[b]? = w.heap[b]?) : AllS w' wb base0 P nl nf na np fw fls anss pst := by
  have hP : ∀ b, P b → w'.heap[b]? = w.heap[b]? := fun b hb => hk b (h.lst.safe.lt b hb) (.inl hb)
  refine ⟨h.lst.keep hs hP (hk wb h.lst.box.lt (.inr (.inl rfl))) (fun b e => ?_), h.flo.keep hs hP (fun _ h => h) (fun b e => ⟨?_, h.flo.out b e⟩), h.anz.keep hs hP (fun _ h => h) (fun b e => ?_), h.past.keep hs hP (fun _ h => h) (fun b e => ?_), h.low⟩
  · exact hk b (h.lst.ty b e).2.2 (.inr (.inr (.inl (h.lst.ty b e).1)))
  · exact hk b (h.flo.ty b e).2.2 (.inr (.inr (.inr (.inl (h.flo.ty b e).1))))
  · exact hk b (h.anz.ty b e).2.2 (.inr (.inr (.inr (.inr (.inl (h.anz.ty b e).1)))))
  · exact hk b (h.past.ty b e).2.2 (.inr (.inr (.inr (.inr (.inr e)))))
theorem AllS.below {w w' : World} {wb base0 : Nat} {P : Nat → Prop} {nl nf na np : Nat} {fw : Nat → Value} {fls : Nat → List Int} {anss : Nat → A6} {pst : Nat → List Int × List Int} (h : AllS w wb base0 P nl nf na np fw fls anss pst) (hb : Below w.heap.size w w') : AllS w' wb base0 P nl nf na np fw fls anss pst :=
  h.keep hb.size (fun b h1 _ => hb.block b h1)
/-- A list of numbers or of arcs that is not among what is kept is written. -/
theorem AllS.touch {w w' : World} {wb base0 : Nat} {P : Nat → Prop} {nl nf na np : Nat} {fw : Nat → Value} {fls : Nat → List Int} {anss : Nat → A6} {pst : Nat → List Int × List Int} (h : AllS w wb base0 P nl nf na np fw fls anss pst) {g : Nat} {t : TypeId} (hg : w.grownBy w' (some g)) (hP : ¬ P g) (ht : Typed w g t) (hn : t = 3 ∨ t = 67) : AllS w' wb base0 P nl nf na np fw fls anss pst := by
  have hne : ∀ {t' : TypeId}, t' ≠ 3 → t' ≠ 67 → t ≠ t' := fun h1 h2 e => by subst e; exact hn.elim h1 h2
  refine h.keep hg.size (fun b h1 h2 => hg.block b h1 (fun e => ?_))
  cases e
  rcases h2 with h2 | h2 | h2 | h2 | h2 | h2
  · exact hP h2
  · subst h2; exact hne (by decide) (by decide) (ht.uniq (row_typed h.lst.box))
  · exact hne (by decide) (by decide) (ht.uniq h2)
  · exact hne (by decide) (by decide) (ht.uniq h2)
  · exact hne (by decide) (by decide) (ht.uniq h2)
  · exact hne (by decide) (by decide) (ht.uniq (h.past.ty _ h2).1)
/-- A call that All keeps in mind has been made: told lies at tb. -/
structure After (w w' : World) (wb tb base0 : Nat) (P : Nat → Prop) (nl nf na np : Nat) (fw : Nat → Value) (pst : Nat → List Int × List Int) (o : List Int) (S : List Int → Prop) (nl' nf' na' : Nat) (P' : Nat → Prop) (fw' : Nat → Value) (fls' : Nat → List Int) (anss' : Nat → A6) (s : List Int) (sv : Value) : Prop where
  st : AllS w' wb base0 P' nl' nf' na' np fw' fls' anss' pst
  nl : nl' ≤ nl + 4
  nf : nf' ≤ nf + 1
  na : na' ≤ na + 1
  fw : ∀ i, i ≠ 4 → i ≠ 1 → i ≠ 2 → fw' i = fw i
  told : w'.rowIs tb 44 5 (toldF o sv)
  said : w'.ownsRow base0 3 1 sv s.length (intCells s)
  saidP : ∀ b, sv.ownBlock = some b → ¬ P' b ∧ w.heap.size ≤ b
  sub : ∀ b, P b → P' b
  new : ∀ b, P' b → P b ∨ w.heap.size ≤ b
  S : S s
  len : s.length ≤ 1000
  wf : ∀ x ∈ s, -9223372036854775808 ≤ x ∧ x ≤ 9223372036854775807
  keep : ∀ k, k < w.heap.size → (k < base0 ∨ ∃ t, Typed w k t ∧ t ≠ 31 ∧ t ≠ 57 ∧ t ≠ 32 ∧ t ≠ 35 ∧ t ≠ 44) → w'.heap[k]? = w.heap[k]?
  size : w.heap.size ≤ w'.heap.size
  os : w'.os = w.os
  tape : w'.tape = w.tape
  output : w'.output = w.output
theorem AllS.doneS {w w' : World} {wb tb base0 : Nat} {P : Nat → Prop} {nl nf na np : Nat} {fw : Nat → Value} {fls : Nat → List Int} {anss : Nat → A6} {pst : Nat → List Int × List Int} {o : List Int} {S : List Int → Prop} (h : AllS w wb base0 P nl nf na np fw fls anss pst) (htb : Typed w tb 44) (hlow : base0 ≤ tb) (hpt : ∀ b, (fw 5).ownBlock = some b → b ≠ tb) (hD : DoneS w w' wb tb base0 nl nf na P fw fls anss o S) :
    ∃ nl' nf' na' P' fw' fls' anss' s sv, After w w' wb tb base0 P nl nf na np fw pst o S nl' nf' na' P' fw' fls' anss' s sv := by
  obtain ⟨nl', nf', na', fw', P', fls', anss', s, sv, b1, b2, b3, b4, b5, hM, hF, hA, e1, e2, e3, s1, s2, hS, hl, hw⟩ := hD
  have hX : ∀ k, k < w.heap.size → k ≠ wb → k ≠ tb → (fw 1).ownBlock ≠ some k → (fw 2).ownBlock ≠ some k → (k < base0 ∨ ¬ Typed w k 57) → w'.heap[k]? = w.heap[k]? := fun k k1 k2 k3 k4 k5 k6 => hM.keep.block k k1 k2 (fun e => e.elim k3 (fun e => e.elim k4 k5)) k6
  have hPk : ∀ b, P b → w'.heap[b]? = w.heap[b]? := fun b hb => by
    refine hX b (h.lst.safe.lt b hb) (fun e => ?_) (fun e => ?_) (fun e => h.flo.out b e hb) (fun e => ?_) ?_
    · subst e; exact h.lst.safe.not h.lst.wlo (row_typed h.lst.box) (by decide) (by decide) hb
    · subst e; exact h.lst.safe.not hlow htb (by decide) (by decide) hb
    · exact h.lst.safe.not (h.anz.ty b e).2.1 (h.anz.ty b e).1 (by decide) (by decide) hb
    · rcases h.lst.safe.ty b hb with h9 | h9 | h9
      · exact .inl h9
      · exact .inr (fun hc => absurd (h9.uniq hc) (by decide))
      · exact .inr (fun hc => absurd (h9.uniq hc) (by decide))
  refine ⟨nl', nf', na', P', fw', fls', anss', s, sv, ⟨⟨hM.lst, hF, hA, ?_, fun b hb => s1 b (h.low b hb)⟩, b1, b2, b3, e3, hM.told, hM.said, hM.saidP, s1, s2, hS, hl, hw, fun k k1 k2 => ?_, hM.keep.size, hM.keep.os, hM.keep.tape, hM.keep.output⟩⟩
  · rw [e3 5 (by decide) (by decide) (by decide)]
    refine h.past.keep hM.keep.size hPk s1 (fun b e => ?_)
    have hT := h.past.ty b e
    refine hX b hT.2.2 (fun e2 => ?_) (hpt b e) (fun e2 => absurd (hT.1.uniq (h.flo.ty b e2).1) (by decide)) (fun e2 => absurd (hT.1.uniq (h.anz.ty b e2).1) (by decide)) (.inr (fun hc => absurd (hT.1.uniq hc) (by decide)))
    subst e2; exact absurd (hT.1.uniq (row_typed h.lst.box)) (by decide)
  · rcases k2 with k2 | ⟨t, k2, n1, n2, n3, n4, n5⟩
    · exact hPk k (h.low k k2)
    · refine hX k k1 (fun e2 => ?_) (fun e2 => ?_) (fun e2 => n3 (k2.uniq (h.flo.ty k e2).1)) (fun e2 => n4 (k2.uniq (h.anz.ty k e2).1)) (.inr (fun hc => n2 (k2.uniq hc)))
      · subst e2; exact n1 (k2.uniq (row_typed h.lst.box))
      · subst e2; exact n5 (k2.uniq htb)
theorem AllS.done {w w' : World} {wb tb base0 : Nat} {P : Nat → Prop} {nl nf na np : Nat} {fw : Nat → Value} {fls : Nat → List Int} {anss : Nat → A6} {pst : Nat → List Int × List Int} {o : List Int} {S : List Int → Prop} (h : AllS w wb base0 P nl nf na np fw fls anss pst) (htb : Typed w tb 44) (hlow : base0 ≤ tb) (hpt : ∀ b, (fw 5).ownBlock = some b → b ≠ tb) (hD : Done w w' wb tb base0 nl P fw o S) :
    ∃ nl' nf' na' P' fw' fls' anss' s sv, After w w' wb tb base0 P nl nf na np fw pst o S nl' nf' na' P' fw' fls' anss' s sv := by
  refine h.doneS htb hlow hpt ?_
  obtain ⟨nl', fw', P', s, sv, b1, hM, e1, s1, s2, hS, hl, hw⟩ := hD
  have hPk : ∀ b, P b → w'.heap[b]? = w.heap[b]? := fun b hb => by
    refine hM.keep.block b (h.lst.safe.lt b hb) (fun e => ?_) (fun e => ?_) ?_
    · subst e; exact h.lst.safe.not h.lst.wlo (row_typed h.lst.box) (by decide) (by decide) hb
    · have e' : b = tb := e
      subst e'; exact h.lst.safe.not hlow htb (by decide) (by decide) hb
    · rcases h.lst.safe.ty b hb with h9 | h9 | h9
      · exact .inl h9
      · exact .inr (fun hc => absurd (h9.uniq hc) (by decide))
      · exact .inr (fun hc => absurd (h9.uniq hc) (by decide))
  have hrow : ∀ {t : TypeId} {b : Nat}, Typed w b t → t ≠ 31 → t ≠ 44 → t ≠ 57 → b < w.heap.size → w'.heap[b]? = w.heap[b]? := fun hT h1 h2 h3 hl => by
    refine hM.keep.block _ hl (fun e => ?_) (fun e => ?_) (.inr (fun hc => h3 (hT.uniq hc)))
    · subst e; exact h1 (hT.uniq (row_typed h.lst.box))
    · have e' := e
      subst e'; exact h2 (hT.uniq htb)
  refine ⟨nl', nf, na, fw', P', fls, anss, s, sv, b1, by omega, by omega, by omega, by omega, ⟨hM.lst, hM.told, hM.said, hM.saidP, ⟨hM.keep.os, hM.keep.tape, hM.keep.output, hM.keep.size, fun k k1 k2 k3 k4 => hM.keep.block k k1 k2 (fun e => k3 (.inl e)) k4⟩, hM.ne⟩, ?_, ?_, fun _ _ => rfl, fun _ _ => rfl, fun i i4 _ _ => e1 i i4, s1, s2, hS, hl, hw⟩
  · rw [e1 1 (by decide)]
    refine h.flo.keep hM.keep.size hPk s1 (fun b e => ⟨hrow (h.flo.ty b e).1 (by decide) (by decide) (by decide) (h.flo.ty b e).2.2, fun hp => ?_⟩)
    rcases s2 b hp with h9 | h9
    · exact h.flo.out b e h9
    · have := (h.flo.ty b e).2.2; omega
  · rw [e1 2 (by decide)]
    exact h.anz.keep hM.keep.size hPk s1 (fun b e => hrow (h.anz.ty b e).1 (by decide) (by decide) (by decide) (h.anz.ty b e).2.2)
end Go.Proofs.YtnbccoflcoaoaaaGreat
