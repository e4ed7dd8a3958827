import Derived.Test.YtnbccoflcoaoaaaGreatAllQ
namespace Go.Proofs.YtnbccoflcoaoaaaGreat
open Go.RowKit Go.Deep
set_option linter.unusedSimpArgs false
set_option linter.unusedVariables false

/-! ### the World's rows grow, and lists become their owners' while flows and answers stay -/
theorem Lst.more {w : World} {wb base0 : Nat} {P P' : Nat → Prop} {nl : Nat} {fw : Nat → Value} (h : Lst w wb base0 P nl fw) (hs : Safe w base0 P') (hP : ∀ b, P b → P' b) : Lst w wb base0 P' nl fw := by
  obtain ⟨la, lc, lcs, h1, h2, h3⟩ := h.arr
  refine ⟨h.box, ⟨la, lc, lcs, h1, h2, fun p hp => ?_⟩, hs, h.wlo⟩
  obtain ⟨v, e, hl⟩ := h3 p hp
  exact ⟨v, e, hl.keep (fun b hb => rfl) hP⟩
/-- What stays, the blocks X apart. -/
structure KeepB (w w' : World) (X : Nat → Prop) : Prop where
  os : w'.os = w.os
  tape : w'.tape = w.tape
  output : w'.output = w.output
  size : w.heap.size ≤ w'.heap.size
  block : ∀ k, k < w.heap.size → ¬ X k → w'.heap[k]? = w.heap[k]?
theorem grow_blk {w w3 : World} {ob : Obj} {g : Option Nat} (hgr : (w.drew.alloc ob).grownBy w3 g) : w.heap.size ≤ w3.heap.size ∧ ∀ k, k < w.heap.size → g ≠ some k → w3.heap[k]? = w.heap[k]? :=
  ⟨Nat.le_trans (World.grownBy_alloc w.drew ob none).size hgr.size, fun k k1 k2 => (hgr.block k (Nat.lt_of_lt_of_le k1 (World.grownBy_alloc w.drew ob none).size) (fun e => k2 e.symm)).trans (((World.grownBy_alloc w.drew ob none).block k k1 (by simp)).trans rfl)⟩
theorem grow_row {w : World} {wb base0 : Nat} {fw : Nat → Value} (h : w.rowIs wb 31 6 fw) {v : Value} {t : TypeId} {size n : Nat} {cs : List Value} (hown : w.ownsRow base0 t size v n cs) (ht2 : t ≠ 31) {ob : Obj} {w3 : World} (hgr : (w.drew.alloc ob).grownBy w3 v.ownBlock) : w3.rowIs wb 31 6 fw :=
  h.of_block ((grow_blk hgr).2 wb h.lt (fun e => ht2 ((own_typed hown wb e).1.uniq (row_typed h))))
theorem grow_box {w : World} {wb base0 nl : Nat} {P : Nat → Prop} {fw : Nat → Value} (h : Lst w wb base0 P nl fw) {i : Nat} (hi4 : i ≠ 4) {v : Value} {t : TypeId} {size n : Nat} {cs cs' : List Value} (hown : w.ownsRow base0 t size v n cs) (hout : ∀ b, v.ownBlock = some b → ¬ P b) (ht1 : t ≠ 57) (ht2 : t ≠ 31) {ob : Obj} {w3 : World} {g' c' : Nat} (hgr : (w.drew.alloc ob).grownBy w3 v.ownBlock) (hown3 : w3.ownsRow base0 t size (.slice (some ⟨g', 0, none⟩) (n + 1) c') (n + 1) cs') :
    Lst (w3.setCell ⟨wb, i, none⟩ (.slice (some ⟨g', 0, none⟩) (n + 1) c')) wb base0 P nl (fun k => if k = i then .slice (some ⟨g', 0, none⟩) (n + 1) c' else fw k) ∧ (w3.setCell ⟨wb, i, none⟩ (.slice (some ⟨g', 0, none⟩) (n + 1) c')).ownsRow base0 t size (.slice (some ⟨g', 0, none⟩) (n + 1) c') (n + 1) cs' ∧ KeepB w (w3.setCell ⟨wb, i, none⟩ (.slice (some ⟨g', 0, none⟩) (n + 1) c')) (fun k => k = wb ∨ v.ownBlock = some k) := by
  obtain ⟨hsz, hk⟩ := grow_blk hgr
  have hr3 := grow_row h.box hown ht2 hgr
  have hL3 : Lst w3 wb base0 P nl fw := h.keep hsz (fun b hb => hk b (h.safe.lt b hb) (fun e => hout b e hb)) (hk wb h.box.lt (fun e => ht2 ((own_typed hown wb e).1.uniq (row_typed h.box)))) (fun b e => by
    obtain ⟨la, lc, lcs, h1, h2, _⟩ := h.arr
    rw [h1] at e
    have hT := own_typed h2 b e
    exact hk b hT.2.2 (fun e2 => ht1 ((own_typed hown b e2).1.uniq hT.1)))
  refine ⟨hL3.setBox hi4 _, own_blk hown3 (fun k e => Below.heap_setCell _ _ _ _ (fun e2 => ?_)), ⟨hgr.os, hgr.tape, hgr.output, by show w.heap.size ≤ _; simpa [World.setCell] using hsz, fun k k1 k2 => ?_⟩⟩
  · have e3 : k = wb := e2
    subst e3
    exact ht2 ((own_typed hown3 k e).1.uniq (row_typed hr3))
  · exact (Below.heap_setCell _ _ _ _ (fun e => k2 (.inl e))).trans (hk k k1 (fun e => k2 (.inr e)))

theorem mid_mine_fa (w0 w : World) (wb tb : Nat) (X : Nat → Prop) (base0 nl nf na : Nat) (P : Nat → Prop) (fw : Nat → Value) (fls : Nat → List Int) (anss : Nat → A6) (o s : List Int) (sv : Value) (l : Value) (n : Nat) (h : Mid w0 w wb tb X base0 nl P fw o s sv) (hflo : Flo w base0 P (fw 1) nf fls) (hanz : Anz w base0 P (fw 2) na anss) (hl : Pend w base0 P sv l n) (hl0 : ∀ b, l.ownBlock = some b → w0.heap.size ≤ b) (hnl : nl ≤ 1099511627776) :
    Calls Tryz.prog 25 #[.pointer (some ⟨wb, 0, none⟩), l] w fun e w' => e = .returned (.tuple #[]) ∧ ∃ fw' P', (Mid w0 w' wb tb X base0 (nl + 1) P' fw' o s sv ∧ Flo w' base0 P' (fw' 1) nf fls ∧ Anz w' base0 P' (fw' 2) na anss) ∧ (∀ i, i ≠ 4 → fw' i = fw i) ∧ (∀ b, P b → P' b) ∧ (∀ b, P' b → P b ∨ w0.heap.size ≤ b) ∧
      (∀ v m, Pend w base0 P sv v m → Apt l v → Pend w' base0 P' sv v m) ∧ (∀ b, Typed w b 35 → w'.heap[b]? = w.heap[b]?) := by
  refine (mid_mine2 w0 w wb tb X base0 nl P fw o s sv l n h hl hl0 hnl).mono ?_
  rintro e w' ⟨rfl, fw', P', h1, h2, h3, h4, h5, h6, h7, h8⟩
  obtain ⟨_, ⟨xs, hown⟩, hlb⟩ := hl
  have hlt : ∀ b, l.ownBlock = some b → Typed w b 3 := fun b hb => (own_typed hown b hb).1
  have hP : ∀ b, P b → w'.heap[b]? = w.heap[b]? := fun b hb => by
    refine h6 b (h.lst.safe.lt b hb) (fun e => ?_) (fun e => (hlb b e.symm).1 hb) ?_
    · subst e
      exact h.lst.safe.not h.lst.wlo (row_typed h.lst.box) (by decide) (by decide) hb
    · rcases h.lst.safe.ty b hb with h9 | h9 | h9
      · exact .inl h9
      · exact .inr (fun hc => absurd (h9.uniq hc) (by decide))
      · exact .inr (fun hc => absurd (h9.uniq hc) (by decide))
  have hA : ∀ b, Typed w b 35 → w'.heap[b]? = w.heap[b]? := fun b hT => by
    refine h6 b (by obtain ⟨c, e⟩ := hT; exact (Array.getElem?_eq_some_iff.1 e).1) (fun e2 => ?_) (fun e2 => absurd (hT.uniq (hlt b e2.symm)) (by decide)) (.inr (fun hc => absurd (hT.uniq hc) (by decide)))
    subst e2
    exact absurd (hT.uniq (row_typed h.lst.box)) (by decide)
  refine ⟨rfl, fw', P', ⟨h1, ?_, ?_⟩, h2, h3, h4, h5, hA⟩
  · rw [h2 1 (by decide)]
    refine hflo.keep h7 hP h3 (fun b e => ?_)
    obtain ⟨fa, fc, fcs, r1, r2, r3⟩ := hflo.row
    have hT := own_typed r2 b (by rw [← r1]; exact e)
    refine ⟨h6 b hT.2.2 (fun e2 => ?_) (fun e2 => absurd (hT.1.uniq (hlt b e2.symm)) (by decide)) (.inr (fun hc => absurd (hT.1.uniq hc) (by decide))), fun hp => ?_⟩
    · subst e2
      exact absurd (hT.1.uniq (row_typed h.lst.box)) (by decide)
    · rcases h8 b hp with h9 | h9 | h9
      · exact hflo.out b e h9
      · exact absurd (hT.1.uniq (hlt b h9)) (by decide)
      · have := hT.2.2; omega
  · rw [h2 2 (by decide)]
    refine hanz.keep h7 hP h3 (fun b e => ?_)
    obtain ⟨fa, fc, fcs, r1, r2, r3⟩ := hanz.row
    have hT := own_typed r2 b (by rw [← r1]; exact e)
    refine h6 b hT.2.2 (fun e2 => ?_) (fun e2 => absurd (hT.1.uniq (hlt b e2.symm)) (by decide)) (.inr (fun hc => absurd (hT.1.uniq hc) (by decide)))
    subst e2
    exact absurd (hT.1.uniq (row_typed h.lst.box)) (by decide)
/-- A call that left an answer: its lists are its owner's, its answer and flow are kept. -/
def DoneS (w w' : World) (wb tb base0 nl nf na : Nat) (P : Nat → Prop) (fw : Nat → Value) (fls : Nat → List Int) (anss : Nat → A6) (o : List Int) (S : List Int → Prop) : Prop :=
  ∃ nl' nf' na' fw' P' fls' anss' s sv, nl' ≤ nl + 4 ∧ nf' ≤ nf + 1 ∧ na' ≤ na + 1 ∧ nf ≤ nf' ∧ na ≤ na' ∧ Mid w w' wb tb (fun k => k = tb ∨ (fw 1).ownBlock = some k ∨ (fw 2).ownBlock = some k) base0 nl' P' fw' o s sv ∧ Flo w' base0 P' (fw' 1) nf' fls' ∧ Anz w' base0 P' (fw' 2) na' anss' ∧ (∀ i, i < nf → fls' i = fls i) ∧ (∀ i, i < na → anss' i = anss i) ∧ (∀ i, i ≠ 4 → i ≠ 1 → i ≠ 2 → fw' i = fw i) ∧ (∀ b, P b → P' b) ∧ (∀ b, P' b → P b ∨ w.heap.size ≤ b) ∧ S s ∧ s.length ≤ 1000 ∧ ∀ x ∈ s, -9223372036854775808 ≤ x ∧ x ≤ 9223372036854775807
end Go.Proofs.YtnbccoflcoaoaaaGreat
