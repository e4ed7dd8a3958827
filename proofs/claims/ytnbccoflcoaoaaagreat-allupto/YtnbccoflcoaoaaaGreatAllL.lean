import Derived.Test.YtnbccoflcoaoaaaGreatAllH
namespace Go.Proofs.YtnbccoflcoaoaaaGreat
open Go.RowKit Go.Deep
set_option linter.unusedSimpArgs false
set_option linter.unusedVariables false

/-! ### the lists that came out, together -/
def Typed (w : World) (b : Nat) (t : TypeId) : Prop := ∃ cur, w.heap[b]? = some (.cells cur t (0, 0))
theorem Typed.uniq {w : World} {b : Nat} {t t' : TypeId} (h : Typed w b t) (h' : Typed w b t') : t = t' := by
  obtain ⟨c, e⟩ := h
  obtain ⟨c', e'⟩ := h'
  rw [e] at e'
  cases e'
  rfl
theorem row_typed {w : World} {b : Nat} {t : TypeId} {n : Nat} {f : Nat → Value} (h : w.rowIs b t n f) : Typed w b t := by
  obtain ⟨cur, e, _⟩ := h
  exact ⟨cur, e⟩
theorem own_typed {w : World} {base : Nat} {e : TypeId} {size : Nat} {v : Value} {n : Nat} {xs : List Value} (h : w.ownsRow base e size v n xs) : ∀ b, v.ownBlock = some b → Typed w b e ∧ base ≤ b ∧ b < w.heap.size := by
  intro b hb
  rcases h.2 with ⟨rfl, _⟩ | ⟨g, cap, cur, rfl, a1, a2, _⟩
  · cases hb
  · simp only [Value.ownBlock, Option.some.injEq] at hb
    subst hb
    exact ⟨⟨cur, a2⟩, a1, (Array.getElem?_eq_some_iff.1 a2).1⟩
/-- What is kept safe: what came in, and lists of numbers and lists of such lists. -/
structure Safe (w : World) (base0 : Nat) (P : Nat → Prop) : Prop where
  lt : ∀ b, P b → b < w.heap.size
  ty : ∀ b, P b → b < base0 ∨ Typed w b 3 ∨ Typed w b 32
theorem Safe.keep {w w' : World} {base0 : Nat} {P : Nat → Prop} (h : Safe w base0 P) (hs : w.heap.size ≤ w'.heap.size) (hk : ∀ b, P b → w'.heap[b]? = w.heap[b]?) : Safe w' base0 P :=
  ⟨fun b hb => Nat.lt_of_lt_of_le (h.lt b hb) hs, fun b hb => (h.ty b hb).imp id (Or.imp (fun ⟨c, e⟩ => ⟨c, by rw [hk b hb]; exact e⟩) (fun ⟨c, e⟩ => ⟨c, by rw [hk b hb]; exact e⟩))⟩
theorem Safe.not {w : World} {base0 : Nat} {P : Nat → Prop} (h : Safe w base0 P) {b : Nat} {t : TypeId} (hb : base0 ≤ b) (ht : Typed w b t) (h1 : t ≠ 3) (h2 : t ≠ 32) : ¬ P b := by
  intro hp
  rcases h.ty b hp with h3 | h3 | h3
  · omega
  · exact h1 (ht.uniq h3)
  · exact h2 (ht.uniq h3)

structure Lst (w : World) (wb base0 : Nat) (P : Nat → Prop) (nl : Nat) (fw : Nat → Value) : Prop where
  box : w.rowIs wb 31 6 fw
  arr : ∃ la lc lcs, fw 4 = .slice la nl lc ∧ w.ownsRow base0 57 1 (.slice la nl lc) nl lcs ∧ ∀ p, p < nl → ∃ v, lcs[p]? = some v ∧ ListAt w base0 P v (-3000000 - p)
  safe : Safe w base0 P
  wlo : base0 ≤ wb
theorem Lst.keep {w w' : World} {wb base0 : Nat} {P : Nat → Prop} {nl : Nat} {fw : Nat → Value} (h : Lst w wb base0 P nl fw) (hs : w.heap.size ≤ w'.heap.size) (hk : ∀ b, P b → w'.heap[b]? = w.heap[b]?) (hw : w'.heap[wb]? = w.heap[wb]?) (ha : ∀ b, (fw 4).ownBlock = some b → w'.heap[b]? = w.heap[b]?) : Lst w' wb base0 P nl fw := by
  obtain ⟨la, lc, lcs, h1, h2, h3⟩ := h.arr
  refine ⟨h.box.of_block hw, ⟨la, lc, lcs, h1, own_blk h2 (fun k hk' => ha k (by rw [h1]; exact hk')), fun p hp => ?_⟩, h.safe.keep hs hk, h.wlo⟩
  obtain ⟨v, e, hl⟩ := h3 p hp
  exact ⟨v, e, hl.keep hk (fun b hb => hb)⟩
theorem Lst.below {w w' : World} {wb base0 : Nat} {P : Nat → Prop} {nl : Nat} {fw : Nat → Value} (h : Lst w wb base0 P nl fw) (hb : Below w.heap.size w w') : Lst w' wb base0 P nl fw := by
  refine h.keep hb.size (fun b hp => hb.block b (h.safe.lt b hp)) (hb.block wb h.box.lt) (fun b e => ?_)
  obtain ⟨la, lc, lcs, h1, h2, h3⟩ := h.arr
  rw [h1] at e
  exact hb.block b (h2.lt b e).2
/-- The World's box with another cell written: the lists are as they were. -/
theorem Lst.setBox {w : World} {wb base0 : Nat} {P : Nat → Prop} {nl : Nat} {fw : Nat → Value} (h : Lst w wb base0 P nl fw) {i : Nat} (hi : i ≠ 4) (v : Value) : Lst (w.setCell ⟨wb, i, none⟩ v) wb base0 P nl (fun k => if k = i then v else fw k) := by
  obtain ⟨la, lc, lcs, h1, h2, h3⟩ := h.arr
  have hwn : ¬ P wb := h.safe.not h.wlo (row_typed h.box) (by decide) (by decide)
  have hk : ∀ b, P b → (w.setCell ⟨wb, i, none⟩ v).heap[b]? = w.heap[b]? := fun b hb => Below.heap_setCell _ _ _ _ (fun e => hwn (by have e' : b = wb := e; rw [← e']; exact hb))
  refine ⟨h.box.set i v, ⟨la, lc, lcs, by rw [if_neg (fun e => hi e.symm)]; exact h1, own_blk h2 (fun k e => Below.heap_setCell _ _ _ _ (fun e2 => ?_)), fun p hp => ?_⟩, h.safe.keep (by simp [World.setCell]) hk, h.wlo⟩
  · have e3 : k = wb := e2
    subst e3
    have := (own_typed h2 k e).1.uniq (row_typed h.box)
    exact absurd this (by decide)
  · obtain ⟨u, e, hl⟩ := h3 p hp
    exact ⟨u, e, hl.keep hk (fun b hb => hb)⟩

/-- What 'mine' leaves of a world. -/
structure Mined (w w' : World) (wb : Nat) (l : Value) (fw : Nat → Value) (P P' : Nat → Prop) : Prop where
  sub : ∀ b, P b → P' b
  new : ∀ b, P' b → P b ∨ l.ownBlock = some b ∨ w.heap.size ≤ b
  frame : ∀ k, k < w.heap.size → k ≠ wb → some k ≠ l.ownBlock → some k ≠ (fw 4).ownBlock → w'.heap[k]? = w.heap[k]?
  size : w.heap.size ≤ w'.heap.size
  os : w'.os = w.os
  tape : w'.tape = w.tape
  output : w'.output = w.output

theorem mine_lst (wb base0 base nl : Nat) (P : Nat → Prop) (fw : Nat → Value) (l : Value) (n : Nat) (xs : List Value) (w : World) (h : Lst w wb base0 P nl fw) (hl : w.ownsRow base 3 1 l n xs) (hlP : ∀ b, l.ownBlock = some b → ¬ P b) (hn : n ≤ 1000) (hbb : base0 ≤ base) (hb : base ≤ w.heap.size) (hnl : nl ≤ 1099511627776) :
    Calls Tryz.prog 25 #[.pointer (some ⟨wb, 0, none⟩), l] w fun e w' => e = .returned (.tuple #[]) ∧ ∃ fw' P', Lst w' wb base0 P' (nl + 1) fw' ∧ (∀ i, i ≠ 4 → fw' i = fw i) ∧ Mined w w' wb l fw P P' := by
  obtain ⟨la, lc, lcs, h1, h2, h3⟩ := h.arr
  refine (aMine_any wb base0 base fw la nl lc lcs l n xs w h.box h1 h2 hl hn hb (by omega) hnl).mono ?_
  rintro e w' ⟨rfl, lv', xb, X, hbox, hown, wr, hF, hfr, hsz, hos, htp, hout⟩
  refine ⟨rfl, fun i => if i = 4 then lv' else fw i, fun b => P b ∨ b = xb ∨ ∃ q, q < 4 ∧ (X q).ownBlock = some b, ?_, fun i hi => if_neg hi, ?_⟩
  · have hwt : Typed w wb 31 := row_typed h.box
    have hPw : ∀ b, P b → b ≠ wb := fun b hb e => by subst e; exact h.safe.not h.wlo hwt (by decide) (by decide) hb
    have hPa : ∀ b, P b → some b ≠ (Value.slice la nl lc).ownBlock := fun b hb e => h.safe.not (own_typed h2 b e.symm).2.1 (own_typed h2 b e.symm).1 (by decide) (by decide) hb
    have hPl : ∀ b, P b → some b ≠ l.ownBlock := fun b hb e => hlP b e.symm hb
    have hPr : ∀ b, P b → wr.heap[b]? = w.heap[b]? := fun b hb => hF.keep.block b (h.safe.lt b hb) (hPl b hb)
    have hPk : ∀ b, P b → w'.heap[b]? = w.heap[b]? := fun b hb => (hfr b (Nat.lt_of_lt_of_le (h.safe.lt b hb) hF.keep.size) (hPw b hb) (hPa b hb)).trans (hPr b hb)
    have hwr : wr.rowIs wb 31 6 fw := hF.keep.row h.box (fun e => absurd ((own_typed hl wb e.symm).1.uniq hwt) (by decide))
    -- the new blocks, as they lie in wr
    have hxt : Typed wr xb 32 := row_typed hF.row
    have hXt : ∀ q, q < 4 → ∀ b, (X q).ownBlock = some b → Typed wr b 3 ∧ b < wr.heap.size := fun q hq b hb => by
      obtain ⟨us, ho, _⟩ := hF.slot q hq
      exact ⟨(own_typed ho b hb).1, (own_typed ho b hb).2.2⟩
    have hla : ∀ b, (Value.slice la nl lc).ownBlock = some b → Typed wr b 57 := fun b hb => by
      obtain ⟨c, ec⟩ := (own_typed h2 b hb).1
      refine ⟨c, ?_⟩
      rw [hF.keep.block b (own_typed h2 b hb).2.2 (fun e2 => absurd ((own_typed h2 b hb).1.uniq (own_typed hl b e2.symm).1) (by decide))]
      exact ec
    have hkx : w'.heap[xb]? = wr.heap[xb]? := hfr xb hF.row.lt (fun e2 => absurd (hxt.uniq (show Typed wr xb 31 by rw [e2]; exact row_typed hwr)) (by decide)) (fun e2 => absurd (hxt.uniq (hla xb e2.symm)) (by decide))
    have hkX : ∀ q, q < 4 → ∀ b, (X q).ownBlock = some b → w'.heap[b]? = wr.heap[b]? := fun q hq b hb => hfr b (hXt q hq b hb).2 (fun e2 => absurd ((hXt q hq b hb).1.uniq (show Typed wr b 31 by rw [e2]; exact row_typed hwr)) (by decide)) (fun e2 => absurd ((hXt q hq b hb).1.uniq (hla b e2.symm)) (by decide))
    obtain ⟨y5, z5, elv⟩ := own_some hown (by omega)
    refine ⟨hbox, ⟨some ⟨y5, 0, none⟩, z5, _, by rw [if_pos rfl]; exact elv, by rw [← elv]; exact hown, fun p hp => ?_⟩, ⟨fun b hb => ?_, fun b hb => ?_⟩, h.wlo⟩
    · by_cases hpn : p < nl
      · obtain ⟨v, ev, hv⟩ := h3 p hpn
        refine ⟨v, ?_, hv.keep hPk (fun b hb => .inl hb)⟩
        rw [List.getElem?_append_left (by have := h2.1; omega)]
        exact ev
      · have hpe : p = nl := by omega
        subst hpe
        refine ⟨.slice (some ⟨xb, 0, none⟩) 4 4, ?_, xb, n, X, rfl, hF.row.of_block hkx, .inr (.inl rfl), hn, fun q hq => ⟨?_, fun b hb => .inr (.inr ⟨q, hq, hb⟩)⟩⟩
        · rw [List.getElem?_append_right (by have := h2.1; omega)]
          have := h2.1
          simp [show p - lcs.length = 0 by omega]
        · obtain ⟨us, ho, hm⟩ := (hF.slot q hq).blk (hkX q hq)
          exact ⟨us, ownsRow_mono ho hbb, hm⟩
    · rcases hb with hb | rfl | ⟨q, hq, hb⟩
      · exact Nat.lt_of_lt_of_le (h.safe.lt b hb) (Nat.le_trans hF.keep.size hsz)
      · exact Nat.lt_of_lt_of_le hF.row.lt hsz
      · exact Nat.lt_of_lt_of_le (hXt q hq b hb).2 hsz
    · rcases hb with hb | rfl | ⟨q, hq, hb⟩
      · exact (h.safe.keep (Nat.le_trans hF.keep.size hsz) hPk).ty b hb
      · obtain ⟨c, ec⟩ := hxt
        exact .inr (.inr ⟨c, by rw [hkx]; exact ec⟩)
      · obtain ⟨c, ec⟩ := (hXt q hq b hb).1
        exact .inr (.inl ⟨c, by rw [hkX q hq b hb]; exact ec⟩)
  · refine ⟨fun b hb => .inl hb, fun b hb => ?_, fun k k1 k2 k3 k4 => ?_, Nat.le_trans hF.keep.size hsz, hos, htp, hout⟩
    · rcases hb with hb | rfl | ⟨q, hq, hb⟩
      · exact .inl hb
      · exact .inr (.inr hF.new)
      · exact (hF.where_ q hq b hb).elim (fun h => .inr (.inl h)) (fun h => .inr (.inr h))
    · rw [h1] at k4
      exact (hfr k (Nat.lt_of_lt_of_le k1 hF.keep.size) k2 k4).trans (hF.keep.block k k1 k3)
end Go.Proofs.YtnbccoflcoaoaaaGreat
