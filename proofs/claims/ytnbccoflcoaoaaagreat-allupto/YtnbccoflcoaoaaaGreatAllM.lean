import Derived.Test.YtnbccoflcoaoaaaGreatAllL
import Derived.Test.YtnbccoflcoaoaaaGreatRtY
import Derived.Deep.RegionLaw
namespace Go.Proofs.YtnbccoflcoaoaaaGreat
open Go.RowKit Go.Deep
set_option linter.unusedSimpArgs false
set_option linter.unusedVariables false

/-! ### a call that has answered: its lists are told and then become their owner's -/
theorem aNum_any (x : Int) (hx : -9223372036854775808 ≤ x ∧ x ≤ 9223372036854775807) (w : World) : Calls Tryz.prog 23 #[.int .i64 x] w fun e w' => e = .returned (.int .i64 x) ∧ w' = w := by
  obtain ⟨h1, h2⟩ := hx
  go_enter Tryz.func23, Tryz.ntmps23
  go_wp2
  go_ret
  exact ⟨rfl, rfl⟩

/-- In a region that draws: append(said, numbers...). -/
theorem step_push_ints {w : World} {ops : Array Oper} {op : Oper} {a : Act} {K : Act → World → Prop} {Q : Exit → Act → World → Prop} {E : Prop} (hgd : op.guard = none) (s x : Operand)
    (ho : op.op = .call { callee := .builtin .append, args := #[s, x], argTypes := #[32, 32] }) (base : Nat) (v : Value) (n : Nat) (l : List Int)
    (hs : a.eval s = v) (hown : w.ownsRow base 3 1 v n (intCells l)) (g m c : Nat) (ys : List Int) (hm : ys.length = m) (hm0 : 0 < m) (hx : a.eval x = .slice (some ⟨g, 0, none⟩) m c) (hy : ∀ j u, (intCells ys)[j]? = some u → w.cell? ⟨g, j, none⟩ = some u)
    (hl : n + m ≤ 1000) (hb : base ≤ w.heap.size)
    (h : ∀ g' c' w', w'.ownsRow base 3 1 (.slice (some ⟨g', 0, none⟩) (n + m) c') (n + m) (intCells (l ++ ys)) → w.grownBy w' v.ownBlock → K (a.put op.dst (.slice (some ⟨g', 0, none⟩) (n + m) c')) w') :
    if Region.wanted op (yielded ops a.tmps) = true then Oper.wp Tryz.prog op a w K Q else E := by
  have hw : Region.wanted op (yielded ops a.tmps) = true := by simp [Region.wanted, hgd]
  rw [if_pos hw]
  obtain ⟨i0, hi, hz0, hz1, hz2⟩ := info_parts infoInt
  refine wp_append_own w s x 32 ho base 3 i0 _ 1 8 Tryz.underlying32 hi hz0 hz1 hz2 rfl (by decide) v n (intCells l) hs hown ⟨g, 0, none⟩ m c (intCells ys) hx (by rw [intCells_length]; omega) ?_ (intCells_one _) (by unfold maxLen; omega) (by omega) hb ?_
  · intro j u hj
    rw [Addr.add_lit, Nat.zero_add]
    exact hy j u hj
  · intro v' w' hown' hgr _
    have hcc : intCells (l ++ ys) = intCells l ++ intCells ys := by simp [intCells]
    obtain ⟨g', c', e1⟩ := own_some hown' (by omega)
    subst e1
    exact h g' c' w' (by rw [hcc]; exact hown') hgr

/-- The frame of a step: what lies there stays, the World's box, the blocks X and the lists' row apart. -/
structure KeepT (w0 w : World) (wb : Nat) (X : Nat → Prop) (base0 : Nat) : Prop where
  os : w.os = w0.os
  tape : w.tape = w0.tape
  output : w.output = w0.output
  size : w0.heap.size ≤ w.heap.size
  block : ∀ k, k < w0.heap.size → k ≠ wb → ¬ X k → (k < base0 ∨ ¬ Typed w0 k 57) → w.heap[k]? = w0.heap[k]?

/-- One of a call's lists that is not yet its owner's. -/
def Pend (w : World) (base0 : Nat) (P : Nat → Prop) (sv : Value) (v : Value) (n : Nat) : Prop := n ≤ 1000 ∧ (∃ xs, w.ownsRow base0 3 1 v n xs) ∧ ∀ b, v.ownBlock = some b → ¬ P b ∧ sv.ownBlock ≠ some b
structure Mid (w0 w : World) (wb tb : Nat) (X : Nat → Prop) (base0 nl : Nat) (P : Nat → Prop) (fw : Nat → Value) (o s : List Int) (sv : Value) : Prop where
  lst : Lst w wb base0 P nl fw
  told : w.rowIs tb 44 5 (toldF o sv)
  said : w.ownsRow base0 3 1 sv s.length (intCells s)
  saidP : ∀ b, sv.ownBlock = some b → ¬ P b ∧ w0.heap.size ≤ b
  keep : KeepT w0 w wb X base0
  ne : wb ≠ tb
theorem Mid.ntb {w0 w : World} {wb tb : Nat} {X : Nat → Prop} {base0 nl : Nat} {P : Nat → Prop} {fw : Nat → Value} {o s : List Int} {sv : Value} (h : Mid w0 w wb tb X base0 nl P fw o s sv) : Typed w tb 44 := row_typed h.told

/-- One list becomes its owner's; another, apart from it, still waits. -/
theorem mid_mine2 (w0 w : World) (wb tb : Nat) (X : Nat → Prop) (base0 nl : Nat) (P : Nat → Prop) (fw : Nat → Value) (o s : List Int) (sv : Value) (l : Value) (n : Nat) (h : Mid w0 w wb tb X base0 nl P fw o s sv) (hl : Pend w base0 P sv l n) (hl0 : ∀ b, l.ownBlock = some b → w0.heap.size ≤ b) (hnl : nl ≤ 1099511627776) :
    Calls Tryz.prog 25 #[.pointer (some ⟨wb, 0, none⟩), l] w fun e w' => e = .returned (.tuple #[]) ∧ ∃ fw' P', Mid w0 w' wb tb X base0 (nl + 1) P' fw' o s sv ∧ (∀ i, i ≠ 4 → fw' i = fw i) ∧ (∀ b, P b → P' b) ∧ (∀ b, P' b → P b ∨ w0.heap.size ≤ b) ∧
      (∀ v m, Pend w base0 P sv v m → Apt l v → Pend w' base0 P' sv v m) ∧ (∀ b, b < w.heap.size → b ≠ wb → some b ≠ l.ownBlock → (b < base0 ∨ ¬ Typed w b 57) → w'.heap[b]? = w.heap[b]?) ∧ w.heap.size ≤ w'.heap.size ∧ (∀ b, P' b → P b ∨ l.ownBlock = some b ∨ w.heap.size ≤ b) := by
  obtain ⟨hn, ⟨xs, hown⟩, hlb⟩ := hl
  have hb0 : base0 ≤ w.heap.size := Nat.le_trans h.lst.wlo (Nat.le_of_lt h.lst.box.lt)
  refine (mine_lst wb base0 base0 nl P fw l n xs w h.lst hown (fun b hb => (hlb b hb).1) hn (Nat.le_refl _) hb0 hnl).mono ?_
  rintro e w' ⟨rfl, fw', P', hL, hfw, hM⟩
  have harr : ∀ k, (k < base0 ∨ ¬ Typed w k 57) → some k ≠ (fw 4).ownBlock := fun k hk e => by
    obtain ⟨la, lc, lcs, h1, h2, _⟩ := h.lst.arr
    rw [h1] at e
    have ht := own_typed h2 k e.symm
    rcases hk with hk | hk
    · omega
    · exact hk ht.1
  have hfr : ∀ b, b < w.heap.size → b ≠ wb → some b ≠ l.ownBlock → (b < base0 ∨ ¬ Typed w b 57) → w'.heap[b]? = w.heap[b]? := fun b k1 k2 k3 k4 => hM.frame b k1 k2 k3 (harr b k4)
  have hlt : ∀ b, l.ownBlock = some b → Typed w b 3 := fun b hb => (own_typed hown b hb).1
  have hint : ∀ b, Typed w b 3 → b < base0 ∨ ¬ Typed w b 57 := fun b hb => .inr (fun hc => absurd (hb.uniq hc) (by decide))
  have htb : w'.heap[tb]? = w.heap[tb]? := hfr tb h.told.lt (fun e => h.ne e.symm) (fun e => absurd (h.ntb.uniq (hlt tb e.symm)) (by decide)) (.inr (fun hc => absurd (h.ntb.uniq hc) (by decide)))
  have hwbI : ∀ b, Typed w b 3 → b ≠ wb := fun b hb e => by subst e; exact absurd (hb.uniq (row_typed h.lst.box)) (by decide)
  have hsv : ∀ b, sv.ownBlock = some b → w'.heap[b]? = w.heap[b]? := fun b hb => by
    have ht := own_typed h.said b hb
    exact hfr b ht.2.2 (hwbI b ht.1) (fun e => (hlb b e.symm).2 hb) (hint b ht.1)
  refine ⟨rfl, fw', P', ⟨hL, h.told.of_block htb, own_blk h.said hsv, fun b hb => ⟨fun hp => ?_, (h.saidP b hb).2⟩, ⟨hM.os.trans h.keep.os, hM.tape.trans h.keep.tape, hM.output.trans h.keep.output, Nat.le_trans h.keep.size hM.size, fun k k1 k2 k3 k4 => ?_⟩, h.ne⟩, hfw, hM.sub, fun b hb => ?_, fun v m hv hap => ?_, hfr, hM.size, hM.new⟩
  · rcases hM.new b hp with h1 | h1 | h1
    · exact (h.saidP b hb).1 h1
    · exact (hlb b h1).2 hb
    · have := (own_typed h.said b hb).2.2; omega
  · have e := h.keep.block k k1 k2 k3 k4
    refine (hfr k (Nat.lt_of_lt_of_le k1 h.keep.size) k2 (fun e2 => ?_) (k4.imp id fun hn ⟨c, ec⟩ => hn ⟨c, by rw [← e]; exact ec⟩)).trans e
    have := hl0 k e2.symm
    omega
  · rcases hM.new b hb with h1 | h1 | h1
    · exact .inl h1
    · exact .inr (hl0 b h1)
    · exact .inr (Nat.le_trans h.keep.size h1)
  · obtain ⟨hm, ⟨ys, hy⟩, hvb⟩ := hv
    have hne : ∀ b, v.ownBlock = some b → some b ≠ l.ownBlock := fun b hb e => by
      rcases hap with h1 | h1
      · rw [h1] at e; cases e
      · exact h1 (by rw [hb]; exact e.symm)
    refine ⟨hm, ⟨ys, own_blk hy (fun b hb => ?_)⟩, fun b hb => ⟨fun hp => ?_, (hvb b hb).2⟩⟩
    · have ht := own_typed hy b hb
      exact hfr b ht.2.2 (hwbI b ht.1) (hne b hb) (hint b ht.1)
    · rcases hM.new b hp with h1 | h1 | h1
      · exact (hvb b hb).1 h1
      · exact hne b hb h1.symm
      · have := (own_typed hy b hb).2.2; omega
/-- One list becomes its owner's; another, apart from it, still waits. -/
theorem mid_mine (w0 w : World) (wb tb : Nat) (X : Nat → Prop) (base0 nl : Nat) (P : Nat → Prop) (fw : Nat → Value) (o s : List Int) (sv : Value) (l : Value) (n : Nat) (h : Mid w0 w wb tb X base0 nl P fw o s sv) (hl : Pend w base0 P sv l n) (hl0 : ∀ b, l.ownBlock = some b → w0.heap.size ≤ b) (hnl : nl ≤ 1099511627776) :
    Calls Tryz.prog 25 #[.pointer (some ⟨wb, 0, none⟩), l] w fun e w' => e = .returned (.tuple #[]) ∧ ∃ fw' P', Mid w0 w' wb tb X base0 (nl + 1) P' fw' o s sv ∧ (∀ i, i ≠ 4 → fw' i = fw i) ∧ (∀ b, P b → P' b) ∧ (∀ b, P' b → P b ∨ w0.heap.size ≤ b) ∧
      (∀ v m, Pend w base0 P sv v m → Apt l v → Pend w' base0 P' sv v m) ∧ (∀ b, b < w.heap.size → b ≠ wb → some b ≠ l.ownBlock → (b < base0 ∨ ¬ Typed w b 57) → w'.heap[b]? = w.heap[b]?) ∧ w.heap.size ≤ w'.heap.size := by
  refine (mid_mine2 w0 w wb tb X base0 nl P fw o s sv l n h hl hl0 hnl).mono ?_
  rintro e w' ⟨rfl, fw', P', h1, h2, h3, h4, h5, h6, h7, _⟩
  exact ⟨rfl, fw', P', h1, h2, h3, h4, h5, h6, h7⟩
end Go.Proofs.YtnbccoflcoaoaaaGreat
