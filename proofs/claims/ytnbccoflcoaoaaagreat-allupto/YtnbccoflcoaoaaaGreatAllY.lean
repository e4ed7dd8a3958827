import Derived.Test.YtnbccoflcoaoaaaGreatAllW
import Derived.Test.YtnbccoflcoaoaaaGreatAllV
namespace Go.Proofs.YtnbccoflcoaoaaaGreat
open Go.RowKit Go.Deep
set_option linter.unusedSimpArgs false
set_option linter.unusedVariables false

/-! ### what came in stays; the copy of a table -/
set_option maxHeartbeats 1000000 in
theorem aStill_free (g cap : Nat) (la : Option Addr) (n lc base : Nat) (xs : List Int) (w : World) (hx : Ints w la n xs) (hr : Roomy w base (.slice (some ⟨g, 0, none⟩) n cap) xs) (hn : n + 2 ≤ 17592186044416) :
    Calls Tryz.prog 26 #[.slice (some ⟨g, 0, none⟩) n cap, .slice la n lc] w fun e w' => e = .returned (.bool true) ∧ w.grownBy w' (some g) := by
  have hL : Hid (xs.length = n) := hx.len
  obtain ⟨g', cap', e', hown⟩ := hr
  obtain ⟨rfl, rfl⟩ : g = g' ∧ cap = cap' := by simp at e'; exact ⟨e'.1, e'.2.2⟩
  clear e'
  rw [hL.out] at hown
  rcases hown.2 with ⟨h0, _⟩ | ⟨g1, cap1, cur, e1, hg1, hg2, hg3, hg4, hg5, hg6⟩
  · cases h0
  obtain ⟨rfl, rfl⟩ : g = g1 ∧ cap = cap1 := by simpa using e1
  clear e1
  have hcell : ∀ j, j < n + 2 → w.cell? ⟨g, j, none⟩ = some (.int .i64 ((xs ++ [-3000000, -3000000]).getD j 0)) := fun j hj =>
    own_cell (base := base) (cap := cap) hg2 hg6 j _ (intCells_at _ j (by simp [hL.out]; omega))
  have hglt : g < w.heap.size := (Array.getElem?_eq_some_iff.1 hg2).1
  have c1 : w.cell? ⟨g, n, none⟩ = some (.int .i64 (-3000000)) := by
    rw [hcell n (by omega)]; simp [List.getD, ← hL.out]
  have c2 : w.cell? ⟨g, n + 1, none⟩ = some (.int .i64 (-3000000)) := by
    rw [hcell (n + 1) (by omega)]; simp [List.getD, ← hL.out]
  have hrow : Hid (w.rowIs g 3 cap (fun i => cur.getD i undef)) := ⟨cur, hg2, by omega, fun i hi => by simp [Array.getD, show i < cur.size by omega]⟩
  have hcap : ((n : Int) + 2) ≤ (cap : Int) := by omega
  have hcap2 : n + 2 ≤ cap := hg3
  have HC := hide hcell
  have HX := hide hx
  clear hcell hx hg5 hg6 hg2 hg3 hown
  go_enter Tryz.func26, Tryz.ntmps26
  go_wp2
  go_loopw [6, 7] (fun ok i wr => ∃ k : Nat, k ≤ n ∧ i = .int .i64 k ∧ ok = .bool true ∧ Below w.heap.size w wr) (fun _ i _ => n - (intOf i).toNat)
  case atStart => exact ⟨0, Nat.zero_le _, rfl, rfl, Below.refl _ _⟩
  case round =>
    obtain ⟨k, hk, rfl, rfl, hb⟩ := hrel
    by_cases hlt : k < n
    · obtain ⟨b, off, x, rfl, hX, hbb, ex⟩ := (HX.out.below hb).get hlt
      have cx : wr.cell? ⟨g, k, none⟩ = some (.int .i64 x) := by
        rw [hb.cell (p := ⟨g, k, none⟩) hglt, HC.out k (by omega), ← hX]
        rw [List.getD, List.getD, List.getElem?_append_left (by rw [hL.out]; exact hlt)]
      have hlt3 : (k : Int) < (n : Int) := by omega
      have hlt4 : (k : Int) < (n : Int) + 2 := by omega
      have hg5 := Nat.lt_of_lt_of_le hglt hb.size
      clear hX c1 c2
      go_wp2
      go_quiet (fail)
      go_wp2
      exact ⟨⟨k + 1, by omega, by go_num, rfl, hb.trans (Joins.below_draws _ _ _)⟩, by simp [intOf]; omega⟩
    · have hkn : k = n := by omega
      subst hkn
      have HG : Hid (w.grownBy wr (some g)) := grown_of_below hb _
      have HR : Hid (∃ f, wr.rowIs g 3 cap f) := ⟨_, hrow.out.of_block (hb.block g hglt)⟩
      clear hb c1 c2
      go_wp2
      go_loopw [8] (fun i w2 => ∃ m : Nat, m ≤ k + 2 ∧ i = .int .i64 m ∧ Hid (∃ f, w2.rowIs g 3 cap f) ∧ Hid (w.grownBy w2 (some g))) (fun i _ => k + 2 - (intOf i).toNat)
      case atStart => exact ⟨0, Nat.zero_le _, rfl, HR, HG⟩
      case round =>
        obtain ⟨m, hm, rfl, hR, hG⟩ := hrel
        clear HG HR
        by_cases hlt : m < k + 2
        · obtain ⟨f, hf⟩ := hR.out
          have hlt3 : (m : Int) < (k : Int) + 2 := by omega
          have cv := hf.cell (show m < cap by omega)
          have fv := hf.frozen m
          have hR2 : Hid (∃ f', (World.setCell _ ⟨g, m, none⟩ (.int .i64 (-3000000))).rowIs g 3 cap f') := ⟨_, hf.set m _⟩
          have hG2 := hide (grown_setB (o := m) (u := .int .i64 (-3000000)) hG.out)
          have hgl := hf.lt
          clear hf hR hG
          go_wp2
          go_roundw
          case rel => exact ⟨m + 1, by omega, by go_num, hR2, hG2⟩
          case measure => simp [intOf]; omega
        · have hmn : m = k + 2 := by omega
          subst hmn
          go_wp2
          go_ret
          exact ⟨rfl, hG.out⟩

/-- What lay there is as it was. -/
structure Old (w0 w : World) : Prop where
  size : w0.heap.size ≤ w.heap.size
  block : ∀ k, k < w0.heap.size → w.heap[k]? = w0.heap[k]?
theorem Old.refl (w : World) : Old w w := ⟨Nat.le_refl _, fun _ _ => rfl⟩
theorem Old.below {w0 w w' : World} (h : Old w0 w) (hb : Below w.heap.size w w') : Old w0 w' := ⟨Nat.le_trans h.size hb.size, fun k k1 => (hb.block k (Nat.lt_of_lt_of_le k1 h.size)).trans (h.block k k1)⟩
theorem Old.of {w : World} {w' : World} (hb : Below w.heap.size w w') : Old w w' := (Old.refl w).below hb
theorem Old.then {w0 w w' : World} (h : Old w0 w) (hs : w.heap.size ≤ w'.heap.size) (hk : ∀ k, k < w0.heap.size → w'.heap[k]? = w.heap[k]?) : Old w0 w' := ⟨Nat.le_trans h.size hs, fun k k1 => (hk k k1).trans (h.block k k1)⟩
theorem Old.cell {w0 w : World} (h : Old w0 w) {b i : Nat} (hb : b < w0.heap.size) : w.cell? ⟨b, i, none⟩ = w0.cell? ⟨b, i, none⟩ := World.cell?_of_block (h.block b hb)
theorem Ints.old {w0 w : World} {a : Option Addr} {n : Nat} {xs : List Int} (h : Ints w0 a n xs) (ho : Old w0 w) : Ints w a n xs :=
  ⟨h.len, h.small, h.wf, h.lies.imp id fun ⟨b, off, e, hl, hc⟩ => ⟨b, off, e, Nat.lt_of_lt_of_le hl ho.size, fun i hi => by rw [ho.cell hl]; exact hc i hi⟩⟩
theorem Tab.old {w0 w : World} {a : Option Addr} {n : Nat} {t : List (List Int)} (h : Tab w0 a n t) (ho : Old w0 w) : Tab w a n t :=
  ⟨h.len, h.small, h.lies.imp id fun ⟨b, off, e, hl, hc⟩ => ⟨b, off, e, Nat.lt_of_lt_of_le hl ho.size, fun i hi => by
    obtain ⟨ra, rc, h1, h2⟩ := hc i hi
    exact ⟨ra, rc, by rw [ho.cell hl]; exact h1, h2.old ho⟩⟩⟩
/-- The tables that came in. -/
def TabsAt (w0 : World) (v : Value) (nt : Nat) (tabs : Nat → List (List Int)) : Prop :=
  ∃ a c, v = .slice a nt c ∧ nt ≤ 2097152 ∧ (nt = 0 ∨ ∃ b off, a = some ⟨b, off, none⟩ ∧ b < w0.heap.size ∧ ∀ i, i < nt → ∃ xa xc, w0.cell? ⟨b, off + i, none⟩ = some (.slice xa (tabs i).length xc) ∧ Tab w0 xa (tabs i).length (tabs i) ∧ (tabs i).length ≤ 1048576 ∧ ∀ r, r < (tabs i).length → ((tabs i).getD r []).length ≤ 2097152)

/-- A table's copy in the making: rows with spare room, each in memory of its own. -/
structure TabR (w : World) (base : Nat) (v : Value) (vs : List Value) (t : List (List Int)) : Prop where
  row : w.ownsRow base 32 1 v vs.length vs
  shape : ∃ oa oc, v = .slice oa vs.length oc
  len : t.length ≤ vs.length
  rows : ∀ i, i < t.length → ∃ u, vs[i]? = some u ∧ RRoom base w u (t.getD i [])
  apt : ∀ i j u u', i < j → j < t.length → vs[i]? = some u → vs[j]? = some u' → u.ownBlock ≠ u'.ownBlock
theorem TabR.nil (w : World) (base : Nat) : TabR w base (.slice none 0 0) [] [] := ⟨World.ownsRow_nil _ _ _ _, ⟨none, 0, rfl⟩, Nat.le_refl _, fun i hi => by simp at hi, fun i j u u' _ hj => by simp at hj⟩
theorem TabR.blk {w w' : World} {base : Nat} {v : Value} {vs : List Value} {t : List (List Int)} (h : TabR w base v vs t) (hs : w.heap.size ≤ w'.heap.size) (hv : ∀ b, v.ownBlock = some b → w'.heap[b]? = w.heap[b]?) (hr : ∀ i u, i < t.length → vs[i]? = some u → ∀ b, u.ownBlock = some b → w'.heap[b]? = w.heap[b]?) : TabR w' base v vs t :=
  ⟨own_blk h.row hv, h.shape, h.len, fun i hi => by
    obtain ⟨u, e, hR⟩ := h.rows i hi
    exact ⟨u, e, hR.blk hs (hr i u hi e)⟩, h.apt⟩
theorem TabR.ty {w : World} {base : Nat} {v : Value} {vs : List Value} {t : List (List Int)} (h : TabR w base v vs t) : ∀ b, v.ownBlock = some b → Typed w b 32 ∧ base ≤ b ∧ b < w.heap.size := own_typed h.row
theorem TabR.rty {w : World} {base : Nat} {v : Value} {vs : List Value} {t : List (List Int)} (h : TabR w base v vs t) {i : Nat} {u : Value} (hi : i < t.length) (e : vs[i]? = some u) : ∀ b, u.ownBlock = some b → Typed w b 3 ∧ base ≤ b ∧ b < w.heap.size := by
  obtain ⟨u', e', hR⟩ := h.rows i hi
  rw [e] at e'
  cases e'
  exact hR.typed
theorem TabR.below {w w' : World} {base : Nat} {v : Value} {vs : List Value} {t : List (List Int)} (h : TabR w base v vs t) (hb : Below w.heap.size w w') : TabR w' base v vs t :=
  h.blk hb.size (fun b e => hb.block b (h.ty b e).2.2) (fun i u hi e b hb' => hb.block b (h.rty hi e b hb').2.2)
theorem TabR.tab {w : World} {base : Nat} {v : Value} {vs : List Value} {t : List (List Int)} (h : TabR w base v vs t) (hs : t.length ≤ 1048576) (hb : ∀ i, i < t.length → (t.getD i []).length ≤ 2097152 ∧ ∀ x ∈ t.getD i [], -9223372036854775808 ≤ x ∧ x ≤ 9223372036854775807) : ∃ a c, v = .slice a vs.length c ∧ Tab w a t.length t := by
  obtain ⟨oa, oc, e⟩ := h.shape
  refine ⟨oa, oc, e, rfl, by omega, ?_⟩
  by_cases h0 : t.length = 0
  · exact .inl h0
  · right
    have hlen := h.len
    have hrow := h.row
    rw [e] at hrow
    obtain ⟨g, c, ev⟩ := own_some hrow (by omega)
    cases ev
    refine ⟨g, 0, rfl, (hrow.lt g rfl).2, fun i hi => ?_⟩
    obtain ⟨u, e1, hR⟩ := h.rows i hi
    obtain ⟨gr, zr, rfl⟩ := hR.open_
    refine ⟨_, zr, ?_, hR.ints (hb i hi).1 (hb i hi).2⟩
    rw [Nat.zero_add]
    exact own_cellAt hrow i _ e1
/-- In the walk: append(y, l): a list of lists of the call's own grows. -/
theorem wpList_push_list {w : World} {ops : Array Oper} {rest : List Oper} {o : Oper} {a : Act} {Q : Exit → Act → World → Prop} (hgd : o.guard = none) (s x : Operand)
    (ho : o.op = .call { callee := .builtin .append, args := #[s, x], argTypes := #[23, 23] }) (base : Nat) (v : Value) (n : Nat) (vs : List Value)
    (hs : a.eval s = v) (hown : w.ownsRow base 32 1 v n vs) (g : Nat) (u : Value) (hu : u.oneCell' = true) (c : Nat) (hx : a.eval x = .slice (some ⟨g, 0, none⟩) 1 c) (hy : w.cell? ⟨g, 0, none⟩ = some u)
    (hl : n ≤ 1099511627776) (hb : base ≤ w.heap.size)
    (h : ∀ g' c' w', w'.ownsRow base 32 1 (.slice (some ⟨g', 0, none⟩) (n + 1) c') (n + 1) (vs ++ [u]) → w.grownBy w' v.ownBlock → wpList Tryz.prog ops Q rest (a.put o.dst (.slice (some ⟨g', 0, none⟩) (n + 1) c')) w') : wpList Tryz.prog ops Q (o :: rest) a w := by
  obtain ⟨i0, hi, hz0, hz1, hz2⟩ := info_parts infoInts
  refine wpList_append_own w hgd s x 23 ho base 32 i0 _ 1 24 Tryz.underlying23 hi hz0 hz1 hz2 rfl (by decide) _ n vs hs hown ⟨g, 0, none⟩ 1 c [u] hx rfl ?_ ?_ (by unfold maxLen; omega) (by omega) hb ?_
  · intro j y hj
    cases j with
    | zero => simp at hj; subst hj; simpa [Addr.add] using hy
    | succ j => simp at hj
  · intro y hy'; simp at hy'; subst hy'; exact hu
  · intro v' w' hown' hgr _
    obtain ⟨g', c', e1⟩ := own_some hown' (by omega)
    subst e1
    exact h g' c' w' hown' hgr
/-- One row more. -/
theorem TabR.push {w w' : World} {base : Nat} {v : Value} {vs : List Value} {t : List (List Int)} {u : Value} {l : List Int} {g' c' : Nat} (h : TabR w base v vs t) (hlen : vs.length = t.length) (hu : RRoom base w u l) (hnew : ∀ i y, i < t.length → vs[i]? = some y → y.ownBlock ≠ u.ownBlock) (hgr : w.grownBy w' v.ownBlock) (hown : w'.ownsRow base 32 1 (.slice (some ⟨g', 0, none⟩) (vs.length + 1) c') (vs.length + 1) (vs ++ [u])) : TabR w' base (.slice (some ⟨g', 0, none⟩) (vs.length + 1) c') (vs ++ [u]) (t ++ [l]) := by
  have hk : ∀ {y : Value} {m : List Int}, RRoom base w y m → RRoom base w' y m := fun hR => hR.blk hgr.size (fun b e => hgr.block b (hR.typed b e).2.2 (fun e2 => absurd ((hR.typed b e).1.uniq (h.ty b e2.symm).1) (by decide)))
  have el : (vs ++ [u]).length = vs.length + 1 := by simp
  refine ⟨by rw [el]; exact hown, ⟨_, _, by rw [el]⟩, by simp; omega, fun i hi => ?_, fun i j y y' hij hj ey ey' => ?_⟩
  · rw [List.length_append] at hi
    simp only [List.length_cons, List.length_nil] at hi
    rw [getD_snocL _ _ _ (by omega)]
    by_cases hil : i < t.length
    · rw [if_pos hil]
      obtain ⟨y, e, hR⟩ := h.rows i hil
      exact ⟨y, by rw [List.getElem?_append_left (by omega)]; exact e, hk hR⟩
    · rw [if_neg hil]
      exact ⟨u, by rw [List.getElem?_append_right (by omega), show i - vs.length = 0 from by omega]; rfl, hk hu⟩
  · rw [List.length_append] at hj
    simp only [List.length_cons, List.length_nil] at hj
    rw [List.getElem?_append_left (by omega)] at ey
    by_cases hjl : j < t.length
    · rw [List.getElem?_append_left (by omega)] at ey'
      exact h.apt i j y y' hij hjl ey ey'
    · rw [List.getElem?_append_right (by omega), show j - vs.length = 0 from by omega] at ey'
      simp at ey'
      subst ey'
      exact hnew i y (by omega) ey
/-- A list that is behind the rows. -/
theorem TabR.last {w w' : World} {base : Nat} {v : Value} {vs : List Value} {t : List (List Int)} {u : Value} {g' c' : Nat} (h : TabR w base v vs t) (hlen : vs.length = t.length) (hgr : w.grownBy w' v.ownBlock) (hown : w'.ownsRow base 32 1 (.slice (some ⟨g', 0, none⟩) (vs.length + 1) c') (vs.length + 1) (vs ++ [u])) : TabR w' base (.slice (some ⟨g', 0, none⟩) (vs.length + 1) c') (vs ++ [u]) t := by
  have hk : ∀ {y : Value} {m : List Int}, RRoom base w y m → RRoom base w' y m := fun hR => hR.blk hgr.size (fun b e => hgr.block b (hR.typed b e).2.2 (fun e2 => absurd ((hR.typed b e).1.uniq (h.ty b e2.symm).1) (by decide)))
  have el : (vs ++ [u]).length = vs.length + 1 := by simp
  refine ⟨by rw [el]; exact hown, ⟨_, _, by rw [el]⟩, by simp; omega, fun i hi => ?_, fun i j y y' hij hj ey ey' => ?_⟩
  · obtain ⟨y, e, hR⟩ := h.rows i hi
    exact ⟨y, by rw [List.getElem?_append_left (by omega)]; exact e, hk hR⟩
  · rw [List.getElem?_append_left (by omega)] at ey ey'
    exact h.apt i j y y' hij hj ey ey'

/-- A list of numbers that is not among what is kept is written. -/
theorem Mid.touch {w0 w w' : World} {wb tb : Nat} {X : Nat → Prop} {base0 nl : Nat} {P : Nat → Prop} {fw : Nat → Value} {o s : List Int} {sv : Value} (h : Mid w0 w wb tb X base0 nl P fw o s sv) {g : Nat} (hg : w.grownBy w' (some g)) (hT : Typed w g 3) (hP : ¬ P g) (hsv : sv.ownBlock ≠ some g) (hg0 : w0.heap.size ≤ g) : Mid w0 w' wb tb X base0 nl P fw o s sv := by
  have hne : ∀ {b : Nat} {t : TypeId}, Typed w b t → t ≠ 3 → some b ≠ some g := fun hb ht e => by
    cases e
    exact ht (hb.uniq hT)
  have hsg : ∀ b, sv.ownBlock = some b → some b ≠ some g := fun b e e2 => by cases e2; exact hsv e
  refine ⟨h.lst.keep hg.size (fun b hb => hg.block b (h.lst.safe.lt b hb) (fun e => by cases e; exact hP hb)) (hg.block wb h.lst.box.lt (hne (row_typed h.lst.box) (by decide))) (fun b e => ?_), h.told.of_block (hg.block tb h.told.lt (hne h.ntb (by decide))), own_blk h.said (fun b e => hg.block b (own_typed h.said b e).2.2 (hsg b e)), h.saidP, ⟨hg.os.trans h.keep.os, hg.tape.trans h.keep.tape, hg.output.trans h.keep.output, Nat.le_trans h.keep.size hg.size, fun k k1 k2 k3 k4 => ?_⟩, h.ne⟩
  · obtain ⟨la, lc, lcs, h1, h2, _⟩ := h.lst.arr
    rw [h1] at e
    have hT2 := own_typed h2 b e
    exact hg.block b hT2.2.2 (hne hT2.1 (by decide))
  · exact (hg.block k (Nat.lt_of_lt_of_le k1 h.keep.size) (fun e => by cases e; omega)).trans (h.keep.block k k1 k2 k3 k4)
/-- mine, and what else stays. -/
theorem mid_mine_as (w0 w : World) (wb tb : Nat) (X : Nat → Prop) (base0 nl : Nat) (P : Nat → Prop) (fw : Nat → Value) (o s : List Int) (sv : Value) (l : Value) (n : Nat) (h : Mid w0 w wb tb X base0 nl P fw o s sv) (hl : Pend w base0 P sv l n) (hl0 : ∀ b, l.ownBlock = some b → w0.heap.size ≤ b) (hnl : nl ≤ 1099511627776) :
    Calls Tryz.prog 25 #[.pointer (some ⟨wb, 0, none⟩), l] w fun e w' => e = .returned (.tuple #[]) ∧ ∃ fw' P', Mid w0 w' wb tb X base0 (nl + 1) P' fw' o s sv ∧ (∀ i, i ≠ 4 → fw' i = fw i) ∧ (∀ b, P b → P' b) ∧ (∀ b, P' b → P b ∨ w0.heap.size ≤ b) ∧
      (∀ v m, Pend w base0 P sv v m → Apt l v → Pend w' base0 P' sv v m) ∧ (∀ b, b < w.heap.size → (b < base0 ∨ Typed w b 3 ∨ Typed w b 32 ∨ Typed w b 59) → l.ownBlock ≠ some b → w'.heap[b]? = w.heap[b]? ∧ (¬ P b → ¬ P' b)) ∧ w.heap.size ≤ w'.heap.size := by
  refine (mid_mine2 w0 w wb tb X base0 nl P fw o s sv l n h hl hl0 hnl).mono ?_
  rintro e w' ⟨rfl, fw', P', h1, h2, h3, h4, h5, h6, h7, h8⟩
  refine ⟨rfl, fw', P', h1, h2, h3, h4, h5, fun b hb ht hlb => ⟨h6 b hb (fun e => ?_) (fun e => hlb e.symm) ?_, fun hn hp => ?_⟩, h7⟩
  · subst e
    rcases ht with ht | ht | ht | ht
    · have := h.lst.wlo; omega
    · exact absurd (ht.uniq (row_typed h.lst.box)) (by decide)
    · exact absurd (ht.uniq (row_typed h.lst.box)) (by decide)
    · exact absurd (ht.uniq (row_typed h.lst.box)) (by decide)
  · rcases ht with ht | ht | ht | ht
    · exact .inl ht
    · exact .inr (fun hc => absurd (ht.uniq hc) (by decide))
    · exact .inr (fun hc => absurd (ht.uniq hc) (by decide))
    · exact .inr (fun hc => absurd (ht.uniq hc) (by decide))
  · rcases h8 b hp with h9 | h9 | h9
    · exact hn h9
    · exact hlb h9
    · omega
end Go.Proofs.YtnbccoflcoaoaaaGreat
