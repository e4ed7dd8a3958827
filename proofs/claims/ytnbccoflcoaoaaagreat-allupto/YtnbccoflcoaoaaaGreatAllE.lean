import Derived.Test.YtnbccoflcoaoaaaGreatAllD
namespace Go.Proofs.YtnbccoflcoaoaaaGreat
open Go.RowKit Go.Deep
set_option linter.unusedSimpArgs false
set_option linter.unusedVariables false

/-! ### add -/
/-- A call's own changes: what lies below base is as it was, block tb apart. -/
structure Keep1 (base tb : Nat) (w w' : World) : Prop where
  os : w'.os = w.os
  tape : w'.tape = w.tape
  output : w'.output = w.output
  size : w.heap.size ≤ w'.heap.size
  block : ∀ k, k < base → k ≠ tb → w'.heap[k]? = w.heap[k]?

theorem Keep1.refl (base tb : Nat) (w : World) : Keep1 base tb w w := ⟨rfl, rfl, rfl, Nat.le_refl _, fun _ _ _ => rfl⟩
theorem Keep1.trans {base tb : Nat} {a b c : World} (h : Keep1 base tb a b) (k : Keep1 base tb b c) : Keep1 base tb a c :=
  ⟨k.os.trans h.os, k.tape.trans h.tape, k.output.trans h.output, Nat.le_trans h.size k.size, fun i h1 h2 => (k.block i h1 h2).trans (h.block i h1 h2)⟩
theorem Keep1.grown {base tb : Nat} {w w' : World} {row : Option Nat} (h : w.grownBy w' row) (hb : base ≤ w.heap.size) (hr : ∀ k, row = some k → base ≤ k) : Keep1 base tb w w' :=
  ⟨h.os, h.tape, h.output, h.size, fun k h1 _ => h.block k (by omega) (fun e => by have := hr k e.symm; omega)⟩
theorem Keep1.set (base tb o : Nat) (w : World) (u : Value) : Keep1 base tb w (w.setCell ⟨tb, o, none⟩ u) :=
  ⟨rfl, rfl, rfl, by simp [World.setCell], fun k _ h2 => Below.heap_setCell _ _ _ _ h2⟩

def toldF (o : List Int) (v : Value) (i : Nat) : Value := if i = 4 then v else .int .i64 (o.getD i 0)
/-- What a call answered, in the making: the box at tb, its row made from base on. -/
def ToldAt (w : World) (tb base : Nat) (o s : List Int) : Prop := tb < base ∧ ∃ v, w.rowIs tb 44 5 (toldF o v) ∧ w.ownsRow base 3 1 v s.length (intCells s)

theorem run_append_none {P : Program} (w : World) (t ty e : TypeId) (i : TypeInfo) (ht : P.underlying t = some (.slice e)) (hi : P.info? e = some i) (v : Value) (hv : v = .slice none 0 0 ∨ ∃ g n c, v = .slice (some ⟨g, 0, none⟩) n c ∧ n ≤ c) (lc : Nat) :
    (Builtin.append_ #[t, t] ty #[v, .slice none 0 lc]).run P w = .ok v w := by
  rcases hv with rfl | ⟨g, n, c, rfl, hc⟩
  · simp [Builtin.append_, run_underlying ht, sizeOf, typeInfo, hi, Builtin.lenOf, Builtin.firstCells, loadCells, loadCellsFrom]
  · simp [Builtin.append_, run_underlying ht, sizeOf, typeInfo, hi, Builtin.lenOf, Builtin.firstCells, loadCells, loadCellsFrom, hc, storeCells]

theorem set_cell_ne' {w : World} {b b' o o' : Nat} {u : Value} (h : b ≠ b') : (w.setCell ⟨b', o', none⟩ u).cell? ⟨b, o, none⟩ = w.cell? ⟨b, o, none⟩ := World.cell?_of_block (Below.heap_setCell _ _ _ _ h)

/-- In the walk: append(l, m...), l a row of the call's own, m numbers that lie there. -/
theorem wpList_join_ints {w : World} {ops : Array Oper} {rest : List Oper} {o : Oper} {a : Act} {Q : Exit → Act → World → Prop} (hgd : o.guard = none) (s x : Operand)
    (ho : o.op = .call { callee := .builtin .append, args := #[s, x], argTypes := #[32, 32] }) (base : Nat) (v : Value) (m : Nat) (l : List Int) (hs : a.eval s = v) (hown : w.ownsRow base 3 1 v m (intCells l))
    (la : Option Addr) (n lc : Nat) (hx : a.eval x = .slice la n lc) (xs : List Int) (hX : Ints w la n xs) (hle : m + n ≤ 1000) (hb : base ≤ w.heap.size)
    (h : ∀ v' w', w'.ownsRow base 3 1 v' (m + n) (intCells (l ++ xs)) → w.grownBy w' v.ownBlock → wpList Tryz.prog ops Q rest (a.put o.dst v') w') : wpList Tryz.prog ops Q (o :: rest) a w := by
  obtain ⟨i0, hi, hz0, hz1, hz2⟩ := info_parts infoInt
  have hcc : intCells (l ++ xs) = intCells l ++ intCells xs := by simp [intCells]
  cases la with
  | none =>
    have hn : n = 0 := by
      rcases hX.lies with h0 | ⟨b, off, e, _⟩
      · exact h0
      · cases e
    subst hn
    have hxs : xs = [] := List.eq_nil_of_length_eq_zero hX.len
    subst hxs
    refine wpList_plain hgd fun _ hK => ?_
    have hr := run_append_none (P := Tryz.prog) w 32 o.type 3 i0 Tryz.underlying32 hi v (by
      rcases hown.2 with ⟨e, _⟩ | ⟨g, cap, cur, e, _, _, hc, _⟩
      · exact .inl e
      · exact .inr ⟨g, m, cap, e, hc⟩) lc
    unfold Oper.wp execOp
    simp only [ho, resolve, invoke, builtin, Sem.run_bind, Sem.run_pure, Result.andThen_ok, List.map_toArray, List.map_cons, List.map_nil, hs, hx, hr]
    exact hK _ _ (h v w (by simpa using hown) ⟨rfl, rfl, rfl, Nat.le_refl _, fun _ _ _ => rfl⟩)
  | some ad =>
    refine wpList_append_own w hgd s x 32 ho base 3 i0 _ 1 8 Tryz.underlying32 hi hz0 hz1 hz2 rfl (by decide) v m (intCells l) hs hown ad n lc (intCells xs) hx (by rw [intCells_length, hX.len]; omega) ?_ (intCells_one _) (by unfold maxLen; omega) (by omega) hb ?_
    · intro j u hj
      rcases hX.src with h0 | ⟨ad', e, hc⟩
      · have hxs : xs = [] := List.eq_nil_of_length_eq_zero (by rw [hX.len]; exact h0)
        subst hxs
        simp [intCells] at hj
      · cases e
        exact hc j u hj
    · intro v' w' h1 h2 _
      exact h v' w' (by rw [hcc]; exact h1) h2

set_option maxHeartbeats 1000000 in
theorem aAdd_any (tb base : Nat) (la : Option Addr) (n lc : Nat) (o s xs : List Int) (w : World) (ht : ToldAt w tb base o s) (hx : Ints w la n xs) (hl : ∀ b off, la = some ⟨b, off, none⟩ → b < base ∧ b ≠ tb) (hn : s.length + 1 + n ≤ 1000) (hb : base ≤ w.heap.size) :
    Calls Tryz.prog 24 #[.pointer (some ⟨tb, 0, none⟩), .slice la n lc] w fun e w' => e = .returned (.tuple #[]) ∧ ToldAt w' tb base o (s ++ (n : Int) :: xs) ∧ Keep1 base tb w w' := by
  obtain ⟨htb, v, hr, hown⟩ := ht
  have hL : Hid (xs.length = n) := hx.len
  have c4 := hr.cell (show 4 < 5 by decide)
  have f4 := hr.frozen 4
  have htl := hr.lt
  simp only [toldF, if_pos] at c4
  have hvv : ∃ oa oc, v = .slice oa s.length oc := by
    rcases hown.2 with ⟨rfl, h0⟩ | ⟨g, cap, cur, rfl, _⟩
    · exact ⟨none, 0, by rw [h0]⟩
    · exact ⟨_, _, rfl⟩
  obtain ⟨oa, oc, rfl⟩ := hvv
  have HR := hide hr
  have HX := hide hx
  have HO := hide hown
  clear hr hx hown
  go_enter Tryz.func24, Tryz.ntmps24
  go_wp2_with (at_builtin; refine wpList_push_int rfl _ _ rfl base oa oc s rfl (HO.out.alloc _) w.heap.size n 1 rfl (by go_simp) (by omega) (by simp; omega) ?_)
  intro g' c' w1 hown1 hgr
  have hk1 : Keep1 base tb w w1 := (Keep1.grown (World.grownBy_alloc _ _ none) hb (fun _ e => by cases e)).trans (Keep1.grown hgr (by simp; omega) (fun k e => (HO.out.lt k e).1))
  have hgo := (hown1.lt g' rfl)
  have hr1 : w1.rowIs tb 44 5 (toldF o (.slice oa s.length oc)) := HR.out.of_block (by
    rw [hgr.block tb (by simp; omega) (fun e => by have := (HO.out.lt tb e.symm).1; omega)]
    exact (World.grownBy_alloc _ _ none).block tb htl (by simp))
  have hx1 : Ints w1 la n xs := by
    refine ⟨HX.out.len, HX.out.small, HX.out.wf, HX.out.lies.imp id ?_⟩
    rintro ⟨b, off, e, h1, hc⟩
    refine ⟨b, off, e, by have := hk1.size; omega, fun i hi => ?_⟩
    rw [World.cell?_of_block (hk1.block b (hl b off e).1 (hl b off e).2)]
    exact hc i hi
  have k4 := hr1.cell (show 4 < 5 by decide)
  have l4 := hr1.frozen 4
  have hr2 := (hr1.set 4 (.slice (some ⟨g', 0, none⟩) (s.length + 1) c'))
  have m4 := hr2.frozen 4
  have hk2 := hk1.trans (Keep1.set base tb 4 w1 (.slice (some ⟨g', 0, none⟩) (s.length + 1) c'))
  have hx2 : Ints (w1.setCell ⟨tb, 4, none⟩ (.slice (some ⟨g', 0, none⟩) (s.length + 1) c')) la n xs := by
    refine ⟨hx1.len, hx1.small, hx1.wf, hx1.lies.imp id ?_⟩
    rintro ⟨b, off, e, h1, hc⟩
    refine ⟨b, off, e, by simpa using h1, fun i hi => ?_⟩
    rw [set_cell_ne' (hl b off e).2]
    exact hc i hi
  have ho2 : (w1.setCell ⟨tb, 4, none⟩ (.slice (some ⟨g', 0, none⟩) (s.length + 1) c')).ownsRow base 3 1 (.slice (some ⟨g', 0, none⟩) (s.length + 1) c') (s.length + 1) (intCells (s ++ [(n : Int)])) := own_blk hown1 (fun k e => Below.heap_setCell _ _ _ _ (by have := (hown1.lt k e).1; show k ≠ tb; omega))
  have ht1 := hr1.lt
  have HR2 := hide hr2
  have HX2 := hide hx2
  have HO2 := hide ho2
  have HK2 := hide hk2
  clear hr1 hx1 hr2 hx2 ho2 hk1 hk2 hgr hown1 HR HX HO c4 f4
  simp only [toldF, if_pos] at k4
  go_wp2_with (at_builtin; refine wpList_join_ints rfl _ _ rfl base _ (s.length + 1) (s ++ [(n : Int)]) rfl HO2.out la n lc rfl xs HX2.out (by omega) (by have := HK2.out.size; omega) ?_)
  intro v3 w3 hown3 hgr3
  have hsz2 := HK2.out.size
  have hk3 : Keep1 base tb w w3 := HK2.out.trans (Keep1.grown hgr3 (by omega) (fun k e => (HO2.out.lt k e).1))
  have ht2 := HR2.out.lt
  have hr3 : w3.rowIs tb 44 5 (toldF o (.slice (some ⟨g', 0, none⟩) (s.length + 1) c')) := (HR2.out.of_block (hgr3.block tb ht2 (fun e => by have := (HO2.out.lt tb e.symm).1; omega))).congr (by
    intro i hi
    by_cases e : i = 4
    · subst e; simp [toldF]
    · simp [toldF, e])
  have k4' := hr3.cell (show 4 < 5 by decide)
  have l4' := hr3.frozen 4
  have ht3 := hr3.lt
  simp only [toldF, if_pos] at k4'
  have hvv : ∃ oa' n' oc', v3 = .slice oa' n' oc' := by
    rcases hown3.2 with ⟨rfl, h0⟩ | ⟨g, cap, cur, rfl, _⟩
    · exact ⟨none, _, _, rfl⟩
    · exact ⟨_, _, _, rfl⟩
  obtain ⟨oa3, on3, oc3, rfl⟩ := hvv
  have HF : Hid (ToldAt (w3.setCell ⟨tb, 4, none⟩ (.slice oa3 on3 oc3)) tb base o (s ++ (n : Int) :: xs)) := by
    refine ⟨htb, .slice oa3 on3 oc3, (hr3.set 4 _).congr ?_, ?_⟩
    · intro i hi
      by_cases e : i = 4
      · subst e; simp [toldF]
      · simp [toldF, e]
    · have hl3 : (s ++ (n : Int) :: xs).length = s.length + 1 + n := by simp [hL.out]; omega
      rw [hl3]
      exact own_blk hown3 (fun k e => Below.heap_setCell _ _ _ _ (by have := (hown3.lt k e).1; show k ≠ tb; omega))
  have HK := hide (hk3.trans (Keep1.set base tb 4 w3 (.slice oa3 on3 oc3)))
  clear hr3 hk3 hgr3 hown3 HR2 HX2 HO2 HK2 k4 l4 m4
  go_wp2
  go_end0
  exact ⟨rfl, HF.out, HK.out⟩
end Go.Proofs.YtnbccoflcoaoaaaGreat
