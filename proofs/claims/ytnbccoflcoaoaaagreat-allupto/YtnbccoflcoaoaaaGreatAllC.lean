import Derived.Test.YtnbccoflcoaoaaaGreatAllB
namespace Go.Proofs.YtnbccoflcoaoaaaGreat
open Go.RowKit Go.Deep
set_option linter.unusedSimpArgs false
set_option linter.unusedVariables false

/-! ### net -/
theorem own_blk {w w' : World} {base : Nat} {e : TypeId} {size : Nat} {v : Value} {n : Nat} {xs : List Value} (h : w.ownsRow base e size v n xs) (hb : ∀ k, v.ownBlock = some k → w'.heap[k]? = w.heap[k]?) : w'.ownsRow base e size v n xs := by
  refine ⟨h.1, h.2.imp id ?_⟩
  rintro ⟨g, cap, cur, rfl, a, b, r⟩
  exact ⟨g, cap, cur, rfl, a, (hb g rfl).trans b, r⟩

theorem arcCells_app (l r : List A5) : arcCells (l ++ r) = arcCells l ++ arcCells r := by
  induction l with
  | nil => simp [arcCells]
  | cons b t ih => simp only [List.cons_append, arcCells, ih, List.append_assoc]

theorem wpList_copy_arcs_own {w : World} {ops : Array Oper} {rest : List Oper} {o : Oper} {a : Act} {Q : Exit → Act → World → Prop} (hgd : o.guard = none) (s x : Operand)
    (ho : o.op = .call { callee := .builtin .append, args := #[s, x], argTypes := #[46, 46] })
    (hs : a.eval s = .slice none 0 0) (sa : Option Addr) (m c : Nat) (hx : a.eval x = .slice sa m c) (es : List A5) (hX : Arcs w sa m es)
    (h : ∀ a' c' w', w'.ownsRow w.heap.size 67 5 (.slice a' m c') m (arcCells es) → Below w.heap.size w w' → wpList Tryz.prog ops Q rest (a.put o.dst (.slice a' m c')) w') : wpList Tryz.prog ops Q (o :: rest) a w := by
  obtain ⟨i0, hi, hz0, hz1, hz2⟩ := info_parts infoArc
  have hsm := hX.small
  refine wpList_append_copy w hgd s x 46 ho 67 i0 _ 5 40 Tryz.underlying46 hi hz0 hz1 hz2 rfl (by decide) hs sa m c hx (arcCells es) (by rw [arcCells_length, hX.len]) hX.src (arcCells_one es) (by unfold maxLen; omega) (by omega) ?_
  intro v' w' hown hgr
  obtain ⟨a', c', rfl, hI, hF⟩ := arcs_of_own hown hX.len hsm hX.wf
  exact h a' c' w' hown ((Below.refl _ _).grown hgr (Nat.le_refl _) (fun k hk => by cases hk))

set_option maxHeartbeats 1000000 in
theorem refCopy_own (sa aa : Option Addr) (sn sc an ac : Nat) (xs : List Int) (es : List A5) (w : World) (hx : Ints w sa sn xs) (he : Arcs w aa an es) :
    Calls Tryz.prog 27 #[.agg #[.slice sa sn sc, .slice aa an ac]] w fun e w' => ∃ sa' sc' aa' ac', e = .returned (.agg #[.slice sa' sn sc', .slice aa' an ac']) ∧ w'.ownsRow w.heap.size 67 5 (.slice aa' an ac') an (arcCells es) ∧ Below w.heap.size w w' := by
  go_enter Tryz.func27, Tryz.ntmps27
  go_wp2_with (at_builtin; refine wpList_copy_ints rfl _ _ rfl rfl sa sn sc rfl xs (hx.below ?_) ?_)
  · exact (((Below.refl _ _).alloc (Nat.le_refl _) _).alloc (by simp) _).alloc (by simp; omega) _
  intro sa' sc' w1 hI hF hb
  have hz1 : w.heap.size + 1 + 1 < w1.heap.size := by have := hb.size; simp at this; omega
  have c0 : w1.cell? ⟨w.heap.size, 0, none⟩ = some (.slice sa sn sc) := (hb.cell (by simp; omega)).trans (by go_simp)
  have c1 : w1.cell? ⟨w.heap.size, 1, none⟩ = some (.slice aa an ac) := (hb.cell (by simp; omega)).trans (by go_simp)
  have r0 : w1.cell? ⟨w.heap.size + 1, 0, none⟩ = some (.slice none 0 0) := (hb.cell (by simp)).trans (by go_simp)
  have r1 : w1.cell? ⟨w.heap.size + 1, 1, none⟩ = some (.slice none 0 0) := (hb.cell (by simp)).trans (by go_simp)
  have d0 : w1.cell? ⟨w.heap.size + 1 + 1, 0, none⟩ = some (.slice none 0 0) := (hb.cell (by simp)).trans (by go_simp)
  have d1 : w1.cell? ⟨w.heap.size + 1 + 1, 1, none⟩ = some (.slice none 0 0) := (hb.cell (by simp)).trans (by go_simp)
  have f0 : w1.frozen? ⟨w.heap.size + 1, 0, none⟩ = false := (hb.frozen (by simp)).trans (by go_simp)
  have f1 : w1.frozen? ⟨w.heap.size + 1, 1, none⟩ = false := (hb.frozen (by simp)).trans (by go_simp)
  have g0 : w1.frozen? ⟨w.heap.size + 1 + 1, 0, none⟩ = false := (hb.frozen (by simp)).trans (by go_simp)
  have g1 : w1.frozen? ⟨w.heap.size + 1 + 1, 1, none⟩ = false := (hb.frozen (by simp)).trans (by go_simp)
  have hb1 : Below w.heap.size w w1 := by
    refine Below.trans ?_ (hb.mono ?_)
    · exact (((Below.refl _ _).alloc (Nat.le_refl _) _).alloc (by simp) _).alloc (by simp; omega) _
    · omega
  have hF1 : Fresh (w.heap.size + 1 + 1 + 1) sn sa' := hF
  clear hF hb hx
  go_wp2_with (at_builtin; refine wpList_copy_arcs_own rfl _ _ rfl rfl aa an ac rfl es (he.below ?_) ?_)
  · exact hb1.setCell (by show w.heap.size ≤ w.heap.size + 1 + 1; omega) _
  intro aa' ac' w2 hA hb2
  have hz2 : w1.heap.size ≤ w2.heap.size := by have := hb2.size; simpa using this
  have r0' : w2.cell? ⟨w.heap.size + 1, 0, none⟩ = some (.slice none 0 0) := (hb2.cell (by simp; omega)).trans (by go_simp)
  have r1' : w2.cell? ⟨w.heap.size + 1, 1, none⟩ = some (.slice none 0 0) := (hb2.cell (by simp; omega)).trans (by go_simp)
  have d0' : w2.cell? ⟨w.heap.size + 1 + 1, 0, none⟩ = some (.slice sa' sn sc') := (hb2.cell (by simp; omega)).trans (by go_simp)
  have d1' : w2.cell? ⟨w.heap.size + 1 + 1, 1, none⟩ = some (.slice none 0 0) := (hb2.cell (by simp; omega)).trans (by go_simp)
  have f0' : w2.frozen? ⟨w.heap.size + 1, 0, none⟩ = false := (hb2.frozen (by simp; omega)).trans (by go_simp)
  have f1' : w2.frozen? ⟨w.heap.size + 1, 1, none⟩ = false := (hb2.frozen (by simp; omega)).trans (by go_simp)
  have g1' : w2.frozen? ⟨w.heap.size + 1 + 1, 1, none⟩ = false := (hb2.frozen (by simp; omega)).trans (by go_simp)
  have hb3 : Below w.heap.size w w2 := (hb1.setCell (by show w.heap.size ≤ w.heap.size + 1 + 1; omega) _).trans (hb2.mono (by omega))
  clear c0 c1 r0 r1 d0 d1 f0 f1 g0 g1 hb2 hI hb1 he
  go_wp2
  have q0 : ((w2.setCell ⟨w.heap.size + 1 + 1, 1, none⟩ (Value.slice aa' an ac')).setCell ⟨w.heap.size + 1, 0, none⟩ (Value.slice sa' sn sc')).cell? ⟨w.heap.size + 1, 0, none⟩ = some (.slice sa' sn sc') := by go_simp
  have q1 : (((w2.setCell ⟨w.heap.size + 1 + 1, 1, none⟩ (Value.slice aa' an ac')).setCell ⟨w.heap.size + 1, 0, none⟩ (Value.slice sa' sn sc')).setCell ⟨w.heap.size + 1, 1, none⟩ (Value.slice aa' an ac')).cell? ⟨w.heap.size + 1, 1, none⟩ = some (.slice aa' an ac') := by go_simp
  refine bodyPost_ret (v := .agg #[.slice sa' sn sc', .slice aa' an ac']) (by simp [results, Tryz.results27, go_sem, q0, q1]) rfl ⟨sa', sc', aa', ac', rfl, ?_, ?_⟩
  · refine ownsRow_mono (base := w1.heap.size) (own_blk (by simpa using hA) ?_) (by omega)
    intro k hk
    have h1 := (hA.lt k hk).1
    rw [Below.heap_setCell _ _ _ _ (by show k ≠ w.heap.size + 1; omega), Below.heap_setCell _ _ _ _ (by show k ≠ w.heap.size + 1; omega), Below.heap_setCell _ _ _ _ (by show k ≠ w.heap.size + 1 + 1; omega)]
  · exact ((hb3.setCell (by show w.heap.size ≤ w.heap.size + 1 + 1; omega) _).setCell (by show w.heap.size ≤ w.heap.size + 1; omega) _).setCell (by show w.heap.size ≤ w.heap.size + 1; omega) _

/-- Arcs as All hands them in. -/
def farA : A5 := ⟨-3000000, 0, 0, 0, 0⟩
def RoomyA (w : World) (base : Nat) (v : Value) (es : List A5) : Prop := ∃ g cap, v = .slice (some ⟨g, 0, none⟩) es.length cap ∧ w.ownsRow base 67 5 (.slice (some ⟨g, 0, none⟩) (es.length + 2) cap) (es.length + 2) (arcCells (es ++ [farA, farA]))

set_option maxHeartbeats 1000000 in
theorem aNet_any (sa aa : Option Addr) (sn sc an ac : Nat) (xs : List Int) (es : List A5) (w : World) (hx : Ints w sa sn xs) (he : Arcs w aa an es) (hs : sn + 2 ≤ 17592186044416) (ha : an + 2 ≤ 3518437208883) :
    Calls Tryz.prog 11 #[.agg #[.slice sa sn sc, .slice aa an ac]] w fun e w' => ∃ sv av, e = .returned (.agg #[sv, av]) ∧ Roomy w' w.heap.size sv xs ∧ RoomyA w' w.heap.size av es ∧ Below w.heap.size w w' := by
  have hL : Hid (es.length = an) := he.len
  have hb0 : Below w.heap.size w ((w.alloc (.cells #[.slice sa sn sc, .slice aa an ac] 48)).alloc (.cells #[.slice none 0 0, .slice none 0 0] 48)) := ((Below.refl _ _).alloc (Nat.le_refl _) _).alloc (by simp) _
  have HX := hide hx
  have HE := hide he
  clear hx he
  go_enter Tryz.func11, Tryz.ntmps11
  go_wp2_with fail
  refine (refCopy_own sa aa sn sc an ac xs es _ (HX.out.below hb0) (HE.out.below hb0)).mono ?_
  rintro e w1 ⟨sa', sc', aa', ac', rfl, hown, hb⟩
  have c0 : w1.cell? ⟨w.heap.size, 0, none⟩ = some (.slice sa sn sc) := (hb.cell (by simp; omega)).trans (by go_simp)
  have c1 : w1.cell? ⟨w.heap.size, 1, none⟩ = some (.slice aa an ac) := (hb.cell (by simp; omega)).trans (by go_simp)
  have r0 : w1.cell? ⟨w.heap.size + 1, 0, none⟩ = some (.slice none 0 0) := (hb.cell (by simp)).trans (by go_simp)
  have r1 : w1.cell? ⟨w.heap.size + 1, 1, none⟩ = some (.slice none 0 0) := (hb.cell (by simp)).trans (by go_simp)
  have f0 : w1.frozen? ⟨w.heap.size + 1, 0, none⟩ = false := (hb.frozen (by simp)).trans (by go_simp)
  have f1 : w1.frozen? ⟨w.heap.size + 1, 1, none⟩ = false := (hb.frozen (by simp)).trans (by go_simp)
  have hz1 : w.heap.size + 1 < w1.heap.size := by have := hb.size; simp at this; omega
  have hz0 : w.heap.size < w1.heap.size := by omega
  have hb1 : Below w.heap.size w w1 := hb0.trans (hb.mono (by simp; omega))
  have HO := hide hown
  clear hb hb0 hown
  go_wp2_with fail
  have hb2 : Below w.heap.size w (w1.alloc (.cells #[.slice sa' sn sc', .slice aa' an ac'] 48)) := hb1.alloc (by omega) _
  refine (aRoomy_any sa sn sc xs _ (HX.out.below hb2) hs).mono ?_
  rintro e w2 ⟨sv, rfl, hroom, hb⟩
  have c0' : w2.cell? ⟨w.heap.size, 0, none⟩ = some (.slice sa sn sc) := (hb.cell (by simp; omega)).trans (by go_simp)
  have c1' : w2.cell? ⟨w.heap.size, 1, none⟩ = some (.slice aa an ac) := (hb.cell (by simp; omega)).trans (by go_simp)
  have r0' : w2.cell? ⟨w.heap.size + 1, 0, none⟩ = some (.slice none 0 0) := (hb.cell (by simp; omega)).trans (by go_simp)
  have r1' : w2.cell? ⟨w.heap.size + 1, 1, none⟩ = some (.slice none 0 0) := (hb.cell (by simp; omega)).trans (by go_simp)
  have f0' : w2.frozen? ⟨w.heap.size + 1, 0, none⟩ = false := (hb.frozen (by simp; omega)).trans (by go_simp)
  have f1' : w2.frozen? ⟨w.heap.size + 1, 1, none⟩ = false := (hb.frozen (by simp; omega)).trans (by go_simp)
  have d0 : w2.cell? ⟨w1.heap.size, 0, none⟩ = some (.slice sa' sn sc') := (hb.cell (by simp)).trans (by go_simp)
  have d1 : w2.cell? ⟨w1.heap.size, 1, none⟩ = some (.slice aa' an ac') := (hb.cell (by simp)).trans (by go_simp)
  have g0 : w2.frozen? ⟨w1.heap.size, 0, none⟩ = false := (hb.frozen (by simp)).trans (by go_simp)
  have g1 : w2.frozen? ⟨w1.heap.size, 1, none⟩ = false := (hb.frozen (by simp)).trans (by go_simp)
  have hz2 : w1.heap.size < w2.heap.size := by have := hb.size; simp at this; omega
  have hb3 : Below w.heap.size w w2 := hb2.trans (hb.mono (by simp; omega))
  have HT : Hid (w2.rowIs w1.heap.size 48 2 (fun i => (#[Value.slice sa' sn sc', Value.slice aa' an ac'] : Array Value).getD i undef)) := by
    refine ⟨#[.slice sa' sn sc', .slice aa' an ac'], (hb.block _ (by simp)).trans (heap_alloc_new _ _), rfl, ?_⟩
    intro i hi
    match i, hi with
    | 0, _ => rfl
    | 1, _ => rfl
  have HK : Hid (∀ k, (Value.slice aa' an ac').ownBlock = some k → k < w1.heap.size) := fun k hk => (HO.out.lt k hk).2
  have HO2 : Hid (w2.ownsRow (w.heap.size + 1 + 1) 67 5 (.slice aa' an ac') an (arcCells es)) := by
    refine own_blk (w := w1) (by simpa using HO.out) ?_
    intro k hk
    have h1 := (HO.out.lt k hk).2
    rw [hb.block k (by simp; omega)]
    exact (World.grownBy_alloc _ _ none).block k h1 (by simp)
  obtain ⟨gs, gc, rfl, hrown⟩ := hroom
  have hgs := hrown.lt gs rfl
  simp at hgs
  have HR := hide hrown
  clear hb hrown c0 c1 r0 r1 f0 f1 hb1 hb2 HO
  have HA : Hid ((w2.setCell ⟨w1.heap.size, 0, none⟩ (.slice (some ⟨gs, 0, none⟩) xs.length gc)).ownsRow (w.heap.size + 1 + 1) 67 5 (.slice aa' an ac') an (arcCells es)) := by
    refine own_blk HO2.out ?_
    intro k hk
    exact Below.heap_setCell _ _ _ _ (by have := HK.out k hk; show k ≠ w1.heap.size; omega)
  obtain ⟨i0, hi, hz3, hz4, hz5⟩ := info_parts infoArc
  go_wp2_with (at_builtin; refine wpList_append_own _ rfl _ _ 46 rfl (w.heap.size + 1 + 1) 67 i0 _ 5 40 Tryz.underlying46 hi hz3 hz4 hz5 rfl (by decide) (.slice aa' an ac') an (arcCells es) rfl (HA.out.alloc _) ⟨w2.heap.size, 0, none⟩ 2 2 (arcCells [farA, farA]) rfl rfl ?_ (arcCells_one _) (by unfold maxLen; omega) (by omega) (by simp; omega) ?_)
  · intro j u hj
    match j, hj with
    | 0, hj => simp [arcCells, A5.cells, farA] at hj; subst hj; go_simp
    | 1, hj => simp [arcCells, A5.cells, farA] at hj; subst hj; go_simp
    | 2, hj => simp [arcCells, A5.cells, farA] at hj; subst hj; go_simp
    | 3, hj => simp [arcCells, A5.cells, farA] at hj; subst hj; go_simp
    | 4, hj => simp [arcCells, A5.cells, farA] at hj; subst hj; go_simp
    | 5, hj => simp [arcCells, A5.cells, farA] at hj; subst hj; go_simp
    | 6, hj => simp [arcCells, A5.cells, farA] at hj; subst hj; go_simp
    | 7, hj => simp [arcCells, A5.cells, farA] at hj; subst hj; go_simp
    | 8, hj => simp [arcCells, A5.cells, farA] at hj; subst hj; go_simp
    | 9, hj => simp [arcCells, A5.cells, farA] at hj; subst hj; go_simp
    | j + 10, hj => simp [arcCells, A5.cells, farA] at hj
  intro v' w3 hown3 hgr _
  have hk3 : ∀ k, k < w2.heap.size → (k < w.heap.size + 1 + 1 ∨ w1.heap.size ≤ k) → w3.heap[k]? = (w2.setCell ⟨w1.heap.size, 0, none⟩ (.slice (some ⟨gs, 0, none⟩) xs.length gc)).heap[k]? := by
    intro k h1 h2
    rw [hgr.block k (by simp; omega) (fun e => by have a1 := HK.out k e.symm; have a2 := (HO2.out.lt k e.symm).1; omega)]
    exact (World.grownBy_alloc _ _ none).block k (by simpa using h1) (by simp)
  have hz6 : w2.heap.size < w3.heap.size := by have := hgr.size; simp at this; omega
  have e0 : w3.cell? ⟨w.heap.size, 0, none⟩ = some (.slice sa sn sc) := (World.cell?_of_block (hk3 (w.heap.size) (by omega) (by omega))).trans (by go_simp)
  have e1 : w3.cell? ⟨w.heap.size, 1, none⟩ = some (.slice aa an ac) := (World.cell?_of_block (hk3 (w.heap.size) (by omega) (by omega))).trans (by go_simp)
  have r0'' : w3.cell? ⟨w.heap.size + 1, 0, none⟩ = some (.slice none 0 0) := (World.cell?_of_block (hk3 (w.heap.size + 1) (by omega) (by omega))).trans (by go_simp)
  have r1'' : w3.cell? ⟨w.heap.size + 1, 1, none⟩ = some (.slice none 0 0) := (World.cell?_of_block (hk3 (w.heap.size + 1) (by omega) (by omega))).trans (by go_simp)
  have f0'' : w3.frozen? ⟨w.heap.size + 1, 0, none⟩ = false := (World.frozen?_of_block (hk3 (w.heap.size + 1) (by omega) (by omega))).trans (by go_simp)
  have f1'' : w3.frozen? ⟨w.heap.size + 1, 1, none⟩ = false := (World.frozen?_of_block (hk3 (w.heap.size + 1) (by omega) (by omega))).trans (by go_simp)
  have d0' : w3.cell? ⟨w1.heap.size, 0, none⟩ = some (.slice (some ⟨gs, 0, none⟩) xs.length gc) := (World.cell?_of_block (hk3 (w1.heap.size) (by omega) (by omega))).trans (by go_simp)
  have d1' : w3.cell? ⟨w1.heap.size, 1, none⟩ = some (.slice aa' an ac') := (World.cell?_of_block (hk3 (w1.heap.size) (by omega) (by omega))).trans (by go_simp)
  have g1' : w3.frozen? ⟨w1.heap.size, 1, none⟩ = false := (World.frozen?_of_block (hk3 (w1.heap.size) (by omega) (by omega))).trans (by go_simp)
  have HT3 := hide ((HT.out.set 0 (.slice (some ⟨gs, 0, none⟩) xs.length gc)).of_block (hk3 _ (by omega) (by omega)))
  have HS3 : Hid (w3.ownsRow w.heap.size 3 1 (.slice (some ⟨gs, 0, none⟩) (xs.length + 2) gc) (xs.length + 2) (intCells (xs ++ [-3000000, -3000000]))) := by
    refine ownsRow_mono (own_blk HR.out ?_) (by simp; omega)
    intro k hk
    have : k = gs := by simpa [Value.ownBlock] using hk.symm
    subst this
    rw [hk3 _ (by omega) (by omega)]
    exact Below.heap_setCell _ _ _ _ (by show k ≠ w1.heap.size; omega)
  have HB3 : Hid (Below w.heap.size w w3) := by
    refine ((hb3.setCell (by show w.heap.size ≤ w1.heap.size; omega) _).alloc (by simp; omega) _).grown hgr (by simp; omega) ?_
    intro k hk
    have := (HO2.out.lt k hk).1
    omega
  rcases hown3.2 with ⟨_, h0⟩ | ⟨ga, capA, cur, rfl, ha1, ha2, ha3, ha4, ha5, ha6⟩
  · omega
  have hga : Hid (ga ≠ w1.heap.size) := by
    intro e
    obtain ⟨c, hc, _⟩ := HT3.out
    rw [← e, ha2] at hc
    simp at hc
  have hca : (an : Int) ≤ (capA : Int) := by omega
  have HO3 := hide hown3
  clear hgr hown3 hk3 hi hz3 hz4 hz5 ha2 ha5 ha6 c0' c1' r0' r1' f0' f1' d0 d1 g0 g1 hb3 HT HT3 HA HO2 HR
  go_wp2
  have hk : ∀ k, k ≠ w1.heap.size → k ≠ w.heap.size + 1 → ((((w3.setCell ⟨w1.heap.size, 1, none⟩ (.slice (some ⟨ga, 0, none⟩) (an + 2) capA)).setCell ⟨w1.heap.size, 1, none⟩ (.slice (some ⟨ga, 0, none⟩) an capA)).setCell ⟨w.heap.size + 1, 0, none⟩ (.slice (some ⟨gs, 0, none⟩) xs.length gc)).setCell ⟨w.heap.size + 1, 1, none⟩ (.slice (some ⟨ga, 0, none⟩) an capA)).heap[k]? = w3.heap[k]? := by
    intro k h1 h2
    rw [Below.heap_setCell _ _ _ _ h2, Below.heap_setCell _ _ _ _ h2, Below.heap_setCell _ _ _ _ h1, Below.heap_setCell _ _ _ _ h1]
  have q0 : (((w3.setCell ⟨w1.heap.size, 1, none⟩ (.slice (some ⟨ga, 0, none⟩) (an + 2) capA)).setCell ⟨w1.heap.size, 1, none⟩ (.slice (some ⟨ga, 0, none⟩) an capA)).setCell ⟨w.heap.size + 1, 0, none⟩ (.slice (some ⟨gs, 0, none⟩) xs.length gc)).cell? ⟨w.heap.size + 1, 0, none⟩ = some (.slice (some ⟨gs, 0, none⟩) xs.length gc) := by go_simp
  have q1 : ((((w3.setCell ⟨w1.heap.size, 1, none⟩ (.slice (some ⟨ga, 0, none⟩) (an + 2) capA)).setCell ⟨w1.heap.size, 1, none⟩ (.slice (some ⟨ga, 0, none⟩) an capA)).setCell ⟨w.heap.size + 1, 0, none⟩ (.slice (some ⟨gs, 0, none⟩) xs.length gc)).setCell ⟨w.heap.size + 1, 1, none⟩ (.slice (some ⟨ga, 0, none⟩) an capA)).cell? ⟨w.heap.size + 1, 1, none⟩ = some (.slice (some ⟨ga, 0, none⟩) an capA) := by go_simp
  refine bodyPost_ret (v := .agg #[.slice (some ⟨gs, 0, none⟩) xs.length gc, .slice (some ⟨ga, 0, none⟩) an capA]) (by simp [results, Tryz.results11, go_sem, q0, q1]) rfl ⟨_, _, rfl, ⟨gs, gc, rfl, own_blk HS3.out ?_⟩, ⟨ga, capA, by rw [hL.out], ?_⟩, ?_⟩
  · intro k hk'
    have : k = gs := by simpa [Value.ownBlock] using hk'.symm
    subst this
    exact hk _ (by omega) (by omega)
  · rw [hL.out]
    refine ownsRow_mono (own_blk (by simpa [arcCells_app] using HO3.out) ?_) (by omega)
    intro k hk'
    have : k = ga := by simpa [Value.ownBlock] using hk'.symm
    subst this
    exact hk _ hga.out (by omega)
  · exact (((HB3.out.setCell (by show w.heap.size ≤ w1.heap.size; omega) _).setCell (by show w.heap.size ≤ w1.heap.size; omega) _).setCell (by show w.heap.size ≤ w.heap.size + 1; omega) _).setCell (by show w.heap.size ≤ w.heap.size + 1; omega) _
end Go.Proofs.YtnbccoflcoaoaaaGreat
