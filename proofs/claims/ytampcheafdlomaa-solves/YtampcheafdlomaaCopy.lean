import Derived.Test.YtampcheafdlomaaApp
namespace Go.Proofs.Ytampcheafdlomaa
open Go.RowKit
set_option linter.unusedSimpArgs false
set_option linter.unusedVariables false

theorem infoInt : (Try.prog.info? 3).map (fun i => (i.zero, i.size, i.bytes)) = some (some (.int .i64 0), 1, 8) := by kernel_rfl
theorem infoArc : (Try.prog.info? 54).map (fun i => (i.zero, i.size, i.bytes)) = some (some (.agg #[.int .i64 0, .int .i64 0, .int .i64 0, .int .i64 0, .int .i64 0]), 5, 40) := by kernel_rfl

theorem intCells_length (xs : List Int) : (intCells xs).length = xs.length := by simp [intCells]
theorem intCells_one (xs : List Int) : ∀ u ∈ intCells xs, u.oneCell' = true := by
  intro u hu; simp only [intCells, List.mem_map] at hu; obtain ⟨x, _, rfl⟩ := hu; rfl

/-- In the walk: append(nil, l...) of ints that lie there. -/
theorem wpList_copy_ints {w : World} {ops : Array Oper} {rest : List Oper} {o : Oper} {a : Act} {Q : Exit → Act → World → Prop} (hgd : o.guard = none) (s x : Operand)
    (ho : o.op = .call { callee := .builtin .append, args := #[s, x], argTypes := #[22, 22] })
    (hs : a.eval s = .slice none 0 0) (sa : Option Addr) (m c : Nat) (hx : a.eval x = .slice sa m c) (xs : List Int) (hX : Ints w sa m xs)
    (h : ∀ a' c' w', Ints w' a' m xs → Fresh w.heap.size m a' → Below w.heap.size w w' → wpList Try.prog ops Q rest (a.put o.dst (.slice a' m c')) w') : wpList Try.prog ops Q (o :: rest) a w := by
  obtain ⟨i0, hi, hz0, hz1, hz2⟩ := info_parts infoInt
  have hsm := hX.small
  refine wpList_append_copy w hgd s x 22 ho 3 i0 _ 1 8 Try.underlying22 hi hz0 hz1 hz2 rfl (by decide) hs sa m c hx (intCells xs) (by rw [intCells_length, hX.len]; omega) hX.src (intCells_one xs) (by unfold maxLen; omega) (by omega) ?_
  intro v' w' hown hgr
  obtain ⟨a', c', rfl, hI, hF⟩ := ints_of_own hown hX.len hsm hX.wf
  exact h a' c' w' hI hF ((Below.refl _ _).grown hgr (Nat.le_refl _) (fun k hk => by cases hk))

theorem wpList_copy_arcs {w : World} {ops : Array Oper} {rest : List Oper} {o : Oper} {a : Act} {Q : Exit → Act → World → Prop} (hgd : o.guard = none) (s x : Operand)
    (ho : o.op = .call { callee := .builtin .append, args := #[s, x], argTypes := #[23, 23] })
    (hs : a.eval s = .slice none 0 0) (sa : Option Addr) (m c : Nat) (hx : a.eval x = .slice sa m c) (es : List A5) (hX : Arcs w sa m es)
    (h : ∀ a' c' w', Arcs w' a' m es → Fresh w.heap.size m a' → Below w.heap.size w w' → wpList Try.prog ops Q rest (a.put o.dst (.slice a' m c')) w') : wpList Try.prog ops Q (o :: rest) a w := by
  obtain ⟨i0, hi, hz0, hz1, hz2⟩ := info_parts infoArc
  have hsm := hX.small
  refine wpList_append_copy w hgd s x 23 ho 54 i0 _ 5 40 Try.underlying23 hi hz0 hz1 hz2 rfl (by decide) hs sa m c hx (arcCells es) (by rw [arcCells_length, hX.len]) hX.src (arcCells_one es) (by unfold maxLen; omega) (by omega) ?_
  intro v' w' hown hgr
  obtain ⟨a', c', rfl, hI, hF⟩ := arcs_of_own hown hX.len hsm hX.wf
  exact h a' c' w' hI hF ((Below.refl _ _).grown hgr (Nat.le_refl _) (fun k hk => by cases hk))

set_option maxHeartbeats 1000000 in
theorem refCopy_any (sa aa : Option Addr) (sn sc an ac : Nat) (xs : List Int) (es : List A5) (w : World) (hx : Ints w sa sn xs) (he : Arcs w aa an es) :
    Calls Try.prog 13 #[.agg #[.slice sa sn sc, .slice aa an ac]] w fun e w' => ∃ sa' sc' aa' ac', e = .returned (.agg #[.slice sa' sn sc', .slice aa' an ac']) ∧ Ints w' sa' sn xs ∧ Arcs w' aa' an es ∧ Fresh w.heap.size sn sa' ∧ Fresh w.heap.size an aa' ∧ Below w.heap.size w w' := by
  go_enter Try.func13, Try.ntmps13
  go_wp2_with (at_builtin; refine wpList_copy_ints rfl _ _ rfl rfl sa sn sc rfl xs (hx.below ?_) ?_)
  · exact (((Below.refl _ _).alloc (Nat.le_refl _) _).alloc (by simp) _).alloc (by simp; omega) _
  intro sa' sc' w1 hI hF hb
  have hz1 : w.heap.size + 1 + 1 < w1.heap.size := by have := hb.size; simp at this; omega
  have c0 : w1.cell? ⟨w.heap.size, 0, none⟩ = some (.slice sa sn sc) := (hb.cell (by simp; omega)).trans (by go_simp)
  have c1 : w1.cell? ⟨w.heap.size, 1, none⟩ = some (.slice aa an ac) := (hb.cell (by simp; omega)).trans (by go_simp)
  have r0 : w1.cell? ⟨w.heap.size + 1, 0, none⟩ = some (.slice none 0 0) := (hb.cell (by simp)).trans (by go_simp)
  have r1 : w1.cell? ⟨w.heap.size + 1, 1, none⟩ = some (.slice none 0 0) := (hb.cell (by simp)).trans (by go_simp)
  have d0 : w1.cell? ⟨w.heap.size + 1 + 1, 0, none⟩ = some (.slice none 0 0) := (hb.cell (by simp)).trans (by go_simp)
  have d1 : w1.cell? ⟨w.heap.size + 1 + 1, 1, none⟩ = some (.slice none 0 0) := (hb.cell (by simp)).trans (by go_simp)
  have f0 : w1.frozen? ⟨w.heap.size + 1, 0, none⟩ = false := (hb.frozen (by simp)).trans (by go_simp)
  have f1 : w1.frozen? ⟨w.heap.size + 1, 1, none⟩ = false := (hb.frozen (by simp)).trans (by go_simp)
  have g0 : w1.frozen? ⟨w.heap.size + 1 + 1, 0, none⟩ = false := (hb.frozen (by simp)).trans (by go_simp)
  have g1 : w1.frozen? ⟨w.heap.size + 1 + 1, 1, none⟩ = false := (hb.frozen (by simp)).trans (by go_simp)
  have hb1 : Below w.heap.size w w1 := by
    refine Below.trans ?_ (hb.mono ?_)
    · exact (((Below.refl _ _).alloc (Nat.le_refl _) _).alloc (by simp) _).alloc (by simp; omega) _
    · omega
  have hF1 : Fresh (w.heap.size + 1 + 1 + 1) sn sa' := hF
  clear hF hb hx
  go_wp2_with (at_builtin; refine wpList_copy_arcs rfl _ _ rfl rfl aa an ac rfl es (he.below ?_) ?_)
  · exact hb1.setCell (by show w.heap.size ≤ w.heap.size + 1 + 1; omega) _
  intro aa' ac' w2 hA hG hb2
  have hz2 : w1.heap.size ≤ w2.heap.size := by have := hb2.size; simpa using this
  have r0' : w2.cell? ⟨w.heap.size + 1, 0, none⟩ = some (.slice none 0 0) := (hb2.cell (by simp; omega)).trans (by go_simp)
  have r1' : w2.cell? ⟨w.heap.size + 1, 1, none⟩ = some (.slice none 0 0) := (hb2.cell (by simp; omega)).trans (by go_simp)
  have d0' : w2.cell? ⟨w.heap.size + 1 + 1, 0, none⟩ = some (.slice sa' sn sc') := (hb2.cell (by simp; omega)).trans (by go_simp)
  have d1' : w2.cell? ⟨w.heap.size + 1 + 1, 1, none⟩ = some (.slice none 0 0) := (hb2.cell (by simp; omega)).trans (by go_simp)
  have f0' : w2.frozen? ⟨w.heap.size + 1, 0, none⟩ = false := (hb2.frozen (by simp; omega)).trans (by go_simp)
  have f1' : w2.frozen? ⟨w.heap.size + 1, 1, none⟩ = false := (hb2.frozen (by simp; omega)).trans (by go_simp)
  have g1' : w2.frozen? ⟨w.heap.size + 1 + 1, 1, none⟩ = false := (hb2.frozen (by simp; omega)).trans (by go_simp)
  have hb3 : Below w.heap.size w w2 := (hb1.setCell (by show w.heap.size ≤ w.heap.size + 1 + 1; omega) _).trans (hb2.mono (by omega))
  have hI2 : Ints w2 sa' sn xs := hI.keep hF1 hz2 (fun b off hlo hlt => by
    rw [hb2.cell (p := ⟨b, off, none⟩) hlt]
    exact World.cell?_of_block (Below.heap_setCell _ _ _ _ (by show b ≠ w.heap.size + 1 + 1; omega)))
  clear c0 c1 r0 r1 d0 d1 f0 f1 g0 g1 hb2 hI hb1 he
  go_wp2
  have hk : ∀ b off, w.heap.size + 1 + 1 + 1 ≤ b → b < w2.heap.size → (((w2.setCell ⟨w.heap.size + 1 + 1, 1, none⟩ (Value.slice aa' an ac')).setCell ⟨w.heap.size + 1, 0, none⟩ (Value.slice sa' sn sc')).setCell ⟨w.heap.size + 1, 1, none⟩ (Value.slice aa' an ac')).cell? ⟨b, off, none⟩ = w2.cell? ⟨b, off, none⟩ := by
    intro b off hlo hlt
    refine World.cell?_of_block ?_
    rw [Below.heap_setCell _ _ _ _ (by show b ≠ w.heap.size + 1; omega), Below.heap_setCell _ _ _ _ (by show b ≠ w.heap.size + 1; omega), Below.heap_setCell _ _ _ _ (by show b ≠ w.heap.size + 1 + 1; omega)]
  have q0 : ((w2.setCell ⟨w.heap.size + 1 + 1, 1, none⟩ (Value.slice aa' an ac')).setCell ⟨w.heap.size + 1, 0, none⟩ (Value.slice sa' sn sc')).cell? ⟨w.heap.size + 1, 0, none⟩ = some (.slice sa' sn sc') := by go_simp
  have q1 : (((w2.setCell ⟨w.heap.size + 1 + 1, 1, none⟩ (Value.slice aa' an ac')).setCell ⟨w.heap.size + 1, 0, none⟩ (Value.slice sa' sn sc')).setCell ⟨w.heap.size + 1, 1, none⟩ (Value.slice aa' an ac')).cell? ⟨w.heap.size + 1, 1, none⟩ = some (.slice aa' an ac') := by go_simp
  refine bodyPost_ret (v := .agg #[.slice sa' sn sc', .slice aa' an ac']) (by simp [results, Try.results13, go_sem, q0, q1]) rfl ⟨sa', sc', aa', ac', rfl, ?_, ?_, ?_, ?_, ?_⟩
  · exact hI2.keep hF1 (by simp) hk
  · exact hA.keep (hG.imp id fun ⟨b, off, e, h⟩ => ⟨b, off, e, by omega⟩) (by simp) hk
  · exact hF1.imp id fun ⟨b, off, e, h⟩ => ⟨b, off, e, by omega⟩
  · exact hG.imp id fun ⟨b, off, e, h⟩ => ⟨b, off, e, by omega⟩
  · exact ((hb3.setCell (by show w.heap.size ≤ w.heap.size + 1 + 1; omega) _).setCell (by show w.heap.size ≤ w.heap.size + 1; omega) _).setCell (by show w.heap.size ≤ w.heap.size + 1; omega) _
end Go.Proofs.Ytampcheafdlomaa
