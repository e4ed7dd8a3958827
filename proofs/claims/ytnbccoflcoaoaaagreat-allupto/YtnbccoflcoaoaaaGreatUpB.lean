import Derived.Test.YtnbccoflcoaoaaaGreatRows
import Derived.Test.YtnbccoflcoaoaaaGreatGOpn
import Derived.Test.YtnbccoflcoaoaaaGreatTopB
namespace Go.Proofs.YtnbccoflcoaoaaaGreat
open Go.ChangeShapes Go.WideShapes Go.ChangeAt Go.RowKit Go.Deep
set_option linter.unusedSimpArgs false
set_option linter.unusedVariables false

/-! ### what came in, opened: all of it is small -/
set_option maxRecDepth 100000 in
theorem cellsIntsU : Tryz.prog.cellsOf 32 = 1 := by kernel_rfl
set_option maxRecDepth 100000 in
theorem cellsTableU : Tryz.prog.cellsOf 23 = 1 := by kernel_rfl
set_option maxRecDepth 100000 in
theorem cellsAnswerU : Tryz.prog.cellsOf 35 = 6 := by kernel_rfl
set_option maxRecDepth 100000 in
theorem cellsOpU : Tryz.prog.cellsOf 39 = 4 := by kernel_rfl
theorem cellsArcsU : Tryz.prog.cellsOf 46 = 1 := by kernel_rfl

section
variable {H : Type}
theorem blk_one (d : DataW H) : 1 ≤ Rows.uptoBulk d := by
  cases d with
  | lit l => cases l <;> simp [Rows.uptoBulk]
  | _ => simp [Rows.uptoBulk]
theorem blk_mem {d : DataW H} : ∀ {l : List (DataW H)}, d ∈ l → Rows.uptoBulk d ≤ Rows.uptoBulkAll l
  | x :: r, h => by
    simp only [Rows.uptoBulkAll]
    rcases List.mem_cons.1 h with rfl | h
    · omega
    · have := blk_mem h; omega
theorem blk_len : ∀ (l : List (DataW H)), l.length ≤ Rows.uptoBulkAll l
  | [] => by simp [Rows.uptoBulkAll]
  | x :: r => by
    have := blk_one x
    have := blk_len r
    simp only [Rows.uptoBulkAll, List.length_cons]
    omega
/-- Small: as the row says. -/
def Sm (d : DataW H) : Prop := Rows.uptoBulk d ≤ 1048576
theorem Sm.elem {es sp : List (DataW H)} (h : Sm (.slice es sp)) {d : DataW H} (hd : d ∈ es) : Sm d := by
  unfold Sm at *
  simp only [Rows.uptoBulk] at h
  have := blk_mem hd
  omega
theorem Sm.len {es sp : List (DataW H)} (h : Sm (.slice es sp)) : es.length ≤ 1048576 := by
  unfold Sm at *
  simp only [Rows.uptoBulk] at h
  have := blk_len es
  omega
theorem Sm.part {ps : List (DataW H)} (h : Sm (.agg ps)) {d : DataW H} (hd : d ∈ ps) : Sm d := by
  unfold Sm at *
  simp only [Rows.uptoBulk] at h
  have := blk_mem hd
  omega
variable {enc : TypeId × Value → H} {w : World}
set_option maxRecDepth 100000 in
/-- A slice that came in: where its elements lie, and what is known of each. -/
theorem open_sliceB {T E : TypeId} {z : Nat} (hT : Tryz.prog.underlying T = some (.slice E)) (hz : Tryz.prog.cellsOf E = z) (hz0 : 0 < z) (R : List Value → Prop)
    (op : ∀ {n : Nat} {cs : List Value} {d : DataW H} {ps : List MemPlace}, DataW.trod enc Tryz.prog w 0 (fun _ => true) true n E cs = some (d, ps) → Sm d → R cs)
    {fuel : Nat} {cs : List Value} {d : DataW H} {ps : List MemPlace} (h : DataW.trod enc Tryz.prog w 0 (fun _ => true) true fuel T cs = some (d, ps)) (hd : Sm d) :
    ∃ a len c, cs = [.slice a len c] ∧ len ≤ 1048576 ∧ len ≤ c ∧ (len = 0 ∨ ∃ b off, a = some ⟨b, off, none⟩ ∧ b < w.heap.size ∧ ∀ i, i < len → ∃ cs', cs'.length = z ∧ R cs' ∧ ∀ j, j < z → w.cell? ⟨b, off + i * z + j, none⟩ = cs'[j]?) := by
  rcases open_slice hT h with ⟨rfl, hx⟩ | ⟨a, len, cap, m, n, D, Pl, rfl, _, hl, hm, hmm, hx, hc⟩
  · exact ⟨none, 0, 0, rfl, by omega, by omega, .inl rfl⟩
  · simp only [Prod.mk.injEq] at hx
    obtain ⟨rfl, rfl⟩ := hx
    simp only [if_true] at hmm
    subst hmm
    refine ⟨some a, len, m, rfl, by have := hd.len; simpa using this, hl, ?_⟩
    by_cases h0 : len = 0
    · exact .inl h0
    · right
      have each : ∀ i, i < len → ∃ cs', cs'.length = z ∧ R cs' ∧ ∀ j, j < z → w.cell? (a.add (i * z + j)) = cs'[j]? := by
        intro i hi
        obtain ⟨cs', h1, h2⟩ := hc i (by omega)
        rw [hz] at h1
        obtain ⟨_, hlen, hcell⟩ := World.cells?_some h1
        refine ⟨cs', hlen, op h2 (hd.elem (List.mem_map.2 ⟨i, List.mem_range.2 hi, rfl⟩)), fun j hj => ?_⟩
        have := hcell j hj
        rw [add_add] at this
        exact this
      obtain ⟨b, off, spot⟩ := a
      obtain ⟨cs0, l0, _, hc0⟩ := each 0 (by omega)
      obtain ⟨x0, hx0⟩ : ∃ x, cs0[0]? = some x := ⟨cs0[0]'(by omega), List.getElem?_eq_getElem (by omega)⟩
      have hc00 := (hc0 0 hz0).trans hx0
      have hspot : spot = none := by simpa [Addr.add] using World.cell?_spot hc00
      subst hspot
      refine ⟨b, off, rfl, by simpa [Addr.add] using World.block_lt_of_cell? w _ hc00, fun i hi => ?_⟩
      obtain ⟨cs', l1, hR, hcl⟩ := each i hi
      refine ⟨cs', l1, hR, fun j hj => ?_⟩
      rw [← hcl j hj, Nat.add_assoc off]
      cases hij : i * z + j <;> simp [Addr.add]
def RInt (cs : List Value) : Prop := ∃ x, cs = [.int .i64 x] ∧ (-9223372036854775808 ≤ x ∧ x ≤ 9223372036854775807)
set_option maxRecDepth 100000 in
theorem op_int {n : Nat} {cs : List Value} {d : DataW H} {ps : List MemPlace} (h : DataW.trod enc Tryz.prog w 0 (fun _ => true) true n 3 cs = some (d, ps)) : RInt cs := by
  obtain ⟨x, e, _, hw⟩ := DataW.trod_int Tryz.underlying3 h
  exact ⟨x, e, bounds_i64 hw⟩
def RInts (w : World) (cs : List Value) : Prop := ∃ a xs c, cs = [.slice a xs.length c] ∧ Ints w a xs.length xs ∧ xs.length ≤ 2097152
theorem pick_fun {α : Type} (R : Nat → α → Prop) (dflt : α) (n : Nat) (h : ∀ i, i < n → ∃ x, R i x) : ∃ q : Nat → α, ∀ i, i < n → R i (q i) := by
  classical
  refine ⟨fun i => if hi : i < n then Classical.choose (h i hi) else dflt, fun i hi => ?_⟩
  simp only [dif_pos hi]
  exact Classical.choose_spec (h i hi)
set_option maxRecDepth 100000 in
theorem op_ints {n : Nat} {cs : List Value} {d : DataW H} {ps : List MemPlace} (h : DataW.trod enc Tryz.prog w 0 (fun _ => true) true n 32 cs = some (d, ps)) (hd : Sm d) : RInts w cs := by
  obtain ⟨a, len, c, rfl, hl, hlc, hc⟩ := open_sliceB Tryz.underlying32 cellsInt (by omega) RInt (fun h _ => op_int h) h hd
  rcases hc with rfl | ⟨b, off, rfl, hb, hc⟩
  · exact ⟨a, [], c, rfl, ⟨rfl, by simp, fun x hx => by simp at hx, .inl rfl⟩, by simp⟩
  · obtain ⟨q, hq⟩ := pick_fun (fun i (x : Int) => (-9223372036854775808 ≤ x ∧ x ≤ 9223372036854775807) ∧ w.cell? ⟨b, off + i, none⟩ = some (.int .i64 x)) 0 len (fun i hi => by
      obtain ⟨cs', _, ⟨x, rfl, hx⟩, h1⟩ := hc i hi
      have := h1 0 (by omega)
      rw [Nat.mul_one, Nat.add_zero] at this
      exact ⟨x, hx, this⟩)
    refine ⟨some ⟨b, off, none⟩, (List.range len).map q, c, by simp, ⟨rfl, by simp; omega, fun x hx => ?_, .inr ⟨b, off, rfl, hb, fun i hi => ?_⟩⟩, by simp; omega⟩
    · obtain ⟨i, hi, rfl⟩ := List.mem_map.1 hx
      exact (hq i (List.mem_range.1 hi)).1
    · simp only [List.length_map, List.length_range] at hi
      rw [(hq i hi).2]
      simp [List.getD, hi]
def RArc (cs : List Value) : Prop := ∃ q : A5, cs = [.int .i64 (q.at 0), .int .i64 (q.at 1), .int .i64 (q.at 2), .int .i64 (q.at 3), .int .i64 (q.at 4)] ∧ ∀ j, -9223372036854775808 ≤ q.at j ∧ q.at j ≤ 9223372036854775807
set_option maxRecDepth 100000 in
theorem op_arc {n : Nat} {cs : List Value} {d : DataW H} {ps : List MemPlace} (h : DataW.trod enc Tryz.prog w 0 (fun _ => true) true n 67 cs = some (d, ps)) : RArc cs := by
  obtain ⟨xs, k, hk, hxy, hlen, hxl, hf⟩ := DataW.trod_struct Tryz.underlying67 h
  rw [cellsArc] at hlen
  match xs, hxl, cs, hlen with
  | [y0, y1, y2, y3, y4], _, [v0, v1, v2, v3, v4], _ =>
    have g0 := hf 0 _ rfl
    have g1 := hf 1 _ rfl
    have g2 := hf 2 _ rfl
    have g3 := hf 3 _ rfl
    have g4 := hf 4 _ rfl
    simp [cellsInt] at g0 g1 g2 g3 g4
    obtain ⟨n0, e0, b0⟩ := op_int g0
    obtain ⟨n1, e1, b1⟩ := op_int g1
    obtain ⟨n2, e2, b2⟩ := op_int g2
    obtain ⟨n3, e3, b3⟩ := op_int g3
    obtain ⟨n4, e4, b4⟩ := op_int g4
    simp only [List.cons.injEq, and_true] at e0 e1 e2 e3 e4
    subst e0 e1 e2 e3 e4
    refine ⟨⟨n0, n1, n2, n3, n4⟩, rfl, fun j => ?_⟩
    match j with
    | 0 => exact b0
    | 1 => exact b1
    | 2 => exact b2
    | 3 => exact b3
    | j + 4 => exact b4
def RArcs (w : World) (cs : List Value) : Prop := ∃ a es c, cs = [.slice a es.length c] ∧ Arcs w a es.length es ∧ es.length ≤ 2097152
set_option maxRecDepth 100000 in
theorem op_arcs {n : Nat} {cs : List Value} {d : DataW H} {ps : List MemPlace} (h : DataW.trod enc Tryz.prog w 0 (fun _ => true) true n 46 cs = some (d, ps)) (hd : Sm d) : RArcs w cs := by
  obtain ⟨a, len, c, rfl, hl, hlc, hc⟩ := open_sliceB Tryz.underlying46 cellsArc (by omega) RArc (fun h _ => op_arc h) h hd
  rcases hc with rfl | ⟨b, off, rfl, hb, hc⟩
  · exact ⟨a, [], c, rfl, ⟨rfl, by simp, fun x hx => by simp at hx, .inl rfl⟩, by simp⟩
  · obtain ⟨q, hq⟩ := pick_fun (fun i (x : A5) => (∀ j, -9223372036854775808 ≤ x.at j ∧ x.at j ≤ 9223372036854775807) ∧ ∀ j, j < 5 → w.cell? ⟨b, off + i * 5 + j, none⟩ = some (.int .i64 (x.at j))) zA len (fun i hi => by
      obtain ⟨cs', _, ⟨x, rfl, hx⟩, h1⟩ := hc i hi
      refine ⟨x, hx, fun j hj => ?_⟩
      rw [h1 j hj]
      match j, hj with
      | 0, _ => rfl
      | 1, _ => rfl
      | 2, _ => rfl
      | 3, _ => rfl
      | 4, _ => rfl)
    refine ⟨some ⟨b, off, none⟩, (List.range len).map q, c, by simp, ⟨rfl, by simp; omega, fun x hx => ?_, .inr ⟨b, off, rfl, hb, fun i hi j hj => ?_⟩⟩, by simp; omega⟩
    · obtain ⟨i, hi, rfl⟩ := List.mem_map.1 hx
      exact (hq i (List.mem_range.1 hi)).1
    · simp only [List.length_map, List.length_range] at hi
      rw [(hq i hi).2 j hj]
      simp [List.getD, hi]
def RNet (w : World) (cs : List Value) : Prop := ∃ sa xs sc aa es ac, cs = [.slice sa xs.length sc, .slice aa es.length ac] ∧ Ints w sa xs.length xs ∧ Arcs w aa es.length es ∧ xs.length ≤ 2097152 ∧ es.length ≤ 2097152
set_option maxRecDepth 100000 in
theorem op_net {n : Nat} {cs : List Value} {d : DataW H} {ps : List MemPlace} (h : DataW.trod enc Tryz.prog w 0 (fun _ => true) true n 48 cs = some (d, ps)) (hd : Sm d) : RNet w cs := by
  obtain ⟨xs, k, hk, hxy, hlen, hxl, hf⟩ := DataW.trod_struct Tryz.underlying48 h
  rw [cellsNet] at hlen
  match xs, hxl, cs, hlen with
  | [(d0, p0), (d1, p1)], _, [v0, v1], _ =>
    have g0 := hf 0 _ rfl
    have g1 := hf 1 _ rfl
    simp [cellsIntsU, cellsArcsU] at g0 g1
    simp only [Prod.mk.injEq] at hxy
    obtain ⟨rfl, rfl⟩ := hxy
    obtain ⟨sa, xs, sc, e0, i0, l0⟩ := op_ints g0 (hd.part (by simp))
    obtain ⟨aa, es, ac, e1, i1, l1⟩ := op_arcs g1 (hd.part (by simp))
    simp only [List.cons.injEq, and_true] at e0 e1
    subst e0 e1
    exact ⟨sa, xs, sc, aa, es, ac, rfl, i0, i1, l0, l1⟩
def RAns (w : World) (cs : List Value) : Prop := ∃ (a : A6) (fa : Option Addr) (fc : Nat) (pa : Option Addr) (pc : Nat) (ka : Option Addr) (kc : Nat) (ra : Option Addr) (rc : Nat), cs = [.int .i64 a.kind, .int .i64 a.cost, .slice fa a.flow.length fc, .slice pa a.pots.length pc, .slice ka a.cut.length kc, .slice ra a.circ.length rc] ∧ Ans w fa pa ka ra a.flow.length a.pots.length a.cut.length a.circ.length a.flow a.pots a.cut a.circ ∧ a.flow.length ≤ 2097152 ∧ a.pots.length ≤ 2097152 ∧ a.cut.length ≤ 2097152 ∧ a.circ.length ≤ 2097152
set_option maxRecDepth 100000 in
theorem op_ans {n : Nat} {cs : List Value} {d : DataW H} {ps : List MemPlace} (h : DataW.trod enc Tryz.prog w 0 (fun _ => true) true n 35 cs = some (d, ps)) (hd : Sm d) : RAns w cs := by
  obtain ⟨xs, k, hk, hxy, hlen, hxl, hf⟩ := DataW.trod_struct Tryz.underlying35 h
  rw [cellsAnswerU] at hlen
  match xs, hxl, cs, hlen with
  | [(d0, p0), (d1, p1), (d2, p2), (d3, p3), (d4, p4), (d5, p5)], _, [v0, v1, v2, v3, v4, v5], _ =>
    have g0 := hf 0 _ rfl
    have g1 := hf 1 _ rfl
    have g2 := hf 2 _ rfl
    have g3 := hf 3 _ rfl
    have g4 := hf 4 _ rfl
    have g5 := hf 5 _ rfl
    simp [cellsIntsU, cellsInt] at g0 g1 g2 g3 g4 g5
    simp only [Prod.mk.injEq] at hxy
    obtain ⟨rfl, rfl⟩ := hxy
    obtain ⟨kd, e0, _⟩ := op_int g0
    obtain ⟨cs, e1, _⟩ := op_int g1
    obtain ⟨fa, fl, fc, e2, i2, l2⟩ := op_ints g2 (hd.part (by simp))
    obtain ⟨pa, po, pc, e3, i3, l3⟩ := op_ints g3 (hd.part (by simp))
    obtain ⟨ka, cu, kc, e4, i4, l4⟩ := op_ints g4 (hd.part (by simp))
    obtain ⟨ra, ci, rc, e5, i5, l5⟩ := op_ints g5 (hd.part (by simp))
    simp only [List.cons.injEq, and_true] at e0 e1 e2 e3 e4 e5
    subst e0 e1 e2 e3 e4 e5
    exact ⟨⟨kd, cs, fl, po, cu, ci⟩, fa, fc, pa, pc, ka, kc, ra, rc, rfl, ⟨i2, i3, i4, i5⟩, l2, l3, l4, l5⟩
def ROp (cs : List Value) : Prop := ∃ q : Nat → Int, cs = [.int .i64 (q 0), .int .i64 (q 1), .int .i64 (q 2), .int .i64 (q 3)] ∧ ∀ j, j < 4 → -9223372036854775808 ≤ q j ∧ q j ≤ 9223372036854775807
set_option maxRecDepth 100000 in
theorem op_op {n : Nat} {cs : List Value} {d : DataW H} {ps : List MemPlace} (h : DataW.trod enc Tryz.prog w 0 (fun _ => true) true n 39 cs = some (d, ps)) : ROp cs := by
  obtain ⟨xs, k, hk, hxy, hlen, hxl, hf⟩ := DataW.trod_struct Tryz.underlying39 h
  rw [cellsOpU] at hlen
  match xs, hxl, cs, hlen with
  | [y0, y1, y2, y3], _, [v0, v1, v2, v3], _ =>
    have g0 := hf 0 _ rfl
    have g1 := hf 1 _ rfl
    have g2 := hf 2 _ rfl
    have g3 := hf 3 _ rfl
    simp [cellsInt] at g0 g1 g2 g3
    obtain ⟨n0, e0, b0⟩ := op_int g0
    obtain ⟨n1, e1, b1⟩ := op_int g1
    obtain ⟨n2, e2, b2⟩ := op_int g2
    obtain ⟨n3, e3, b3⟩ := op_int g3
    simp only [List.cons.injEq, and_true] at e0 e1 e2 e3
    subst e0 e1 e2 e3
    refine ⟨fun j => [n0, n1, n2, n3].getD j 0, rfl, fun j hj => ?_⟩
    match j, hj with
    | 0, _ => exact b0
    | 1, _ => exact b1
    | 2, _ => exact b2
    | 3, _ => exact b3
def RTab (w : World) (cs : List Value) : Prop := ∃ a t c, cs = [.slice a t.length c] ∧ Tab w a t.length t ∧ t.length ≤ 1048576 ∧ ∀ i, i < t.length → (t.getD i []).length ≤ 2097152
set_option maxRecDepth 100000 in
theorem op_tab {n : Nat} {cs : List Value} {d : DataW H} {ps : List MemPlace} (h : DataW.trod enc Tryz.prog w 0 (fun _ => true) true n 23 cs = some (d, ps)) (hd : Sm d) : RTab w cs := by
  obtain ⟨a, len, c, rfl, hl, hlc, hc⟩ := open_sliceB Tryz.underlying23 cellsIntsU (by omega) (RInts w) (fun h hd => op_ints h hd) h hd
  rcases hc with rfl | ⟨b, off, rfl, hb, hc⟩
  · exact ⟨a, [], c, rfl, ⟨rfl, by simp, .inl rfl⟩, by simp, fun i hi => by simp at hi⟩
  · obtain ⟨q, hq⟩ := pick_fun (fun i (xs : List Int) => ∃ ra rc, w.cell? ⟨b, off + i, none⟩ = some (.slice ra xs.length rc) ∧ Ints w ra xs.length xs ∧ xs.length ≤ 2097152) [] len (fun i hi => by
      obtain ⟨cs', _, ⟨ra, xs, rc, rfl, hx, hl⟩, h1⟩ := hc i hi
      have := h1 0 (by omega)
      rw [Nat.mul_one, Nat.add_zero] at this
      exact ⟨xs, ra, rc, this, hx, hl⟩)
    have eq : ∀ i, i < len → ((List.range len).map q).getD i [] = q i := fun i hi => by simp [List.getD, hi]
    refine ⟨some ⟨b, off, none⟩, (List.range len).map q, c, by simp, ⟨rfl, by simp; omega, .inr ⟨b, off, rfl, hb, fun i hi => ?_⟩⟩, by simp; omega, fun i hi => ?_⟩
    · simp only [List.length_map, List.length_range] at hi
      rw [eq i hi]
      obtain ⟨ra, rc, h1, h2, _⟩ := hq i hi
      exact ⟨ra, rc, h1, h2⟩
    · simp only [List.length_map, List.length_range] at hi
      rw [eq i hi]
      obtain ⟨_, _, _, _, h3⟩ := hq i hi
      exact h3
end
end Go.Proofs.YtnbccoflcoaoaaaGreat
