import Derived.Test.YtnbccoflcoaoaaaGreatRows
import Derived.Test.YtnbccoflcoaoaaaGreatUpB
import Derived.JoinedCond
namespace Go.Proofs.YtnbccoflcoaoaaaGreat
open Go.ChangeShapes Go.WideShapes Go.ChangeAt Go.RowKit Go.Deep
set_option linter.unusedSimpArgs false
set_option linter.unusedVariables false

/-! ### All, for what is of bulk at most 1048576 -/
section
variable {H : Type} {enc : TypeId × Value → H} {w : World}
set_option maxRecDepth 100000 in
theorem open_top {T E : TypeId} {z : Nat} (hT : Tryz.prog.underlying T = some (.slice E)) (hz : Tryz.prog.cellsOf E = z) (hz0 : 0 < z) (R : List Value → Prop)
    (op : ∀ {n : Nat} {cs : List Value} {d : DataW H} {ps : List MemPlace}, DataW.trod enc Tryz.prog w 0 (fun _ => true) true n E cs = some (d, ps) → Sm d → R cs)
    {base : Nat} {v : Value} {d : DataW H} {p : List MemPlace} (hv : Value.okWide Tryz.prog w .any base T v) (h : DataW.Trod enc Tryz.prog w 0 (fun _ => true) true T v d p) (hd : Sm d) :
    ∃ a len c, v = .slice a len c ∧ len ≤ 1048576 ∧ (len = 0 ∨ ∃ b off, a = some ⟨b, off, none⟩ ∧ b < w.heap.size ∧ ∀ i, i < len → ∃ cs', cs'.length = z ∧ R cs' ∧ ∀ j, j < z → w.cell? ⟨b, off + i * z + j, none⟩ = cs'[j]?) := by
  obtain ⟨a0, len0, cap, rfl⟩ := okWide_slice hT hv
  obtain ⟨fuel, hf⟩ := h
  obtain ⟨a, len, c, e, hl, _, hc⟩ := open_sliceB hT hz hz0 R op hf hd
  simp only [Value.cells] at e
  simp at e
  obtain ⟨rfl, rfl, rfl⟩ := e
  exact ⟨_, _, _, rfl, hl, hc⟩
set_option maxRecDepth 100000 in
theorem open_nets {base : Nat} {v : Value} {d : DataW H} {p : List MemPlace} (hv : Value.okWide Tryz.prog w .any base 22 v) (h : DataW.Trod enc Tryz.prog w 0 (fun _ => true) true 22 v d p) (hd : Sm d) :
    ∃ a len c nets, v = .slice a len c ∧ NetsAt w (.slice a len c) len nets := by
  obtain ⟨a, len, c, rfl, hl, hc⟩ := open_top Tryz.underlying22 cellsNet (by omega) (RNet w) (fun h hd => op_net h hd) hv h hd
  rcases hc with rfl | ⟨b, off, rfl, hb, hc⟩
  · exact ⟨a, 0, c, fun _ => ([], []), rfl, a, c, rfl, by omega, .inl rfl⟩
  · obtain ⟨q, hq⟩ := pick_fun (fun i (x : List Int × List A5) => ∃ sa sc aa ac, w.cell? ⟨b, off + i * 2, none⟩ = some (.slice sa x.1.length sc) ∧ w.cell? ⟨b, off + i * 2 + 1, none⟩ = some (.slice aa x.2.length ac) ∧ Ints w sa x.1.length x.1 ∧ Arcs w aa x.2.length x.2 ∧ x.1.length ≤ 2097152 ∧ x.2.length ≤ 2097152) ([], []) len (fun i hi => by
      obtain ⟨cs', _, ⟨sa, xs, sc, aa, es, ac, rfl, h1, h2, h3, h4⟩, h5⟩ := hc i hi
      exact ⟨(xs, es), sa, sc, aa, ac, h5 0 (by omega), h5 1 (by omega), h1, h2, h3, h4⟩)
    exact ⟨_, len, c, q, rfl, _, c, rfl, by omega, .inr ⟨b, off, rfl, hb, hq⟩⟩
set_option maxRecDepth 100000 in
theorem open_flows {base : Nat} {v : Value} {d : DataW H} {p : List MemPlace} (hv : Value.okWide Tryz.prog w .any base 23 v) (h : DataW.Trod enc Tryz.prog w 0 (fun _ => true) true 23 v d p) (hd : Sm d) :
    ∃ a len c t, v = .slice a len c ∧ Tab w a len t ∧ len ≤ 1048576 ∧ ∀ i, i < len → (t.getD i []).length ≤ 2097152 := by
  obtain ⟨a0, len0, cap, rfl⟩ := okWide_slice Tryz.underlying23 hv
  obtain ⟨fuel, hf⟩ := h
  obtain ⟨a, t, c, e, hT, hl, hr⟩ := op_tab hf hd
  simp only [Value.cells] at e
  simp at e
  obtain ⟨rfl, rfl, rfl⟩ := e
  exact ⟨_, _, _, t, rfl, hT, hl, hr⟩
set_option maxRecDepth 100000 in
theorem open_anss {base : Nat} {v : Value} {d : DataW H} {p : List MemPlace} (hv : Value.okWide Tryz.prog w .any base 24 v) (h : DataW.Trod enc Tryz.prog w 0 (fun _ => true) true 24 v d p) (hd : Sm d) :
    ∃ a len c an, v = .slice a len c ∧ AnsIn w a len an := by
  obtain ⟨a, len, c, rfl, hl, hc⟩ := open_top Tryz.underlying24 cellsAnswerU (by omega) (RAns w) (fun h hd => op_ans h hd) hv h hd
  rcases hc with rfl | ⟨b, off, rfl, hb, hc⟩
  · exact ⟨a, 0, c, fun _ => ⟨0, 0, [], [], [], []⟩, rfl, by omega, .inl rfl⟩
  · obtain ⟨q, hq⟩ := pick_fun (fun i (x : A6) => ∃ fa fc pa pc ka kc ra rc, w.cell? ⟨b, off + i * 6, none⟩ = some (.int .i64 x.kind) ∧ w.cell? ⟨b, off + i * 6 + 1, none⟩ = some (.int .i64 x.cost) ∧ w.cell? ⟨b, off + i * 6 + 2, none⟩ = some (.slice fa x.flow.length fc) ∧ w.cell? ⟨b, off + i * 6 + 3, none⟩ = some (.slice pa x.pots.length pc) ∧ w.cell? ⟨b, off + i * 6 + 4, none⟩ = some (.slice ka x.cut.length kc) ∧ w.cell? ⟨b, off + i * 6 + 5, none⟩ = some (.slice ra x.circ.length rc) ∧
      Ans w fa pa ka ra x.flow.length x.pots.length x.cut.length x.circ.length x.flow x.pots x.cut x.circ ∧ x.flow.length ≤ 2097152 ∧ x.pots.length ≤ 2097152 ∧ x.cut.length ≤ 2097152 ∧ x.circ.length ≤ 2097152) ⟨0, 0, [], [], [], []⟩ len (fun i hi => by
      obtain ⟨cs', _, ⟨x, fa, fc, pa, pc, ka, kc, ra, rc, rfl, h1, h2⟩, h5⟩ := hc i hi
      exact ⟨x, fa, fc, pa, pc, ka, kc, ra, rc, h5 0 (by omega), h5 1 (by omega), h5 2 (by omega), h5 3 (by omega), h5 4 (by omega), h5 5 (by omega), h1, h2⟩)
    exact ⟨_, len, c, q, rfl, by omega, .inr ⟨b, off, rfl, hb, hq⟩⟩
set_option maxRecDepth 100000 in
theorem open_tabs {base : Nat} {v : Value} {d : DataW H} {p : List MemPlace} (hv : Value.okWide Tryz.prog w .any base 25 v) (h : DataW.Trod enc Tryz.prog w 0 (fun _ => true) true 25 v d p) (hd : Sm d) :
    ∃ a len c tabs, v = .slice a len c ∧ TabsAt w (.slice a len c) len tabs := by
  obtain ⟨a, len, c, rfl, hl, hc⟩ := open_top Tryz.underlying25 cellsTableU (by omega) (RTab w) (fun h hd => op_tab h hd) hv h hd
  rcases hc with rfl | ⟨b, off, rfl, hb, hc⟩
  · exact ⟨a, 0, c, fun _ => [], rfl, a, c, rfl, by omega, .inl rfl⟩
  · obtain ⟨q, hq⟩ := pick_fun (fun i (x : List (List Int)) => ∃ xa xc, w.cell? ⟨b, off + i, none⟩ = some (.slice xa x.length xc) ∧ Tab w xa x.length x ∧ x.length ≤ 1048576 ∧ ∀ r, r < x.length → (x.getD r []).length ≤ 2097152) [] len (fun i hi => by
      obtain ⟨cs', _, ⟨xa, x, xc, rfl, h1, h2, h3⟩, h5⟩ := hc i hi
      have := h5 0 (by omega)
      rw [Nat.mul_one, Nat.add_zero] at this
      exact ⟨x, xa, xc, this, h1, h2, h3⟩)
    exact ⟨_, len, c, q, rfl, _, c, rfl, by omega, .inr ⟨b, off, rfl, hb, hq⟩⟩
set_option maxRecDepth 100000 in
theorem open_script {base : Nat} {v : Value} {d : DataW H} {p : List MemPlace} (hv : Value.okWide Tryz.prog w .any base 26 v) (h : DataW.Trod enc Tryz.prog w 0 (fun _ => true) true 26 v d p) (hd : Sm d) :
    ∃ a len c scr, v = .slice a len c ∧ ScrIn w a len scr := by
  obtain ⟨a, len, c, rfl, hl, hc⟩ := open_top Tryz.underlying26 cellsOpU (by omega) ROp (fun h hd => op_op h) hv h hd
  rcases hc with rfl | ⟨b, off, rfl, hb, hc⟩
  · exact ⟨a, 0, c, fun _ _ => 0, rfl, by omega, .inl rfl⟩
  · obtain ⟨q, hq⟩ := pick_fun (fun i (x : Nat → Int) => (w.cell? ⟨b, off + i * 4, none⟩ = some (.int .i64 (x 0)) ∧ w.cell? ⟨b, off + i * 4 + 1, none⟩ = some (.int .i64 (x 1)) ∧ w.cell? ⟨b, off + i * 4 + 2, none⟩ = some (.int .i64 (x 2)) ∧ w.cell? ⟨b, off + i * 4 + 3, none⟩ = some (.int .i64 (x 3))) ∧ ∀ j, j < 4 → -9223372036854775808 ≤ x j ∧ x j ≤ 9223372036854775807) (fun _ => 0) len (fun i hi => by
      obtain ⟨cs', _, ⟨x, rfl, h1⟩, h5⟩ := hc i hi
      exact ⟨x, ⟨h5 0 (by omega), h5 1 (by omega), h5 2 (by omega), h5 3 (by omega)⟩, h1⟩)
    exact ⟨_, len, c, q, rfl, by omega, .inr ⟨b, off, rfl, hb, hq⟩⟩
end

set_option maxRecDepth 100000 in
theorem all_contract (H : Type) (enc : TypeId × Value → H) (W : World) (base : Nat) (args : Array Value) (ds gs : List (DataW H)) (before : List MemPlace)
    (hval0 : ∀ (j : Nat) t v, Tryz.f3.params[j]? = some t → args[j]? = some v → Value.okWide Tryz.prog W .any base t v)
    (hW : DataW.Whole enc Tryz.prog Tryz.f3.params.toList Rows.allSpec.vars false W args.toList ds gs before) (hk : Rows.uptoSmall H (ds ++ gs) = true) :
    Calls Tryz.prog 3 args W fun e W' => ∃ v, e = .returned v ∧ Rows.allSpec.post enc Tryz.prog Tryz.f3 false true false false W args v W' := by
  have hval : ∀ (j : Nat) t v, Tryz.f3.params[j]? = some t → args[j]? = some v → Value.okWide Tryz.prog W .any base t v := hval0
  have hW' := hW
  obtain ⟨p, q, hA0, hV, rfl, hfz, hnd⟩ := hW
  have hA : DataW.TrodAll enc Tryz.prog W 0 (fun _ => true) true Tryz.f3.params.toList args.toList ds p := hA0
  rw [Tryz.params3] at hA hval
  obtain ⟨v0, vs0, d0, ds0, p0, q0, hargs, rfl, rfl, h0, r0⟩ := trodAll_cons hA
  obtain ⟨v1, vs1, d1, ds1, p1, q1, rfl, rfl, rfl, h1, r1⟩ := trodAll_cons r0
  obtain ⟨v2, vs2, d2, ds2, p2, q2, rfl, rfl, rfl, h2, r2⟩ := trodAll_cons r1
  obtain ⟨v3, vs3, d3, ds3, p3, q3, rfl, rfl, rfl, h3, r3⟩ := trodAll_cons r2
  obtain ⟨v4, vs4, d4, ds4, p4, q4, rfl, rfl, rfl, h4, r4⟩ := trodAll_cons r3
  obtain ⟨rfl, rfl, rfl⟩ := trodAll_nil r4
  obtain rfl : args = #[v0, v1, v2, v3, v4] := by cases args; simp_all
  obtain ⟨rfl, rfl⟩ := trodVars_none hV
  clear hA0 hval0
  simp only [List.append_nil] at hW' hk
  have hb : Rows.uptoBulkAll [d0, d1, d2, d3, d4] ≤ 1048576 := of_decide_eq_true hk
  have b0 : Sm d0 := Nat.le_trans (blk_mem (by simp)) hb
  have b1 : Sm d1 := Nat.le_trans (blk_mem (by simp)) hb
  have b2 : Sm d2 := Nat.le_trans (blk_mem (by simp)) hb
  have b3 : Sm d3 := Nat.le_trans (blk_mem (by simp)) hb
  have b4 : Sm d4 := Nat.le_trans (blk_mem (by simp)) hb
  have lt0 : ∀ x ∈ p0, x.block < W.heap.size := fun x hx => by simpa using hW'.lt x (by simp [hx])
  have lt1 : ∀ x ∈ p1, x.block < W.heap.size := fun x hx => by simpa using hW'.lt x (by simp [hx])
  have lt2 : ∀ x ∈ p2, x.block < W.heap.size := fun x hx => by simpa using hW'.lt x (by simp [hx])
  have lt3 : ∀ x ∈ p3, x.block < W.heap.size := fun x hx => by simpa using hW'.lt x (by simp [hx])
  have lt4 : ∀ x ∈ p4, x.block < W.heap.size := fun x hx => by simpa using hW'.lt x (by simp [hx])
  obtain ⟨xa, nn, xc, nets, rfl, hN⟩ := open_nets (hval 0 22 v0 rfl rfl) h0 b0
  obtain ⟨fa, nf, fc, flows, rfl, hF, hF1, hF2⟩ := open_flows (hval 1 23 v1 rfl rfl) h1 b1
  obtain ⟨aa, na, ac, an, rfl, hAn⟩ := open_anss (hval 2 24 v2 rfl rfl) h2 b2
  obtain ⟨ya, nt, yc, tabs, rfl, hT⟩ := open_tabs (hval 3 25 v3 rfl rfl) h3 b3
  obtain ⟨sa, ns, sc, scr, rfl, hS⟩ := open_script (hval 4 26 v4 rfl rfl) h4 b4
  refine (lawAll_any W xa fa aa ya sa nn xc nf fc na ac nt yc ns sc nets flows an tabs scr hN hF hF1 hF2 hAn hT hS).mono fun e W' ⟨he, bel⟩ => ?_
  subst he
  exact ⟨_, rfl, _, _, _, [], p0 ++ (p1 ++ (p2 ++ (p3 ++ p4))), [], hW', trodAll_mk1 (shut_bool Tryz.underlying4 _), trodAll_cons_mk (Below.trod laidOut (by kernel_rfl) (of_decide_eq_true (by kernel_rfl)) h0 bel lt0) (trodAll_cons_mk (Below.trod laidOut (by kernel_rfl) (of_decide_eq_true (by kernel_rfl)) h1 bel lt1) (trodAll_cons_mk (Below.trod laidOut (by kernel_rfl) (of_decide_eq_true (by kernel_rfl)) h2 bel lt2) (trodAll_cons_mk (Below.trod laidOut (by kernel_rfl) (of_decide_eq_true (by kernel_rfl)) h3 bel lt3) (trodAll_mk1 (Below.trod laidOut (by kernel_rfl) (of_decide_eq_true (by kernel_rfl)) h4 bel lt4))))), rfl, bel.frame _, fun h => by cases h⟩

set_option maxRecDepth 100000 in
theorem all_lifted (os : Os) (started : os.Started) (H : Type) (enc : TypeId × Value → H) (F : Stop.Interp) :
    ReturnsInHanded {} Tryz.checked os 3 .any ((Rows.OpenSpec.upto Rows.allSpec).pre6 enc Tryz.prog Tryz.f3 Rows.allUptoRow.domain false) (((Rows.OpenSpec.upto Rows.allSpec).at F).post enc Tryz.prog Tryz.f3 false true false false) := by
  refine returnsInHanded_of_cond (C := Tryz.checked) (s := Rows.OpenSpec.upto Rows.allSpec) (k := Rows.uptoSmall) rfl own started (by kernel_rfl) Tryz.func3
    (OpenSpec.witness (enc := enc) (C := Tryz.checked) (s := Rows.OpenSpec.upto Rows.allSpec) (k := Rows.uptoSmall) rfl false ⟨#[], #[.slice none 0 0, .slice none 0 0, .slice none 0 0, .slice none 0 0, .slice none 0 0], []⟩ 8 (by kernel_rfl) (by kernel_rfl) (by kernel_rfl)
      (x := ([.nil, .nil, .nil, .nil, .nil], [], [])) (by kernel_rfl) rfl (by kernel_rfl)) ?_
  intro W base args ds gs before hval hW _ hk _
  exact all_contract H enc W base args ds gs before hval hW hk

theorem allupto_holds : Rows.AllUptoSaid :=
  OpenClaim.holds_of_cond 3 Tryz.f3 rfl rfl rfl rfl rfl rfl rfl ⟨rfl, rfl, rfl, rfl, rfl⟩ rfl rfl rfl rfl rfl (by kernel_rfl) Tryz.func3 (by kernel_rfl)
    (of_decide_eq_true (by kernel_rfl)) (by unfold Func.isWrapper; first | (rw [if_pos (by decide +kernel)]; kernel_rfl) | (rw [if_neg (by decide +kernel)]; exact ⟨rfl, rfl⟩))
    (fun os started H enc _ F => all_lifted os started H enc F)
#print axioms allupto_holds
end Go.Proofs.YtnbccoflcoaoaaaGreat
