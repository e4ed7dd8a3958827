import Derived.Test.YtnbccoflcoaoaaaGreatAllG
import Derived.Test.YtnbccoflcoaoaaaGreatGFlo
namespace Go.Proofs.YtnbccoflcoaoaaaGreat
open Go.RowKit Go.Deep
set_option linter.unusedSimpArgs false
set_option linter.unusedVariables false

/-! ### cost -/
theorem Roomy.ints {w : World} {base : Nat} {v : Value} {xs : List Int} (h : Roomy w base v xs) (hn : xs.length + 2 ≤ 17592186044416) (hw : ∀ x ∈ xs, -9223372036854775808 ≤ x ∧ x ≤ 9223372036854775807) :
    ∃ g cap, v = .slice (some ⟨g, 0, none⟩) xs.length cap ∧ base ≤ g ∧ g < w.heap.size ∧ Ints w (some ⟨g, 0, none⟩) xs.length xs := by
  obtain ⟨g, cap, rfl, hown⟩ := h
  have hl := hown.lt g rfl
  refine ⟨g, cap, rfl, hl.1, hl.2, ⟨rfl, by omega, hw, .inr ⟨g, 0, rfl, hl.2, fun i hi => ?_⟩⟩⟩
  rw [Nat.zero_add]
  refine own_cellAt hown i _ ?_
  simp only [intCells, List.map_append]
  rw [List.getElem?_append_left (by simpa using hi)]
  simp [List.getD, hi]
theorem Roomy.below {w w' : World} {base : Nat} {v : Value} {xs : List Int} (h : Roomy w base v xs) (hb : Below w.heap.size w w') : Roomy w' base v xs := by
  obtain ⟨g, cap, e, hown⟩ := h
  exact ⟨g, cap, e, hown.kept (grown_of_below hb none) (.inr (by simp [Value.ownBlock]))⟩

theorem cell_new (X : World) (cs : Array Value) (t : TypeId) (b i : Nat) {v : Value} (hb : X.heap.size = b) (h : cs[i]? = some v) : (X.alloc (.cells cs t)).cell? ⟨b, i, none⟩ = some v := by
  subst hb
  simp [h]
theorem Roomy.open_ {w : World} {base : Nat} {v : Value} {xs : List Int} (h : Roomy w base v xs) : ∃ g cap, v = .slice (some ⟨g, 0, none⟩) xs.length cap := by
  obtain ⟨g, cap, e, _⟩ := h
  exact ⟨g, cap, e⟩
/-- All's flows, as they lie. -/
def FlowsAt (w : World) (P : Nat → Prop) (fcs : List Value) (nf : Nat) (fls : Nat → List Int) : Prop :=
  ∀ i, i < nf → (fls i).length ≤ 2097152 ∧ ∃ a c, fcs[i]? = some (.slice a (fls i).length c) ∧ Ints w a (fls i).length (fls i) ∧ ∀ b off, a = some ⟨b, off, none⟩ → P b

set_option maxRecDepth 100000 in
set_option maxHeartbeats 4000000 in
theorem aCost_any (wb base0 : Nat) (P : Nat → Prop) (fw : Nat → Value) (fa : Option Addr) (nf fc : Nat) (fcs : List Value) (fls : Nat → List Int) (o0 o1 o2 o3 : Int) (sa aa ca cb : Option Addr) (sn sc an ac cc cd : Nat) (xs : List Int) (es : List A5) (w : World)
    (hbox : w.rowIs wb 31 6 fw) (h1 : fw 1 = .slice fa nf fc) (hfs : w.ownsRow base0 32 1 (.slice fa nf fc) nf fcs) (hnf : nf ≤ 1099511627776) (hfl : FlowsAt w P fcs nf fls) (hPlt : ∀ b, P b → b < w.heap.size) (ho : -9223372036854775808 ≤ o2 ∧ o2 ≤ 9223372036854775807)
    (hx : Ints w sa sn xs) (he : Arcs w aa an es) (hxc : Ints w ca sn xs) (hec : Arcs w cb an es) :
    Calls Tryz.prog 14 #[.pointer (some ⟨wb, 0, none⟩), .agg #[.int .i64 o0, .int .i64 o1, .int .i64 o2, .int .i64 o3], .agg #[.slice sa sn sc, .slice aa an ac], .agg #[.slice ca sn cc, .slice cb an cd]] w fun e w' => e = .returned (.bool true) ∧ Below w.heap.size w w' := by
  obtain ⟨W0, hW0⟩ : ∃ W0, ((w.alloc (.cells #[.int .i64 o0, .int .i64 o1, .int .i64 o2, .int .i64 o3] 39)).alloc (.cells #[.slice sa sn sc, .slice aa an ac] 48)).alloc (.cells #[.slice ca sn cc, .slice cb an cd] 48) = W0 := ⟨_, rfl⟩
  have hb0 : Below w.heap.size w W0 := by
    rw [← hW0]
    exact (((Below.refl _ _).alloc (Nat.le_refl _) _).alloc (by simp) _).alloc (by simp <;> omega) _
  have hz0 : w.heap.size + 3 ≤ W0.heap.size := by rw [← hW0]; simp
  have hA := Joins.below_alloc2 (w.alloc (.cells #[.int .i64 o0, .int .i64 o1, .int .i64 o2, .int .i64 o3] 39)) (.cells #[.slice sa sn sc, .slice aa an ac] 48) (.cells #[.slice ca sn cc, .slice cb an cd] 48)
  rw [hW0] at hA
  have hB := Joins.below_alloc1 ((w.alloc (.cells #[.int .i64 o0, .int .i64 o1, .int .i64 o2, .int .i64 o3] 39)).alloc (.cells #[.slice sa sn sc, .slice aa an ac] 48)) (.cells #[.slice ca sn cc, .slice cb an cd] 48)
  rw [hW0] at hB
  have q2 : W0.cell? ⟨w.heap.size, 2, none⟩ = some (.int .i64 o2) := (hA.cell (p := ⟨w.heap.size, 2, none⟩) (by simp)).trans (by simp)
  have n0' : W0.cell? ⟨w.heap.size + 1, 0, none⟩ = some (.slice sa sn sc) := (hB.cell (p := ⟨w.heap.size + 1, 0, none⟩) (by simp)).trans (by simp)
  have n1' : W0.cell? ⟨w.heap.size + 1, 1, none⟩ = some (.slice aa an ac) := (hB.cell (p := ⟨w.heap.size + 1, 1, none⟩) (by simp)).trans (by simp)
  have m0' : W0.cell? ⟨w.heap.size + 1 + 1, 0, none⟩ = some (.slice ca sn cc) := by rw [← hW0]; exact cell_new _ _ _ _ _ (by simp) rfl
  have m1' : W0.cell? ⟨w.heap.size + 1 + 1, 1, none⟩ = some (.slice cb an cd) := by rw [← hW0]; exact cell_new _ _ _ _ _ (by simp) rfl
  have c1 : W0.cell? ⟨wb, 1, none⟩ = some (.slice fa nf fc) := (below_blk hb0 hbox.lt).trans ((hbox.cell (i := 1) (by omega)).trans (by rw [h1]))
  have HX := hide (hx.below hb0)
  have HE := hide (he.below hb0)
  have HXC := hide (hxc.below hb0)
  have HEC := hide (hec.below hb0)
  have HFS := hide (hfs.kept (grown_of_below hb0 none) (by cases fa <;> simp [Value.ownBlock]))
  have HFL := hide hfl
  have HW0 := hide hW0
  obtain ⟨oo1, oo2⟩ := ho
  clear hx he hxc hec hbox hfs hfl hW0 hA hB
  go_enter Tryz.func14, Tryz.ntmps14
  go_upto_region 2 with fail
  rw [HW0.out]
  clear HW0
  by_cases hz : nf = 0
  · subst hz
    have HXL : Hid (Ints W0 none 0 ([] : List Int)) := ⟨rfl, by omega, fun x hx => by simp at hx, .inl rfl⟩
    have hle : ([] : List Int).length ≤ 2097152 := by simp
    have hbW : Below W0.heap.size W0 W0 := Below.refl _ _
    go_wp2_with fail
    refine (aRoomy_any none 0 0 [] _ (HXL.out.below hbW) (by omega)).mono ?_
    rintro e w1 ⟨v, rfl, hRo, hb1⟩
    have hB1 : Below W0.heap.size W0 w1 := hbW.trans (hb1.mono hbW.size)
    obtain ⟨g, cap, rfl, hg0, hg1, hyI⟩ := hRo.ints (by omega) HXL.out.wf
    have HRO := hide hRo
    have m0 := (below_blk hB1 (by omega)).trans m0'
    have m1 := (below_blk hB1 (by omega)).trans m1'
    have HYI := hide hyI
    clear hRo hyI m0' m1'
    go_wp2_with fail
    refine (cost_any ca cb (some ⟨g, 0, none⟩) sn cc an cd [].length cap xs es [] _ (HXC.out.below hB1) (HEC.out.below hB1) HYI.out).mono ?_
    rintro e w2 ⟨rfl, hb2⟩
    have hB2 : Below W0.heap.size W0 w2 := hB1.trans (hb2.mono hB1.size)
    have n0 := (below_blk hB2 (by omega)).trans n0'
    have n1 := (below_blk hB2 (by omega)).trans n1'
    clear m0 m1 HYI n0' n1'
    go_wp2_with fail
    refine (refCost_any sa aa none sn sc an ac 0 0 xs es [] _ (HX.out.below hB2) (HE.out.below hB2) (HXL.out.below hB2)).mono ?_
    rintro e w3 ⟨rfl, hb3⟩
    have hB3 : Below W0.heap.size W0 w3 := hB2.trans (hb3.mono hB2.size)
    have hb13 : Below w1.heap.size w1 w3 := hb2.trans (hb3.mono hb2.size)
    clear n0 n1
    have cS : n0 (Calls Tryz.prog 26 #[.slice (some ⟨g, 0, none⟩) [].length cap, .slice none 0 0] w3 fun e w' => e = .returned (.bool true) ∧ w3.grownBy w' (some g)) :=
      aStill_any g cap none [].length 0 _ [] w3 (HXL.out.below hB3) (HRO.out.below hb13) (fun b off e => by
        rcases HXL.out.lies with h0 | ⟨b', off', e', hl', _⟩
        · cases e
        · rw [e] at e'
          cases e'
          have := hbW.size
          omega) (by omega)
    go_wp2_with fail
    refine Calls.mono cS.out ?_
    rintro e w4 ⟨rfl, hg4⟩
    have hB4 : Below W0.heap.size W0 w4 := hB3.grown hg4 hB3.size (fun k e => by cases e; have := hbW.size; omega)
    clear cS
    obtain ⟨C1, hC1⟩ : ∃ C1, (costS xs es []).1 = C1 := ⟨_, rfl⟩
    obtain ⟨C2, hC2⟩ : ∃ C2, (costS xs es []).2 = C2 := ⟨_, rfl⟩
    rw [hC1, hC2]
    have e1 : (C1 == C1) = true := by simp
    have e2 : (C2 == C2) = true := by simp
    go_wp2
    go_ret
    exact ⟨rfl, hb0.trans (hB4.mono hb0.size)⟩
  · have hpos : (0 : Int) < (nf : Int) := by omega
    have hpk := pickS_lt o2 (show 0 < nf by omega)
    have cP : n0 (∀ w0, Calls Tryz.prog 10 #[.int .i64 o2, .int .i64 nf] w0 fun e w' => e = .returned (.int .i64 (pickS o2 nf)) ∧ w' = w0) := fun w0 => aPick_any o2 nf (by omega) (by omega) oo1 oo2 w0
    obtain ⟨hle, xa, xc, hcx, hxI, hxP⟩ := HFL.out _ hpk
    obtain ⟨fg, fz, efa⟩ := own_some HFS.out (by omega)
    cases efa
    have cx := own_cellAt HFS.out _ _ hcx
    obtain ⟨pk, hpke⟩ : ∃ p, pickS o2 nf = p := ⟨_, rfl⟩
    rw [hpke] at hpk cx hxI hle cP
    have hpk2 : (pk : Int) < (nf : Int) := by omega
    have HXL := hide (hxI.below hb0)
    have HPB : Hid (∀ b off, xa = some ⟨b, off, none⟩ → b < w.heap.size) := fun b off e => hPlt b (hxP b off e)
    clear hcx hxI hxP hpke
    obtain ⟨xl, hxl⟩ : ∃ xl, fls pk = xl := ⟨_, rfl⟩
    rw [hxl] at cx HXL hle
    clear hxl
    go_wp2
    go_quiet ((go_at_call 10; exact Calls.quiet_of_same (cP.out _)))
    have hbW : Below W0.heap.size W0 (W0.drewN nq) := Joins.below_draws _ _ _
    go_wp2_with fail
    refine (aRoomy_any xa xl.length xc xl _ (HXL.out.below hbW) (by omega)).mono ?_
    rintro e w1 ⟨v, rfl, hRo, hb1⟩
    have hB1 : Below W0.heap.size W0 w1 := hbW.trans (hb1.mono hbW.size)
    obtain ⟨g, cap, rfl, hg0, hg1, hyI⟩ := hRo.ints (by omega) HXL.out.wf
    have HRO := hide hRo
    have m0 := (below_blk hB1 (by omega)).trans m0'
    have m1 := (below_blk hB1 (by omega)).trans m1'
    have HYI := hide hyI
    clear hRo hyI m0' m1'
    go_wp2_with fail
    refine (cost_any ca cb (some ⟨g, 0, none⟩) sn cc an cd xl.length cap xs es xl _ (HXC.out.below hB1) (HEC.out.below hB1) HYI.out).mono ?_
    rintro e w2 ⟨rfl, hb2⟩
    have hB2 : Below W0.heap.size W0 w2 := hB1.trans (hb2.mono hB1.size)
    have n0 := (below_blk hB2 (by omega)).trans n0'
    have n1 := (below_blk hB2 (by omega)).trans n1'
    clear m0 m1 HYI n0' n1'
    go_wp2_with fail
    refine (refCost_any sa aa xa sn sc an ac xl.length xc xs es xl _ (HX.out.below hB2) (HE.out.below hB2) (HXL.out.below hB2)).mono ?_
    rintro e w3 ⟨rfl, hb3⟩
    have hB3 : Below W0.heap.size W0 w3 := hB2.trans (hb3.mono hB2.size)
    have hb13 : Below w1.heap.size w1 w3 := hb2.trans (hb3.mono hb2.size)
    clear n0 n1
    have cS : n0 (Calls Tryz.prog 26 #[.slice (some ⟨g, 0, none⟩) xl.length cap, .slice xa xl.length xc] w3 fun e w' => e = .returned (.bool true) ∧ w3.grownBy w' (some g)) :=
      aStill_any g cap xa xl.length xc _ xl w3 (HXL.out.below hB3) (HRO.out.below hb13) (fun b off e => by
        have h1 := HPB.out b off e
        have h2 := hbW.size
        have h3 := hb0.size
        omega) (by omega)
    go_wp2_with fail
    refine Calls.mono cS.out ?_
    rintro e w4 ⟨rfl, hg4⟩
    have hB4 : Below W0.heap.size W0 w4 := hB3.grown hg4 hB3.size (fun k e => by cases e; have := hbW.size; omega)
    clear cS
    obtain ⟨C1, hC1⟩ : ∃ C1, (costS xs es xl).1 = C1 := ⟨_, rfl⟩
    obtain ⟨C2, hC2⟩ : ∃ C2, (costS xs es xl).2 = C2 := ⟨_, rfl⟩
    rw [hC1, hC2]
    have e1 : (C1 == C1) = true := by simp
    have e2 : (C2 == C2) = true := by simp
    go_wp2
    go_ret
    exact ⟨rfl, hb0.trans (hB4.mono hb0.size)⟩
end Go.Proofs.YtnbccoflcoaoaaaGreat
