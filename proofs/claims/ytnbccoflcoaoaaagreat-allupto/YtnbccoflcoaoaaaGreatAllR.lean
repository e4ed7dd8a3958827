import Derived.Test.YtnbccoflcoaoaaaGreatAllT
namespace Go.Proofs.YtnbccoflcoaoaaaGreat
open Go.RowKit Go.Deep
set_option linter.unusedSimpArgs false
set_option linter.unusedVariables false

/-! ### solve -/
theorem SolveAns.bds {xs : List Int} {es : List A5} {a : A6} {err : Int} (h : SolveAns xs es a err) : 0 ≤ err ∧ err ≤ 3 := by
  have := checkS_bd xs es
  rcases h with ⟨_, h, _⟩ | ⟨_, h, _⟩ <;> omega
theorem SolveAns.two {xs : List Int} {es : List A5} {a : A6} {err : Int} (h : SolveAns xs es a err) : (0 ≤ a.kind ∧ a.kind ≤ 3) ∧ -1200000000 ≤ a.cost ∧ a.cost ≤ 1200000000 := by
  rcases h with ⟨_, _, rfl⟩ | ⟨h1, _, h⟩
  · simp
  · have hn := netOK_of h1
    unfold okB at h
    split at h
    · rename_i hk
      unfold bestB at h
      simp only [Bool.and_eq_true, decide_eq_true_eq] at h
      have hf := fits_of h.1.1.1.1
      have hc := h.1.1.1.2
      have hb := costTo_bd xs es a.flow hn (fun i hi => by
        have h1 := hf.bd i hi
        have h2 := arcB_out (hn.arc i hi)
        omega) es.length (Nat.le_refl _)
      have := hn.arcs
      omega
    · split at h
      · unfold noneB at h
        simp only [Bool.and_eq_true, decide_eq_true_eq] at h
        omega
      · split at h
        · unfold endB at h
          simp only [Bool.and_eq_true, decide_eq_true_eq] at h
          omega
        · cases h
/-- What Solve tells. -/
def saidA (a : A6) (err : Int) : List Int := (((([a.kind, a.cost, err] ++ (a.flow.length : Int) :: a.flow) ++ (a.pots.length : Int) :: a.pots) ++ (a.cut.length : Int) :: a.cut) ++ (a.circ.length : Int) :: a.circ)
def SaidSolve (xs : List Int) (es : List A5) (s : List Int) : Prop := ∃ a err, SolveRel xs es a err ∧ s = saidA a err
theorem SaidSolve.same {xs : List Int} {es : List A5} {s t : List Int} (h : SaidSolve xs es s) (k : SaidSolve xs es t) : s = t := by
  obtain ⟨a, e, h1, h2⟩ := h
  obtain ⟨a', e', k1, k2⟩ := k
  obtain ⟨e1, e2⟩ := h1.same k1
  subst e1; subst e2
  rw [h2, k2]

set_option maxRecDepth 100000 in
set_option maxHeartbeats 8000000 in
theorem aSolve_any (hS : SolveD) (wb tb base0 nl nf na : Nat) (P : Nat → Prop) (fw : Nat → Value) (fls : Nat → List Int) (anss : Nat → A6) (o : List Int) (sa aa ca cb : Option Addr) (sn sc an ac cc cd : Nat) (xs : List Int) (es : List A5) (w : World)
    (h : Lst w wb base0 P nl fw) (hflo : Flo w base0 P (fw 1) nf fls) (hanz : Anz w base0 P (fw 2) na anss) (ht : w.rowIs tb 44 5 (toldF o (.slice none 0 0))) (hTlow : base0 ≤ tb) (hnl : nl ≤ 1073741824) (hnf : nf ≤ 1073741824) (hna : na ≤ 1073741824) (hx : Ints w sa sn xs) (he : Arcs w aa an es) (hxc : Ints w ca sn xs) (hec : Arcs w cb an es) :
    Calls Tryz.prog 17 #[.pointer (some ⟨wb, 0, none⟩), .pointer (some ⟨tb, 0, none⟩), .agg #[.slice sa sn sc, .slice aa an ac], .agg #[.slice ca sn cc, .slice cb an cd]] w fun e w' => e = .returned (.bool true) ∧ DoneS w w' wb tb base0 nl nf na P fw fls anss o (SaidSolve xs es) := by
  obtain ⟨W0, hW0⟩ : ∃ W0, (w.alloc (.cells #[.slice sa sn sc, .slice aa an ac] 48)).alloc (.cells #[.slice ca sn cc, .slice cb an cd] 48) = W0 := ⟨_, rfl⟩
  have hb0 : Below w.heap.size w W0 := by rw [← hW0]; exact Joins.below_alloc2 _ _ _
  have hz0 : W0.heap.size = w.heap.size + 2 := by rw [← hW0]; simp
  have hA := Joins.below_alloc1 (w.alloc (.cells #[.slice sa sn sc, .slice aa an ac] 48)) (.cells #[.slice ca sn cc, .slice cb an cd] 48)
  rw [hW0] at hA
  have n0' : W0.cell? ⟨w.heap.size, 0, none⟩ = some (.slice sa sn sc) := (hA.cell (p := ⟨w.heap.size, 0, none⟩) (by simp)).trans (by simp)
  have n1' : W0.cell? ⟨w.heap.size, 1, none⟩ = some (.slice aa an ac) := (hA.cell (p := ⟨w.heap.size, 1, none⟩) (by simp)).trans (by simp)
  have m0' : W0.cell? ⟨w.heap.size + 1, 0, none⟩ = some (.slice ca sn cc) := by rw [← hW0]; exact cell_new _ _ _ _ _ (by simp) rfl
  have m1' : W0.cell? ⟨w.heap.size + 1, 1, none⟩ = some (.slice cb an cd) := by rw [← hW0]; exact cell_new _ _ _ _ _ (by simp) rfl
  have HX := hide (hx.below hb0)
  have HE := hide (he.below hb0)
  have HW0 := hide hW0
  have HLS := hide h
  have HFLO := hide hflo
  have HANZ := hide hanz
  have HT := hide ht
  have htb := ht.lt
  have hne : wb ≠ tb := fun e => by
    have h1 := row_typed h.box
    rw [e] at h1
    exact absurd (h1.uniq (row_typed ht)) (by decide)
  have cS : n0 (Calls Tryz.prog 36 #[.agg #[.slice ca sn cc, .slice cb an cd]] W0 fun e w' => ∃ (a : A6) (err : Int) (v : Value), e = .returned (.tuple #[v, .int .i64 err]) ∧ OwnA w' W0.heap.size v a ∧ SolveAns xs es a err ∧ SolveRel xs es a err ∧ ApartA v ∧ Below W0.heap.size W0 w') :=
    hS ca cb sn cc an cd xs es W0 (hxc.below hb0) (hec.below hb0)
  clear hx he hxc hec hW0 hA h ht hflo hanz
  go_enter Tryz.func17, Tryz.ntmps17
  go_upto_region 1 with fail
  rw [HW0.out]
  clear HW0
  go_wp2_with fail
  refine Calls.mono cS.out ?_
  rintro e w1 ⟨a, err, v, rfl, hown, hans, hrel, hap, hb1⟩
  clear cS m0' m1'
  have hB1 : Below w.heap.size w w1 := hb0.trans (hb1.mono hb0.size)
  have nn0 := (below_blk hb1 (show w.heap.size < W0.heap.size by omega)).trans n0'
  have nn1 := (below_blk hb1 (show w.heap.size < W0.heap.size by omega)).trans n1'
  have hz1 := hb1.size
  obtain ⟨s1, s2, s3, s4⟩ := hans.small
  have hebd := hans.bds
  obtain ⟨fa, fc, pa, pc, ka, kc, ra, rc, rfl, o1, o2, o3, o4⟩ := hown
  have HO := hide (show Row4 w1 W0.heap.size fa fc pa pc ka kc ra rc a.flow.length a.pots.length a.cut.length a.circ.length a.flow a.pots a.cut a.circ from ⟨o1, o2, o3, o4⟩)
  have HAN := hide (show Ans w1 fa pa ka ra a.flow.length a.pots.length a.cut.length a.circ.length a.flow a.pots a.cut a.circ from ⟨s1.ints o1, s2.ints o2, s3.ints o3, s4.ints o4⟩)
  have hrcap := own_cap o4
  have HANS := hide hans
  have HREL := hide hrel
  have HAP : Hid (Apart4 (.slice fa a.flow.length fc) (.slice pa a.pots.length pc) (.slice ka a.cut.length kc) (.slice ra a.circ.length rc)) := by
    obtain ⟨k', c', x1, x2, x3, x4, ev, hA4⟩ := hap
    simp only [Value.agg.injEq, Array.mk.injEq, List.cons.injEq, and_true] at ev
    obtain ⟨_, _, rfl, rfl, rfl, rfl⟩ := ev
    exact hA4
  obtain ⟨kd, cs, fl, po, cu, ci⟩ := a
  simp only [] at HO HAN HREL HAP HANS hrcap s1 s2 s3 s4 ⊢
  clear hans hrel hap o1 o2 o3 o4 n0' n1'
  obtain ⟨W1, hW1⟩ : ∃ W1, w1.alloc (.cells #[.int .i64 kd, .int .i64 cs, .slice fa fl.length fc, .slice pa po.length pc, .slice ka cu.length kc, .slice ra ci.length rc] 35) = W1 := ⟨_, rfl⟩
  have hbW1 : Below w1.heap.size w1 W1 := by rw [← hW1]; exact Joins.below_alloc1 _ _
  have hr9 : W1.rowIs w1.heap.size 35 6 (ansRow (.int .i64 kd) (.int .i64 cs) (.slice fa fl.length fc) (.slice pa po.length pc) (.slice ka cu.length kc) (.slice ra ci.length rc)) := by rw [← hW1]; exact ansRow_alloc _ _ _ _ _ _ _ _
  have hzW1 : W1.heap.size = w1.heap.size + 1 := by rw [← hW1]; simp
  have HW1 := hide hW1
  clear hW1
  go_upto_region 2 with fail
  rw [HW1.out]
  clear HW1
  have hbt : tb < w1.heap.size := by omega
  have hbtn : tb ≠ w1.heap.size := by omega
  have hBW : Below w.heap.size w W1 := hB1.trans (hbW1.mono (by omega))
  have n0w := (below_blk hbW1 (show w.heap.size < w1.heap.size by omega)).trans nn0
  have n1w := (below_blk hbW1 (show w.heap.size < w1.heap.size by omega)).trans nn1
  clear nn0 nn1
  obtain ⟨⟨a0, a1, a2, a3, a4, a5⟩, ⟨g0, g1, g2, g3, g4, g5⟩⟩ := row6 hr9
  have HR9 := hide hr9
  have cF : n0 (Calls Tryz.prog 37 #[.agg #[.slice sa sn sc, .slice aa an ac], .agg #[.int .i64 kd, .int .i64 cs, .slice fa fl.length fc, .slice pa po.length pc, .slice ka cu.length kc, .slice ra ci.length rc], .int .i64 err] W1 fun e w' => e = .returned (.bool true) ∧ Below W1.heap.size W1 w') :=
    refSolveFits_any sa aa fa pa ka ra sn sc an ac fc pc kc rc xs es kd cs fl po cu ci err W1 ((HX.out.below hb1).below hbW1) ((HE.out.below hb1).below hbW1) (HAN.out.below hbW1) hrcap HANS.out
  clear hr9
  go_wp2_with fail
  refine Calls.mono cF.out ?_
  rintro e w2 ⟨rfl, hb2⟩
  clear cF n0w n1w a0 a1 a2 a3 a4 a5 g0 g1 g2 g3 g4 g5
  have hz2 := hb2.size
  have hB2 : Below w.heap.size w w2 := hBW.trans (hb2.mono hBW.size)
  have hr9 : w2.rowIs w1.heap.size 35 6 (ansRow (.int .i64 kd) (.int .i64 cs) (.slice fa fl.length fc) (.slice pa po.length pc) (.slice ka cu.length kc) (.slice ra ci.length rc)) := below_row hb2 HR9.out (by omega)
  have HR92 := hide hr9
  have HAN2 := hide ((HAN.out.below hbW1).below hb2)
  clear HR9
  obtain ⟨⟨a0, a1, a2, a3, a4, a5⟩, ⟨g0, g1, g2, g3, g4, g5⟩⟩ := row6 hr9
  have ht2 : w2.rowIs tb 44 5 (toldF o (.slice none 0 0)) := below_row hB2 HT.out htb
  have t4 := ht2.cell (i := 4) (by omega)
  simp only [toldF, if_true] at t4
  have f4 := ht2.frozen 4
  have htl2 := ht2.lt
  have HT2 := hide ht2
  have HFR : Hid (∀ (ob : Obj) w3, (w2.drew.alloc ob).grownBy w3 (Value.slice none 0 0).ownBlock → ∀ k, k < w2.heap.size → w3.heap[k]? = w2.heap[k]?) := fun ob w3 hg k k1 =>
    (hg.block k (Nat.lt_of_lt_of_le k1 (World.grownBy_alloc w2.drew ob none).size) (by simp [Value.ownBlock])).trans (((World.grownBy_alloc w2.drew ob none).block k k1 (by simp)).trans rfl)
  have HTR : Hid (∀ (ob : Obj) w3, (w2.drew.alloc ob).grownBy w3 (Value.slice none 0 0).ownBlock → w3.rowIs tb 44 5 (toldF o (.slice none 0 0))) := fun ob w3 hg => ht2.of_block (HFR.out ob w3 hg tb ht2.lt)
  have HR9R : Hid (∀ (ob : Obj) w3, (w2.drew.alloc ob).grownBy w3 (Value.slice none 0 0).ownBlock → w3.cell? ⟨w1.heap.size, 0, none⟩ = some (.int .i64 kd) ∧ w3.cell? ⟨w1.heap.size, 1, none⟩ = some (.int .i64 cs)) := fun ob w3 hg => by
    have h1 := HR92.out.of_block (HFR.out ob w3 hg w1.heap.size HR92.out.lt)
    obtain ⟨⟨a0, a1, _⟩, _⟩ := row6 h1
    exact ⟨a0, a1⟩
  clear ht2 hr9
  go_wp2_with fail
  go_cut [34] (fun _ wx => ToldAt wx tb w2.heap.size o [kd, cs, err] ∧ Keep1 w2.heap.size tb w2 wx)
  case first =>
    clear a2 a3 a4 a5 g0 g1 g2 g3 g4 g5 HX HE HLS HFLO HANZ HT HO HAN HANS HREL HAP HR92 HAN2 HT2 hb1 hbW1 hb2 hB1 hBW hB2 s1 s2 s3 s4 hrcap hb0
    go_region_law (first | (refine step_num rfl (.tmp 31) rfl err (by omega) (by simp [Act.eval, Act.put]; done) ?_) | (refine step_push_ints rfl (.tmp 26) (.tmp 33) rfl w2.heap.size (.slice none 0 0) 0 [] (by simp [Act.eval, Act.put]; done) (World.ownsRow_nil _ _ _ _) w2.heap.size 3 3 [kd, cs, err] rfl (by omega) (by simp [Act.eval, Act.put]; done) ?_ (by omega) (by simp) ?_; (intro j u hj; match j, hj with | 0, hj => (simp [intCells] at hj; subst hj; go_simp) | 1, hj => (simp [intCells] at hj; subst hj; go_simp) | 2, hj => (simp [intCells] at hj; subst hj; go_simp) | j + 3, hj => (simp [intCells] at hj)); intro g' c' w3 hown3 hgr; have hr3 := HTR.out _ _ hgr; have hc3 := hr3.cell (i := 4) (by omega); simp only [toldF, if_true] at hc3; have hf3 := hr3.frozen 4))
    all_goals
      have HF3 : Hid (ToldAt (w3.setCell ⟨tb, 4, none⟩ (.slice (some ⟨g', 0, none⟩) 3 c')) tb w2.heap.size o [kd, cs, err] ∧ Keep1 w2.heap.size tb w2 (w3.setCell ⟨tb, 4, none⟩ (.slice (some ⟨g', 0, none⟩) 3 c'))) := by
        have hk3 : Keep1 w2.heap.size tb w2 w3 := ⟨hgr.os, hgr.tape, hgr.output, by have := hgr.size; simp at this; omega, fun k k1 _ => HFR.out _ _ hgr k k1⟩
        refine ⟨⟨htl2, .slice (some ⟨g', 0, none⟩) 3 c', (hr3.set 4 _).congr ?_, own_blk hown3 (fun k e => Below.heap_setCell _ _ _ _ (by have := (hown3.lt k e).1; show k ≠ tb; omega))⟩, hk3.trans (Keep1.set _ _ _ _ _)⟩
        intro i hi
        by_cases e : i = 4
        · subst e; simp [toldF]
        · simp [toldF, e]
      clear hown3 hgr hr3 hc3 hf3 a0 a1
      go_wp2_with fail
      go_meet
      exact HF3.out
  case rest =>
  obtain ⟨hTo, hK2⟩ := hcut
  obtain ⟨w3, hw3⟩ : ∃ w3, wc = w3 := ⟨_, rfl⟩
  rw [hw3] at hTo hK2 ⊢
  clear hw3 HFR HTR HR9R t4 f4 a0 a1 a2 a3 a4 a5 g0 g1 g2 g3 g4 g5
  have hgeF : ∀ b, (Value.slice fa fl.length fc).ownBlock = some b → W0.heap.size ≤ b ∧ b < w1.heap.size := fun b hb => (own_typed HO.out.fl b hb).2
  have hgeP : ∀ b, (Value.slice pa po.length pc).ownBlock = some b → W0.heap.size ≤ b ∧ b < w1.heap.size := fun b hb => (own_typed HO.out.po b hb).2
  have hgeC : ∀ b, (Value.slice ka cu.length kc).ownBlock = some b → W0.heap.size ≤ b ∧ b < w1.heap.size := fun b hb => (own_typed HO.out.cu b hb).2
  have hgeR : ∀ b, (Value.slice ra ci.length rc).ownBlock = some b → W0.heap.size ≤ b ∧ b < w1.heap.size := fun b hb => (own_typed HO.out.ci b hb).2
  have hfb : ∀ b off, fa = some ⟨b, off, none⟩ → b < w2.heap.size ∧ b ≠ tb := fun b off e => by
    have := hgeF b (by rw [e]; rfl)
    omega
  have hpb : ∀ b off, pa = some ⟨b, off, none⟩ → b < w2.heap.size ∧ b ≠ tb := fun b off e => by
    have := hgeP b (by rw [e]; rfl)
    omega
  have hkb : ∀ b off, ka = some ⟨b, off, none⟩ → b < w2.heap.size ∧ b ≠ tb := fun b off e => by
    have := hgeC b (by rw [e]; rfl)
    omega
  have hrb : ∀ b off, ra = some ⟨b, off, none⟩ → b < w2.heap.size ∧ b ≠ tb := fun b off e => by
    have := hgeR b (by rw [e]; rfl)
    omega
  have HGF := hide hgeF
  have HGP := hide hgeP
  have HGC := hide hgeC
  have HGR := hide hgeR
  have HFB := hide hfb
  have HPB := hide hpb
  have HKB := hide hkb
  have HRB := hide hrb
  clear hgeF hgeP hgeC hgeR hfb hpb hkb hrb
  have hl1 := s1.1
  have hl2 := s2.1
  have hl3 := s3.1
  have hl4 := s4.1
  have HRW : Hid (∀ w', Keep1 w2.heap.size tb w2 w' → w'.rowIs w1.heap.size 35 6 (ansRow (.int .i64 kd) (.int .i64 cs) (.slice fa fl.length fc) (.slice pa po.length pc) (.slice ka cu.length kc) (.slice ra ci.length rc))) := fun w' hK => HR92.out.of_block (hK.block w1.heap.size HR92.out.lt (by omega))
  have HAW : Hid (∀ w', Keep1 w2.heap.size tb w2 w' → Ans w' fa pa ka ra fl.length po.length cu.length ci.length fl po cu ci) := fun w' hK => ⟨HAN2.out.fl.blk hK.size (fun b off e => hK.block b (HFB.out b off e).1 (HFB.out b off e).2), HAN2.out.po.blk hK.size (fun b off e => hK.block b (HPB.out b off e).1 (HPB.out b off e).2), HAN2.out.cu.blk hK.size (fun b off e => hK.block b (HKB.out b off e).1 (HKB.out b off e).2), HAN2.out.ci.blk hK.size (fun b off e => hK.block b (HRB.out b off e).1 (HRB.out b off e).2)⟩
  obtain ⟨⟨a0, a1, a2, a3, a4, a5⟩, -⟩ := row6 (HRW.out w3 hK2)
  have cA : n0 (Calls Tryz.prog 24 #[.pointer (some ⟨tb, 0, none⟩), .slice fa fl.length fc] w3 fun e w' => e = .returned (.tuple #[]) ∧ ToldAt w' tb w2.heap.size o ([kd, cs, err] ++ (fl.length : Int) :: fl) ∧ Keep1 w2.heap.size tb w3 w') :=
    aAdd_any tb w2.heap.size fa fl.length fc o ([kd, cs, err]) fl w3 hTo (HAW.out w3 hK2).fl HFB.out (by simp; omega) hK2.size
  clear hTo
  go_wp2_with fail
  refine Calls.mono cA.out ?_
  rintro e w4 ⟨rfl, hTo, hK⟩
  have hK3 := hK2.trans hK
  clear cA hK a0 a1 a2 a3 a4 a5
  obtain ⟨⟨a0, a1, a2, a3, a4, a5⟩, -⟩ := row6 (HRW.out w4 hK3)
  have cA : n0 (Calls Tryz.prog 24 #[.pointer (some ⟨tb, 0, none⟩), .slice pa po.length pc] w4 fun e w' => e = .returned (.tuple #[]) ∧ ToldAt w' tb w2.heap.size o (([kd, cs, err] ++ (fl.length : Int) :: fl) ++ (po.length : Int) :: po) ∧ Keep1 w2.heap.size tb w4 w') :=
    aAdd_any tb w2.heap.size pa po.length pc o (([kd, cs, err] ++ (fl.length : Int) :: fl)) po w4 hTo (HAW.out w4 hK3).po HPB.out (by simp; omega) hK3.size
  clear hTo
  go_wp2_with fail
  refine Calls.mono cA.out ?_
  rintro e w5 ⟨rfl, hTo, hK⟩
  have hK4 := hK3.trans hK
  clear cA hK a0 a1 a2 a3 a4 a5
  obtain ⟨⟨a0, a1, a2, a3, a4, a5⟩, -⟩ := row6 (HRW.out w5 hK4)
  have cA : n0 (Calls Tryz.prog 24 #[.pointer (some ⟨tb, 0, none⟩), .slice ka cu.length kc] w5 fun e w' => e = .returned (.tuple #[]) ∧ ToldAt w' tb w2.heap.size o ((([kd, cs, err] ++ (fl.length : Int) :: fl) ++ (po.length : Int) :: po) ++ (cu.length : Int) :: cu) ∧ Keep1 w2.heap.size tb w5 w') :=
    aAdd_any tb w2.heap.size ka cu.length kc o ((([kd, cs, err] ++ (fl.length : Int) :: fl) ++ (po.length : Int) :: po)) cu w5 hTo (HAW.out w5 hK4).cu HKB.out (by simp; omega) hK4.size
  clear hTo
  go_wp2_with fail
  refine Calls.mono cA.out ?_
  rintro e w6 ⟨rfl, hTo, hK⟩
  have hK5 := hK4.trans hK
  clear cA hK a0 a1 a2 a3 a4 a5
  obtain ⟨⟨a0, a1, a2, a3, a4, a5⟩, -⟩ := row6 (HRW.out w6 hK5)
  have cA : n0 (Calls Tryz.prog 24 #[.pointer (some ⟨tb, 0, none⟩), .slice ra ci.length rc] w6 fun e w' => e = .returned (.tuple #[]) ∧ ToldAt w' tb w2.heap.size o (((([kd, cs, err] ++ (fl.length : Int) :: fl) ++ (po.length : Int) :: po) ++ (cu.length : Int) :: cu) ++ (ci.length : Int) :: ci) ∧ Keep1 w2.heap.size tb w6 w') :=
    aAdd_any tb w2.heap.size ra ci.length rc o (((([kd, cs, err] ++ (fl.length : Int) :: fl) ++ (po.length : Int) :: po) ++ (cu.length : Int) :: cu)) ci w6 hTo (HAW.out w6 hK5).ci HRB.out (by simp; omega) hK5.size
  clear hTo
  go_wp2_with fail
  refine Calls.mono cA.out ?_
  rintro e w7 ⟨rfl, hTo, hK⟩
  have hK6 := hK5.trans hK
  clear cA hK a0 a1 a2 a3 a4 a5
  have HTO : Hid (ToldAt w7 tb w2.heap.size o (saidA ⟨kd, cs, fl, po, cu, ci⟩ err)) := hTo
  have HK := hide hK6
  have hz7 := hK6.size
  clear hTo hK5 hK4 hK3
  have cO := ownAnswer_own fa pa ka ra fl.length fc po.length pc cu.length kc ci.length rc kd cs fl po cu ci w7 (HAW.out w7 hK6)
  have CO : n0 _ := cO
  obtain ⟨⟨a0, a1, a2, a3, a4, a5⟩, -⟩ := row6 (HRW.out w7 hK6)
  clear cO hK6
  go_wp2_with fail
  refine Calls.mono CO.out ?_
  rintro e w8 ⟨xa, xc, ya, yc, za, zc, qa, qc, rfl, hrow, hb8⟩
  have HROW := hide hrow
  have hz8 := hb8.size
  clear CO a0 a1 a2 a3 a4 a5 hrow
  obtain ⟨W8, hW8⟩ : ∃ W8, w8.alloc (.cells #[.int .i64 kd, .int .i64 cs, .slice xa fl.length xc, .slice ya po.length yc, .slice za cu.length zc, .slice qa ci.length qc] 35) = W8 := ⟨_, rfl⟩
  have hbW8 : Below w8.heap.size w8 W8 := by rw [← hW8]; exact Joins.below_alloc1 _ _
  have hr12 : W8.rowIs w8.heap.size 35 6 (ansRow (.int .i64 kd) (.int .i64 cs) (.slice xa fl.length xc) (.slice ya po.length yc) (.slice za cu.length zc) (.slice qa ci.length qc)) := by rw [← hW8]; exact ansRow_alloc _ _ _ _ _ _ _ _
  have hzW8 : W8.heap.size = w8.heap.size + 1 := by rw [← hW8]; simp
  have HW8 := hide hW8
  clear hW8
  -- where all lies
  obtain ⟨aA, aC, acs, eA, hownA, hAt⟩ := HANZ.out.row
  obtain ⟨bA, bC, bcs, eB, hownB, hBt⟩ := HFLO.out.row
  have htA : ∀ b, (fw 2).ownBlock = some b → Typed w b 35 ∧ base0 ≤ b ∧ b < w.heap.size := fun b hb => own_typed hownA b (by rw [← eA]; exact hb)
  have htB : ∀ b, (fw 1).ownBlock = some b → Typed w b 32 ∧ base0 ≤ b ∧ b < w.heap.size := fun b hb => own_typed hownB b (by rw [← eB]; exact hb)
  have F8 : ∀ k, k < w2.heap.size → k ≠ tb → W8.heap[k]? = w2.heap[k]? := fun k k1 k2 => (hbW8.block k (by omega)).trans ((hb8.block k (by omega)).trans (HK.out.block k k1 k2))
  have F8' : ∀ k, k < w7.heap.size → W8.heap[k]? = w7.heap[k]? := fun k k1 => (hbW8.block k (by omega)).trans (hb8.block k k1)
  have F8w : ∀ k, k < w.heap.size → k ≠ tb → W8.heap[k]? = w.heap[k]? := fun k k1 k2 => (F8 k (by omega) k2).trans (hB2.block k k1)
  have hPt : ∀ b, P b → b < w.heap.size ∧ b ≠ tb := fun b hb => ⟨HLS.out.safe.lt b hb, fun e => by
    subst e
    rcases HLS.out.safe.ty b hb with h1 | h1 | h1
    · exact absurd (hTlow) (by omega)
    · exact absurd (h1.uniq (row_typed HT.out)) (by decide)
    · exact absurd (h1.uniq (row_typed HT.out)) (by decide)⟩
  have hnA : ∀ b, (fw 2).ownBlock = some b → b ≠ tb := fun b hb e => by subst e; exact absurd ((htA b hb).1.uniq (row_typed HT.out)) (by decide)
  have hnB : ∀ b, (fw 1).ownBlock = some b → b ≠ tb := fun b hb e => by subst e; exact absurd ((htB b hb).1.uniq (row_typed HT.out)) (by decide)
  have hL8 : Lst W8 wb base0 P nl fw := HLS.out.keep (by omega) (fun b hb => F8w b (hPt b hb).1 (hPt b hb).2) (F8w wb HLS.out.box.lt hne) (fun b e => by
    obtain ⟨la, lc, lcs, h1, h2, _⟩ := HLS.out.arr
    rw [h1] at e
    have ht := own_typed h2 b e
    exact F8w b ht.2.2 (fun e2 => by subst e2; exact absurd (ht.1.uniq (row_typed HT.out)) (by decide)))
  -- the lists of the answer that is kept, as they lie in W8
  have hR8 : Row4 W8 w7.heap.size xa xc ya yc za zc qa qc fl.length po.length cu.length ci.length fl po cu ci := ⟨HROW.out.fl.kept (grown_of_below hbW8 none) (own_none _ _), HROW.out.po.kept (grown_of_below hbW8 none) (own_none _ _), HROW.out.cu.kept (grown_of_below hbW8 none) (own_none _ _), HROW.out.ci.kept (grown_of_below hbW8 none) (own_none _ _)⟩
  obtain ⟨P8, hP8⟩ : ∃ P8 : Nat → Prop, P8 = fun b => P b ∨ (Value.slice xa fl.length xc).ownBlock = some b ∨ (Value.slice ya po.length yc).ownBlock = some b ∨ (Value.slice za cu.length zc).ownBlock = some b ∨ (Value.slice qa ci.length qc).ownBlock = some b := ⟨_, rfl⟩
  have hP8P : ∀ b, P b → P8 b := fun b hb => by rw [hP8]; exact .inl hb
  have hP8n : ∀ b, P8 b → P b ∨ (Typed W8 b 3 ∧ w7.heap.size ≤ b ∧ b < W8.heap.size) := fun b hb => by
    rw [hP8] at hb
    rcases hb with hb | hb | hb | hb | hb
    · exact .inl hb
    · exact .inr (own_typed hR8.fl b hb)
    · exact .inr (own_typed hR8.po b hb)
    · exact .inr (own_typed hR8.cu b hb)
    · exact .inr (own_typed hR8.ci b hb)
  have hS8 : Safe W8 base0 P8 := ⟨fun b hb => (hP8n b hb).elim (fun h => hL8.safe.lt b h) (fun h => h.2.2), fun b hb => (hP8n b hb).elim (fun h => hL8.safe.ty b h) (fun h => .inr (.inl h.1))⟩
  have hlp : ∀ (a : Option Addr) (c : Nat) (l : List Int), Small l → W8.ownsRow w7.heap.size 3 1 (.slice a l.length c) l.length (intCells l) → (∀ b, (Value.slice a l.length c).ownBlock = some b → P8 b) → ListP W8 P8 (.slice a l.length c) l := fun a c l hs ho hp => ⟨by have := hs.1; omega, a, c, rfl, own_cap ho, hs.ints ho, fun b off e => hp b (by rw [e]; rfl)⟩
  have HLP : Hid (ListP W8 P8 (.slice xa fl.length xc) fl ∧ ListP W8 P8 (.slice ya po.length yc) po ∧ ListP W8 P8 (.slice za cu.length zc) cu ∧ ListP W8 P8 (.slice qa ci.length qc) ci) :=
    ⟨hlp xa xc fl s1 hR8.fl (fun b e => by rw [hP8]; exact .inr (.inl e)), hlp ya yc po s2 hR8.po (fun b e => by rw [hP8]; exact .inr (.inr (.inl e))), hlp za zc cu s3 hR8.cu (fun b e => by rw [hP8]; exact .inr (.inr (.inr (.inl e)))), hlp qa qc ci s4 hR8.ci (fun b e => by rw [hP8]; exact .inr (.inr (.inr (.inr e))))⟩
  have HL8 : Hid (Lst W8 wb base0 P8 nl fw) := hL8.more hS8 hP8P
  have HPN := hide hP8n
  have HPP := hide hP8P
  clear hP8 hP8P hP8n hS8 hlp hR8
  have hPk : ∀ b, P b → W8.heap[b]? = w.heap[b]? := fun b hb => F8w b (hPt b hb).1 (hPt b hb).2
  have hoA8 : W8.ownsRow base0 35 6 (.slice aA na aC) na acs := own_blk hownA (fun k e => F8w k (own_typed hownA k e).2.2 (hnA k (by rw [eA]; exact e)))
  have hoB8 : W8.ownsRow base0 32 1 (.slice bA nf bC) nf bcs := own_blk hownB (fun k e => F8w k (own_typed hownB k e).2.2 (hnB k (by rw [eB]; exact e)))
  have HAT8 : Hid (AnssAt W8 P8 acs na anss) := fun i hi => by
    obtain ⟨v2, v3, v4, v5, e0, e1, e2, e3, e4, e5, l2, l3, l4, l5⟩ := hAt i hi
    exact ⟨v2, v3, v4, v5, e0, e1, e2, e3, e4, e5, l2.keep (by omega) hPk HPP.out, l3.keep (by omega) hPk HPP.out, l4.keep (by omega) hPk HPP.out, l5.keep (by omega) hPk HPP.out⟩
  have HBT8 : Hid (FloAt W8 P8 bcs nf fls) := fun i hi => by
    obtain ⟨v, e, hl⟩ := hBt i hi
    exact ⟨v, e, hl.keep (by omega) hPk HPP.out⟩
  have HOA8 := hide hoA8
  have HOB8 := hide hoB8
  have HTA := hide htA
  have HTB := hide htB
  have HF8 := hide F8
  have HF8' := hide F8'
  have HF8w := hide F8w
  have HPT := hide hPt
  have HNA := hide hnA
  have HNB := hide hnB
  have HOWN : Hid (∀ ob, (W8.drew.alloc ob).ownsRow base0 35 6 (.slice aA na aC) na acs) := fun ob => own_blk hoA8 (fun k e => ((World.grownBy_alloc W8.drew ob none).block k (hoA8.lt k e).2 (by simp)).trans rfl)
  have HWR : Hid (∀ ob w3, (W8.drew.alloc ob).grownBy w3 (Value.slice aA na aC).ownBlock → w3.rowIs wb 31 6 fw) := fun ob w3 hg => grow_row HL8.out.box HOA8.out (by decide) hg
  have hbas : base0 ≤ W8.heap.size := by have := HL8.out.wlo; have := HL8.out.box.lt; omega
  have c2 := HL8.out.box.cell (i := 2) (by omega)
  have hwbl := HL8.out.box.lt
  rw [eA] at c2
  have HR12 := hide hr12
  obtain ⟨⟨a0, a1, a2, a3, a4, a5⟩, -⟩ := row6 hr12
  have HZ8 := hide hzW8
  clear hzW8 hr12 hPt hPk hnA hnB htA htB F8 F8' F8w hL8 hoA8 hoB8 hAt hBt hownA hownB
  go_upto_region 9 with fail
  rw [HW8.out]
  clear HW8
  go_cut [62] (fun _ wx => ∃ g' c', Lst wx wb base0 P8 nl (fun k => if k = 2 then .slice (some ⟨g', 0, none⟩) (na + 1) c' else fw k) ∧ wx.ownsRow base0 35 6 (.slice (some ⟨g', 0, none⟩) (na + 1) c') (na + 1) (acs ++ ans6 kd cs (.slice xa fl.length xc) (.slice ya po.length yc) (.slice za cu.length zc) (.slice qa ci.length qc)) ∧ KeepB W8 wx (fun k => k = wb ∨ (Value.slice aA na aC).ownBlock = some k))
  case first =>
    go_region_law (first | (refine step_push_ans rfl (.tmp 59) (.tmp 61) rfl base0 (.slice aA na aC) na acs (by simp [Act.eval, Act.put]; done) (HOWN.out _) W8.heap.size kd cs (.slice xa fl.length xc) (.slice ya po.length yc) (.slice za cu.length zc) (.slice qa ci.length qc) rfl rfl rfl rfl 1 (by simp [Act.eval, Act.put]; done) ?_ (by omega) (by simp; omega) ?_; (intro j u hj; match j, hj with | 0, hj => (simp [ans6] at hj; subst hj; go_simp) | 1, hj => (simp [ans6] at hj; subst hj; go_simp) | 2, hj => (simp [ans6] at hj; subst hj; go_simp) | 3, hj => (simp [ans6] at hj; subst hj; go_simp) | 4, hj => (simp [ans6] at hj; subst hj; go_simp) | 5, hj => (simp [ans6] at hj; subst hj; go_simp) | j + 6, hj => (simp [ans6] at hj)); intro g' c' w9 hown9 hgr; have hr9 := HWR.out _ _ hgr; have hc9 := hr9.cell (i := 2) (by omega); have hf9 := hr9.frozen 2))
    all_goals
      have HF9 := hide (grow_box HL8.out (i := 2) (by decide) HOA8.out (fun b e => HL8.out.safe.not (own_typed HOA8.out b e).2.1 (own_typed HOA8.out b e).1 (by decide) (by decide)) (by decide) (by decide) hgr hown9)
      clear hown9 hgr hr9
      go_wp2_with fail
      go_meet
      exact ⟨_, _, HF9.out⟩
  case rest =>
  obtain ⟨gA, cA, hL9, hoA9, hK9⟩ := hcut
  obtain ⟨w9, hw9⟩ : ∃ w9, wc = w9 := ⟨_, rfl⟩
  rw [hw9] at hL9 hoA9 hK9 ⊢
  clear hw9 c2 a0 a1 a2 a3 a4 a5 HOWN HWR
  have hzW8 := HZ8.out
  have hz9 := hK9.size
  have hoB9 : w9.ownsRow base0 32 1 (.slice bA nf bC) nf bcs := own_blk HOB8.out (fun k e => hK9.block k (HOB8.out.lt k e).2 (fun e2 => e2.elim (fun e3 => by subst e3; exact absurd ((own_typed HOB8.out k e).1.uniq (row_typed HL8.out.box)) (by decide)) (fun e3 => absurd ((own_typed HOB8.out k e).1.uniq (own_typed HOA8.out k e3).1) (by decide))))
  have hwz := HLS.out.box.lt
  have hr12 := HR12.out.of_block (hK9.block w8.heap.size HR12.out.lt (fun e2 => e2.elim (fun e3 => by omega) (fun e3 => by have := (HTA.out w8.heap.size (by rw [eA]; exact e3)).2.2; omega)))
  have houtB : ∀ b, (Value.slice bA nf bC).ownBlock = some b → ¬ P8 b := fun b e hp => by
    rcases HPN.out b hp with h1 | h1
    · exact HFLO.out.out b (by rw [eB]; exact e) h1
    · have := (HTB.out b (by rw [eB]; exact e)).2.2; omega
  have HOUTB := hide houtB
  have HL9 := hide hL9
  have HOA9 := hide hoA9
  have HOB9 := hide hoB9
  have HK9 := hide hK9
  have HOWN : Hid (∀ ob, (w9.drew.alloc ob).ownsRow base0 32 1 (.slice bA nf bC) nf bcs) := fun ob => own_blk hoB9 (fun k e => ((World.grownBy_alloc w9.drew ob none).block k (hoB9.lt k e).2 (by simp)).trans rfl)
  have HWR : Hid (∀ ob w3, (w9.drew.alloc ob).grownBy w3 (Value.slice bA nf bC).ownBlock → w3.rowIs wb 31 6 (fun k => if k = 2 then .slice (some ⟨gA, 0, none⟩) (na + 1) cA else fw k)) := fun ob w3 hg => grow_row HL9.out.box HOB9.out (by decide) hg
  have hbas9 : base0 ≤ w9.heap.size := by omega
  have c1 := hL9.box.cell (i := 1) (by omega)
  have hwb9 := hL9.box.lt
  rw [if_neg (by decide), eB] at c1
  obtain ⟨⟨a0, a1, a2, a3, a4, a5⟩, -⟩ := row6 hr12
  clear hzW8 hz9 hoB9 houtB hL9 hoA9 hK9 hr12 a0 a1 a3 a4 a5 hwbl hbas
  go_wp2_with fail
  go_cut [73] (fun _ wx => ∃ g' c', (Lst wx wb base0 P8 nl (fun k => if k = 1 then .slice (some ⟨g', 0, none⟩) (nf + 1) c' else if k = 2 then .slice (some ⟨gA, 0, none⟩) (na + 1) cA else fw k) ∧ wx.ownsRow base0 32 1 (.slice (some ⟨g', 0, none⟩) (nf + 1) c') (nf + 1) (bcs ++ [.slice xa fl.length xc]) ∧ KeepB w9 wx (fun k => k = wb ∨ (Value.slice bA nf bC).ownBlock = some k)) ∧ ((Value.slice bA nf bC).ownBlock = some g' ∨ w9.heap.size ≤ g'))
  case first =>
    go_region_law (first | (refine step_push_flow rfl (.tmp 69) (.tmp 72) rfl base0 (.slice bA nf bC) nf bcs (by simp [Act.eval, Act.put]; done) (HOWN.out _) w9.heap.size (.slice xa fl.length xc) rfl 1 (by simp [Act.eval, Act.put]; done) (by go_simp) (by omega) (by simp; omega) ?_; intro g' c' w10 hown10 hgr hor; have hr10 := HWR.out _ _ hgr; have hc10 := hr10.cell (i := 1) (by omega); have hf10 := hr10.frozen 1; have hor2 : Hid ((Value.slice bA nf bC).ownBlock = some g' ∨ w9.heap.size ≤ g') := hor.imp id (fun h => Nat.le_trans (World.grownBy_alloc w9.drew _ none).size h)))
    all_goals
      have HF9 := hide (grow_box HL9.out (i := 1) (by decide) HOB9.out HOUTB.out (by decide) (by decide) hgr hown10)
      clear hown10 hgr hr10 hor
      go_wp2_with fail
      go_meet
      exact ⟨_, _, HF9.out, hor2.out⟩
  case rest =>
  obtain ⟨gB, cB, ⟨hL10, hoB10, hK10⟩, hor⟩ := hcut
  obtain ⟨w10, hw10⟩ : ∃ w10, wc = w10 := ⟨_, rfl⟩
  rw [hw10] at hL10 hoB10 hK10 ⊢
  clear hw10 c1 a2 HOWN HWR
  have hzW8 := HZ8.out
  have hz9 := HK9.out.size
  have hz10 := hK10.size
  have F10 : ∀ k, k < W8.heap.size → k ≠ wb → (fw 2).ownBlock ≠ some k → (fw 1).ownBlock ≠ some k → w10.heap[k]? = W8.heap[k]? := fun k k1 k2 k3 k4 => (hK10.block k (by omega) (fun e => e.elim k2 (fun e => k4 (by rw [eB]; exact e)))).trans (HK9.out.block k k1 (fun e => e.elim k2 (fun e => k3 (by rw [eA]; exact e))))
  have F10n : ∀ k, w.heap.size ≤ k → k < W8.heap.size → w10.heap[k]? = W8.heap[k]? := fun k k0 k1 => F10 k k1 (by omega) (fun e => by have := (HTA.out k e).2.2; omega) (fun e => by have := (HTB.out k e).2.2; omega)
  have hPk : ∀ b, P8 b → w10.heap[b]? = W8.heap[b]? := fun b hb => F10 b (HL8.out.safe.lt b hb) (fun e => by subst e; exact HL8.out.safe.not HL8.out.wlo (row_typed HL8.out.box) (by decide) (by decide) hb) (fun e => HL8.out.safe.not (own_typed HOA8.out b (by rw [← eA]; exact e)).2.1 (own_typed HOA8.out b (by rw [← eA]; exact e)).1 (by decide) (by decide) hb) (fun e => HOUTB.out b (by rw [← eB]; exact e) hb)
  have hszk : W8.heap.size ≤ w10.heap.size := by omega
  have hoA10 : w10.ownsRow base0 35 6 (.slice (some ⟨gA, 0, none⟩) (na + 1) cA) (na + 1) (acs ++ ans6 kd cs (.slice xa fl.length xc) (.slice ya po.length yc) (.slice za cu.length zc) (.slice qa ci.length qc)) := own_blk HOA9.out (fun k e => hK10.block k (HOA9.out.lt k e).2 (fun e2 => e2.elim (fun e3 => by subst e3; exact absurd ((own_typed HOA9.out k e).1.uniq (row_typed HL9.out.box)) (by decide)) (fun e3 => absurd ((own_typed HOA9.out k e).1.uniq (own_typed HOB9.out k e3).1) (by decide))))
  have hAT : AnssAt w10 P8 acs na anss := fun i hi => by
    obtain ⟨v2, v3, v4, v5, e0, e1, e2, e3, e4, e5, l2, l3, l4, l5⟩ := HAT8.out i hi
    exact ⟨v2, v3, v4, v5, e0, e1, e2, e3, e4, e5, l2.keep hszk hPk (fun _ h => h), l3.keep hszk hPk (fun _ h => h), l4.keep hszk hPk (fun _ h => h), l5.keep hszk hPk (fun _ h => h)⟩
  have hBT : FloAt w10 P8 bcs nf fls := fun i hi => by
    obtain ⟨v, e, hl⟩ := HBT8.out i hi
    exact ⟨v, e, hl.keep hszk hPk (fun _ h => h)⟩
  obtain ⟨p1, p2, p3, p4⟩ := HLP.out
  have hA10 := Anz.push (a := ⟨kd, cs, fl, po, cu, ci⟩) (by have := HOA8.out.1; omega) hoA10 hAT (p1.keep hszk hPk (fun _ h => h)) (p2.keep hszk hPk (fun _ h => h)) (p3.keep hszk hPk (fun _ h => h)) (p4.keep hszk hPk (fun _ h => h))
  have hB10 := Flo.push (by have := HOB8.out.1; omega) hoB10 hBT (p1.keep hszk hPk (fun _ h => h)) (fun hp => by
    rcases hor with h1 | h1
    · exact HOUTB.out gB h1 hp
    · have := HL8.out.safe.lt gB hp; omega)
  obtain ⟨fls', hfls'⟩ : ∃ fls' : Nat → List Int, fls' = fun i => if i = nf then fl else fls i := ⟨_, rfl⟩
  obtain ⟨anss', hanss'⟩ : ∃ anss' : Nat → A6, anss' = fun i => if i = na then (⟨kd, cs, fl, po, cu, ci⟩ : A6) else anss i := ⟨_, rfl⟩
  rw [← hfls'] at hB10
  rw [← hanss'] at hA10
  have HE1 : Hid (∀ i, i < nf → fls' i = fls i) := fun i hi => by rw [hfls']; exact if_neg (by omega)
  have HE2 : Hid (∀ i, i < na → anss' i = anss i) := fun i hi => by rw [hanss']; exact if_neg (by omega)
  obtain ⟨fx, hfx⟩ : ∃ fx : Nat → Value, fx = fun k => if k = 1 then .slice (some ⟨gB, 0, none⟩) (nf + 1) cB else if k = 2 then .slice (some ⟨gA, 0, none⟩) (na + 1) cA else fw k := ⟨_, rfl⟩
  rw [← hfx] at hL10
  have hB10' : Flo w10 base0 P8 (fx 1) (nf + 1) fls' := by rw [hfx]; exact hB10
  have hA10' : Anz w10 base0 P8 (fx 2) (na + 1) anss' := by rw [hfx]; exact hA10
  have HE3 : Hid (∀ i, i ≠ 4 → i ≠ 1 → i ≠ 2 → fx i = fw i) := fun i _ i1 i2 => by rw [hfx]; simp [i1, i2]
  clear hfx hB10 hA10 hfls' hanss' hAT hBT hoA10 hoB10 p1 p2 p3 p4 hor
  obtain ⟨_, sv, hTr, hTs⟩ := HTO.out
  obtain ⟨s, hs⟩ : ∃ s, saidA ⟨kd, cs, fl, po, cu, ci⟩ err = s := ⟨_, rfl⟩
  have HSAID : Hid (SaidSolve xs es s ∧ s.length ≤ 1000 ∧ ∀ x ∈ s, -9223372036854775808 ≤ x ∧ x ≤ 9223372036854775807) := by
    have h2 := HANS.out.two
    simp only [] at h2
    refine ⟨⟨_, err, HREL.out, hs.symm⟩, by rw [← hs]; simp [saidA]; omega, fun x hx => ?_⟩
    rw [← hs] at hx
    simp only [saidA, List.mem_append, List.mem_cons, List.not_mem_nil, or_false] at hx
    rcases hx with ((((rfl | rfl | rfl) | rfl | hx) | rfl | hx) | rfl | hx) | rfl | hx
    · omega
    · omega
    · omega
    · omega
    · have := s1.2 x hx; omega
    · omega
    · have := s2.2 x hx; omega
    · omega
    · have := s3.2 x hx; omega
    · omega
    · have := s4.2 x hx; omega
  rw [hs] at hTs
  clear hs
  have hTr10 : w10.rowIs tb 44 5 (toldF o sv) := hTr.of_block ((F10 tb (by omega) (fun e => hne e.symm) (fun e => HNA.out tb e rfl) (fun e => HNB.out tb e rfl)).trans (HF8'.out tb (by omega)))
  have hTs10 : w10.ownsRow w2.heap.size 3 1 sv s.length (intCells s) := own_blk hTs (fun k e => (F10n k (by have := (hTs.lt k e).1; omega) (by have := (hTs.lt k e).2; omega)).trans (HF8'.out k (hTs.lt k e).2))
  have hbw : base0 ≤ w.heap.size := Nat.le_trans HLS.out.wlo (Nat.le_of_lt HLS.out.box.lt)
  have hMid : Mid w w10 wb tb (fun k => k = tb ∨ (fw 1).ownBlock = some k ∨ (fw 2).ownBlock = some k) base0 nl P8 fx o s sv := by
    refine ⟨hL10, hTr10, ownsRow_mono hTs10 (by omega), fun b hb => ⟨fun hp => ?_, by have := (hTs.lt b hb).1; omega⟩, ⟨?_, ?_, ?_, by omega, fun k k1 k2 k3 _ => ?_⟩, hne⟩
    · rcases HPN.out b hp with h1 | h1
      · have := (hTs.lt b hb).1; have := (HPT.out b h1).1; omega
      · have := (hTs.lt b hb).2; omega
    · exact hK10.os.trans (HK9.out.os.trans (hbW8.os.trans (hb8.os.trans (HK.out.os.trans hB2.os))))
    · exact hK10.tape.trans (HK9.out.tape.trans (hbW8.tape.trans (hb8.tape.trans (HK.out.tape.trans hB2.tape))))
    · exact hK10.output.trans (HK9.out.output.trans (hbW8.output.trans (hb8.output.trans (HK.out.output.trans hB2.output))))
    · exact (F10 k (by omega) k2 (fun e => k3 (.inr (.inr e))) (fun e => k3 (.inr (.inl e)))).trans (HF8w.out k k1 (fun e => k3 (.inl e)))
  have hpend : ∀ (a : Option Addr) (c : Nat) (l : List Int), Small l → w1.ownsRow W0.heap.size 3 1 (.slice a l.length c) l.length (intCells l) → Pend w10 base0 P8 sv (.slice a l.length c) l.length := fun a c l hsm ho => by
    have h2 : w2.ownsRow W0.heap.size 3 1 (.slice a l.length c) l.length (intCells l) := (ho.kept (grown_of_below hbW1 none) (own_none _ _)).kept (grown_of_below hb2 none) (own_none _ _)
    refine ⟨by have := hsm.1; omega, ⟨_, ownsRow_mono (own_blk h2 (fun k e => ?_)) (by omega)⟩, fun b hb => ⟨fun hp => ?_, fun e => ?_⟩⟩
    · have := (ho.lt k e)
      exact (F10n k (by omega) (by omega)).trans (HF8.out k (by omega) (by omega))
    · have := (ho.lt b hb)
      rcases HPN.out b hp with h1 | h1
      · have := (HPT.out b h1).1; omega
      · omega
    · have := (ho.lt b hb)
      have := (hTs.lt b e).1
      omega
  have hPf := hpend fa fc fl s1 HO.out.fl
  have HPp := hide (hpend pa pc po s2 HO.out.po)
  have HPc := hide (hpend ka kc cu s3 HO.out.cu)
  have HPr := hide (hpend ra rc ci s4 HO.out.ci)
  have hr9 := HR92.out.of_block ((F10n w1.heap.size (by omega) (by omega)).trans (HF8.out w1.heap.size (by omega) (by omega)))
  obtain ⟨h12, h13, h14, h23, h24, h34⟩ := HAP.out
  have HG1 : Hid (∀ b, (Value.slice fa fl.length fc).ownBlock = some b → w.heap.size ≤ b) := fun b hb => by have := (HGF.out b hb).1; omega
  have HG2 : Hid (∀ b, (Value.slice pa po.length pc).ownBlock = some b → w.heap.size ≤ b) := fun b hb => by have := (HGP.out b hb).1; omega
  have HG3 : Hid (∀ b, (Value.slice ka cu.length kc).ownBlock = some b → w.heap.size ≤ b) := fun b hb => by have := (HGC.out b hb).1; omega
  have HG4 : Hid (∀ b, (Value.slice ra ci.length rc).ownBlock = some b → w.heap.size ≤ b) := fun b hb => by have := (HGR.out b hb).1; omega
  have HPw : Hid (∀ b, P8 b → P b ∨ w.heap.size ≤ b) := fun b hb => (HPN.out b hb).imp id (fun h => by omega)
  clear hpend F10 F10n hPk hTr hTs hTr10 hTs10 hL10
  -- the four lists become their owners'
  have CM1 : n0 _ := mid_mine_fa w w10 wb tb _ base0 nl (nf + 1) (na + 1) P8 fx fls' anss' o s sv (.slice fa fl.length fc) fl.length hMid hB10' hA10' hPf HG1.out (by omega)
  have HR := hide hr9
  obtain ⟨⟨a0, a1, a2, a3, a4, a5⟩, -⟩ := row6 hr9
  clear hMid hB10' hA10' hPf hr9
  go_wp2_with fail
  refine Calls.mono CM1.out ?_
  rintro e w11 ⟨rfl, fw11, P11, ⟨hM, hFl, hAn⟩, hf11, hP11, hN11, hPe, hTy⟩
  have HPp1 := hide (hPe _ _ HPp.out h12)
  have HPc1 := hide (hPe _ _ HPc.out h13)
  have HPr1 := hide (hPe _ _ HPr.out h14)
  have hr9 := HR.out.of_block (hTy _ (row_typed HR.out))
  clear CM1 HR hPe hTy HPp HPc HPr a0 a1 a2 a3 a4 a5
  have CM2 : n0 _ := mid_mine_fa w w11 wb tb _ base0 (nl + 1) (nf + 1) (na + 1) P11 fw11 fls' anss' o s sv (.slice pa po.length pc) po.length hM hFl hAn HPp1.out HG2.out (by omega)
  have HR := hide hr9
  obtain ⟨⟨a0, a1, a2, a3, a4, a5⟩, -⟩ := row6 hr9
  clear hM hFl hAn hr9
  go_wp2_with fail
  refine Calls.mono CM2.out ?_
  rintro e w12 ⟨rfl, fw12, P12, ⟨hM, hFl, hAn⟩, hf12, hP12, hN12, hPe, hTy⟩
  have HPc2 := hide (hPe _ _ HPc1.out h23)
  have HPr2 := hide (hPe _ _ HPr1.out h24)
  have hr9 := HR.out.of_block (hTy _ (row_typed HR.out))
  clear CM2 HR hPe hTy HPp1 HPc1 HPr1 a0 a1 a2 a3 a4 a5
  have CM3 : n0 _ := mid_mine_fa w w12 wb tb _ base0 (nl + 1 + 1) (nf + 1) (na + 1) P12 fw12 fls' anss' o s sv (.slice ka cu.length kc) cu.length hM hFl hAn HPc2.out HG3.out (by omega)
  have HR := hide hr9
  obtain ⟨⟨a0, a1, a2, a3, a4, a5⟩, -⟩ := row6 hr9
  clear hM hFl hAn hr9
  go_wp2_with fail
  refine Calls.mono CM3.out ?_
  rintro e w13 ⟨rfl, fw13, P13, ⟨hM, hFl, hAn⟩, hf13, hP13, hN13, hPe, hTy⟩
  have HPr3 := hide (hPe _ _ HPr2.out h34)
  have hr9 := HR.out.of_block (hTy _ (row_typed HR.out))
  clear CM3 HR hPe hTy HPc2 HPr2 a0 a1 a2 a3 a4 a5
  have CM4 : n0 _ := mid_mine_fa w w13 wb tb _ base0 (nl + 1 + 1 + 1) (nf + 1) (na + 1) P13 fw13 fls' anss' o s sv (.slice ra ci.length rc) ci.length hM hFl hAn HPr3.out HG4.out (by omega)
  obtain ⟨⟨a0, a1, a2, a3, a4, a5⟩, -⟩ := row6 hr9
  clear hM hFl hAn hr9
  go_wp2_with fail
  refine Calls.mono CM4.out ?_
  rintro e w14 ⟨rfl, fw14, P14, ⟨hM, hFl, hAn⟩, hf14, hP14, hN14, _, _⟩
  have HD : Hid (DoneS w w14 wb tb base0 nl nf na P fw fls anss o (SaidSolve xs es)) := by
    refine ⟨nl + 1 + 1 + 1 + 1, nf + 1, na + 1, fw14, P14, fls', anss', s, sv, by omega, by omega, by omega, by omega, by omega, hM, hFl, hAn, HE1.out, HE2.out, fun i i4 i1 i2 => (hf14 i i4).trans ((hf13 i i4).trans ((hf12 i i4).trans ((hf11 i i4).trans (HE3.out i i4 i1 i2)))), fun b hb => hP14 b (hP13 b (hP12 b (hP11 b (HPP.out b hb)))), fun b hb => ?_, HSAID.out.1, HSAID.out.2.1, HSAID.out.2.2⟩
    exact (hN14 b hb).elim (fun h => (hN13 b h).elim (fun h => (hN12 b h).elim (fun h => (hN11 b h).elim (fun h => HPw.out b h) .inr) .inr) .inr) .inr
  clear hM hFl hAn CM4 a0 a1 a2 a3 a4 a5
  go_wp2
  go_ret
  exact ⟨rfl, HD.out⟩
end Go.Proofs.YtnbccoflcoaoaaaGreat
