import Derived.Test.YtnbccoflcoaoaaaGreatAllN
import Derived.Test.YtnbccoflcoaoaaaGreatGMst
import Derived.Test.YtnbccoflcoaoaaaGreatGMos
import Derived.Test.YtnbccoflcoaoaaaGreatGTab
import Derived.Deep.RegionHeld
namespace Go.Proofs.YtnbccoflcoaoaaaGreat
open Go.RowKit Go.Deep
set_option linter.unusedSimpArgs false
set_option linter.unusedVariables false

/-! ### most -/
theorem MostAns.bds {xs : List Int} {es : List A5} {f t much : Int} {fl cu : List Int} {err : Int} (h : MostAns xs es f t much fl cu err) : (0 ≤ much ∧ much ≤ 1440) ∧ (0 ≤ err ∧ err ≤ 8) ∧ cu.length ≤ 24 := by
  rcases h with ⟨h0, h1, h2, h3, h4⟩ | ⟨h0, h1, h2, h3, h4, h5, h6, h7, h8⟩
  · refine ⟨by omega, ?_, by rw [h4]; simp⟩
    have := checkS_bd xs es
    unfold mostErr at h1
    split at h1
    · omega
    · split at h1
      · omega
      · split at h1
        · omega
        · split at h1 <;> omega
  · have hn := (mostErr_ok h0).1
    have h9 := caps_bd hn cu false es.length (Nat.le_refl _)
    have := hn.arcs
    exact ⟨by omega, by omega, (ris_small h4 hn.ten).1⟩
/-- What Most tells. -/
def SaidMost (xs : List Int) (es : List A5) (f t : Int) (s : List Int) : Prop := ∃ much fl cu err, MostRel xs es f t much fl cu err ∧ s = ([much, err] ++ (fl.length : Int) :: fl) ++ (cu.length : Int) :: cu
theorem SaidMost.same {xs : List Int} {es : List A5} {f t : Int} {s r : List Int} (h : SaidMost xs es f t s) (k : SaidMost xs es f t r) : s = r := by
  obtain ⟨m, a, b, c, h1, h2⟩ := h
  obtain ⟨m', a', b', c', k1, k2⟩ := k
  obtain ⟨e0, e1, e2, e3⟩ := h1.same k1
  subst e0; subst e1; subst e2; subst e3
  rw [h2, k2]

set_option maxRecDepth 100000 in
set_option maxHeartbeats 4000000 in
theorem aMost_any (hS : MostD) (wb tb base0 nl : Nat) (P : Nat → Prop) (fw : Nat → Value) (o : List Int) (sa aa ca cb : Option Addr) (sn sc an ac cc cd : Nat) (xs : List Int) (es : List A5) (w : World)
    (h : Lst w wb base0 P nl fw) (ht : w.rowIs tb 44 5 (toldF o (.slice none 0 0))) (hTlow : base0 ≤ tb) (hnl : nl ≤ 1073741824) (hof : -9223372036854775808 ≤ o.getD 2 0 ∧ o.getD 2 0 ≤ 9223372036854775807) (hot : -9223372036854775808 ≤ o.getD 3 0 ∧ o.getD 3 0 ≤ 9223372036854775807) (hx : Ints w sa sn xs) (he : Arcs w aa an es) (hxc : Ints w ca sn xs) (hec : Arcs w cb an es) :
    Calls Tryz.prog 18 #[.pointer (some ⟨wb, 0, none⟩), .pointer (some ⟨tb, 0, none⟩), .agg #[.slice sa sn sc, .slice aa an ac], .agg #[.slice ca sn cc, .slice cb an cd]] w fun e w' => e = .returned (.bool true) ∧ Done w w' wb tb base0 nl P fw o (SaidMost xs es (o.getD 2 0) (o.getD 3 0)) := by
  obtain ⟨W0, hW0⟩ : ∃ W0, (w.alloc (.cells #[.slice sa sn sc, .slice aa an ac] 48)).alloc (.cells #[.slice ca sn cc, .slice cb an cd] 48) = W0 := ⟨_, rfl⟩
  have hb0 : Below w.heap.size w W0 := by rw [← hW0]; exact Joins.below_alloc2 _ _ _
  have hz0 : W0.heap.size = w.heap.size + 2 := by rw [← hW0]; simp
  have hA := Joins.below_alloc1 (w.alloc (.cells #[.slice sa sn sc, .slice aa an ac] 48)) (.cells #[.slice ca sn cc, .slice cb an cd] 48)
  rw [hW0] at hA
  have n0' : W0.cell? ⟨w.heap.size, 0, none⟩ = some (.slice sa sn sc) := (hA.cell (p := ⟨w.heap.size, 0, none⟩) (by simp)).trans (by simp)
  have n1' : W0.cell? ⟨w.heap.size, 1, none⟩ = some (.slice aa an ac) := (hA.cell (p := ⟨w.heap.size, 1, none⟩) (by simp)).trans (by simp)
  have m0' : W0.cell? ⟨w.heap.size + 1, 0, none⟩ = some (.slice ca sn cc) := by rw [← hW0]; exact cell_new _ _ _ _ _ (by simp) rfl
  have m1' : W0.cell? ⟨w.heap.size + 1, 1, none⟩ = some (.slice cb an cd) := by rw [← hW0]; exact cell_new _ _ _ _ _ (by simp) rfl
  have HX := hide (hx.below hb0)
  have HE := hide (he.below hb0)
  have HW0 := hide hW0
  have HLS := hide h
  have HT := hide ht
  have htb := ht.lt
  have hne : wb ≠ tb := fun e => by
    have h1 := row_typed h.box
    rw [e] at h1
    exact absurd (h1.uniq (row_typed ht)) (by decide)
  have t2' : W0.cell? ⟨tb, 2, none⟩ = some (.int .i64 (o.getD 2 0)) := (below_blk hb0 htb).trans (ht.cell (i := 2) (by omega))
  have t3' : W0.cell? ⟨tb, 3, none⟩ = some (.int .i64 (o.getD 3 0)) := (below_blk hb0 htb).trans (ht.cell (i := 3) (by omega))
  obtain ⟨of, hofe⟩ : ∃ of, o.getD 2 0 = of := ⟨_, rfl⟩
  obtain ⟨ot, hote⟩ : ∃ ot, o.getD 3 0 = ot := ⟨_, rfl⟩
  rw [hofe] at t2' hof
  rw [hote] at t3' hot
  rw [hofe, hote]
  clear hofe hote
  have cS : n0 (∀ w0, Below W0.heap.size W0 w0 → Calls Tryz.prog 38 #[.agg #[.slice ca sn cc, .slice cb an cd], .int .i64 of, .int .i64 ot] w0 fun e w' => ∃ much fv cv fl cu err, e = .returned (.tuple #[.int .i64 much, fv, cv, .int .i64 err]) ∧ OwnL w' w0.heap.size fv fl ∧ OwnL w' w0.heap.size cv cu ∧ MostAns xs es of ot much fl cu err ∧ MostRel xs es of ot much fl cu err ∧ Apt fv cv ∧ Below w0.heap.size w0 w') :=
    fun w0 h0 => hS ca cb sn cc an cd of ot xs es w0 ((hxc.below hb0).below h0) ((hec.below hb0).below h0) hof hot
  clear hx he hxc hec hW0 hA h ht
  go_enter Tryz.func18, Tryz.ntmps18
  go_upto_region 1 with fail
  rw [HW0.out]
  clear HW0
  have htW := Nat.lt_of_lt_of_le htb hb0.size
  go_wp2_with fail
  go_cut [9, 10, 11, 12] (fun mv fv cv ev wx => ∃ much fl cu err, mv = .int .i64 much ∧ ev = .int .i64 err ∧ OwnL wx W0.heap.size fv fl ∧ OwnL wx W0.heap.size cv cu ∧ MostAns xs es of ot much fl cu err ∧ MostRel xs es of ot much fl cu err ∧ Apt fv cv ∧ Below W0.heap.size W0 wx)
  case first =>
    clear HX HE HLS HT hne n0' n1' hnl
    go_region_held (fun w' => w'.cell? ⟨w.heap.size + 1, 0, none⟩ = some (.slice ca sn cc) ∧ w'.cell? ⟨w.heap.size + 1, 1, none⟩ = some (.slice cb an cd) ∧ w'.cell? ⟨tb, 2, none⟩ = some (.int .i64 of) ∧ w'.cell? ⟨tb, 3, none⟩ = some (.int .i64 ot)) (go_keep) (first | (go_at_call 38; refine (cS.out _ ?_).mono ?_; exact (Below.refl _ _).drew; rintro e w1 ⟨much, fv, cv, fl, cu, err, rfl, hf, hc, hans, hrel, hap, hb1⟩; have s0 := (below_blk hb1 (show w.heap.size + 1 < W0.drew.heap.size by show w.heap.size + 1 < W0.heap.size; omega)).trans m0'; have s1 := (below_blk hb1 (show w.heap.size + 1 < W0.drew.heap.size by show w.heap.size + 1 < W0.heap.size; omega)).trans m1'; have s2 := (below_blk hb1 (show tb < W0.drew.heap.size from htW)).trans t2'; have s3 := (below_blk hb1 (show tb < W0.drew.heap.size from htW)).trans t3'))
    all_goals
      have HH : Hid (∃ much' fl' cu' err', Value.int .i64 much = .int .i64 much' ∧ Value.int .i64 err = .int .i64 err' ∧ OwnL w1 W0.heap.size fv fl' ∧ OwnL w1 W0.heap.size cv cu' ∧ MostAns xs es of ot much' fl' cu' err' ∧ MostRel xs es of ot much' fl' cu' err' ∧ Apt fv cv ∧ Below W0.heap.size W0 w1) := ⟨much, fl, cu, err, rfl, rfl, hf, hc, hans, hrel, hap, ((Below.refl W0.heap.size W0).drew).trans hb1⟩
      clear hf hc hans hrel hap hb1 cS m0' m1' t2' t3' hb0 s0 s1 s2 s3
      go_wp2_with fail
      go_meet
      exact HH.out
  case rest =>
  obtain ⟨much, fl, cu, err, rfl, rfl, hf, hc, hans, hrel, hap, hb1⟩ := hcut
  clear cS m0' m1'
  obtain ⟨w1, hw1⟩ : ∃ w1, wc = w1 := ⟨_, rfl⟩
  rw [hw1] at hf hc hb1 ⊢
  clear hw1
  have hB1 : Below w.heap.size w w1 := hb0.trans (hb1.mono hb0.size)
  have nn0 := (below_blk hb1 (show w.heap.size < W0.heap.size by omega)).trans n0'
  have nn1 := (below_blk hb1 (show w.heap.size < W0.heap.size by omega)).trans n1'
  obtain ⟨⟨f1, f2⟩, c1', c2⟩ := hans.wf
  obtain ⟨⟨mb1, mb2⟩, hebd, c1⟩ := hans.bds
  have t2 := (below_blk hb1 htW).trans t2'
  have t3 := (below_blk hb1 htW).trans t3'
  have htW1 := Nat.lt_of_lt_of_le htW hb1.size
  have hnW1 : w.heap.size < w1.heap.size := by have := hb1.size; omega
  have hge1 := hf.blkGe
  have hge2 := hc.blkGe
  obtain ⟨fa, fc, rfl, hf⟩ := hf
  obtain ⟨ka, kc, rfl, hc⟩ := hc
  have HF := hide (own_ints hf (by omega) f2)
  have HC := hide (own_ints hc (by omega) c2)
  have HFO := hide hf
  have HCO := hide hc
  have HANS := hide hans
  have HREL := hide hrel
  have HAP := hide hap
  clear hf hc hans hrel hap n0' n1'
  have cF : n0 (∀ w0, Below w1.heap.size w1 w0 → Calls Tryz.prog 39 #[.agg #[.slice sa sn sc, .slice aa an ac], .int .i64 of, .int .i64 ot, .int .i64 much, .slice fa fl.length fc, .slice ka cu.length kc, .int .i64 err] w0 fun e w' => e = .returned (.bool true) ∧ Below w0.heap.size w0 w') := fun w0 h0 =>
    refMostFits_any sa aa fa ka sn sc an ac fc kc of ot much err xs es fl cu w0 ((HX.out.below hb1).below h0) ((HE.out.below hb1).below h0) (HF.out.below h0) (HC.out.below h0) HANS.out
  go_wp2_with fail
  go_cut [13] (fun bv wx => bv = .bool true ∧ Below w1.heap.size w1 wx)
  case first =>
    clear HX HE HLS HT hne HF HC HFO HCO HANS HREL HAP hge1 hge2 hB1 hb1 hb0
    go_region_held (fun w' => w'.cell? ⟨w.heap.size, 0, none⟩ = some (.slice sa sn sc) ∧ w'.cell? ⟨w.heap.size, 1, none⟩ = some (.slice aa an ac) ∧ w'.cell? ⟨tb, 2, none⟩ = some (.int .i64 of) ∧ w'.cell? ⟨tb, 3, none⟩ = some (.int .i64 ot)) (go_keep) (first | (go_at_call 39; refine (cF.out _ ?_).mono ?_; exact (Below.refl _ _).drew; rintro e w2 ⟨rfl, hb2⟩; have s0 := (below_blk hb2 (show w.heap.size < w1.drew.heap.size from hnW1)).trans nn0; have s1 := (below_blk hb2 (show w.heap.size < w1.drew.heap.size from hnW1)).trans nn1; have s2 := (below_blk hb2 (show tb < w1.drew.heap.size from htW1)).trans t2; have s3 := (below_blk hb2 (show tb < w1.drew.heap.size from htW1)).trans t3))
    all_goals
      have HH : Hid (Below w1.heap.size w1 w2) := ((Below.refl w1.heap.size w1).drew).trans hb2
      clear hb2 cF nn0 nn1 t2 t3 s0 s1 s2 s3
      go_wp2_with fail
      go_meet
      exact ⟨rfl, HH.out⟩
  case rest =>
  obtain ⟨rfl, hb2⟩ := hcut
  obtain ⟨w2, hw2⟩ : ∃ w2, wc = w2 := ⟨_, rfl⟩
  rw [hw2] at hb2 ⊢
  clear hw2 cF t2 t3
  have hB2 : Below w.heap.size w w2 := hB1.trans (hb2.mono hB1.size)
  clear nn0 nn1
  have ht2 : w2.rowIs tb 44 5 (toldF o (.slice none 0 0)) := below_row hB2 HT.out htb
  have t4 := ht2.cell (i := 4) (by omega)
  simp only [toldF, if_true] at t4
  have f4 := ht2.frozen 4
  have htl2 := ht2.lt
  have HT2 := hide ht2
  have HFR : Hid (∀ (ob : Obj) w3, (w2.drew.alloc ob).grownBy w3 (Value.slice none 0 0).ownBlock → ∀ k, k < w2.heap.size → w3.heap[k]? = w2.heap[k]?) := fun ob w3 hg k k1 =>
    (hg.block k (Nat.lt_of_lt_of_le k1 (World.grownBy_alloc w2.drew ob none).size) (by simp [Value.ownBlock])).trans (((World.grownBy_alloc w2.drew ob none).block k k1 (by simp)).trans rfl)
  have HTR : Hid (∀ (ob : Obj) w3, (w2.drew.alloc ob).grownBy w3 (Value.slice none 0 0).ownBlock → w3.rowIs tb 44 5 (toldF o (.slice none 0 0))) := fun ob w3 hg => ht2.of_block (HFR.out ob w3 hg tb ht2.lt)
  clear ht2
  go_wp2_with fail
  go_cut [56] (fun _ wx => ToldAt wx tb w2.heap.size o [much, err] ∧ Keep1 w2.heap.size tb w2 wx)
  case first =>
    go_region_law (first | (refine step_num rfl (.tmp 53) rfl err (by omega) (by simp [Act.eval, Act.put]; done) ?_) | (refine step_push_ints rfl (.tmp 51) (.tmp 55) rfl w2.heap.size (.slice none 0 0) 0 [] (by simp [Act.eval, Act.put]; done) (World.ownsRow_nil _ _ _ _) w2.heap.size 2 2 [much, err] rfl (by omega) (by simp [Act.eval, Act.put]; done) ?_ (by omega) (by simp) ?_; (intro j u hj; match j, hj with | 0, hj => (simp [intCells] at hj; subst hj; go_simp) | 1, hj => (simp [intCells] at hj; subst hj; go_simp) | j + 2, hj => (simp [intCells] at hj)); intro g' c' w3 hown3 hgr; have hr3 := HTR.out _ _ hgr; have hc3 := hr3.cell (i := 4) (by omega); simp only [toldF, if_true] at hc3; have hf3 := hr3.frozen 4))
    all_goals
      have HF3 : Hid (ToldAt (w3.setCell ⟨tb, 4, none⟩ (.slice (some ⟨g', 0, none⟩) 2 c')) tb w2.heap.size o [much, err] ∧ Keep1 w2.heap.size tb w2 (w3.setCell ⟨tb, 4, none⟩ (.slice (some ⟨g', 0, none⟩) 2 c'))) := by
        have hk3 : Keep1 w2.heap.size tb w2 w3 := ⟨hgr.os, hgr.tape, hgr.output, by have := hgr.size; simp at this; omega, fun k k1 _ => HFR.out _ _ hgr k k1⟩
        refine ⟨⟨htl2, .slice (some ⟨g', 0, none⟩) 2 c', (hr3.set 4 _).congr ?_, own_blk hown3 (fun k e => Below.heap_setCell _ _ _ _ (by have := (hown3.lt k e).1; show k ≠ tb; omega))⟩, hk3.trans (Keep1.set _ _ _ _ _)⟩
        intro i hi
        by_cases e : i = 4
        · subst e; simp [toldF]
        · simp [toldF, e]
      clear hown3 hgr hr3 hc3 hf3
      go_wp2_with fail
      go_meet
      exact HF3.out
  case rest =>
  obtain ⟨hTo, hK2⟩ := hcut
  have hz1 := hb1.size
  have hz2 := hb2.size
  have hzc := hK2.size
  have hfb : ∀ b off, fa = some ⟨b, off, none⟩ → b < w2.heap.size ∧ b ≠ tb := fun b off e => by
    have := hge1 b (by rw [e]; rfl)
    omega
  have hkb : ∀ b off, ka = some ⟨b, off, none⟩ → b < w2.heap.size ∧ b ≠ tb := fun b off e => by
    have := hge2 b (by rw [e]; rfl)
    omega
  have HFc : Hid (Ints wc fa fl.length fl) := (HF.out.below hb2).blk hzc (fun b off e => hK2.block b (hfb b off e).1 (hfb b off e).2)
  have cA1 : n0 (Calls Tryz.prog 24 #[.pointer (some ⟨tb, 0, none⟩), .slice fa fl.length fc] wc fun e w' => e = .returned (.tuple #[]) ∧ ToldAt w' tb w2.heap.size o ([much, err] ++ (fl.length : Int) :: fl) ∧ Keep1 w2.heap.size tb wc w') :=
    aAdd_any tb w2.heap.size fa fl.length fc o [much, err] fl wc hTo HFc.out hfb (by simp; omega) hzc
  clear hTo
  go_wp2_with fail
  refine Calls.mono cA1.out ?_
  rintro e w4 ⟨rfl, hTo4, hK4⟩
  clear cA1
  have hK24 := hK2.trans hK4
  have hz4 := hK24.size
  have HCc : Hid (Ints w4 ka cu.length cu) := (HC.out.below hb2).blk hz4 (fun b off e => hK24.block b (hkb b off e).1 (hkb b off e).2)
  have cA2 : n0 (Calls Tryz.prog 24 #[.pointer (some ⟨tb, 0, none⟩), .slice ka cu.length kc] w4 fun e w' => e = .returned (.tuple #[]) ∧ ToldAt w' tb w2.heap.size o (([much, err] ++ (fl.length : Int) :: fl) ++ (cu.length : Int) :: cu) ∧ Keep1 w2.heap.size tb w4 w') :=
    aAdd_any tb w2.heap.size ka cu.length kc o ([much, err] ++ (fl.length : Int) :: fl) cu w4 hTo4 HCc.out hkb (by simp; omega) hz4
  clear hTo4
  go_wp2_with fail
  refine Calls.mono cA2.out ?_
  rintro e w5 ⟨rfl, hTo5, hK5⟩
  clear cA2
  have hK25 := hK24.trans hK5
  have hz5 := hK25.size
  obtain ⟨s, hs⟩ : ∃ s, ([much, err] ++ (fl.length : Int) :: fl) ++ (cu.length : Int) :: cu = s := ⟨_, rfl⟩
  have HSAID : Hid (SaidMost xs es of ot s ∧ s.length ≤ 1000 ∧ ∀ x ∈ s, -9223372036854775808 ≤ x ∧ x ≤ 9223372036854775807) := by
    refine ⟨⟨much, fl, cu, err, HREL.out, hs.symm⟩, by rw [← hs]; simp; omega, fun x hx => ?_⟩
    rw [← hs] at hx
    simp only [List.mem_append, List.mem_cons, List.not_mem_nil, or_false] at hx
    rcases hx with ((rfl | rfl) | rfl | hx) | rfl | hx
    · omega
    · omega
    · omega
    · exact HF.out.wf x hx
    · omega
    · exact HC.out.wf x hx
  rw [hs] at hTo5
  clear hs
  obtain ⟨_, sv, hTr5, hTs5⟩ := hTo5
  -- all that waits, in w5
  have hL2 := HLS.out.below hB2
  have hPt : ∀ b, P b → b < w.heap.size ∧ b ≠ tb := fun b hb => ⟨HLS.out.safe.lt b hb, fun e => by
    subst e
    rcases HLS.out.safe.ty b hb with h1 | h1 | h1
    · exact absurd (hTlow) (by omega)
    · exact absurd (h1.uniq (row_typed HT.out)) (by decide)
    · exact absurd (h1.uniq (row_typed HT.out)) (by decide)⟩
  have hL5 : Lst w5 wb base0 P nl fw := hL2.keep hz5 (fun b hb => hK25.block b (hL2.safe.lt b hb) (hPt b hb).2) (hK25.block wb hL2.box.lt hne) (fun b e => by
    obtain ⟨la, lc, lcs, h1, h2, _⟩ := hL2.arr
    rw [h1] at e
    have ht := own_typed h2 b e
    exact hK25.block b ht.2.2 (fun e2 => by subst e2; exact absurd (ht.1.uniq (row_typed HT2.out)) (by decide)))
  have hbw : base0 ≤ w.heap.size := Nat.le_trans HLS.out.wlo (Nat.le_of_lt HLS.out.box.lt)
  have hMid : Mid w w5 wb tb (fun k => k = tb) base0 nl P fw o s sv := ⟨hL5, hTr5, ownsRow_mono hTs5 (by omega), fun b hb => ⟨fun hp => by have := (hTs5.lt b hb).1; have := (hPt b hp).1; omega, by have := (hTs5.lt b hb).1; omega⟩, ⟨hK25.os.trans hB2.os, hK25.tape.trans hB2.tape, hK25.output.trans hB2.output, Nat.le_trans hB2.size hz5, fun k k1 _ k3 _ => (hK25.block k (Nat.lt_of_lt_of_le k1 hB2.size) k3).trans (hB2.block k k1)⟩, hne⟩
  have hPf : Pend w5 base0 P sv (.slice fa fl.length fc) fl.length := by
    have h2 : w2.ownsRow W0.heap.size 3 1 (.slice fa fl.length fc) fl.length (intCells fl) := HFO.out.kept (grown_of_below hb2 none) (by cases fa <;> simp [Value.ownBlock])
    refine ⟨by omega, ⟨_, ownsRow_mono (own_blk h2 (fun k e => hK25.block k (h2.lt k e).2 (by have := (h2.lt k e).1; omega))) (by omega)⟩, fun b hb => ⟨fun hp => by have := (hPt b hp).1; have := (hge1 b hb).1; omega, fun e => by have := (hTs5.lt b e).1; have := (hge1 b hb).2; omega⟩⟩
  have hPc : Pend w5 base0 P sv (.slice ka cu.length kc) cu.length := by
    have h2 : w2.ownsRow W0.heap.size 3 1 (.slice ka cu.length kc) cu.length (intCells cu) := HCO.out.kept (grown_of_below hb2 none) (by cases ka <;> simp [Value.ownBlock])
    refine ⟨by omega, ⟨_, ownsRow_mono (own_blk h2 (fun k e => hK25.block k (h2.lt k e).2 (by have := (h2.lt k e).1; omega))) (by omega)⟩, fun b hb => ⟨fun hp => by have := (hPt b hp).1; have := (hge2 b hb).1; omega, fun e => by have := (hTs5.lt b e).1; have := (hge2 b hb).2; omega⟩⟩
  have cM1 := mid_mine w w5 wb tb (fun k => k = tb) base0 nl P fw o s sv (.slice fa fl.length fc) fl.length hMid hPf (fun b hb => by have := (hge1 b hb).1; omega) (by omega)
  have CM1 : n0 _ := cM1
  have HPC := hide hPc
  have HGE2 : Hid (∀ b, (Value.slice ka cu.length kc).ownBlock = some b → w.heap.size ≤ b) := fun b hb => by have := (hge2 b hb).1; omega
  clear cM1 hMid hPf hPc hL5 hL2 hTr5 hTs5 hK25 hK24 hK2 hK4 hK5 HT2 hge1 hge2 hfb hkb
  go_wp2_with fail
  refine Calls.mono CM1.out ?_
  rintro e w6 ⟨rfl, fw6, P6, hM6, hfw6, hP6, hN6, hPe6, _, hs6⟩
  clear CM1
  have hPc6 := hPe6 _ _ HPC.out HAP.out
  have cM2 := mid_mine w w6 wb tb (fun k => k = tb) base0 (nl + 1) P6 fw6 o s sv (.slice ka cu.length kc) cu.length hM6 hPc6 HGE2.out (by omega)
  have CM2 : n0 _ := cM2
  clear cM2 hM6 hPc6 hPe6 HPC
  go_wp2_with fail
  refine Calls.mono CM2.out ?_
  rintro e w7 ⟨rfl, fw7, P7, hM7, hfw7, hP7, hN7, _, _, hs7⟩
  clear CM2
  have HD : Hid (Done w w7 wb tb base0 nl P fw o (SaidMost xs es of ot)) := ⟨nl + 1 + 1, fw7, P7, s, sv, by omega, hM7, fun i hi => (hfw7 i hi).trans (hfw6 i hi), fun b hb => hP7 b (hP6 b hb), fun b hb => (hN7 b hb).elim (fun h => hN6 b h) (fun h => .inr h), HSAID.out.1, HSAID.out.2.1, HSAID.out.2.2⟩
  clear hM7
  go_wp2
  go_ret
  exact ⟨rfl, HD.out⟩
end Go.Proofs.YtnbccoflcoaoaaaGreat
