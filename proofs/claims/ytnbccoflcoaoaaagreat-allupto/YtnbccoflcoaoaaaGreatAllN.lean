import Derived.Test.YtnbccoflcoaoaaaGreatAllM
import Derived.Test.YtnbccoflcoaoaaaGreatAllJ
import Derived.Test.YtnbccoflcoaoaaaGreatGSms
import Derived.Test.YtnbccoflcoaoaaaGreatGRte
namespace Go.Proofs.YtnbccoflcoaoaaaGreat
open Go.RowKit Go.Deep
set_option linter.unusedSimpArgs false
set_option linter.unusedVariables false

/-! ### some -/
theorem step_num {w : World} {ops : Array Oper} {op : Oper} {a : Act} {K : Act → World → Prop} {Q : Exit → Act → World → Prop} {E : Prop} (hgd : op.guard = none) (x : Operand)
    (ho : op.op = .call { callee := .value (.func 23), args := #[x], argTypes := #[51] }) (e : Int) (he : -9223372036854775808 ≤ e ∧ e ≤ 9223372036854775807) (hx : a.eval x = .int .i64 e) (h : K (a.put op.dst (.int .i64 e)) w) :
    if Region.wanted op (yielded ops a.tmps) = true then Oper.wp Tryz.prog op a w K Q else E := by
  have hw : Region.wanted op (yielded ops a.tmps) = true := by simp [Region.wanted, hgd]
  rw [if_pos hw]
  unfold Oper.wp
  have hrun : (execOp a.eval op).run Tryz.prog w = .ok (.enter 23 #[.int .i64 e]) w := by
    simp only [execOp, ho, resolve, invoke, hx, BigFrame.eval_func, Deferred.ofValue, callFunc]
    simp [hx]
    rw [if_neg (by unfold Tryz.f23; decide), if_neg (by unfold Tryz.f23; simp)]
  rw [hrun, Oper.upon_enter]
  refine (aNum_any e he w).mono ?_
  rintro e' w' ⟨rfl, rfl⟩
  exact h
theorem checkS_bd (xs : List Int) (es : List A5) : 0 ≤ (checkS xs es).1 ∧ (checkS xs es).1 ≤ 3 := by
  rcases checkS_cases xs es with h | h | h | ⟨h, _⟩
  · omega
  · omega
  · omega
  · rw [h]; exact ⟨by decide, by decide⟩
theorem SomeAns.err_bd {xs : List Int} {es : List A5} {fl cu : List Int} {err : Int} (h : SomeAns xs es fl cu err) : 0 ≤ err ∧ err ≤ 3 := by
  have := checkS_bd xs es
  rcases h with ⟨_, h, _⟩ | ⟨_, h, _⟩ <;> omega
theorem Ints.blk {w w' : World} {a : Option Addr} {n : Nat} {xs : List Int} (h : Ints w a n xs) (hs : w.heap.size ≤ w'.heap.size) (hk : ∀ b off, a = some ⟨b, off, none⟩ → w'.heap[b]? = w.heap[b]?) : Ints w' a n xs :=
  ⟨h.len, h.small, h.wf, h.lies.imp id fun ⟨b, off, e, hl, hc⟩ => ⟨b, off, e, Nat.lt_of_lt_of_le hl hs, fun i hi => by rw [World.cell?_of_block (hk b off e)]; exact hc i hi⟩⟩
/-- What Some tells. -/
def SaidSome (xs : List Int) (es : List A5) (s : List Int) : Prop := ∃ fl cu err, SomeRel xs es fl cu err ∧ s = ([err] ++ (fl.length : Int) :: fl) ++ (cu.length : Int) :: cu
theorem SaidSome.same {xs : List Int} {es : List A5} {s t : List Int} (h : SaidSome xs es s) (k : SaidSome xs es t) : s = t := by
  obtain ⟨a, b, c, h1, h2⟩ := h
  obtain ⟨a', b', c', k1, k2⟩ := k
  obtain ⟨e1, e2, e3⟩ := h1.same k1
  subst e1; subst e2; subst e3
  rw [h2, k2]

/-- What a call leaves that All keeps in mind. -/
def Done (w w' : World) (wb tb base0 nl : Nat) (P : Nat → Prop) (fw : Nat → Value) (o : List Int) (S : List Int → Prop) : Prop :=
  ∃ nl' fw' P' s sv, nl' ≤ nl + 4 ∧ Mid w w' wb tb (fun k => k = tb) base0 nl' P' fw' o s sv ∧ (∀ i, i ≠ 4 → fw' i = fw i) ∧ (∀ b, P b → P' b) ∧ (∀ b, P' b → P b ∨ w.heap.size ≤ b) ∧ S s ∧ s.length ≤ 1000 ∧ ∀ x ∈ s, -9223372036854775808 ≤ x ∧ x ≤ 9223372036854775807

set_option maxRecDepth 100000 in
set_option maxHeartbeats 4000000 in
theorem aSome_any (hS : SomeD) (wb tb base0 nl : Nat) (P : Nat → Prop) (fw : Nat → Value) (o : List Int) (sa aa ca cb : Option Addr) (sn sc an ac cc cd : Nat) (xs : List Int) (es : List A5) (w : World)
    (h : Lst w wb base0 P nl fw) (ht : w.rowIs tb 44 5 (toldF o (.slice none 0 0))) (hTlow : base0 ≤ tb) (hnl : nl ≤ 1073741824) (hx : Ints w sa sn xs) (he : Arcs w aa an es) (hxc : Ints w ca sn xs) (hec : Arcs w cb an es) :
    Calls Tryz.prog 16 #[.pointer (some ⟨wb, 0, none⟩), .pointer (some ⟨tb, 0, none⟩), .agg #[.slice sa sn sc, .slice aa an ac], .agg #[.slice ca sn cc, .slice cb an cd]] w fun e w' => e = .returned (.bool true) ∧ Done w w' wb tb base0 nl P fw o (SaidSome xs es) := by
  obtain ⟨W0, hW0⟩ : ∃ W0, (w.alloc (.cells #[.slice sa sn sc, .slice aa an ac] 48)).alloc (.cells #[.slice ca sn cc, .slice cb an cd] 48) = W0 := ⟨_, rfl⟩
  have hb0 : Below w.heap.size w W0 := by rw [← hW0]; exact Joins.below_alloc2 _ _ _
  have hz0 : W0.heap.size = w.heap.size + 2 := by rw [← hW0]; simp
  have hA := Joins.below_alloc1 (w.alloc (.cells #[.slice sa sn sc, .slice aa an ac] 48)) (.cells #[.slice ca sn cc, .slice cb an cd] 48)
  rw [hW0] at hA
  have n0' : W0.cell? ⟨w.heap.size, 0, none⟩ = some (.slice sa sn sc) := (hA.cell (p := ⟨w.heap.size, 0, none⟩) (by simp)).trans (by simp)
  have n1' : W0.cell? ⟨w.heap.size, 1, none⟩ = some (.slice aa an ac) := (hA.cell (p := ⟨w.heap.size, 1, none⟩) (by simp)).trans (by simp)
  have m0' : W0.cell? ⟨w.heap.size + 1, 0, none⟩ = some (.slice ca sn cc) := by rw [← hW0]; exact cell_new _ _ _ _ _ (by simp) rfl
  have m1' : W0.cell? ⟨w.heap.size + 1, 1, none⟩ = some (.slice cb an cd) := by rw [← hW0]; exact cell_new _ _ _ _ _ (by simp) rfl
  have HX := hide (hx.below hb0)
  have HE := hide (he.below hb0)
  have HW0 := hide hW0
  have HLS := hide h
  have HT := hide ht
  have htb := ht.lt
  have hne : wb ≠ tb := fun e => by
    have h1 := row_typed h.box
    rw [e] at h1
    exact absurd (h1.uniq (row_typed ht)) (by decide)
  have cS : n0 (Calls Tryz.prog 34 #[.agg #[.slice ca sn cc, .slice cb an cd]] W0 fun e w' => ∃ fv cv fl cu err, e = .returned (.tuple #[fv, cv, .int .i64 err]) ∧ OwnL w' W0.heap.size fv fl ∧ OwnL w' W0.heap.size cv cu ∧ (fv = .slice none 0 0 ∨ cv = .slice none 0 0) ∧ SomeAns xs es fl cu err ∧ SomeRel xs es fl cu err ∧ Below W0.heap.size W0 w') :=
    hS ca cb sn cc an cd xs es W0 (hxc.below hb0) (hec.below hb0)
  clear hx he hxc hec hW0 hA h ht
  go_enter Tryz.func16, Tryz.ntmps16
  go_upto_region 1 with fail
  rw [HW0.out]
  clear HW0
  go_wp2_with fail
  refine Calls.mono cS.out ?_
  rintro e w1 ⟨fv, cv, fl, cu, err, rfl, hf, hc, hnil, hans, hrel, hb1⟩
  clear cS m0' m1'
  have hB1 : Below w.heap.size w w1 := hb0.trans (hb1.mono hb0.size)
  have n0 := (below_blk hb1 (show w.heap.size < W0.heap.size by omega)).trans n0'
  have n1 := (below_blk hb1 (show w.heap.size < W0.heap.size by omega)).trans n1'
  obtain ⟨⟨f1, f2⟩, c1, c2⟩ := hans.wf
  have hge1 := hf.blkGe
  have hge2 := hc.blkGe
  obtain ⟨fa, fc, rfl, hf⟩ := hf
  obtain ⟨ka, kc, rfl, hc⟩ := hc
  have HF := hide (own_ints hf (by omega) f2)
  have HC := hide (own_ints hc (by omega) c2)
  have HFO := hide hf
  have HCO := hide hc
  have HANS := hide hans
  have HREL := hide hrel
  have hebd := hans.err_bd
  have hap : Apt (.slice fa fl.length fc) (.slice ka cu.length kc) := by
    rcases hnil with e | e
    · rw [e]; exact Apt.nil _
    · rw [e]; exact Apt.nil2 _
  have HAP := hide hap
  clear hf hc hans hrel hnil hap n0' n1'
  go_wp2_with fail
  refine (refSomeFits_any sa aa fa ka sn sc an ac fc kc xs es fl cu err _ (HX.out.below hb1) (HE.out.below hb1) HF.out HC.out HANS.out).mono ?_
  rintro e w2 ⟨rfl, hb2⟩
  have hB2 : Below w.heap.size w w2 := hB1.trans (hb2.mono hB1.size)
  clear n0 n1
  have ht2 : w2.rowIs tb 44 5 (toldF o (.slice none 0 0)) := below_row hB2 HT.out htb
  have t4 := ht2.cell (i := 4) (by omega)
  simp only [toldF, if_true] at t4
  have f4 := ht2.frozen 4
  have htl2 := ht2.lt
  have HT2 := hide ht2
  have HFR : Hid (∀ (ob : Obj) w3, (w2.drew.alloc ob).grownBy w3 (Value.slice none 0 0).ownBlock → ∀ k, k < w2.heap.size → w3.heap[k]? = w2.heap[k]?) := fun ob w3 hg k k1 =>
    (hg.block k (Nat.lt_of_lt_of_le k1 (World.grownBy_alloc w2.drew ob none).size) (by simp [Value.ownBlock])).trans (((World.grownBy_alloc w2.drew ob none).block k k1 (by simp)).trans rfl)
  have HTR : Hid (∀ (ob : Obj) w3, (w2.drew.alloc ob).grownBy w3 (Value.slice none 0 0).ownBlock → w3.rowIs tb 44 5 (toldF o (.slice none 0 0))) := fun ob w3 hg => ht2.of_block (HFR.out ob w3 hg tb ht2.lt)
  clear ht2
  go_wp2_with fail
  go_cut [32] (fun _ wx => ToldAt wx tb w2.heap.size o [err] ∧ Keep1 w2.heap.size tb w2 wx)
  case first =>
    go_region_law (first | (refine step_num rfl (.tmp 29) rfl err (by omega) (by simp [Act.eval, Act.put]; done) ?_) | (refine step_push_ints rfl (.tmp 28) (.tmp 31) rfl w2.heap.size (.slice none 0 0) 0 [] (by simp [Act.eval, Act.put]; done) (World.ownsRow_nil _ _ _ _) w2.heap.size 1 1 [err] rfl (by omega) (by simp [Act.eval, Act.put]; done) ?_ (by omega) (by simp) ?_; (intro j u hj; match j, hj with | 0, hj => (simp [intCells] at hj; subst hj; go_simp) | j + 1, hj => (simp [intCells] at hj)); intro g' c' w3 hown3 hgr; have hr3 := HTR.out _ _ hgr; have hc3 := hr3.cell (i := 4) (by omega); simp only [toldF, if_true] at hc3; have hf3 := hr3.frozen 4))
    all_goals
      have HF3 : Hid (ToldAt (w3.setCell ⟨tb, 4, none⟩ (.slice (some ⟨g', 0, none⟩) 1 c')) tb w2.heap.size o [err] ∧ Keep1 w2.heap.size tb w2 (w3.setCell ⟨tb, 4, none⟩ (.slice (some ⟨g', 0, none⟩) 1 c'))) := by
        have hk3 : Keep1 w2.heap.size tb w2 w3 := ⟨hgr.os, hgr.tape, hgr.output, by have := hgr.size; simp at this; omega, fun k k1 _ => HFR.out _ _ hgr k k1⟩
        refine ⟨⟨htl2, .slice (some ⟨g', 0, none⟩) 1 c', (hr3.set 4 _).congr ?_, own_blk hown3 (fun k e => Below.heap_setCell _ _ _ _ (by have := (hown3.lt k e).1; show k ≠ tb; omega))⟩, hk3.trans (Keep1.set _ _ _ _ _)⟩
        intro i hi
        by_cases e : i = 4
        · subst e; simp [toldF]
        · simp [toldF, e]
      clear hown3 hgr hr3 hc3 hf3
      go_wp2_with fail
      go_meet
      exact HF3.out
  case rest =>
  obtain ⟨hTo, hK2⟩ := hcut
  have hz1 := hb1.size
  have hz2 := hb2.size
  have hzc := hK2.size
  have hfb : ∀ b off, fa = some ⟨b, off, none⟩ → b < w2.heap.size ∧ b ≠ tb := fun b off e => by
    have := hge1 b (by rw [e]; rfl)
    omega
  have hkb : ∀ b off, ka = some ⟨b, off, none⟩ → b < w2.heap.size ∧ b ≠ tb := fun b off e => by
    have := hge2 b (by rw [e]; rfl)
    omega
  have HFc : Hid (Ints wc fa fl.length fl) := (HF.out.below hb2).blk hzc (fun b off e => hK2.block b (hfb b off e).1 (hfb b off e).2)
  have cA1 : n0 (Calls Tryz.prog 24 #[.pointer (some ⟨tb, 0, none⟩), .slice fa fl.length fc] wc fun e w' => e = .returned (.tuple #[]) ∧ ToldAt w' tb w2.heap.size o ([err] ++ (fl.length : Int) :: fl) ∧ Keep1 w2.heap.size tb wc w') :=
    aAdd_any tb w2.heap.size fa fl.length fc o [err] fl wc hTo HFc.out hfb (by simp; omega) hzc
  clear hTo
  go_wp2_with fail
  refine Calls.mono cA1.out ?_
  rintro e w4 ⟨rfl, hTo4, hK4⟩
  clear cA1
  have hK24 := hK2.trans hK4
  have hz4 := hK24.size
  have HCc : Hid (Ints w4 ka cu.length cu) := (HC.out.below hb2).blk hz4 (fun b off e => hK24.block b (hkb b off e).1 (hkb b off e).2)
  have cA2 : n0 (Calls Tryz.prog 24 #[.pointer (some ⟨tb, 0, none⟩), .slice ka cu.length kc] w4 fun e w' => e = .returned (.tuple #[]) ∧ ToldAt w' tb w2.heap.size o (([err] ++ (fl.length : Int) :: fl) ++ (cu.length : Int) :: cu) ∧ Keep1 w2.heap.size tb w4 w') :=
    aAdd_any tb w2.heap.size ka cu.length kc o ([err] ++ (fl.length : Int) :: fl) cu w4 hTo4 HCc.out hkb (by simp; omega) hz4
  clear hTo4
  go_wp2_with fail
  refine Calls.mono cA2.out ?_
  rintro e w5 ⟨rfl, hTo5, hK5⟩
  clear cA2
  have hK25 := hK24.trans hK5
  have hz5 := hK25.size
  obtain ⟨s, hs⟩ : ∃ s, ([err] ++ (fl.length : Int) :: fl) ++ (cu.length : Int) :: cu = s := ⟨_, rfl⟩
  have HSAID : Hid (SaidSome xs es s ∧ s.length ≤ 1000 ∧ ∀ x ∈ s, -9223372036854775808 ≤ x ∧ x ≤ 9223372036854775807) := by
    refine ⟨⟨fl, cu, err, HREL.out, hs.symm⟩, by rw [← hs]; simp; omega, fun x hx => ?_⟩
    rw [← hs] at hx
    simp only [List.mem_append, List.mem_cons, List.not_mem_nil, or_false] at hx
    rcases hx with (rfl | rfl | hx) | rfl | hx
    · omega
    · omega
    · exact HF.out.wf x hx
    · omega
    · exact HC.out.wf x hx
  rw [hs] at hTo5
  clear hs
  obtain ⟨_, sv, hTr5, hTs5⟩ := hTo5
  -- all that waits, in w5
  have hL2 := HLS.out.below hB2
  have hPt : ∀ b, P b → b < w.heap.size ∧ b ≠ tb := fun b hb => ⟨HLS.out.safe.lt b hb, fun e => by
    subst e
    rcases HLS.out.safe.ty b hb with h1 | h1 | h1
    · exact absurd (hTlow) (by omega)
    · exact absurd (h1.uniq (row_typed HT.out)) (by decide)
    · exact absurd (h1.uniq (row_typed HT.out)) (by decide)⟩
  have hL5 : Lst w5 wb base0 P nl fw := hL2.keep hz5 (fun b hb => hK25.block b (hL2.safe.lt b hb) (hPt b hb).2) (hK25.block wb hL2.box.lt hne) (fun b e => by
    obtain ⟨la, lc, lcs, h1, h2, _⟩ := hL2.arr
    rw [h1] at e
    have ht := own_typed h2 b e
    exact hK25.block b ht.2.2 (fun e2 => by subst e2; exact absurd (ht.1.uniq (row_typed HT2.out)) (by decide)))
  have hbw : base0 ≤ w.heap.size := Nat.le_trans HLS.out.wlo (Nat.le_of_lt HLS.out.box.lt)
  have hMid : Mid w w5 wb tb (fun k => k = tb) base0 nl P fw o s sv := ⟨hL5, hTr5, ownsRow_mono hTs5 (by omega), fun b hb => ⟨fun hp => by have := (hTs5.lt b hb).1; have := (hPt b hp).1; omega, by have := (hTs5.lt b hb).1; omega⟩, ⟨hK25.os.trans hB2.os, hK25.tape.trans hB2.tape, hK25.output.trans hB2.output, Nat.le_trans hB2.size hz5, fun k k1 _ k3 _ => (hK25.block k (Nat.lt_of_lt_of_le k1 hB2.size) k3).trans (hB2.block k k1)⟩, hne⟩
  have hPf : Pend w5 base0 P sv (.slice fa fl.length fc) fl.length := by
    have h2 : w2.ownsRow W0.heap.size 3 1 (.slice fa fl.length fc) fl.length (intCells fl) := HFO.out.kept (grown_of_below hb2 none) (by cases fa <;> simp [Value.ownBlock])
    refine ⟨by omega, ⟨_, ownsRow_mono (own_blk h2 (fun k e => hK25.block k (h2.lt k e).2 (by have := (h2.lt k e).1; omega))) (by omega)⟩, fun b hb => ⟨fun hp => by have := (hPt b hp).1; have := (hge1 b hb).1; omega, fun e => by have := (hTs5.lt b e).1; have := (hge1 b hb).2; omega⟩⟩
  have hPc : Pend w5 base0 P sv (.slice ka cu.length kc) cu.length := by
    have h2 : w2.ownsRow W0.heap.size 3 1 (.slice ka cu.length kc) cu.length (intCells cu) := HCO.out.kept (grown_of_below hb2 none) (by cases ka <;> simp [Value.ownBlock])
    refine ⟨by omega, ⟨_, ownsRow_mono (own_blk h2 (fun k e => hK25.block k (h2.lt k e).2 (by have := (h2.lt k e).1; omega))) (by omega)⟩, fun b hb => ⟨fun hp => by have := (hPt b hp).1; have := (hge2 b hb).1; omega, fun e => by have := (hTs5.lt b e).1; have := (hge2 b hb).2; omega⟩⟩
  have cM1 := mid_mine w w5 wb tb (fun k => k = tb) base0 nl P fw o s sv (.slice fa fl.length fc) fl.length hMid hPf (fun b hb => by have := (hge1 b hb).1; omega) (by omega)
  have CM1 : n0 _ := cM1
  have HPC := hide hPc
  have HGE2 : Hid (∀ b, (Value.slice ka cu.length kc).ownBlock = some b → w.heap.size ≤ b) := fun b hb => by have := (hge2 b hb).1; omega
  clear cM1 hMid hPf hPc hL5 hL2 hTr5 hTs5 hK25 hK24 hK2 hK4 hK5 HT2 hge1 hge2 hfb hkb
  go_wp2_with fail
  refine Calls.mono CM1.out ?_
  rintro e w6 ⟨rfl, fw6, P6, hM6, hfw6, hP6, hN6, hPe6, _, hs6⟩
  clear CM1
  have hPc6 := hPe6 _ _ HPC.out HAP.out
  have cM2 := mid_mine w w6 wb tb (fun k => k = tb) base0 (nl + 1) P6 fw6 o s sv (.slice ka cu.length kc) cu.length hM6 hPc6 HGE2.out (by omega)
  have CM2 : n0 _ := cM2
  clear cM2 hM6 hPc6 hPe6 HPC
  go_wp2_with fail
  refine Calls.mono CM2.out ?_
  rintro e w7 ⟨rfl, fw7, P7, hM7, hfw7, hP7, hN7, _, _, hs7⟩
  clear CM2
  have HD : Hid (Done w w7 wb tb base0 nl P fw o (SaidSome xs es)) := ⟨nl + 1 + 1, fw7, P7, s, sv, by omega, hM7, fun i hi => (hfw7 i hi).trans (hfw6 i hi), fun b hb => hP7 b (hP6 b hb), fun b hb => (hN7 b hb).elim (fun h => hN6 b h) (fun h => .inr h), HSAID.out.1, HSAID.out.2.1, HSAID.out.2.2⟩
  clear hM7
  go_wp2
  go_ret
  exact ⟨rfl, HD.out⟩
end Go.Proofs.YtnbccoflcoaoaaaGreat
