import Derived.Test.YtnbccoflcoaoaaaGreatTopA
import Derived.Test.YtnbccoflcoaoaaaGreatStpB
namespace Go.Proofs.YtnbccoflcoaoaaaGreat
open Go.RowKit Go.Deep
set_option linter.unusedSimpArgs false
set_option linter.unusedVariables false

/-! ### All -/
/-- The answers that came in. -/
def AnsIn (w0 : World) (a : Option Addr) (na : Nat) (an : Nat → A6) : Prop :=
  na ≤ 1048576 ∧ (na = 0 ∨ ∃ b off, a = some ⟨b, off, none⟩ ∧ b < w0.heap.size ∧ ∀ i, i < na → ∃ fa fc pa pc ka kc ra rc, w0.cell? ⟨b, off + i * 6, none⟩ = some (.int .i64 (an i).kind) ∧ w0.cell? ⟨b, off + i * 6 + 1, none⟩ = some (.int .i64 (an i).cost) ∧ w0.cell? ⟨b, off + i * 6 + 2, none⟩ = some (.slice fa (an i).flow.length fc) ∧ w0.cell? ⟨b, off + i * 6 + 3, none⟩ = some (.slice pa (an i).pots.length pc) ∧ w0.cell? ⟨b, off + i * 6 + 4, none⟩ = some (.slice ka (an i).cut.length kc) ∧ w0.cell? ⟨b, off + i * 6 + 5, none⟩ = some (.slice ra (an i).circ.length rc) ∧
    Ans w0 fa pa ka ra (an i).flow.length (an i).pots.length (an i).cut.length (an i).circ.length (an i).flow (an i).pots (an i).cut (an i).circ ∧ (an i).flow.length ≤ 2097152 ∧ (an i).pots.length ≤ 2097152 ∧ (an i).cut.length ≤ 2097152 ∧ (an i).circ.length ≤ 2097152)
/-- The script. -/
def ScrIn (w0 : World) (a : Option Addr) (ns : Nat) (scr : Nat → Nat → Int) : Prop :=
  ns ≤ 1048576 ∧ (ns = 0 ∨ ∃ b off, a = some ⟨b, off, none⟩ ∧ b < w0.heap.size ∧ ∀ i, i < ns → (w0.cell? ⟨b, off + i * 4, none⟩ = some (.int .i64 (scr i 0)) ∧ w0.cell? ⟨b, off + i * 4 + 1, none⟩ = some (.int .i64 (scr i 1)) ∧ w0.cell? ⟨b, off + i * 4 + 2, none⟩ = some (.int .i64 (scr i 2)) ∧ w0.cell? ⟨b, off + i * 4 + 3, none⟩ = some (.int .i64 (scr i 3))) ∧ ∀ j, j < 4 → -9223372036854775808 ≤ scr i j ∧ scr i j ≤ 9223372036854775807)
theorem StA.start (w0 : World) (xa ya : Option Addr) (nn xc nt yc : Nat) (nets : Nat → List Int × List A5) (tabs : Nat → List (List Int)) : StA w0 (w0.alloc (.cells #[.slice xa nn xc, .slice none 0 0, .slice none 0 0, .slice ya nt yc, .slice none 0 0, .slice none 0 0] 31)) w0.heap.size w0.heap.size (.slice xa nn xc) (.slice ya nt yc) nn nets nt tabs 0 0 0 0 := by
  refine ⟨fun b => b < w0.heap.size, ansRow (.slice xa nn xc) (.slice none 0 0) (.slice none 0 0) (.slice ya nt yc) (.slice none 0 0) (.slice none 0 0), fun _ => [], fun _ => ⟨0, 0, [], [], [], []⟩, fun _ => ([], []), ⟨⟨ansRow_alloc _ _ _ _ _ _ _ _, ⟨none, 0, [], rfl, World.ownsRow_nil _ _ _ _, fun p hp => by omega⟩, ⟨fun b hb => by have hb' : b < w0.heap.size := hb; simp; omega, fun b hb => .inl hb⟩, Nat.le_refl _⟩, ⟨⟨none, 0, [], rfl, World.ownsRow_nil _ _ _ _, fun i hi => by omega⟩, fun b e => by cases e⟩, ⟨⟨none, 0, [], rfl, World.ownsRow_nil _ _ _ _, fun i hi => by omega⟩⟩, ⟨⟨none, 0, [], rfl, World.ownsRow_nil _ _ _ _, fun i hi => by omega⟩⟩, fun b hb => hb⟩, Joins.below_alloc1 _ _, rfl, rfl, fun i hi => by omega⟩
theorem StA.old {w0 w : World} {wb base0 : Nat} {nv tv : Value} {nn : Nat} {nets : Nat → List Int × List A5} {nt : Nat} {tabs : Nat → List (List Int)} {nl nf na np : Nat} (h : StA w0 w wb base0 nv tv nn nets nt tabs nl nf na np) (h0 : w0.heap.size = base0) : Old w0 w := by
  obtain ⟨_, _, _, _, _, _, hB, _⟩ := h
  exact ⟨hB.size, fun k k1 => hB.block k (by omega)⟩

set_option maxRecDepth 100000 in
set_option maxHeartbeats 8000000 in
theorem lawAll_any (w0 : World) (xa fa aa ya sa : Option Addr) (nn xc nf fc na ac nt yc ns sc : Nat) (nets : Nat → List Int × List A5) (flows : List (List Int)) (an : Nat → A6) (tabs : Nat → List (List Int)) (scr : Nat → Nat → Int)
    (hN : NetsAt w0 (.slice xa nn xc) nn nets) (hF : Tab w0 fa nf flows) (hF1 : nf ≤ 1048576) (hF2 : ∀ i, i < nf → (flows.getD i []).length ≤ 2097152) (hA : AnsIn w0 aa na an) (hT : TabsAt w0 (.slice ya nt yc) nt tabs) (hS : ScrIn w0 sa ns scr) :
    Calls Tryz.prog 3 #[.slice xa nn xc, .slice fa nf fc, .slice aa na ac, .slice ya nt yc, .slice sa ns sc] w0 fun e w' => e = .returned (.bool true) ∧ Below w0.heap.size w0 w' := by
  obtain ⟨W0, hW0⟩ : ∃ W0, w0.alloc (.cells #[.slice xa nn xc, .slice none 0 0, .slice none 0 0, .slice ya nt yc, .slice none 0 0, .slice none 0 0] 31) = W0 := ⟨_, rfl⟩
  have hSt := StA.start w0 xa ya nn xc nt yc nets tabs
  rw [hW0] at hSt
  have HST := hide hSt
  have HN := hide hN
  have HT := hide hT
  have HF := hide hF
  have HF2 := hide hF2
  have HA := hide hA
  have HSC := hide hS
  have hA1 := hA.1
  have hS1 := hS.1
  have HW0 := hide hW0
  obtain ⟨wb, hwb⟩ : ∃ wb, wb = w0.heap.size := ⟨_, rfl⟩
  obtain ⟨base0, hbase⟩ : ∃ base0, w0.heap.size = base0 := ⟨_, rfl⟩
  have HST2 : Hid (StA w0 W0 wb base0 (.slice xa nn xc) (.slice ya nt yc) nn nets nt tabs 0 0 0 0) := by rw [← hbase, hwb]; exact hSt
  have HBS := hide hbase
  have HWB := hide hwb
  clear hSt hN hT hF hF2 hA hS hW0 HST hbase
  go_enter Tryz.func3, Tryz.ntmps3
  go_upto_region 2 with fail
  rw [HW0.out, ← HWB.out]
  clear HW0 hwb
  go_wp2
  go_loopw [12, 13] (fun i _ wr => ∃ k : Nat, k ≤ nf ∧ i = .int .i64 k ∧ Hid (StA w0 wr wb base0 (.slice xa nn xc) (.slice ya nt yc) nn nets nt tabs 0 k 0 0)) (fun i _ _ => nf - (intOf i).toNat)
  case atStart => exact ⟨0, Nat.zero_le _, rfl, HST2⟩
  case round =>
    obtain ⟨k, hk, rfl, hSt⟩ := hrel
    clear HST2
    by_cases hlt : k < nf
    · have hlt3 : (k : Int) < (nf : Int) := by omega
      have hold := hSt.out.old HBS.out
      obtain ⟨b, off, ra, rn, rc, rfl, hrn, hbb, cr, hI⟩ := (HF.out.old hold).get hlt
      have hrl := HF2.out k hlt
      obtain ⟨r, hr⟩ : ∃ r, flows.getD k [] = r := ⟨_, rfl⟩
      rw [hr] at hI hrn hrl
      subst hrn
      have HI := hide hI
      have cO : n0 _ := own_own ra r.length rc r wr hI
      clear hI hr
      go_wp2_with fail
      refine Calls.mono cO.out ?_
      rintro e w2 ⟨v, rfl, hown, hb2⟩
      obtain ⟨P, fw, fls, anss, pst, hA0, hB0, e0, e3, hsd⟩ := hSt.out
      have hbw : base0 ≤ wr.heap.size := Nat.le_trans hA0.lst.wlo (Nat.le_of_lt hA0.lst.box.lt)
      have hA2 := (hA0.below hb2).add (Q := fun b => v.ownBlock = some b) (fun b e => (own_typed hown b e).1)
      have hB2 : Below base0 w0 w2 := hB0.trans (hb2.mono hbw)
      have hLP : ListP w2 (fun b => P b ∨ v.ownBlock = some b) v r := own_listP hown hrl HI.out.wf (fun b e => .inr e)
      obtain ⟨pa, pc, pcs, e1, hrow, hat⟩ := hA2.flo.row
      obtain ⟨va, vc, ev⟩ := own_shape hown
      subst ev
      have c1 := hA2.lst.box.cell (i := 1) (by omega)
      rw [e1] at c1
      have f1 := hA2.lst.box.frozen 1
      have hwl := hA2.lst.box.lt
      have hb02 : base0 ≤ w2.heap.size := Nat.le_trans hbw hb2.size
      have HA2 := hide hA2
      have HB2 := hide hB2
      have HLP := hide hLP
      have HROW := hide hrow
      have HAT := hide hat
      have HE := hide (show fw 0 = .slice xa nn xc ∧ fw 3 = .slice ya nt yc ∧ fw 1 = .slice pa k pc from ⟨e0, e3, e1⟩)
      clear cO hown hSt hA0 hB0 hsd hA2 hB2 hLP hrow hat e0 e3 e1 cr hold HI hb2
      go_wp2_with (at_builtin; refine wpList_push_flow rfl (.tmp 37) (.tmp 39) rfl base0 (.slice pa k pc) k pcs rfl ?_ w2.heap.size (.slice va r.length vc) rfl 1 rfl ?_ ?_ ?_ ?_)
      · exact HROW.out.alloc _
      · go_simp
      · omega
      · simp; omega
      intro g' c' w3 hown3 hgr hor
      have hsz3 : w2.heap.size ≤ w3.heap.size := Nat.le_trans (by simp) hgr.size
      have hk3 : ∀ q, q < w2.heap.size → (Value.slice pa k pc).ownBlock ≠ some q → w3.heap[q]? = w2.heap[q]? := fun q q1 q2 => (hgr.block q (by simp; omega) (fun e => q2 e.symm)).trans ((World.grownBy_alloc w2 _ none).block q q1 (by simp))
      have hr3 := HA2.out.lst.box.of_block (hk3 wb hwl (fun e => absurd ((own_typed HROW.out wb e).1.uniq (row_typed HA2.out.lst.box)) (by decide)))
      have hc3 := hr3.cell (i := 1) (by omega)
      have hf3 := hr3.frozen 1
      have hwl3 := hr3.lt
      rw [HE.out.2.2] at hc3
      obtain ⟨hA4, hP4, hs4⟩ := HA2.out.pushF HE.out.2.2 HROW.out HAT.out HLP.out hsz3 hk3 hown3 (hor.imp id (fun h => by omega))
      have HST4 : Hid (StA w0 (w3.setCell ⟨wb, 1, none⟩ (.slice (some ⟨g', 0, none⟩) (k + 1) c')) wb base0 (.slice xa nn xc) (.slice ya nt yc) nn nets nt tabs 0 (k + 1) 0 0) := ⟨_, _, _, _, _, hA4, HB2.out.trans ⟨hgr.os, hgr.tape, hgr.output, hs4, fun q q1 => hP4 q (HA2.out.low q q1)⟩, HE.out.1, HE.out.2.1, fun i hi => by omega⟩
      clear hA4 hP4 hs4 hown3 hgr hor hk3 hr3 HA2 HB2 HLP HROW HAT HE c1 f1
      go_wp2
      go_roundw
      case rel => exact ⟨k + 1, by omega, by go_num, HST4⟩
      case measure => simp [intOf]; omega
    · have hkn : k = nf := by omega
      subst hkn
      have HST2 := hSt
      clear hSt HF HF2
      go_wp2
      go_loopw [14, 15] (fun i _ wr => ∃ j : Nat, j ≤ na ∧ i = .int .i64 j ∧ Hid (StA w0 wr wb base0 (.slice xa nn xc) (.slice ya nt yc) nn nets nt tabs 0 k j 0)) (fun i _ _ => na - (intOf i).toNat)
      case atStart => exact ⟨0, Nat.zero_le _, rfl, HST2⟩
      case round =>
        obtain ⟨j, hj, rfl, hSt⟩ := hrel
        clear HST2
        by_cases hlt : j < na
        · have hlt3 : (j : Int) < (na : Int) := by omega
          have hold := hSt.out.old HBS.out
          obtain ⟨b, off, rfl, hbl, hrows⟩ := HA.out.2.resolve_left (by omega)
          obtain ⟨fa', fc', pa', pc', ka', kc', ra', rc', d0, d1, d2, d3, d4, d5, hAns, l1, l2, l3, l4⟩ := hrows j hlt
          obtain ⟨⟨kd, cs, fl, po, cu, ci⟩, hane⟩ : ∃ a, an j = a := ⟨_, rfl⟩
          rw [hane] at d0 d1 d2 d3 d4 d5 hAns l1 l2 l3 l4
          simp only [] at d0 d1 d2 d3 d4 d5 hAns l1 l2 l3 l4
          have b0 := (hold.cell (i := off + j * 6) hbl).trans d0
          have b1 := (hold.cell (i := off + j * 6 + 1) hbl).trans d1
          have b2 := (hold.cell (i := off + j * 6 + 2) hbl).trans d2
          have b3 := (hold.cell (i := off + j * 6 + 3) hbl).trans d3
          have b4 := (hold.cell (i := off + j * 6 + 4) hbl).trans d4
          have b5 := (hold.cell (i := off + j * 6 + 5) hbl).trans d5
          have hbl2 := Nat.lt_of_lt_of_le hbl hold.size
          have hAw : Ans wr fa' pa' ka' ra' fl.length po.length cu.length ci.length fl po cu ci := ⟨hAns.fl.old hold, hAns.po.old hold, hAns.cu.old hold, hAns.ci.old hold⟩
          have cO : n0 _ := ownAnswer_own fa' pa' ka' ra' fl.length fc' po.length pc' cu.length kc' ci.length rc' kd cs fl po cu ci wr hAw
          have HAN := hide hAns
          clear hrows d0 d1 d2 d3 d4 d5 hAns hane hAw
          go_wp2_with fail
          refine Calls.mono cO.out ?_
          rintro e w2 ⟨qf, qg, qp, qh, qk, qi, qr, qj, rfl, hR4, hb2⟩
          clear cO b0 b1 b2 b3 b4 b5
          obtain ⟨W2, hW2⟩ : ∃ W2, w2.alloc (.cells #[.int .i64 kd, .int .i64 cs, .slice qf fl.length qg, .slice qp po.length qh, .slice qk cu.length qi, .slice qr ci.length qj] 35) = W2 := ⟨_, rfl⟩
          have hbW2 : Below w2.heap.size w2 W2 := by rw [← hW2]; exact Joins.below_alloc1 _ _
          have hr15 : W2.rowIs w2.heap.size 35 6 (ansRow (.int .i64 kd) (.int .i64 cs) (.slice qf fl.length qg) (.slice qp po.length qh) (.slice qk cu.length qi) (.slice qr ci.length qj)) := by rw [← hW2]; exact ansRow_alloc _ _ _ _ _ _ _ _
          obtain ⟨P, fw, fls, anss, pst, hA0, hB0, e0, e3, hsd⟩ := hSt.out
          have hbw : base0 ≤ wr.heap.size := Nat.le_trans hA0.lst.wlo (Nat.le_of_lt hA0.lst.box.lt)
          have hbb : Below wr.heap.size wr W2 := hb2.trans (hbW2.mono hb2.size)
          have o1 := hR4.fl.kept (grown_of_below hbW2 none) (own_none _ _)
          have o2 := hR4.po.kept (grown_of_below hbW2 none) (own_none _ _)
          have o3 := hR4.cu.kept (grown_of_below hbW2 none) (own_none _ _)
          have o4 := hR4.ci.kept (grown_of_below hbW2 none) (own_none _ _)
          have hA2 := (hA0.below hbb).add (Q := fun b => (Value.slice qf fl.length qg).ownBlock = some b ∨ (Value.slice qp po.length qh).ownBlock = some b ∨ (Value.slice qk cu.length qi).ownBlock = some b ∨ (Value.slice qr ci.length qj).ownBlock = some b) (fun b e => by
            rcases e with e | e | e | e
            · exact (own_typed o1 b e).1
            · exact (own_typed o2 b e).1
            · exact (own_typed o3 b e).1
            · exact (own_typed o4 b e).1)
          have hB2 : Below base0 w0 W2 := hB0.trans (hbb.mono hbw)
          have p1 := own_listP (P := fun b => P b ∨ ((Value.slice qf fl.length qg).ownBlock = some b ∨ (Value.slice qp po.length qh).ownBlock = some b ∨ (Value.slice qk cu.length qi).ownBlock = some b ∨ (Value.slice qr ci.length qj).ownBlock = some b)) o1 l1 HAN.out.fl.wf (fun b e => .inr (.inl e))
          have p2 := own_listP (P := fun b => P b ∨ ((Value.slice qf fl.length qg).ownBlock = some b ∨ (Value.slice qp po.length qh).ownBlock = some b ∨ (Value.slice qk cu.length qi).ownBlock = some b ∨ (Value.slice qr ci.length qj).ownBlock = some b)) o2 l2 HAN.out.po.wf (fun b e => .inr (.inr (.inl e)))
          have p3 := own_listP (P := fun b => P b ∨ ((Value.slice qf fl.length qg).ownBlock = some b ∨ (Value.slice qp po.length qh).ownBlock = some b ∨ (Value.slice qk cu.length qi).ownBlock = some b ∨ (Value.slice qr ci.length qj).ownBlock = some b)) o3 l3 HAN.out.cu.wf (fun b e => .inr (.inr (.inr (.inl e))))
          have p4 := own_listP (P := fun b => P b ∨ ((Value.slice qf fl.length qg).ownBlock = some b ∨ (Value.slice qp po.length qh).ownBlock = some b ∨ (Value.slice qk cu.length qi).ownBlock = some b ∨ (Value.slice qr ci.length qj).ownBlock = some b)) o4 l4 HAN.out.ci.wf (fun b e => .inr (.inr (.inr (.inr e))))
          obtain ⟨pa, pc, pcs, e2, hrow, hat⟩ := hA2.anz.row
          have c2 := hA2.lst.box.cell (i := 2) (by omega)
          rw [e2] at c2
          have f2 := hA2.lst.box.frozen 2
          have hwl := hA2.lst.box.lt
          have hb02 : base0 ≤ W2.heap.size := Nat.le_trans hbw hbb.size
          have HOWN : Hid (∀ ob, (W2.drew.alloc ob).ownsRow base0 35 6 (.slice pa j pc) j pcs) := fun ob => own_blk hrow (fun k e => ((World.grownBy_alloc W2.drew ob none).block k (hrow.lt k e).2 (by simp)).trans rfl)
          have HWR : Hid (∀ ob w3, (W2.drew.alloc ob).grownBy w3 (Value.slice pa j pc).ownBlock → w3.rowIs wb 31 6 fw) := fun ob w3 hg => grow_row hA2.lst.box hrow (by decide) hg
          have HA2 := hide hA2
          have HB2 := hide hB2
          have HLP := hide (show ListP W2 _ _ fl ∧ ListP W2 _ _ po ∧ ListP W2 _ _ cu ∧ ListP W2 _ _ ci from ⟨p1, p2, p3, p4⟩)
          have HROW := hide hrow
          have HAT := hide hat
          have HE := hide (show fw 0 = .slice xa nn xc ∧ fw 3 = .slice ya nt yc ∧ fw 2 = .slice pa j pc from ⟨e0, e3, e2⟩)
          have HW2 := hide hW2
          obtain ⟨⟨a0, a1, a2, a3, a4, a5⟩, -⟩ := row6 hr15
          have hl15 := hr15.lt
          clear hR4 hSt hA0 hB0 hsd hA2 hB2 p1 p2 p3 p4 o1 o2 o3 o4 hrow hat e0 e3 e2 hold hb2 hbW2 hbb hr15 hW2 HAN
          go_upto_region 11 with fail
          rw [HW2.out]
          clear HW2
          go_region_law (first | (refine step_push_ans rfl (.tmp 58) (.tmp 60) rfl base0 (.slice pa j pc) j pcs (by simp [Act.eval, Act.put]; done) (HOWN.out _) W2.heap.size kd cs (.slice qf fl.length qg) (.slice qp po.length qh) (.slice qk cu.length qi) (.slice qr ci.length qj) rfl rfl rfl rfl 1 (by simp [Act.eval, Act.put]; done) ?_ (by omega) (by simp; omega) ?_; (intro q u hq; match q, hq with | 0, hq => (simp [ans6] at hq; subst hq; go_simp) | 1, hq => (simp [ans6] at hq; subst hq; go_simp) | 2, hq => (simp [ans6] at hq; subst hq; go_simp) | 3, hq => (simp [ans6] at hq; subst hq; go_simp) | 4, hq => (simp [ans6] at hq; subst hq; go_simp) | 5, hq => (simp [ans6] at hq; subst hq; go_simp) | q + 6, hq => (simp [ans6] at hq)); intro g' c' w9 hown9 hgr; have hr9 := HWR.out _ _ hgr; have hc9 := hr9.cell (i := 2) (by omega); have hf9 := hr9.frozen 2))
          all_goals
            have HF9 : Hid (StA w0 (w9.setCell ⟨wb, 2, none⟩ (.slice (some ⟨g', 0, none⟩) (j + 1) c')) wb base0 (.slice xa nn xc) (.slice ya nt yc) nn nets nt tabs 0 k (j + 1) 0) := by
              obtain ⟨hs9, hk9⟩ := grow_blk hgr
              obtain ⟨hA4, hP4, hs4⟩ := HA2.out.pushA (a := ⟨kd, cs, fl, po, cu, ci⟩) HE.out.2.2 HROW.out HAT.out HLP.out.1 HLP.out.2.1 HLP.out.2.2.1 HLP.out.2.2.2 hs9 hk9 hown9
              exact ⟨_, _, _, _, _, hA4, HB2.out.trans ⟨hgr.os, hgr.tape, hgr.output, hs4, fun q q1 => hP4 q (HA2.out.low q q1)⟩, HE.out.1, HE.out.2.1, fun i hi => by omega⟩
            clear hown9 hgr hr9 HA2 HB2 HLP HROW HAT HE HOWN HWR
            go_wp2
            go_roundw
            case rel => exact ⟨j + 1, by omega, by go_num, HF9⟩
            case measure => simp [intOf]; omega
        · have hjn : j = na := by omega
          subst hjn
          have HST3 : Hid (∃ nl nf' na' np, nl ≤ 4 * 0 ∧ nf' ≤ k + 0 ∧ na' ≤ j + 0 ∧ np ≤ 0 ∧ StA w0 wr wb base0 (.slice xa nn xc) (.slice ya nt yc) nn nets nt tabs nl nf' na' np) := ⟨0, k, j, 0, by omega, by omega, by omega, by omega, hSt.out⟩
          clear hSt HA
          go_wp2
          go_loopw [16, 17] (fun i _ wr => ∃ m : Nat, m ≤ ns ∧ i = .int .i64 m ∧ Hid (∃ nl nf' na' np, nl ≤ 4 * m ∧ nf' ≤ k + m ∧ na' ≤ j + m ∧ np ≤ m ∧ StA w0 wr wb base0 (.slice xa nn xc) (.slice ya nt yc) nn nets nt tabs nl nf' na' np)) (fun i _ _ => ns - (intOf i).toNat)
          case atStart => exact ⟨0, Nat.zero_le _, rfl, HST3⟩
          case round =>
            obtain ⟨m, hm, rfl, hSt⟩ := hrel
            clear HST3
            by_cases hlt : m < ns
            · have hlt3 : (m : Int) < (ns : Int) := by omega
              obtain ⟨nl, nf', na', np, y1, y2, y3, y4, hSt2⟩ := hSt.out
              have hold := hSt2.old HBS.out
              obtain ⟨b, off, rfl, hbl, hrows⟩ := HSC.out.2.resolve_left (by omega)
              obtain ⟨⟨d0, d1, d2, d3⟩, hrg⟩ := hrows m hlt
              have b0 := (hold.cell (i := off + m * 4) hbl).trans d0
              have b1 := (hold.cell (i := off + m * 4 + 1) hbl).trans d1
              have b2 := (hold.cell (i := off + m * 4 + 2) hbl).trans d2
              have b3 := (hold.cell (i := off + m * 4 + 3) hbl).trans d3
              have hbl2 := Nat.lt_of_lt_of_le hbl hold.size
              have cS : n0 _ := aStep_any w0 wb base0 (.slice xa nn xc) (.slice ya nt yc) nn nets nt tabs nl nf' na' np (scr m 0) (scr m 1) (scr m 2) (scr m 3) wr HBS.out HN.out HT.out hSt2 (by omega) (by omega) (by omega) (by omega) (hrg 1 (by omega)) (hrg 2 (by omega)) (hrg 3 (by omega))
              clear hSt hSt2 hrows d0 d1 d2 d3 hrg hold
              go_wp2_with fail
              refine Calls.mono cS.out ?_
              rintro e w2 ⟨rfl, hE⟩
              obtain ⟨nl2, nf2, na2, np2, z1, z2, z3, z4, hS2⟩ := hE
              have HS2 : Hid (∃ nl nf' na' np, nl ≤ 4 * (m + 1) ∧ nf' ≤ k + (m + 1) ∧ na' ≤ j + (m + 1) ∧ np ≤ m + 1 ∧ StA w0 w2 wb base0 (.slice xa nn xc) (.slice ya nt yc) nn nets nt tabs nl nf' na' np) := ⟨nl2, nf2, na2, np2, by omega, by omega, by omega, by omega, hS2⟩
              obtain ⟨P, fw, fls, anss, pst, hA0, _⟩ := hS2
              obtain ⟨la, lc, lcs, h4, hls, hall⟩ := hA0.lst.arr
              have cW : n0 _ := aWhole_any wb base0 base0 P fw la nl2 lc lcs w2 hA0.lst.box h4 hls (by omega) hall
              clear cS hA0 h4 hls hall b0 b1 b2 b3
              go_wp2_with fail
              refine Calls.mono cW.out ?_
              rintro e w3 ⟨rfl, rfl⟩
              clear cW
              go_wp2
              go_roundw
              case rel => exact ⟨m + 1, by omega, by go_num, HS2⟩
              case measure => simp [intOf]; omega
            · have hmn : m = ns := by omega
              subst hmn
              have HB : Hid (Below w0.heap.size w0 wr) := by
                obtain ⟨nl, nf', na', np, _, _, _, _, P, fw, fls, anss, pst, _, hB, _⟩ := hSt.out
                unfold Hid
                rw [HBS.out]
                exact hB
              clear hSt
              go_wp2
              go_ret
              exact ⟨rfl, HB.out⟩
end Go.Proofs.YtnbccoflcoaoaaaGreat
