import Derived.Test.YtnbccoflcoaoaaaGreatAllY
import Derived.Test.YtnbccoflcoaoaaaGreatGAsg
namespace Go.Proofs.YtnbccoflcoaoaaaGreat
open Go.RowKit Go.Deep
set_option linter.unusedSimpArgs false
set_option linter.unusedVariables false

/-! ### assign -/
def SaidT (nt : Nat) (tabs : Nat → List (List Int)) (a : Int) (s : List Int) : Prop := (nt = 0 ∧ s = []) ∨ (0 < nt ∧ SaidAssign (tabs (pickS a nt)) s)
theorem SaidT.same {nt : Nat} {tabs : Nat → List (List Int)} {a : Int} {s r : List Int} (h : SaidT nt tabs a s) (k : SaidT nt tabs a r) : s = r := by
  rcases h with ⟨h0, rfl⟩ | ⟨h0, h⟩
  · rcases k with ⟨k0, rfl⟩ | ⟨k0, k⟩
    · rfl
    · omega
  · rcases k with ⟨k0, rfl⟩ | ⟨k0, k⟩
    · omega
    · exact h.same k

/-- What stays of the table's copy, of what came in and of the plan's box. -/
structure YK (w0 w3 wk : World) (lo : Nat) (Pk : Nat → Prop) (pb : Nat) (f : Nat → Value) : Prop where
  y : ∀ b, lo ≤ b → b < w3.heap.size → (Typed w3 b 3 ∨ Typed w3 b 32) → wk.heap[b]? = w3.heap[b]? ∧ ¬ Pk b
  old : Old w0 wk
  row : wk.rowIs pb 59 6 f
  size : w3.heap.size ≤ wk.heap.size
theorem YK.mine {w0 w3 wk wk' : World} {lo : Nat} {Pk Pk' : Nat → Prop} {pb base0 : Nat} {f : Nat → Value} {l : Value} (h : YK w0 w3 wk lo Pk pb f)
    (hk : ∀ b, b < wk.heap.size → (b < base0 ∨ Typed wk b 3 ∨ Typed wk b 32 ∨ Typed wk b 59) → l.ownBlock ≠ some b → wk'.heap[b]? = wk.heap[b]? ∧ (¬ Pk b → ¬ Pk' b)) (hs : wk.heap.size ≤ wk'.heap.size) (hl : ∀ b, l.ownBlock = some b → w3.heap.size ≤ b ∧ b ≠ pb) (h0 : w0.heap.size = base0) (h3 : base0 ≤ w3.heap.size) : YK w0 w3 wk' lo Pk' pb f := by
  refine ⟨fun b b1 b2 b3 => ?_, h.old.then hs (fun k k1 => (hk k (Nat.lt_of_lt_of_le k1 h.old.size) (.inl (by omega)) (fun e => by have := (hl k e).1; omega)).1), h.row.of_block (hk pb h.row.lt (.inr (.inr (.inr (row_typed h.row)))) (fun e => (hl pb e).2 rfl)).1, Nat.le_trans h.size hs⟩
  obtain ⟨e1, e2⟩ := h.y b b1 b2 b3
  have ht : b < base0 ∨ Typed wk b 3 ∨ Typed wk b 32 ∨ Typed wk b 59 := by
    rcases b3 with ⟨c, ec⟩ | ⟨c, ec⟩
    · exact .inr (.inl ⟨c, by rw [e1]; exact ec⟩)
    · exact .inr (.inr (.inl ⟨c, by rw [e1]; exact ec⟩))
  have h4 := hk b (Nat.lt_of_lt_of_le b2 h.size) ht (fun e => by have := (hl b e).1; omega)
  exact ⟨h4.1.trans e1, h4.2 e2⟩

/-- What is yet to be looked at of the table's copy. -/
structure LY (w0 w3 wr : World) (gy : Nat) (vs : List Value) (n k : Nat) : Prop where
  row : wr.heap[gy]? = w3.heap[gy]?
  rows : ∀ j u, k ≤ j → j ≤ n → vs[j]? = some u → ∀ b, u.ownBlock = some b → wr.heap[b]? = w3.heap[b]?
  old : Old w0 wr
  size : w3.heap.size ≤ wr.heap.size

set_option maxRecDepth 100000 in
set_option maxHeartbeats 8000000 in
theorem aAssign_any (hA : AssignD) (w0 : World) (wb tb base0 nl nt : Nat) (P : Nat → Prop) (fw : Nat → Value) (tabs : Nat → List (List Int)) (o : List Int) (w : World)
    (hw0 : w0.heap.size = base0) (hold : Old w0 w) (h : Lst w wb base0 P nl fw) (ht : w.rowIs tb 44 5 (toldF o (.slice none 0 0))) (hTlow : base0 ≤ tb) (hnl : nl ≤ 1073741824) (htab : TabsAt w0 (fw 3) nt tabs) (hot : -9223372036854775808 ≤ o.getD 1 0 ∧ o.getD 1 0 ≤ 9223372036854775807) :
    Calls Tryz.prog 8 #[.pointer (some ⟨wb, 0, none⟩), .pointer (some ⟨tb, 0, none⟩)] w fun e w' => e = .returned (.bool true) ∧ Done w w' wb tb base0 nl P fw o (SaidT nt tabs (o.getD 1 0)) := by
  obtain ⟨ta, tc, e3, hnt, hT⟩ := htab
  have hne : wb ≠ tb := fun e => by
    have h1 := row_typed h.box
    rw [e] at h1
    exact absurd (h1.uniq (row_typed ht)) (by decide)
  have hwl := h.box.lt
  have htl := ht.lt
  have c3 : w.cell? ⟨wb, 3, none⟩ = some (.slice ta nt tc) := (h.box.cell (i := 3) (by omega)).trans (by rw [e3])
  have t1 : w.cell? ⟨tb, 1, none⟩ = some (.int .i64 (o.getD 1 0)) := ht.cell (i := 1) (by omega)
  have HLS := hide h
  have HT := hide ht
  have HOLD := hide hold
  obtain ⟨oa, hoa⟩ : ∃ oa, o.getD 1 0 = oa := ⟨_, rfl⟩
  rw [hoa] at t1 hot ⊢
  obtain ⟨oo1, oo2⟩ := hot
  clear hoa h ht hold
  go_enter Tryz.func8, Tryz.ntmps8
  by_cases hz : nt = 0
  · subst hz
    go_wp2
    go_ret
    exact ⟨rfl, nl, fw, P, [], .slice none 0 0, by omega, ⟨HLS.out, HT.out, World.ownsRow_nil _ _ _ _, (fun b e => by cases e), ⟨rfl, rfl, rfl, Nat.le_refl _, fun _ _ _ _ _ => rfl⟩, hne⟩, fun _ _ => rfl, fun _ h => h, fun _ h => .inl h, .inl ⟨rfl, rfl⟩, by simp, fun x hx => by simp at hx⟩
  · have hpos : (0 : Int) < (nt : Int) := by omega
    have hpk := pickS_lt oa (show 0 < nt by omega)
    have cP : n0 (∀ wx, Calls Tryz.prog 10 #[.int .i64 oa, .int .i64 nt] wx fun e w' => e = .returned (.int .i64 (pickS oa nt)) ∧ w' = wx) := fun wx => aPick_any oa nt (by omega) (by omega) oo1 oo2 wx
    obtain ⟨b, off, rfl, hbl, hrows⟩ := hT.resolve_left hz
    obtain ⟨xa, xc, cx0, hTab0, hTn, hTr⟩ := hrows _ hpk
    have HSD : Hid (∀ s, SaidAssign (tabs (pickS oa nt)) s → SaidT nt tabs oa s) := fun s hs => .inr ⟨by omega, hs⟩
    obtain ⟨pk, hpke⟩ : ∃ p, pickS oa nt = p := ⟨_, rfl⟩
    rw [hpke] at hpk cx0 hTab0 hTn hTr cP HSD
    obtain ⟨t, hte⟩ : ∃ t, tabs pk = t := ⟨_, rfl⟩
    rw [hte] at cx0 hTab0 hTn hTr HSD
    have cx : w.cell? ⟨b, off + pk, none⟩ = some (.slice xa t.length xc) := (HOLD.out.cell hbl).trans cx0
    have hbl2 := Nat.lt_of_lt_of_le hbl HOLD.out.size
    have hpk2 : (pk : Int) < (nt : Int) := by omega
    have HTAB := hide hTab0
    have HTR := hide hTr
    have hd0 : ((nt : Int) == 0) = false := by simp; omega
    clear hT hrows cx0 hTab0 hTr hpke hte
    go_wp2
    go_quiet ((go_at_call 10; exact Calls.quiet_of_same (cP.out _)))
    have hbA : Below w.heap.size w (w.drewN nq) := Joins.below_draws _ _ _
    obtain ⟨wA, hwA⟩ : ∃ wA, w.drewN nq = wA := ⟨_, rfl⟩
    rw [hwA] at hbA ⊢
    have hzA : w.heap.size ≤ wA.heap.size := hbA.size
    have HTA := hide (HTAB.out.old (HOLD.out.below hbA))
    clear hwA cx c3 t1 cP
    go_wp2
    go_loopw [6, 7] (fun y i wr => ∃ (k : Nat) (vs : List Value), k ≤ t.length ∧ i = .int .i64 k ∧ Hid (vs.length = k) ∧ Hid (TabR wr wA.heap.size y vs (t.take k)) ∧ Below wA.heap.size wA wr) (fun _ i _ => t.length - (intOf i).toNat)
    case atStart => exact ⟨0, [], Nat.zero_le _, rfl, rfl, TabR.nil _ _, Below.refl _ _⟩
    case round =>
      obtain ⟨k, vs, hk, rfl, hvl, hO, hb⟩ := hrel
      have hsz := hb.size
      by_cases hlt : k < t.length
      · have hlt3 : (k : Int) < (t.length : Int) := by omega
        obtain ⟨bx, offx, ra, rn, rc, rfl, hrn, hbb, cr, hI⟩ := (HTA.out.below hb).get hlt
        have hnx : Hid (t.take (k + 1) = t.take k ++ [t.getD k []]) := take_snocL t hlt
        have hTk : Hid ((t.take k).length = k) := by unfold Hid; rw [List.length_take]; omega
        have hrl := HTR.out k hlt
        obtain ⟨r, hr⟩ : ∃ r, t.getD k [] = r := ⟨_, rfl⟩
        rw [hr] at hI hrn hnx hrl
        subst hrn
        have HI := hide hI
        generalize hLL : t.take k = L at *
        clear hLL hI hr
        go_wp2_with fail
        refine (roomy_r ra rc r _ HI.out hrl).mono ?_
        rintro e w2 ⟨g, z, rfl, hr, hg, hb2⟩
        have hb3 : Below wA.heap.size wA w2 := hb.trans (hb2.mono hsz)
        have HO2 := hide (hO.out.below hb2)
        have HR2 := hide (hr.mono hsz)
        have hs3 := hb3.size
        clear hr cr
        go_wp2_with (at_builtin; refine wpList_push_list rfl (.tmp 42) (.tmp 48) rfl wA.heap.size _ vs.length vs rfl ?_ w2.heap.size (.slice (some ⟨g, 0, none⟩) r.length z) rfl 1 rfl ?_ ?_ ?_ ?_)
        · exact (HO2.out.below (Joins.below_alloc1 _ _)).row
        · go_simp
        · have := hvl.out; omega
        · simp; omega
        intro g' c' w3 hown3 hgr
        have hb4 : Below wA.heap.size wA w3 := (hb3.alloc hs3 _).grown hgr (by simp; omega) (fun q hq => (HO2.out.ty q hq).2.1)
        have HO3 := hide ((HO2.out.below (Joins.below_alloc1 _ _)).push (l := r) (hvl.out.trans hTk.out.symm) (HR2.out.below (Joins.below_alloc1 _ _)) (fun i y hi ey e => by
          have h1 := (hO.out.rty hi ey g (by rw [e]; rfl)).2.2
          omega) hgr hown3)
        have hv2 : Hid ((vs ++ [Value.slice (some ⟨g, 0, none⟩) r.length z]).length = k + 1) := by unfold Hid; rw [List.length_append, hvl.out]; rfl
        clear hown3 hgr HO2 HR2 HI hO
        go_wp2
        go_roundw
        case rel =>
          exact ⟨k + 1, vs ++ [.slice (some ⟨g, 0, none⟩) r.length z], by omega, by go_num, hv2, by rw [hnx.out]; exact HO3.out, hb4⟩
        case measure => simp [intOf]; omega
      · have hkn : k = t.length := by omega
        subst hkn
        have hall := hO.out
        rw [List.take_of_length_le (Nat.le_refl _)] at hall
        have HALL := hide hall
        have hY1 : Hid (∀ X : World, Below wr.heap.size wr X → X.ownsRow wA.heap.size 32 1 u6 t.length vs) := fun X hX => by
          have h1 := (HALL.out.below hX).row
          rw [hvl.out] at h1
          exact h1
        clear hall hO
        go_wp2_with (at_builtin; refine wpList_push_list rfl (.tmp 50) (.tmp 52) rfl wA.heap.size _ t.length vs rfl ?_ (wr.heap.size + 1) (.slice (some ⟨wr.heap.size, 0, none⟩) 1 1) rfl 1 rfl ?_ ?_ ?_ ?_)
        · exact hY1.out _ (Joins.below_alloc2 _ _ _)
        · go_simp
        · omega
        · simp; omega
        intro gy cy w3 hown3 hgr
        have HY := hide (((HALL.out.below (Joins.below_alloc2 wr (.cells #[.int .i64 (-3000000)] 3) (.cells #[.slice (some ⟨wr.heap.size, 0, none⟩) 1 1] 32))).last hvl.out hgr (by rw [hvl.out]; exact hown3)))
        rw [hvl.out] at HY
        have hb3 : Below wA.heap.size wA w3 := ((hb.alloc hsz _).alloc (by simp; omega) _).grown hgr (by simp; omega) (fun q hq => (HALL.out.ty q hq).2.1)
        have hs3 := hb3.size
        have hgl : w3.rowIs wr.heap.size 3 1 (fun _ => .int .i64 (-3000000)) := by
          have h1 : (wr.alloc (.cells #[.int .i64 (-3000000)] 3)).rowIs wr.heap.size 3 1 (fun _ => .int .i64 (-3000000)) := World.rowIs_alloc wr #[.int .i64 (-3000000)] 3 (fun _ => .int .i64 (-3000000)) (fun i hi => by
            match i, hi with
            | 0, _ => rfl)
          exact (h1.alloc _).of_block (hgr.block wr.heap.size (by simp <;> omega) (fun e => by have := (HALL.out.ty wr.heap.size e.symm).2.2; omega))
        have hglt : wr.heap.size < w3.heap.size := by
          have := hgr.size
          simp at this
          omega
        have hcy := own_cap hown3
        have hcy2 : (t.length : Int) ≤ (cy : Int) := by omega
        obtain ⟨vs', hvs'⟩ : ∃ vs', vs ++ [Value.slice (some ⟨wr.heap.size, 0, none⟩) 1 1] = vs' := ⟨_, rfl⟩
        have HLA : Hid (vs'[t.length]? = some (.slice (some ⟨wr.heap.size, 0, none⟩) 1 1)) := by
          unfold Hid
          rw [← hvs', List.getElem?_append_right (by rw [hvl.out]; exact Nat.le_refl _), hvl.out]
          simp
        have HVL : Hid (vs'.length = t.length + 1) := by unfold Hid; rw [← hvs', List.length_append, hvl.out]; rfl
        have HAP : Hid (∀ i u, i < t.length → vs'[i]? = some u → ∀ b, u.ownBlock = some b → b < wr.heap.size) := fun i u hi e b hb' => by
          rw [← hvs', List.getElem?_append_left (by rw [hvl.out]; exact hi)] at e
          exact (HALL.out.rty hi e b hb').2.2
        rw [hvs'] at HY
        obtain ⟨gl, hgle⟩ : ∃ gl, wr.heap.size = gl := ⟨_, rfl⟩
        rw [hgle] at hgl hglt HLA HAP
        have hgl0 : wA.heap.size ≤ gl := by omega
        have HGL := hide hgl
        clear hvs' hgr hown3 hgle hgl HALL hY1 hvl
        obtain ⟨ya, yc, ey, hTY⟩ := HY.out.tab hTn (fun i hi => ⟨HTR.out i hi, (HTA.out.wf i hi).2⟩)
        have HTY : Hid (Tab w3 (some ⟨gy, 0, none⟩) t.length t) := by
          simp only [Value.slice.injEq] at ey
          rw [← ey.1] at hTY
          exact hTY
        clear ey hTY
        have cS : n0 (Calls Tryz.prog 21 #[.slice (some ⟨gy, 0, none⟩) t.length cy] w3 fun e w' => ∃ (p : P6) (err : Int) (v : Value), e = .returned (.tuple #[v, .int .i64 err]) ∧ OwnP w' w3.heap.size v p ∧ planS t p err = true ∧ AssignRel t p err ∧ ApartP v ∧ Below w3.heap.size w3 w') := hA _ _ _ t w3 HTY.out
        go_wp2_with fail
        refine Calls.mono cS.out ?_
        rintro e w4 ⟨p, err, v, rfl, hown, hpl, hrel, hap, hb4⟩
        clear cS
        obtain ⟨ca, cz, ra, rz, wa, wz, sa, sz, rfl, o1, o2, o3, o4⟩ := hown
        obtain ⟨s1, s2, s3, s4⟩ := plan_small hpl
        have hptwo := plan_two hpl
        have HPL := hide hpl
        have HREL := hide hrel
        have HAPP : Hid (Apart4 (.slice ca p.cols.length cz) (.slice ra p.rw.length rz) (.slice wa p.cw.length wz) (.slice sa p.short.length sz)) := by
          obtain ⟨f', k', c', r', w', s', ev, hA4⟩ := hap
          simp only [Value.agg.injEq, Array.mk.injEq, List.cons.injEq, and_true] at ev
          obtain ⟨_, rfl, _, rfl, rfl, rfl⟩ := ev
          exact hA4
        have HO := hide (show Row4 w4 w3.heap.size ca cz ra rz wa wz sa sz p.cols.length p.rw.length p.cw.length p.short.length p.cols p.rw p.cw p.short from ⟨o1, o2, o3, o4⟩)
        have HPA := hide (show Pla w4 ca ra wa sa p from ⟨s1.ints o1, s2.ints o2, s3.ints o3, s4.ints o4⟩)
        have hccap := own_cap o1
        clear hpl hrel hap o1 o2 o3 o4 HTY
        obtain ⟨ft, co, cs, rl, wl, sh⟩ := p
        simp only [] at HO HPA HREL HAPP HPL hccap s1 s2 s3 s4 hptwo ⊢
        obtain ⟨⟨er1, er2⟩, cb1, cb2⟩ := hptwo
        obtain ⟨W4, hW4⟩ : ∃ W4, w4.alloc (.cells #[.bool ft, .slice ca co.length cz, .int .i64 cs, .slice ra rl.length rz, .slice wa wl.length wz, .slice sa sh.length sz] 59) = W4 := ⟨_, rfl⟩
        have hbW4 : Below w4.heap.size w4 W4 := by rw [← hW4]; exact Joins.below_alloc1 _ _
        have hr8 : W4.rowIs w4.heap.size 59 6 (ansRow (.bool ft) (.slice ca co.length cz) (.int .i64 cs) (.slice ra rl.length rz) (.slice wa wl.length wz) (.slice sa sh.length sz)) := by rw [← hW4]; exact ansRow_alloc _ _ _ _ _ _ _ _
        have hzW4 : W4.heap.size = w4.heap.size + 1 := by rw [← hW4]; simp
        have hs4 := hb4.size
        have HW4 := hide hW4
        clear hW4
        go_upto_region 11 with fail
        rw [HW4.out]
        clear HW4
        have hbA4 : Below wA.heap.size wA W4 := (hb3.trans (hb4.mono hs3)).trans (hbW4.mono (by omega))
        have hB4 : Below w.heap.size w W4 := hbA.trans (hbA4.mono hzA)
        obtain ⟨⟨a0, a1, a2, a3, a4, a5⟩, -⟩ := row6 hr8
        have HR8 := hide hr8
        have cF : n0 (Calls Tryz.prog 22 #[.slice xa t.length xc, .agg #[.bool ft, .slice ca co.length cz, .int .i64 cs, .slice ra rl.length rz, .slice wa wl.length wz, .slice sa sh.length sz], .int .i64 err] W4 fun e w' => e = .returned (.bool true) ∧ Below W4.heap.size W4 w') :=
          refAssignFits_ok xa ca ra wa sa t.length xc cz rz wz sz t ⟨ft, co, cs, rl, wl, sh⟩ err W4 (HTA.out.below hbA4) (HPA.out.below hbW4) hccap HPL.out
        clear hr8
        go_wp2_with fail
        refine Calls.mono cF.out ?_
        rintro e w5 ⟨rfl, hb5⟩
        clear cF a0 a1 a2 a3 a4 a5
        have hs5 := hb5.size
        have hB5 : Below w.heap.size w w5 := hB4.trans (hb5.mono hB4.size)
        have hr8 : w5.rowIs w4.heap.size 59 6 (ansRow (.bool ft) (.slice ca co.length cz) (.int .i64 cs) (.slice ra rl.length rz) (.slice wa wl.length wz) (.slice sa sh.length sz)) := below_row hb5 HR8.out (by omega)
        have HR85 := hide hr8
        have HPA5 := hide ((HPA.out.below hbW4).below hb5)
        clear HR8
        obtain ⟨⟨a0, a1, a2, a3, a4, a5⟩, ⟨g0, g1, g2, g3, g4, g5⟩⟩ := row6 hr8
        have ht5 : w5.rowIs tb 44 5 (toldF o (.slice none 0 0)) := below_row hB5 HT.out htl
        have t4 := ht5.cell (i := 4) (by omega)
        simp only [toldF, if_true] at t4
        have f4 := ht5.frozen 4
        have htl5 := ht5.lt
        have HT5 := hide ht5
        have HFR : Hid (∀ (ob : Obj) wx, (w5.drew.alloc ob).grownBy wx (Value.slice none 0 0).ownBlock → ∀ k, k < w5.heap.size → wx.heap[k]? = w5.heap[k]?) := fun ob wx hg k k1 =>
          (hg.block k (Nat.lt_of_lt_of_le k1 (World.grownBy_alloc w5.drew ob none).size) (by simp [Value.ownBlock])).trans (((World.grownBy_alloc w5.drew ob none).block k k1 (by simp)).trans rfl)
        have HTRW : Hid (∀ (ob : Obj) wx, (w5.drew.alloc ob).grownBy wx (Value.slice none 0 0).ownBlock → wx.rowIs tb 44 5 (toldF o (.slice none 0 0))) := fun ob wx hg => ht5.of_block (HFR.out ob wx hg tb ht5.lt)
        have hptb : tb ≠ w4.heap.size := by omega
        have hp5 : w4.heap.size < w5.heap.size := by omega
        clear ht5 hr8
        go_wp2_with fail
        go_cut [76] (fun _ wx => ToldAt wx tb w5.heap.size o [cs, err] ∧ Keep1 w5.heap.size tb w5 wx)
        case first =>
          clear a0 a1 a3 a4 a5 g0 g1 g2 g3 g4 g5 HLS HT HO HPA HPL HREL HAPP HR85 HPA5 HT5 hb3 hb4 hbW4 hb5 hB4 hB5 hbA4 hbA s1 s2 s3 s4 hccap HY HLA HVL HAP HGL HTA HTAB HTR HOLD HSD
          go_region_law (first | (refine step_num rfl (.tmp 73) rfl err (by omega) (by simp [Act.eval, Act.put]; done) ?_) | (refine step_push_ints rfl (.tmp 70) (.tmp 75) rfl w5.heap.size (.slice none 0 0) 0 [] (by simp [Act.eval, Act.put]; done) (World.ownsRow_nil _ _ _ _) w5.heap.size 2 2 [cs, err] rfl (by omega) (by simp [Act.eval, Act.put]; done) ?_ (by omega) (by simp) ?_; (intro j u hj; match j, hj with | 0, hj => (simp [intCells] at hj; subst hj; go_simp) | 1, hj => (simp [intCells] at hj; subst hj; go_simp) | j + 2, hj => (simp [intCells] at hj)); intro g' c' wx hown3 hgr; have hr3 := HTRW.out _ _ hgr; have hc3 := hr3.cell (i := 4) (by omega); simp only [toldF, if_true] at hc3; have hf3 := hr3.frozen 4))
          all_goals
            have HF3 : Hid (ToldAt (wx.setCell ⟨tb, 4, none⟩ (.slice (some ⟨g', 0, none⟩) 2 c')) tb w5.heap.size o [cs, err] ∧ Keep1 w5.heap.size tb w5 (wx.setCell ⟨tb, 4, none⟩ (.slice (some ⟨g', 0, none⟩) 2 c'))) := by
              have hk3 : Keep1 w5.heap.size tb w5 wx := ⟨hgr.os, hgr.tape, hgr.output, by have := hgr.size; simp at this; omega, fun k k1 _ => HFR.out _ _ hgr k k1⟩
              refine ⟨⟨htl5, .slice (some ⟨g', 0, none⟩) 2 c', (hr3.set 4 _).congr ?_, own_blk hown3 (fun k e => Below.heap_setCell _ _ _ _ (by have := (hown3.lt k e).1; show k ≠ tb; omega))⟩, hk3.trans (Keep1.set _ _ _ _ _)⟩
              intro i hi
              by_cases e : i = 4
              · subst e; simp [toldF]
              · simp [toldF, e]
            clear hown3 hgr hr3 hc3 hf3 a2
            go_wp2_with fail
            go_meet
            exact HF3.out
        case rest =>
        obtain ⟨hTo, hK6⟩ := hcut
        obtain ⟨w6, hw6⟩ : ∃ w6, wc = w6 := ⟨_, rfl⟩
        rw [hw6] at hTo hK6 ⊢
        clear hw6 HFR HTRW t4 f4 a0 a1 a2 a3 a4 a5 g0 g1 g2 g3 g4 g5
        have hgeC : ∀ b, (Value.slice ca co.length cz).ownBlock = some b → w3.heap.size ≤ b ∧ b < w4.heap.size := fun b hb => (own_typed HO.out.fl b hb).2
        have hgeR : ∀ b, (Value.slice ra rl.length rz).ownBlock = some b → w3.heap.size ≤ b ∧ b < w4.heap.size := fun b hb => (own_typed HO.out.po b hb).2
        have hgeW : ∀ b, (Value.slice wa wl.length wz).ownBlock = some b → w3.heap.size ≤ b ∧ b < w4.heap.size := fun b hb => (own_typed HO.out.cu b hb).2
        have hgeS : ∀ b, (Value.slice sa sh.length sz).ownBlock = some b → w3.heap.size ≤ b ∧ b < w4.heap.size := fun b hb => (own_typed HO.out.ci b hb).2
        have HBC : Hid (∀ b off, ca = some ⟨b, off, none⟩ → b < w5.heap.size ∧ b ≠ tb) := fun b off e => by
          have := hgeC b (by rw [e]; rfl)
          omega
        have HBR : Hid (∀ b off, ra = some ⟨b, off, none⟩ → b < w5.heap.size ∧ b ≠ tb) := fun b off e => by
          have := hgeR b (by rw [e]; rfl)
          omega
        have HBW : Hid (∀ b off, wa = some ⟨b, off, none⟩ → b < w5.heap.size ∧ b ≠ tb) := fun b off e => by
          have := hgeW b (by rw [e]; rfl)
          omega
        have HBS : Hid (∀ b off, sa = some ⟨b, off, none⟩ → b < w5.heap.size ∧ b ≠ tb) := fun b off e => by
          have := hgeS b (by rw [e]; rfl)
          omega
        have HGC := hide hgeC
        have HGR := hide hgeR
        have HGW := hide hgeW
        have HGS := hide hgeS
        clear hgeC hgeR hgeW hgeS
        have hl1 := s1.1
        have hl2 := s2.1
        have hl3 := s3.1
        have hl4 := s4.1
        have HRW : Hid (∀ w', Keep1 w5.heap.size tb w5 w' → w'.rowIs w4.heap.size 59 6 (ansRow (.bool ft) (.slice ca co.length cz) (.int .i64 cs) (.slice ra rl.length rz) (.slice wa wl.length wz) (.slice sa sh.length sz))) := fun w' hK => HR85.out.of_block (hK.block w4.heap.size HR85.out.lt (fun e => hptb e.symm))
        have HPW : Hid (∀ w', Keep1 w5.heap.size tb w5 w' → Pla w' ca ra wa sa ⟨ft, co, cs, rl, wl, sh⟩) := fun w' hK => ⟨HPA5.out.cl.blk hK.size (fun b off e => hK.block b (HBC.out b off e).1 (HBC.out b off e).2), HPA5.out.rl.blk hK.size (fun b off e => hK.block b (HBR.out b off e).1 (HBR.out b off e).2), HPA5.out.wl.blk hK.size (fun b off e => hK.block b (HBW.out b off e).1 (HBW.out b off e).2), HPA5.out.sl.blk hK.size (fun b off e => hK.block b (HBS.out b off e).1 (HBS.out b off e).2)⟩
        obtain ⟨⟨a0, a1, a2, a3, a4, a5⟩, -⟩ := row6 (HRW.out w6 hK6)
        have cA : n0 (Calls Tryz.prog 24 #[.pointer (some ⟨tb, 0, none⟩), .slice ca co.length cz] w6 fun e w' => e = .returned (.tuple #[]) ∧ ToldAt w' tb w5.heap.size o ([cs, err] ++ (co.length : Int) :: co) ∧ Keep1 w5.heap.size tb w6 w') :=
          aAdd_any tb w5.heap.size ca co.length cz o [cs, err] co w6 hTo (HPW.out w6 hK6).cl HBC.out (by simp; omega) hK6.size
        clear hTo
        go_wp2_with fail
        refine Calls.mono cA.out ?_
        rintro e w7 ⟨rfl, hTo, hK⟩
        have hK7 := hK6.trans hK
        clear cA hK a0 a1 a2 a3 a4 a5
        obtain ⟨⟨a0, a1, a2, a3, a4, a5⟩, -⟩ := row6 (HRW.out w7 hK7)
        have cA : n0 (Calls Tryz.prog 24 #[.pointer (some ⟨tb, 0, none⟩), .slice ra rl.length rz] w7 fun e w' => e = .returned (.tuple #[]) ∧ ToldAt w' tb w5.heap.size o (([cs, err] ++ (co.length : Int) :: co) ++ (rl.length : Int) :: rl) ∧ Keep1 w5.heap.size tb w7 w') :=
          aAdd_any tb w5.heap.size ra rl.length rz o ([cs, err] ++ (co.length : Int) :: co) rl w7 hTo (HPW.out w7 hK7).rl HBR.out (by simp; omega) hK7.size
        clear hTo
        go_wp2_with fail
        refine Calls.mono cA.out ?_
        rintro e w8 ⟨rfl, hTo, hK⟩
        have hK8 := hK7.trans hK
        clear cA hK a0 a1 a2 a3 a4 a5
        obtain ⟨⟨a0, a1, a2, a3, a4, a5⟩, -⟩ := row6 (HRW.out w8 hK8)
        have cA : n0 (Calls Tryz.prog 24 #[.pointer (some ⟨tb, 0, none⟩), .slice wa wl.length wz] w8 fun e w' => e = .returned (.tuple #[]) ∧ ToldAt w' tb w5.heap.size o ((([cs, err] ++ (co.length : Int) :: co) ++ (rl.length : Int) :: rl) ++ (wl.length : Int) :: wl) ∧ Keep1 w5.heap.size tb w8 w') :=
          aAdd_any tb w5.heap.size wa wl.length wz o (([cs, err] ++ (co.length : Int) :: co) ++ (rl.length : Int) :: rl) wl w8 hTo (HPW.out w8 hK8).wl HBW.out (by simp; omega) hK8.size
        clear hTo
        go_wp2_with fail
        refine Calls.mono cA.out ?_
        rintro e w9 ⟨rfl, hTo, hK⟩
        have hK9 := hK8.trans hK
        clear cA hK a0 a1 a2 a3 a4 a5
        obtain ⟨⟨a0, a1, a2, a3, a4, a5⟩, -⟩ := row6 (HRW.out w9 hK9)
        have cA : n0 (Calls Tryz.prog 24 #[.pointer (some ⟨tb, 0, none⟩), .slice sa sh.length sz] w9 fun e w' => e = .returned (.tuple #[]) ∧ ToldAt w' tb w5.heap.size o (((([cs, err] ++ (co.length : Int) :: co) ++ (rl.length : Int) :: rl) ++ (wl.length : Int) :: wl) ++ (sh.length : Int) :: sh) ∧ Keep1 w5.heap.size tb w9 w') :=
          aAdd_any tb w5.heap.size sa sh.length sz o ((([cs, err] ++ (co.length : Int) :: co) ++ (rl.length : Int) :: rl) ++ (wl.length : Int) :: wl) sh w9 hTo (HPW.out w9 hK9).sl HBS.out (by simp; omega) hK9.size
        clear hTo
        go_wp2_with fail
        refine Calls.mono cA.out ?_
        rintro e w10 ⟨rfl, hTo, hK⟩
        have hK10 := hK9.trans hK
        clear cA hK a0 a1 a2 a3 a4 a5
        obtain ⟨sd, hsd⟩ : ∃ sd, saidP ⟨ft, co, cs, rl, wl, sh⟩ err = sd := ⟨_, rfl⟩
        have HSAID : Hid (SaidT nt tabs oa sd ∧ sd.length ≤ 1000 ∧ ∀ x ∈ sd, -9223372036854775808 ≤ x ∧ x ≤ 9223372036854775807) := by
          have h1 := saidP_small HPL.out
          rw [hsd] at h1
          exact ⟨HSD.out sd ⟨_, err, HREL.out, hsd.symm⟩, h1.1, h1.2⟩
        have hTo2 : ToldAt w10 tb w5.heap.size o sd := by rw [← hsd]; exact hTo
        clear hTo hsd
        obtain ⟨_, sv, hTr, hTs⟩ := hTo2
        have hz10 := hK10.size
        have hL5 := HLS.out.below hB5
        have hPt : ∀ b, P b → b < w.heap.size ∧ b ≠ tb := fun b hb => ⟨HLS.out.safe.lt b hb, fun e => by
          subst e
          exact HLS.out.safe.not hTlow (row_typed HT.out) (by decide) (by decide) hb⟩
        have hL10 : Lst w10 wb base0 P nl fw := hL5.keep hz10 (fun b hb => hK10.block b (hL5.safe.lt b hb) (hPt b hb).2) (hK10.block wb hL5.box.lt hne) (fun b e => by
          obtain ⟨la, lc, lcs, h1, h2, _⟩ := hL5.arr
          rw [h1] at e
          have ht := own_typed h2 b e
          exact hK10.block b ht.2.2 (fun e2 => by subst e2; exact absurd (ht.1.uniq (row_typed HT5.out)) (by decide)))
        have hbw : base0 ≤ w.heap.size := Nat.le_trans HLS.out.wlo (Nat.le_of_lt HLS.out.box.lt)
        have hMid : Mid w w10 wb tb (fun k => k = tb) base0 nl P fw o sd sv := ⟨hL10, hTr, ownsRow_mono hTs (by omega), fun b hb => ⟨fun hp => by have := (hTs.lt b hb).1; have := (hPt b hp).1; omega, by have := (hTs.lt b hb).1; omega⟩, ⟨hK10.os.trans hB5.os, hK10.tape.trans hB5.tape, hK10.output.trans hB5.output, Nat.le_trans hB5.size hz10, fun k k1 _ k3 _ => (hK10.block k (Nat.lt_of_lt_of_le k1 hB5.size) k3).trans (hB5.block k k1)⟩, hne⟩
        have hpend : ∀ (a : Option Addr) (c : Nat) (l : List Int), Small l → w4.ownsRow w3.heap.size 3 1 (.slice a l.length c) l.length (intCells l) → Pend w10 base0 P sv (.slice a l.length c) l.length := fun a c l hsm ho => by
          have h2 : w5.ownsRow w3.heap.size 3 1 (.slice a l.length c) l.length (intCells l) := (ho.kept (grown_of_below hbW4 none) (own_none _ _)).kept (grown_of_below hb5 none) (own_none _ _)
          refine ⟨by have := hsm.1; omega, ⟨_, ownsRow_mono (own_blk h2 (fun k e => ?_)) (by omega)⟩, fun b hb => ⟨fun hp => ?_, fun e => ?_⟩⟩
          · have := (ho.lt k e)
            exact hK10.block k (by omega) (by omega)
          · have := (ho.lt b hb)
            have := (hPt b hp).1
            omega
          · have := (ho.lt b hb)
            have := (hTs.lt b e).1
            omega
        have hb35 : Below w3.heap.size w3 w5 := (hb4.trans (hbW4.mono (by omega))).trans (hb5.mono (by omega))
        have hYK : YK w0 w3 w10 wA.heap.size P w4.heap.size (ansRow (.bool ft) (.slice ca co.length cz) (.int .i64 cs) (.slice ra rl.length rz) (.slice wa wl.length wz) (.slice sa sh.length sz)) := ⟨fun b b1 b2 b3 => ⟨(hK10.block b (by omega) (by omega)).trans (hb35.block b b2), fun hp => by have := (hPt b hp).1; omega⟩, (HOLD.out.below hB5).then hz10 (fun k k1 => hK10.block k (by have := HOLD.out.size; have := hB5.size; omega) (by omega)), HRW.out w10 hK10, by omega⟩
        have HSV : Hid (∀ b, sv.ownBlock = some b → w5.heap.size ≤ b) := fun b e => (hTs.lt b e).1
        have hPC := hpend ca cz co s1 HO.out.fl
        have hPR := hpend ra rz rl s2 HO.out.po
        have hPW := hpend wa wz wl s3 HO.out.cu
        have hPS := hpend sa sz sh s4 HO.out.ci
        obtain ⟨h12, h13, h14, h23, h24, h34⟩ := HAPP.out
        have HWC : Hid (∀ b, (Value.slice ca co.length cz).ownBlock = some b → w.heap.size ≤ b) := fun b hb => by have := (HGC.out b hb).1; omega
        have HWR : Hid (∀ b, (Value.slice ra rl.length rz).ownBlock = some b → w.heap.size ≤ b) := fun b hb => by have := (HGR.out b hb).1; omega
        have HWW : Hid (∀ b, (Value.slice wa wl.length wz).ownBlock = some b → w.heap.size ≤ b) := fun b hb => by have := (HGW.out b hb).1; omega
        have HWS : Hid (∀ b, (Value.slice sa sh.length sz).ownBlock = some b → w.heap.size ≤ b) := fun b hb => by have := (HGS.out b hb).1; omega
        have HNC : Hid (∀ b, (Value.slice ca co.length cz).ownBlock = some b → w3.heap.size ≤ b ∧ b ≠ w4.heap.size) := fun b hb => ⟨(HGC.out b hb).1, by have := (HGC.out b hb).2; omega⟩
        have HNR : Hid (∀ b, (Value.slice ra rl.length rz).ownBlock = some b → w3.heap.size ≤ b ∧ b ≠ w4.heap.size) := fun b hb => ⟨(HGR.out b hb).1, by have := (HGR.out b hb).2; omega⟩
        have HNW : Hid (∀ b, (Value.slice wa wl.length wz).ownBlock = some b → w3.heap.size ≤ b ∧ b ≠ w4.heap.size) := fun b hb => ⟨(HGW.out b hb).1, by have := (HGW.out b hb).2; omega⟩
        have HNS : Hid (∀ b, (Value.slice sa sh.length sz).ownBlock = some b → w3.heap.size ≤ b ∧ b ≠ w4.heap.size) := fun b hb => ⟨(HGS.out b hb).1, by have := (HGS.out b hb).2; omega⟩
        clear hpend hPt hL5 hL10 hTr hTs hK6 hK7 hK8 hK9 hK10 HRW HPW HBC HBR HBW HBS
        have CM : n0 _ := mid_mine_as w w10 wb tb (fun k => k = tb) base0 (nl) P fw o sd sv (.slice ca co.length cz) co.length hMid hPC HWC.out (by omega)
        obtain ⟨⟨a0, a1, a2, a3, a4, a5⟩, -⟩ := row6 hYK.row
        have HYK := hide hYK
        have HPR := hide hPR
        have HPW := hide hPW
        have HPS := hide hPS
        clear hMid hYK hPC hPR hPW hPS
        go_wp2_with fail
        refine Calls.mono CM.out ?_
        rintro e w11 ⟨rfl, fw11, P11, hM, hf11, hP11, hN11, hPe, hKe, hsz11⟩
        have hYK := HYK.out.mine hKe hsz11 HNC.out hw0 (by omega)
        have hPR := hPe _ _ HPR.out h12
        have hPW := hPe _ _ HPW.out h13
        have hPS := hPe _ _ HPS.out h14
        clear CM hPe hKe HYK a0 a1 a2 a3 a4 a5 HPR HPW HPS
        have CM : n0 _ := mid_mine_as w w11 wb tb (fun k => k = tb) base0 (nl + 1) P11 fw11 o sd sv (.slice ra rl.length rz) rl.length hM hPR HWR.out (by omega)
        obtain ⟨⟨a0, a1, a2, a3, a4, a5⟩, -⟩ := row6 hYK.row
        have HYK := hide hYK
        have HPW := hide hPW
        have HPS := hide hPS
        clear hM hYK hPR hPW hPS
        go_wp2_with fail
        refine Calls.mono CM.out ?_
        rintro e w12 ⟨rfl, fw12, P12, hM, hf12, hP12, hN12, hPe, hKe, hsz12⟩
        have hYK := HYK.out.mine hKe hsz12 HNR.out hw0 (by omega)
        have hPW := hPe _ _ HPW.out h23
        have hPS := hPe _ _ HPS.out h24
        clear CM hPe hKe HYK a0 a1 a2 a3 a4 a5 HPW HPS
        have CM : n0 _ := mid_mine_as w w12 wb tb (fun k => k = tb) base0 (nl + 1 + 1) P12 fw12 o sd sv (.slice wa wl.length wz) wl.length hM hPW HWW.out (by omega)
        obtain ⟨⟨a0, a1, a2, a3, a4, a5⟩, -⟩ := row6 hYK.row
        have HYK := hide hYK
        have HPS := hide hPS
        clear hM hYK hPW hPS
        go_wp2_with fail
        refine Calls.mono CM.out ?_
        rintro e w13 ⟨rfl, fw13, P13, hM, hf13, hP13, hN13, hPe, hKe, hsz13⟩
        have hYK := HYK.out.mine hKe hsz13 HNW.out hw0 (by omega)
        have hPS := hPe _ _ HPS.out h34
        clear CM hPe hKe HYK a0 a1 a2 a3 a4 a5 HPS
        have CM : n0 _ := mid_mine_as w w13 wb tb (fun k => k = tb) base0 (nl + 1 + 1 + 1) P13 fw13 o sd sv (.slice sa sh.length sz) sh.length hM hPS HWS.out (by omega)
        obtain ⟨⟨a0, a1, a2, a3, a4, a5⟩, -⟩ := row6 hYK.row
        have HYK := hide hYK
        clear hM hYK hPS
        go_wp2_with fail
        refine Calls.mono CM.out ?_
        rintro e w14 ⟨rfl, fw14, P14, hM, hf14, hP14, hN14, hPe, hKe, hsz14⟩
        have hYK := HYK.out.mine hKe hsz14 HNS.out hw0 (by omega)
        clear CM hPe hKe HYK a0 a1 a2 a3 a4 a5 
        have HYK := hide hYK
        have HM := hide hM
        clear hM hYK
        have hKY : ∀ b, wA.heap.size ≤ b → b < w3.heap.size → (Typed w3 b 3 ∨ Typed w3 b 32) → ¬ P14 b ∧ sv.ownBlock ≠ some b := fun b b1 b2 b3 => ⟨(HYK.out.y b b1 b2 b3).2, fun e => by have := HSV.out b e; omega⟩
        have HKY := hide hKY
        have HLY : Hid (LY w0 w3 w14 gy vs' t.length 0) := ⟨(HYK.out.y gy (HY.out.ty gy rfl).2.1 (HY.out.ty gy rfl).2.2 (.inr (HY.out.ty gy rfl).1)).1, fun j u hj hjn e b hb => by
          by_cases hjl : j < t.length
          · have h1 := HY.out.rty hjl e b hb
            exact (HYK.out.y b h1.2.1 h1.2.2 (.inl h1.1)).1
          · have hje : j = t.length := by omega
            subst hje
            rw [HLA.out] at e
            cases e
            simp only [Value.ownBlock, Option.some.injEq] at hb
            subst hb
            exact (HYK.out.y gl hgl0 hglt (.inl (row_typed HGL.out))).1, HYK.out.old, HYK.out.size⟩
        have HD : Hid (∀ wx, Mid w wx wb tb (fun k => k = tb) base0 (nl + 1 + 1 + 1 + 1) P14 fw14 o sd sv → Done w wx wb tb base0 nl P fw o (SaidT nt tabs oa)) := fun wx hM => ⟨nl + 1 + 1 + 1 + 1, fw14, P14, sd, sv, by omega, hM, fun i hi => (hf14 i hi).trans ((hf13 i hi).trans ((hf12 i hi).trans (hf11 i hi))), fun b hb => hP14 b (hP13 b (hP12 b (hP11 b hb))), fun b hb => (hN14 b hb).elim (fun h => (hN13 b h).elim (fun h => (hN12 b h).elim (fun h => hN11 b h) .inr) .inr) .inr, HSAID.out.1, HSAID.out.2.1, HSAID.out.2.2⟩
        clear hKY HYK HSAID hf11 hf12 hf13 hf14 hP11 hP12 hP13 hP14 hN11 hN12 hN13 hN14 HSV HO HPA HPA5 HREL HPL HAPP HR85 HT5 HGC HGR HGW HGS HWC HWR HWW HWS HNC HNR HNW HNS h12 h13 h14 h23 h24 h34 hbA4 hB4 hB5 hb5 hb35 hbW4 hb4 hb3 hb hbA s1 s2 s3 s4 HTA HLS HT HSD
        go_wp2
        go_loopw [10, 11, 12] (fun ok i _ wr => ∃ k : Nat, k ≤ t.length ∧ i = .int .i64 k ∧ ok = .bool true ∧ Hid (Mid w wr wb tb (fun k => k = tb) base0 (nl + 1 + 1 + 1 + 1) P14 fw14 o sd sv) ∧ Hid (LY w0 w3 wr gy vs' t.length k)) (fun _ i _ _ => t.length - (intOf i).toNat)
        case atStart => exact ⟨0, Nat.zero_le _, rfl, rfl, HM, HLY⟩
        case round =>
          obtain ⟨k, hk, rfl, rfl, hM, hL⟩ := hrel
          clear HM HLY
          by_cases hlt : k < t.length
          · have hlt3 : (k : Int) < (t.length : Int) := by omega
            have hlt4 : (k : Int) < (t.length : Int) + 1 := by omega
            obtain ⟨u, eu, hRu⟩ := HY.out.rows k hlt
            have hTu := HY.out.rty hlt eu
            obtain ⟨g, z, rfl⟩ := hRu.open_
            have cy1 : wr.cell? ⟨gy, k, none⟩ = some (.slice (some ⟨g, 0, none⟩) (t.getD k []).length z) := by
              rw [World.cell?_of_block hL.out.row]
              have h1 := HY.out.row
              rw [HVL.out] at h1
              exact own_cellAt h1 k _ eu
            have hRw := hRu.blk hL.out.size (hL.out.rows k _ (Nat.le_refl _) hk eu)
            obtain ⟨bx, offx, ra', rn, rc', rfl, hrn, hbb, cr, hI⟩ := (HTAB.out.old hL.out.old).get hlt
            have hrl := HTR.out k hlt
            obtain ⟨r, hr⟩ : ∃ r, t.getD k [] = r := ⟨_, rfl⟩
            rw [hr] at hI hrn hrl cy1 hRw
            subst hrn
            have hgT := hTu g rfl
            have hgTr := (hRw.typed g rfl).1
            have hgyl : gy < wr.heap.size := Nat.lt_of_lt_of_le (HY.out.ty gy rfl).2.2 hL.out.size
            have cS : n0 (∀ wx, Below wr.heap.size wr wx → Calls Tryz.prog 26 #[.slice (some ⟨g, 0, none⟩) r.length z, .slice ra' r.length rc'] wx fun e w' => e = .returned (.bool true) ∧ wx.grownBy w' (some g)) := fun wx h => aStill_free g z ra' r.length rc' wA.heap.size r wx (hI.below h) (hRw.below h).roomy (by omega)
            clear hI hRw hRu hr
            go_wp2_with fail
            go_cut [12] from 111 to 129 (fun v wx => v = .bool true ∧ wr.grownBy wx (some g))
            case first =>
              go_region_with (first | (go_at_call 26; refine (cS.out _ ?_).mono ?_; exact (Below.refl _ _).drew; rintro e w' ⟨rfl, hg⟩))
              all_goals
                have HH : Hid (wr.grownBy w' (some g)) := ⟨hg.os, hg.tape, hg.output, hg.size, fun k h1 h2 => hg.block k h1 h2⟩
                clear hg cS
                go_wp2_with fail
                go_meet
                exact ⟨rfl, HH.out⟩
            case rest =>
            obtain ⟨rfl, hg⟩ := hcut
            obtain ⟨wn, hwn⟩ : ∃ wn, wc = wn := ⟨_, rfl⟩
            rw [hwn] at hg ⊢
            have hM2 := hide (hM.out.touch hg hgTr (HKY.out g hgT.2.1 hgT.2.2 (.inl hgT.1)).1 (HKY.out g hgT.2.1 hgT.2.2 (.inl hgT.1)).2 (by have := hgT.2.1; omega))
            have hL2 : Hid (LY w0 w3 wn gy vs' t.length (k + 1)) := by
              have hgg : gy ≠ g := fun e => by
                have h1 := (HY.out.ty gy rfl).1
                rw [e] at h1
                exact absurd (h1.uniq hgT.1) (by decide)
              refine ⟨(hg.block gy hgyl (fun e => hgg (by simpa using e))).trans hL.out.row, fun j u hj hjn e b hb => ?_, hL.out.old.then hg.size (fun q q1 => hg.block q (by have := hL.out.old.size; omega) (fun e => by have h1 := hgT.2.1; simp only [Option.some.injEq] at e; omega)), Nat.le_trans hL.out.size hg.size⟩
              have hbk := hL.out.rows j u (by omega) hjn e b hb
              refine (hg.block b ?_ (fun e2 => ?_)).trans hbk
              · by_cases hjl : j < t.length
                · exact Nat.lt_of_lt_of_le (HY.out.rty hjl e b hb).2.2 hL.out.size
                · have hje : j = t.length := by omega
                  subst hje
                  rw [HLA.out] at e
                  cases e
                  simp only [Value.ownBlock, Option.some.injEq] at hb
                  have := hL.out.size
                  omega
              · simp only [Option.some.injEq] at e2
                subst e2
                by_cases hjl : j < t.length
                · exact HY.out.apt k j _ u (by omega) hjl eu e (by rw [hb]; rfl)
                · have hje : j = t.length := by omega
                  subst hje
                  have h5 := HAP.out k _ hlt eu b rfl
                  rw [HLA.out] at e
                  cases e
                  simp only [Value.ownBlock, Option.some.injEq] at hb
                  omega
            clear hwn hg cS hM hL cy1 cr
            go_wp2
            go_roundw
            case rel =>
              exact ⟨k + 1, by omega, by go_num, rfl, hM2, hL2⟩
            case measure => simp [intOf]; omega
          · have hkn : k = t.length := by omega
            subst hkn
            have cy1 : wr.cell? ⟨gy, t.length, none⟩ = some (.slice (some ⟨gl, 0, none⟩) 1 1) := by
              rw [World.cell?_of_block hL.out.row]
              have h1 := HY.out.row
              rw [HVL.out] at h1
              exact own_cellAt h1 t.length _ HLA.out
            have cl1 : wr.cell? ⟨gl, 0, none⟩ = some (.int .i64 (-3000000)) := by
              rw [World.cell?_of_block (hL.out.rows t.length _ (Nat.le_refl _) (Nat.le_refl _) HLA.out gl rfl)]
              exact HGL.out.cell (i := 0) (by omega)
            have hlt4 : (t.length : Int) < (t.length : Int) + 1 := by omega
            have HDD := hide (HD.out wr hM.out)
            have hgyl : gy < wr.heap.size := Nat.lt_of_lt_of_le (HY.out.ty gy rfl).2.2 hL.out.size
            have hgll : gl < wr.heap.size := Nat.lt_of_lt_of_le hglt hL.out.size
            clear hM hL HD
            go_wp2
            go_ret
            exact ⟨rfl, HDD.out⟩
end Go.Proofs.YtnbccoflcoaoaaaGreat
