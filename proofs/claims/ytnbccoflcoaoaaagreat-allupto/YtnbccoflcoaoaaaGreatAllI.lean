import Derived.Test.YtnbccoflcoaoaaaGreatAllG
import Derived.Deep.RegionLaw
namespace Go.Proofs.YtnbccoflcoaoaaaGreat
open Go.RowKit Go.Deep
set_option linter.unusedSimpArgs false
set_option linter.unusedVariables false

/-! ### steady: the same call has answered the same before -/
theorem infoTold : (Tryz.prog.info? 44).map (fun i => (i.zero, i.size, i.bytes)) = some (some (.agg #[.int .i64 0, .int .i64 0, .int .i64 0, .int .i64 0, .slice none 0 0]), 5, 56) := by kernel_rfl

def told4 (y0 y1 y2 y3 : Int) (v : Value) : List Value := [.int .i64 y0, .int .i64 y1, .int .i64 y2, .int .i64 y3, v]
def toldCells (o : List Int) (v : Value) : List Value := told4 (o.getD 0 0) (o.getD 1 0) (o.getD 2 0) (o.getD 3 0) v
/-- In a region that draws: append(past, t). -/
theorem step_push_told {w : World} {ops : Array Oper} {op : Oper} {a : Act} {K : Act → World → Prop} {Q : Exit → Act → World → Prop} {E : Prop} (hgd : op.guard = none) (s x : Operand)
    (ho : op.op = .call { callee := .builtin .append, args := #[s, x], argTypes := #[29, 29] }) (base : Nat) (v : Value) (n : Nat) (cs : List Value)
    (hs : a.eval s = v) (hown : w.ownsRow base 44 5 v n cs) (g : Nat) (y0 y1 y2 y3 : Int) (sv : Value) (hsv : sv.oneCell' = true) (c : Nat) (hx : a.eval x = .slice (some ⟨g, 0, none⟩) 1 c) (hy : ∀ j u, (told4 y0 y1 y2 y3 sv)[j]? = some u → w.cell? ⟨g, j, none⟩ = some u)
    (hl : n ≤ 1099511627776) (hb : base ≤ w.heap.size)
    (h : ∀ g' c' w', w'.ownsRow base 44 5 (.slice (some ⟨g', 0, none⟩) (n + 1) c') (n + 1) (cs ++ told4 y0 y1 y2 y3 sv) → w.grownBy w' v.ownBlock → K (a.put op.dst (.slice (some ⟨g', 0, none⟩) (n + 1) c')) w') :
    if Region.wanted op (yielded ops a.tmps) = true then Oper.wp Tryz.prog op a w K Q else E := by
  have hw : Region.wanted op (yielded ops a.tmps) = true := by simp [Region.wanted, hgd]
  rw [if_pos hw]
  obtain ⟨i0, hi, hz0, hz1, hz2⟩ := info_parts infoTold
  refine wp_append_own w s x 29 ho base 44 i0 _ 5 56 Tryz.underlying29 hi hz0 hz1 hz2 rfl (by decide) v n cs hs hown ⟨g, 0, none⟩ 1 c (told4 y0 y1 y2 y3 sv) hx rfl ?_ ?_ (by unfold maxLen; omega) (by omega) hb ?_
  · intro j u hj
    rw [Addr.add_lit, Nat.zero_add]
    exact hy j u hj
  · intro u hu
    simp only [told4, List.mem_cons, List.not_mem_nil, or_false] at hu
    rcases hu with rfl | rfl | rfl | rfl | rfl
    · rfl
    · rfl
    · rfl
    · rfl
    · exact hsv
  · intro v' w' hown' hgr _
    obtain ⟨g', c', cur, e1, _⟩ | ⟨_, h0⟩ := hown'.2.symm
    · subst e1; exact h g' c' w' hown' hgr
    · omega

/-- What was told before, as it lies. -/
def PastAt (w : World) (pcs : List Value) (np : Nat) (pst : Nat → List Int × List Int) : Prop :=
  ∀ i, i < np → (∀ j, j < 4 → pcs[i * 5 + j]? = some (.int .i64 ((pst i).1.getD j 0))) ∧ ∃ a c, pcs[i * 5 + 4]? = some (.slice a (pst i).2.length c) ∧ Ints w a (pst i).2.length (pst i).2
theorem own5_cell {w : World} {base : Nat} {g n cap : Nat} {xs : List Value} (h : w.ownsRow base 44 5 (.slice (some ⟨g, 0, none⟩) n cap) n xs) (j : Nat) (u : Value) (hj : xs[j]? = some u) : w.cell? ⟨g, j, none⟩ = some u := by
  have hl : j < n * 5 := by
    have h0 := h.1
    have := (List.getElem?_eq_some_iff.1 hj).1
    omega
  rw [h.cellAt j hl]; exact hj

set_option maxRecDepth 100000 in
set_option maxHeartbeats 4000000 in
theorem aSteady_any (wb tb base0 baseT : Nat) (fw : Nat → Value) (pa : Option Addr) (np pc : Nat) (pcs : List Value) (pst : Nat → List Int × List Int) (o s : List Int) (sv : Value) (w : World)
    (hbox : w.rowIs wb 31 6 fw) (h5 : fw 5 = .slice pa np pc) (hps : w.ownsRow base0 44 5 (.slice pa np pc) np pcs) (hnp : np ≤ 1099511627776) (hb0 : base0 ≤ w.heap.size) (hst : PastAt w pcs np pst) (hdet : ∀ i, i < np → (∀ j, j < 4 → (pst i).1.getD j 0 = o.getD j 0) → (pst i).2 = s)
    (htb : w.rowIs tb 44 5 (toldF o sv)) (hsv : w.ownsRow baseT 3 1 sv s.length (intCells s)) (hs1 : s.length ≤ 1000) (hsb : ∀ x ∈ s, -9223372036854775808 ≤ x ∧ x ≤ 9223372036854775807) :
    Calls Tryz.prog 9 #[.pointer (some ⟨wb, 0, none⟩), .pointer (some ⟨tb, 0, none⟩)] w fun e w' => e = .returned (.bool true) ∧ ∃ pv', w'.rowIs wb 31 6 (fun i => if i = 5 then pv' else fw i) ∧ w'.ownsRow base0 44 5 pv' (np + 1) (pcs ++ toldCells o sv) ∧
      (∀ k, k < w.heap.size → k ≠ wb → some k ≠ (Value.slice pa np pc).ownBlock → w'.heap[k]? = w.heap[k]?) ∧ w.heap.size ≤ w'.heap.size ∧ w'.os = w.os ∧ w'.tape = w.tape ∧ w'.output = w.output := by
  obtain ⟨oa, oc, rfl⟩ : ∃ oa oc, sv = .slice oa s.length oc := by
    rcases hsv.2 with ⟨rfl, h0⟩ | ⟨g, cap, cur, rfl, _⟩
    · exact ⟨none, 0, by rw [h0]⟩
    · exact ⟨_, _, rfl⟩
  have HSI := hide (own_ints hsv (by omega) hsb)
  have HB := hide hbox
  have HPS := hide hps
  have HST := hide hst
  have HDET := hide hdet
  have HTB := hide htb
  have hwlt := hbox.lt
  have htlt := htb.lt
  have HH5 := hide h5
  have hc5 := hbox.cell (i := 5) (by omega)
  rw [h5] at hc5
  clear hbox hps hst hdet htb hsv h5 hsb
  go_enter Tryz.func9, Tryz.ntmps9
  go_wp2
  go_loopw [5, 6, 7] (fun ii pp kk wr => ∃ i : Nat, i ≤ np ∧ ii = .int .i64 i ∧ Below w.heap.size w wr) (fun ii _ _ _ => np - (intOf ii).toNat)
  case atStart => exact ⟨0, Nat.zero_le _, rfl, Below.refl _ _⟩
  case round =>
    clear hc5
    obtain ⟨i, hi, rfl, hb⟩ := hrel
    have hc5 : wr.cell? ⟨wb, 5, none⟩ = some (.slice pa np pc) := (below_blk hb hwlt).trans ((HB.out.cell (i := 5) (by omega)).trans (by rw [HH5.out]))
    by_cases hlt : i < np
    · have hlt3 : (i : Int) < (np : Int) := by omega
      obtain ⟨h4, sa, scc, hs5, hsI⟩ := HST.out i hlt
      obtain ⟨pg, pz, epa⟩ : ∃ g c, Value.slice pa np pc = .slice (some ⟨g, 0, none⟩) np c := by
        rcases HPS.out.2 with ⟨_, h0⟩ | ⟨g, cap, cur, e1, _⟩
        · omega
        · exact ⟨g, cap, e1⟩
      cases epa
      have hpb := HPS.out.lt pg rfl
      have p0 := (below_blk hb hpb.2).trans (own5_cell HPS.out (i * 5) _ (h4 0 (by omega)))
      have p1 := (below_blk hb hpb.2).trans (own5_cell HPS.out (i * 5 + 1) _ (h4 1 (by omega)))
      have p2 := (below_blk hb hpb.2).trans (own5_cell HPS.out (i * 5 + 2) _ (h4 2 (by omega)))
      have p3 := (below_blk hb hpb.2).trans (own5_cell HPS.out (i * 5 + 3) _ (h4 3 (by omega)))
      have p4 := (below_blk hb hpb.2).trans (own5_cell HPS.out (i * 5 + 4) _ hs5)
      have hd := HDET.out i hlt
      have HSJ := hide (hsI.below hb)
      have t0 := (below_blk hb htlt).trans (HTB.out.cell (i := 0) (by omega))
      have t1 := (below_blk hb htlt).trans (HTB.out.cell (i := 1) (by omega))
      have t2 := (below_blk hb htlt).trans (HTB.out.cell (i := 2) (by omega))
      have t3 := (below_blk hb htlt).trans (HTB.out.cell (i := 3) (by omega))
      have t4 := (below_blk hb htlt).trans (HTB.out.cell (i := 4) (by omega))
      simp only [toldF, if_true, if_false, show ¬ (0 : Nat) = 4 by omega, show ¬ (1 : Nat) = 4 by omega, show ¬ (2 : Nat) = 4 by omega, show ¬ (3 : Nat) = 4 by omega] at t0 t1 t2 t3 t4
      have htl2 := Nat.lt_of_lt_of_le htlt hb.size
      have HD : Hid ((pst i).1.getD 0 0 = o.getD 0 0 → (pst i).1.getD 1 0 = o.getD 1 0 → (pst i).1.getD 2 0 = o.getD 2 0 → (pst i).1.getD 3 0 = o.getD 3 0 → (pst i).2 = s) := fun a0 a1 a2 a3 => hd (fun j hj => by
        match j, hj with
        | 0, _ => exact a0
        | 1, _ => exact a1
        | 2, _ => exact a2
        | 3, _ => exact a3)
      have hb2 := Joins.below_alloc1 wr (.cells #[.int .i64 ((pst i).1.getD 0 0), .int .i64 ((pst i).1.getD 1 0), .int .i64 ((pst i).1.getD 2 0), .int .i64 ((pst i).1.getD 3 0), .slice sa (pst i).2.length scc] 44)
      generalize (pst i).1.getD 0 0 = x0 at *
      generalize (pst i).1.getD 1 0 = x1 at *
      generalize (pst i).1.getD 2 0 = x2 at *
      generalize (pst i).1.getD 3 0 = x3 at *
      generalize o.getD 0 0 = y0 at *
      generalize o.getD 1 0 = y1 at *
      generalize o.getD 2 0 = y2 at *
      generalize o.getD 3 0 = y3 at *
      clear hd h4 hs5 hsI
      have hB2 : Below w.heap.size w (wr.alloc (.cells #[.int .i64 x0, .int .i64 x1, .int .i64 x2, .int .i64 x3, .slice sa (pst i).2.length scc] 44)) := hb.trans (hb2.mono hb.size)
      have fin : Hid (∀ wq, Below w.heap.size w wq → ∀ q : Nat, (q : Int) = (i : Int) + 1 → q ≤ np) := fun wq _ q hq => by omega
      by_cases d0 : x0 = y0
      · subst d0
        by_cases d1 : x1 = y1
        · subst d1
          by_cases d2 : x2 = y2
          · subst d2
            by_cases d3 : x3 = y3
            · subst d3
              have hse := HD.out rfl rfl rfl rfl
              have HSJ2 : Hid (Ints wr sa s.length s) := by rw [← hse]; exact HSJ.out
              rw [hse] at p4 hB2
              clear HD HSJ hse hb2
              go_wp2
              go_quiet (fail)
              revert nq
              intro n1
              go_wp2
              go_quiet (fail)
              revert nq
              intro n2
              have hbd : Below (wr.alloc (.cells #[.int .i64 x0, .int .i64 x1, .int .i64 x2, .int .i64 x3, .slice sa s.length scc] 44)).heap.size (wr.alloc (.cells #[.int .i64 x0, .int .i64 x1, .int .i64 x2, .int .i64 x3, .slice sa s.length scc] 44)) (((wr.alloc (.cells #[.int .i64 x0, .int .i64 x1, .int .i64 x2, .int .i64 x3, .slice sa s.length scc] 44)).drewN n1).drewN n2) := (Joins.below_draws _ _ _).trans (Joins.below_draws _ _ _)
              have b4 : (((wr.alloc (.cells #[.int .i64 x0, .int .i64 x1, .int .i64 x2, .int .i64 x3, .slice sa s.length scc] 44)).drewN n1).drewN n2).cell? ⟨wr.heap.size, 4, none⟩ = some (.slice sa s.length scc) := (hbd.cell (p := ⟨wr.heap.size, 4, none⟩) (by simp)).trans (by simp)
              have hBd := hB2.trans (hbd.mono hB2.size)
              have hbs : wr.heap.size < (((wr.alloc (.cells #[.int .i64 x0, .int .i64 x1, .int .i64 x2, .int .i64 x3, .slice sa s.length scc] 44)).drewN n1).drewN n2).heap.size := Nat.lt_of_lt_of_le (by simp) hbd.size
              have hwb : Below wr.heap.size wr (((wr.alloc (.cells #[.int .i64 x0, .int .i64 x1, .int .i64 x2, .int .i64 x3, .slice sa s.length scc] 44)).drewN n1).drewN n2) := (Joins.below_alloc1 _ _).trans (hbd.mono (by simp))
              go_wp2
              generalize (((wr.alloc (.cells #[.int .i64 x0, .int .i64 x1, .int .i64 x2, .int .i64 x3, .slice sa s.length scc] 44)).drewN n1).drewN n2) = WB at *
              have HS1 := hide (HSJ2.out.below hwb)
              have HS2 := hide (HSI.out.below hBd)
              have t4W := (below_blk hwb htl2).trans t4
              have htW := Nat.lt_of_lt_of_le htl2 hwb.size
              clear p0 p1 p2 p3 p4 t0 t1 t2 t3 t4 hbd hB2 hwb HSJ2
              generalize wr.heap.size = bx at *
              go_loopw [7] (fun kk wq => ∃ k : Nat, k ≤ s.length ∧ kk = .int .i64 k ∧ Below WB.heap.size WB wq) (fun kk _ => s.length - (intOf kk).toNat)
              case atStart => exact ⟨0, Nat.zero_le _, rfl, Below.refl _ _⟩
              case round =>
                obtain ⟨k, hk, rfl, hbq⟩ := hrel
                have b4q := (hbq.cell (p := ⟨bx, 4, none⟩) hbs).trans b4
                have t4q := (below_blk hbq htW).trans t4W
                by_cases hlt2 : k < s.length
                · have hlt4 : (k : Int) < (s.length : Int) := by omega
                  obtain ⟨g1, o1, z1, rfl, hZ1, hgb1, cz1⟩ := (HS1.out.below hbq).get hlt2
                  obtain ⟨g2, o2, z2, rfl, hZ2, hgb2, cz2⟩ := (HS2.out.below hbq).get hlt2
                  have hzz : z1 = z2 := by rw [← hZ1, ← hZ2]
                  subst hzz
                  have hzb : (z1 != z1) = false := by simp
                  clear hZ1 hZ2
                  go_wp2
                  go_quiet (fail)
                  go_wp2
                  go_roundw
                  case rel => exact ⟨k + 1, by omega, by go_num, hbq.trans ((Joins.below_draws _ _ _).mono hbq.size)⟩
                  case measure => simp [intOf]; omega
                · have hkn : k = s.length := by omega
                  subst hkn
                  go_wp2
                  go_roundw
                  case rel => exact ⟨i + 1, by omega, by go_num, hBd.trans (hbq.mono hBd.size)⟩
                  case measure => simp [intOf]; omega
            · have d3b : (x3 != y3) = true := by simpa using d3
              clear HD d3 hb2
              go_wp2
              go_quiet (fail)
              go_wp2
              go_roundw
              case rel => exact ⟨i + 1, by omega, by go_num, hB2.trans ((Joins.below_draws _ _ _).mono hB2.size)⟩
              case measure => simp [intOf]; omega
          · have d2b : (x2 != y2) = true := by simpa using d2
            clear HD d2 hb2
            go_wp2
            go_quiet (fail)
            go_wp2
            go_roundw
            case rel => exact ⟨i + 1, by omega, by go_num, hB2.trans ((Joins.below_draws _ _ _).mono hB2.size)⟩
            case measure => simp [intOf]; omega
        · have d1b : (x1 != y1) = true := by simpa using d1
          clear HD d1 hb2
          go_wp2
          go_quiet (fail)
          go_wp2
          go_roundw
          case rel => exact ⟨i + 1, by omega, by go_num, hB2.trans ((Joins.below_draws _ _ _).mono hB2.size)⟩
          case measure => simp [intOf]; omega
      · have d0b : (x0 != y0) = true := by simpa using d0
        clear HD d0 hb2
        go_wp2
        go_quiet (fail)
        go_wp2
        go_roundw
        case rel => exact ⟨i + 1, by omega, by go_num, hB2.trans ((Joins.below_draws _ _ _).mono hB2.size)⟩
        case measure => simp [intOf]; omega
    · have hin : i = np := by omega
      subst hin
      have hr : wr.rowIs wb 31 6 fw := below_row hb HB.out hwlt
      have ht : wr.rowIs tb 44 5 (toldF o (.slice oa s.length oc)) := below_row hb HTB.out htlt
      have t0 := ht.cell (i := 0) (by omega)
      have t1 := ht.cell (i := 1) (by omega)
      have t2 := ht.cell (i := 2) (by omega)
      have t3 := ht.cell (i := 3) (by omega)
      have t4 := ht.cell (i := 4) (by omega)
      simp only [toldF, if_true, if_false, show ¬ (0 : Nat) = 4 by omega, show ¬ (1 : Nat) = 4 by omega, show ¬ (2 : Nat) = 4 by omega, show ¬ (3 : Nat) = 4 by omega] at t0 t1 t2 t3 t4
      have hps : wr.ownsRow base0 44 5 (.slice pa i pc) i pcs := HPS.out.kept (grown_of_below hb none) (by cases pa <;> simp [Value.ownBlock])
      have hf5 := hr.frozen 5
      have hwa : some wb ≠ (Value.slice pa i pc).ownBlock := by
        intro e
        rcases HPS.out.2 with ⟨e1, _⟩ | ⟨g, cap, cur, e1, a1, a2, _⟩
        · rw [e1] at e; cases e
        · rw [e1] at e
          simp only [Value.ownBlock, Option.some.injEq] at e
          subst e
          obtain ⟨cur', c1, _⟩ := HB.out
          rw [a2] at c1
          cases c1
      have HFA : Hid (∀ (ob : Obj) w2, (wr.drew.alloc ob).grownBy w2 (Value.slice pa i pc).ownBlock → ∀ k, k < wr.heap.size → some k ≠ (Value.slice pa i pc).ownBlock → w2.heap[k]? = wr.heap[k]?) := fun ob w2 hg k h1 h2 =>
        (hg.block k (Nat.lt_of_lt_of_le h1 (World.grownBy_alloc wr.drew ob none).size) h2).trans (((World.grownBy_alloc wr.drew ob none).block k h1 (by simp)).trans rfl)
      have HFR : Hid (∀ (ob : Obj) w2, (wr.drew.alloc ob).grownBy w2 (Value.slice pa i pc).ownBlock → w2.rowIs wb 31 6 fw) := fun ob w2 hg => hr.of_block (HFA.out ob w2 hg wb (Nat.lt_of_lt_of_le hwlt hb.size) hwa)
      have HR := hide hr
      have HP := hide hps
      have hsw := hb.size
      have HO : Hid (toldCells o (.slice oa s.length oc) = told4 (o.getD 0 0) (o.getD 1 0) (o.getD 2 0) (o.getD 3 0) (.slice oa s.length oc)) := rfl
      have hwl2 : wb < wr.heap.size := Nat.lt_of_lt_of_le hwlt hb.size
      have htl2 : tb < wr.heap.size := Nat.lt_of_lt_of_le htlt hb.size
      generalize o.getD 0 0 = y0 at *
      generalize o.getD 1 0 = y1 at *
      generalize o.getD 2 0 = y2 at *
      generalize o.getD 3 0 = y3 at *
      clear hr ht hps
      go_wp2_with fail
      go_region_law (refine step_push_told rfl (.tmp 99) (.tmp 103) rfl base0 (.slice pa i pc) i pcs (by simp [Act.eval, Act.put]) (HP.out.drew.alloc _) wr.heap.size y0 y1 y2 y3 (.slice oa s.length oc) rfl 1 (by simp [Act.eval, Act.put]; done) ?_ (by omega) (by simp; omega) ?_; (intro j u hj; match j, hj with | 0, hj => (simp [told4] at hj; subst hj; go_simp <;> rfl) | 1, hj => (simp [told4] at hj; subst hj; go_simp <;> rfl) | 2, hj => (simp [told4] at hj; subst hj; go_simp <;> rfl) | 3, hj => (simp [told4] at hj; subst hj; go_simp <;> rfl) | 4, hj => (simp [told4] at hj; subst hj; go_simp <;> rfl) | j + 5, hj => (simp [told4] at hj)); intro g' c' w2 hown2 hgr; have hr2 := HFR.out _ _ hgr; have hc2 := hr2.cell (i := 5) (by omega); rw [HH5.out] at hc2; have hf2 := hr2.frozen 5)
      all_goals
        have hfa := HFA.out _ _ hgr
        have hr3 := hr2.set 5 (.slice (some ⟨g', 0, none⟩) (i + 1) c')
        have hwg : wb ≠ g' := by
          intro e
          subst e
          rcases hown2.2 with ⟨e1, _⟩ | ⟨g, cap, cur, e1, a1, a2, _⟩
          · cases e1
          · cases e1
            obtain ⟨cur', c1, _⟩ := hr2
            rw [a2] at c1
            cases c1
        have HO3 : Hid ((w2.setCell ⟨wb, 5, none⟩ (.slice (some ⟨g', 0, none⟩) (i + 1) c')).ownsRow base0 44 5 (.slice (some ⟨g', 0, none⟩) (i + 1) c') (i + 1) (pcs ++ toldCells o (.slice oa s.length oc))) := by
          rw [HO.out]
          exact own_blk hown2 (fun k e => Below.heap_setCell _ _ _ _ (by simp only [Value.ownBlock, Option.some.injEq] at e; subst e; exact fun h => hwg h.symm))
        have HR3 := hide hr3
        have HK3 : Hid (∀ k, k < w.heap.size → k ≠ wb → some k ≠ (Value.slice pa i pc).ownBlock → (w2.setCell ⟨wb, 5, none⟩ (.slice (some ⟨g', 0, none⟩) (i + 1) c')).heap[k]? = w.heap[k]?) := fun k h1 h2 h3 => (Below.heap_setCell _ _ _ _ h2).trans ((hfa k (Nat.lt_of_lt_of_le h1 hb.size) h3).trans (hb.block k h1))
        have hs3 : w.heap.size ≤ (w2.setCell ⟨wb, 5, none⟩ (.slice (some ⟨g', 0, none⟩) (i + 1) c')).heap.size := by
          have h1 := (World.grownBy_alloc wr.drew (.cells #[.int .i64 y0, .int .i64 y1, .int .i64 y2, .int .i64 y3, .slice oa s.length oc] 44) none).size
          have h2 := hgr.size
          have h3 : wr.heap.size ≤ w2.heap.size := Nat.le_trans h1 h2
          simp [World.setCell]
          omega
        have hos : w2.os = w.os ∧ w2.tape = w.tape ∧ w2.output = w.output := ⟨hgr.os.trans hb.os, hgr.tape.trans hb.tape, hgr.output.trans hb.output⟩
        clear hr3 hown2 hgr hfa hr2 hc2 hf2 HO HFA HFR HP
        go_wp2
        go_ret
        exact ⟨rfl, _, HR3.out, HO3.out, HK3.out, hs3, hos.1, hos.2.1, hos.2.2⟩
end Go.Proofs.YtnbccoflcoaoaaaGreat
