import Derived.Test.YtampcheafdlomaaRtF
import Derived.Test.YtampcheafdlomaaRtG
import Derived.Test.YtampcheafdlomaaSolC
import Derived.Test.YtampcheafdlomaaFlowE
namespace Go.Proofs.Ytampcheafdlomaa
open Go.RowKit Go.Deep
set_option linter.unusedSimpArgs false
set_option linter.unusedVariables false

def zAns (i : Nat) : Value := if i < 2 then .int .i64 0 else .slice none 0 0
/-- The net's box and the result, still empty. -/
structure Fr (w wr : World) (sa aa : Option Addr) (sn sc an ac : Nat) : Prop where
  n0 : wr.cell? ⟨w.heap.size, 0, none⟩ = some (.slice sa sn sc)
  n1 : wr.cell? ⟨w.heap.size, 1, none⟩ = some (.slice aa an ac)
  rr : wr.rowIs (w.heap.size + 1) 36 6 zAns
  be : Below w.heap.size w wr
  sz : w.heap.size + 2 ≤ wr.heap.size
theorem Fr.start (w : World) (sa aa : Option Addr) (sn sc an ac : Nat) :
    Fr w ((w.alloc (.cells #[.slice sa sn sc, .slice aa an ac] 25)).alloc (.cells #[.int .i64 0, .int .i64 0, .slice none 0 0, .slice none 0 0, .slice none 0 0, .slice none 0 0] 36)) sa aa sn sc an ac := by
  refine ⟨by simp, by simp, ?_, Joins.below_alloc2 _ _ _, by simp⟩
  have h := World.rowIs_alloc (w.alloc (.cells #[.slice sa sn sc, .slice aa an ac] 25)) #[.int .i64 0, .int .i64 0, .slice none 0 0, .slice none 0 0, .slice none 0 0, .slice none 0 0] 36 zAns (by
    intro i hi
    simp only [List.size_toArray, List.length_cons, List.length_nil] at hi
    match i, hi with
    | 0, _ => rfl
    | 1, _ => rfl
    | 2, _ => rfl
    | 3, _ => rfl
    | 4, _ => rfl
    | 5, _ => rfl)
  simpa using h
theorem Fr.grow {w wr w' : World} {sa aa : Option Addr} {sn sc an ac : Nat} (h : Fr w wr sa aa sn sc an ac) {K : Nat} (hK : w.heap.size + 2 ≤ K) (hb : Below K wr w') : Fr w w' sa aa sn sc an ac :=
  ⟨(hb.cell (p := ⟨w.heap.size, 0, none⟩) (by show w.heap.size < K; omega)).trans h.n0, (hb.cell (p := ⟨w.heap.size, 1, none⟩) (by show w.heap.size < K; omega)).trans h.n1, below_row hb h.rr (by omega), h.be.trans (hb.mono (by omega)), Nat.le_trans h.sz hb.size⟩
theorem Fr.cells {w wr : World} {sa aa : Option Addr} {sn sc an ac : Nat} (h : Fr w wr sa aa sn sc an ac) : (wr.cell? ⟨w.heap.size + 1, 0, none⟩ = some (.int .i64 0) ∧ wr.cell? ⟨w.heap.size + 1, 1, none⟩ = some (.int .i64 0) ∧ wr.cell? ⟨w.heap.size + 1, 2, none⟩ = some (.slice none 0 0) ∧ wr.cell? ⟨w.heap.size + 1, 3, none⟩ = some (.slice none 0 0) ∧ wr.cell? ⟨w.heap.size + 1, 4, none⟩ = some (.slice none 0 0) ∧ wr.cell? ⟨w.heap.size + 1, 5, none⟩ = some (.slice none 0 0)) ∧ ∀ o, wr.frozen? ⟨w.heap.size + 1, o, none⟩ = false :=
  ⟨⟨h.rr.cell (i := 0) (by omega), h.rr.cell (i := 1) (by omega), h.rr.cell (i := 2) (by omega), h.rr.cell (i := 3) (by omega), h.rr.cell (i := 4) (by omega), h.rr.cell (i := 5) (by omega)⟩, fun o => h.rr.frozen o⟩
/-- Six cells are written. -/
def put6 (w : World) (b : Nat) (v0 v1 v2 v3 v4 v5 : Value) : World := (((((w.setCell ⟨b, 0, none⟩ v0).setCell ⟨b, 1, none⟩ v1).setCell ⟨b, 2, none⟩ v2).setCell ⟨b, 3, none⟩ v3).setCell ⟨b, 4, none⟩ v4).setCell ⟨b, 5, none⟩ v5
theorem OwnA.put6 {w : World} {base : Nat} {v : Value} {a : A6} (h : OwnA w base v a) {b : Nat} (hb : b < base) (v0 v1 v2 v3 v4 v5 : Value) : OwnA (put6 w b v0 v1 v2 v3 v4 v5) base v a :=
  (((((h.setBelow hb _).setBelow hb _).setBelow hb _).setBelow hb _).setBelow hb _).setBelow hb _
theorem Fr.put6 {w wr : World} {sa aa : Option Addr} {sn sc an ac : Nat} (h : Fr w wr sa aa sn sc an ac) (v0 v1 v2 v3 v4 v5 : Value) : Below w.heap.size w (put6 wr (w.heap.size + 1) v0 v1 v2 v3 v4 v5) ∧
    ((put6 wr (w.heap.size + 1) v0 v1 v2 v3 v4 v5).cell? ⟨w.heap.size + 1, 0, none⟩ = some v0 ∧ (put6 wr (w.heap.size + 1) v0 v1 v2 v3 v4 v5).cell? ⟨w.heap.size + 1, 1, none⟩ = some v1 ∧ (put6 wr (w.heap.size + 1) v0 v1 v2 v3 v4 v5).cell? ⟨w.heap.size + 1, 2, none⟩ = some v2 ∧ (put6 wr (w.heap.size + 1) v0 v1 v2 v3 v4 v5).cell? ⟨w.heap.size + 1, 3, none⟩ = some v3 ∧ (put6 wr (w.heap.size + 1) v0 v1 v2 v3 v4 v5).cell? ⟨w.heap.size + 1, 4, none⟩ = some v4 ∧ (put6 wr (w.heap.size + 1) v0 v1 v2 v3 v4 v5).cell? ⟨w.heap.size + 1, 5, none⟩ = some v5) := by
  have hh : w.heap.size ≤ w.heap.size + 1 := by omega
  refine ⟨(((((h.be.setCell (p := ⟨w.heap.size + 1, 0, none⟩) hh _).setCell (p := ⟨w.heap.size + 1, 1, none⟩) hh _).setCell (p := ⟨w.heap.size + 1, 2, none⟩) hh _).setCell (p := ⟨w.heap.size + 1, 3, none⟩) hh _).setCell (p := ⟨w.heap.size + 1, 4, none⟩) hh _).setCell (p := ⟨w.heap.size + 1, 5, none⟩) hh _, ?_⟩
  have hr := (((((h.rr.set 0 v0).set 1 v1).set 2 v2).set 3 v3).set 4 v4).set 5 v5
  exact ⟨(hr.cell (i := 0) (by omega)).trans (by simp), (hr.cell (i := 1) (by omega)).trans (by simp), (hr.cell (i := 2) (by omega)).trans (by simp), (hr.cell (i := 3) (by omega)).trans (by simp), (hr.cell (i := 4) (by omega)).trans (by simp), (hr.cell (i := 5) (by omega)).trans (by simp)⟩

def costL (cost : Nat → Int) (n : Nat) : List Int := (List.range n).map cost
theorem costL_len (cost : Nat → Int) (n : Nat) : (costL cost n).length = n := by simp [costL]
theorem costL_at (cost : Nat → Int) (n : Nat) {i : Nat} (hi : i < n) : (costL cost n).getD i 0 = cost i := by simp [costL, List.getD, hi]

theorem fits_sum {xs : List Int} {es : List A5} (hn : NetOK xs es) {y : List Int} (h : Fits xs es y) : sumTo (fun v => xs.getD v 0) xs.length = 0 :=
  (sumTo_congr (fun v hv => (h.bal v hv).symm)).trans (net_all hn y)
theorem best_ok {xs : List Int} {es : List A5} (hn : NetOK xs es) {fl : List Int} (hf : Fits xs es fl) {t : Int} (hV : LInv xs es fl (leftOf xs es fl) t) {cost : Nat → Int} (hp : Pot es fl cost) (hb : ∀ v, v < xs.length → -24000 ≤ cost v ∧ cost v ≤ 24000) :
    okB xs es ⟨1, costTo es fl es.length, fl, costL cost xs.length, [], []⟩ = true := by
  unfold okB
  rw [if_pos rfl]
  unfold bestB holdsB
  have h1 := hold_of hn hV (po := costL cost xs.length) (fun v hv => costL_at cost _ hv) hp
  have h2 : potB (costL cost xs.length) = true := all_t (fun i hi => by
    rw [costL_len] at hi
    unfold potAt
    rw [costL_at _ _ hi]
    have := hb i hi
    exact decide_eq_true (by omega))
  simp only [Bool.and_eq_true, decide_eq_true_eq]
  exact ⟨⟨⟨⟨of_fits hf, trivial⟩, rfl⟩, rfl⟩, ⟨⟨costL_len _ _, h2⟩, h1⟩⟩

set_option maxRecDepth 100000 in
set_option maxHeartbeats 4000000 in
theorem rBest_any (sa aa pa : Option Addr) (sn sc an ac pc : Nat) (xs po : List Int) (es : List A5) (w : World) (hn : NetOK xs es) (hx : Ints w sa sn xs) (he : Arcs w aa an es) (hp : Ints w pa sn po) (hpot : ∀ i, i < sn → -1000000 ≤ po.getD i 0 ∧ po.getD i 0 ≤ 1000000) (hu : ∀ i, i < es.length → (es.getD i zA).cap = -1 → 0 ≤ driftAt es po i) (hfit : ∃ y, Fits xs es y) :
    Calls Try.prog 60 #[.agg #[.slice sa sn sc, .slice aa an ac], .slice pa sn pc] w fun e w' => ∃ v a, e = .returned v ∧ OwnA w' w.heap.size v a ∧ okB xs es a = true ∧ Below w.heap.size w w' := by
  have hxn := hx.len
  have hen := he.len
  have h10 : sn ≤ 10 := by rw [← hxn]; exact hn.ten
  have h24 : an ≤ 24 := by rw [← hen]; exact hn.arcs
  obtain ⟨W0, hW0⟩ : ∃ W0, (w.alloc (.cells #[.slice sa sn sc, .slice aa an ac] 25)).alloc (.cells #[.int .i64 0, .int .i64 0, .slice none 0 0, .slice none 0 0, .slice none 0 0, .slice none 0 0] 36) = W0 := ⟨_, rfl⟩
  have hF0 := Fr.start w sa aa sn sc an ac
  rw [hW0] at hF0
  have hz0 : W0.heap.size = w.heap.size + 2 := by rw [← hW0]; simp
  have HX0 := hide (hx.below hF0.be)
  have HE0 := hide (he.below hF0.be)
  have HP0 := hide (hp.below hF0.be)
  have HW0 := hide hW0
  have cA : n0 (Calls Try.prog 52 #[.agg #[.slice sa sn sc, .slice aa an ac]] W0 fun e w' => ∃ lb fb vb, e = .returned (.pointer (some ⟨lb, 0, none⟩)) ∧ Load w' lb fb vb sa sn sc aa an ac (lowsL es) (leftOf xs es (lowsL es)) ∧ (W0.heap.size ≤ lb ∧ W0.heap.size ≤ fb ∧ W0.heap.size ≤ vb) ∧ Below W0.heap.size W0 w') :=
    rAtLows_any sa aa sn sc an ac xs es W0 hn HX0.out HE0.out
  have HXN := hide hxn
  have HEN := hide hen
  have HU := hide hu
  have HPB := hide hpot
  have HFT := hide hfit
  have HF0 := hide hF0
  have HZ0 := hide hz0
  clear hx he hp hpot hu hfit hW0 hxn hen hF0 hz0
  go_enter Try.func60, Try.ntmps60
  go_wp2_with fail
  rw [HW0.out]
  refine Calls.mono cA.out ?_
  rintro e w1 ⟨lb, fb, vb, rfl, hL1, hge, hb1⟩
  clear cA HW0
  have cF : n0 (Calls Try.prog 80 #[.pointer (some ⟨lb, 0, none⟩), .slice pa sn pc] w1 fun e w' => e = .returned (.tuple #[]) ∧ Load w' lb fb vb sa sn sc aa an ac (fillK es po es.length) (leftOf xs es (fillK es po es.length)) ∧ Below W0.heap.size W0 w') :=
    rFill_any lb fb vb sa aa pa sn sc an ac pc xs po es W0 w1 hn HXN.out hL1 hge HE0.out hb1 HP0.out HPB.out HU.out
  clear hL1 hb1
  go_wp2_with fail
  refine Calls.mono cF.out ?_
  rintro e w2 ⟨rfl, hL2, hb2⟩
  clear cF
  obtain ⟨y, hy⟩ := HFT.out
  have cS : n0 (Calls Try.prog 54 #[.pointer (some ⟨lb, 0, none⟩)] w2 fun e w' => ∃ v, e = .returned v ∧ Settled xs es lb fb vb sa sn sc aa an ac W0.heap.size v w' ∧ Below W0.heap.size W0 w') :=
    rSettle_any lb fb vb sa aa sn sc an ac xs (fillK es po es.length) es W0 w2 hn HXN.out (fits_sum hn hy) (by rw [← HXN.out]; exact linv_of hn (fillK_len _ _ _) (fillK_bd hn HU.out _)) ⟨_, fill_pot hn HU.out⟩ hL2 hge HE0.out hb2
  clear hL2 hb2
  go_wp2_with fail
  refine Calls.mono cS.out ?_
  rintro e w3 ⟨vs, rfl, ⟨fl, hL3, hfl, hans⟩, hb3⟩
  clear cS
  obtain ⟨hfit, ⟨t, hV⟩, p, hp⟩ : Fits xs es fl ∧ (∃ t, LInv xs es fl (leftOf xs es fl) t) ∧ ∃ p, Pot es fl p := by
    rcases hans with ⟨_, h⟩ | ⟨cut, _, _, _, h4, h5⟩
    · exact h
    · exact absurd (of_fits hy) (none_fits hn h4 h5 y)
  have HL3 := hide hL3
  have HV := hide hV
  have HPO := hide hp
  have HFIT := hide hfit
  have hF3 := HF0.out.grow (by rw [HZ0.out]; exact Nat.le_refl _) hb3
  have m0 := hF3.n0
  have m1 := hF3.n1
  have cE : n0 (Calls Try.prog 58 #[.agg #[.slice sa sn sc, .slice aa an ac]] w3 fun e w' => ∃ tb, e = .returned (.slice (some ⟨tb, 0, none⟩) sn sn) ∧ w'.rowIs tb 4 sn (fun _ => .bool true) ∧ w3.heap.size ≤ tb ∧ Below w3.heap.size w3 w') :=
    rEverywhere_any sa aa sn sc an ac w3 h10
  have HF3 := hide hF3
  clear hL3 hV hp hfit hans hF3
  go_wp2_with fail
  refine Calls.mono cE.out ?_
  rintro e w4 ⟨tb, rfl, hT, -, hb4⟩
  clear cE m0 m1
  have hB4 : Below W0.heap.size W0 w4 := hb3.trans (hb4.mono hb3.size)
  have cC : n0 (Calls Try.prog 57 #[.pointer (some ⟨lb, 0, none⟩), .slice (some ⟨tb, 0, none⟩) sn sn] w4 fun e w' => ∃ rb, e = .returned (.pointer (some ⟨rb, 0, none⟩)) ∧ Below w4.heap.size w4 w' ∧ Cheap es fl sn (fun _ => true) w4.heap.size rb w') :=
    rCheapest_any lb fb vb sa aa sn sc an ac xs fl (leftOf xs es fl) es (fun _ => true) tb W0 w4 hn HXN.out (HL3.out.grow hb4) HE0.out hB4 (HV.out.mild hn) (fun s hs => (HV.out.room hn s hs).1) hT
  clear hT
  go_wp2_with fail
  refine Calls.mono cC.out ?_
  rintro e w5 ⟨rb, rfl, hb5, sb, cb, ab, seen, cost, last, T, R, c, nw, hW, hI, hN, hc⟩
  clear cC
  have hB5 : Below W0.heap.size W0 w5 := hB4.trans (hb5.mono hB4.size)
  have hL5 := (HL3.out.grow hb4).grow hb5
  have hcl := hI.closed hN (hI.none_new hN HPO.out)
  have hPC : Pot es fl cost := fun s hs hr => by
    have hsl := (st_ends hn hs).2.2.1
    rw [HXN.out] at hsl
    have := (hcl s hs hr (hI.start _ hsl rfl) hsl).2
    omega
  have hbd : ∀ v, v < xs.length → -24000 ≤ cost v ∧ cost v ≤ 24000 := fun v hv => by
    rw [HXN.out] at hv
    have := hI.bd v hv
    omega
  have HOK := hide (best_ok hn HFIT.out HV.out hPC hbd)
  have HBD := hide hbd
  have HW := hide hW
  have HL5 := hide hL5
  have HF5 := hide (HF0.out.grow (by rw [HZ0.out]; exact Nat.le_refl _) hB5)
  have hcs : costS xs es fl = (costTo es fl es.length, 0) := by
    unfold costS
    rw [hn.zero, of_fits HFIT.out]
    simp
  obtain ⟨C, hC⟩ : ∃ C, costTo es fl es.length = C := ⟨_, rfl⟩
  have hCb := costTo_bd xs es fl hn (HV.out.mild hn) es.length (Nat.le_refl _)
  rw [hC] at hcs HOK hCb
  have hC1 : -1200000000 ≤ C := by rw [HEN.out] at hCb; omega
  have hC2 : C ≤ 1200000000 := by rw [HEN.out] at hCb; omega
  have hflI : ∀ w0, Below w5.heap.size w5 w0 → Ints w0 (some ⟨fb, 0, none⟩) an fl := fun w0 h0 => (row_ints HL5.out.rf (by rw [hfl]; exact HEN.out) (by omega) (fun i hi => by have := HV.out.mild hn i (by rw [HEN.out]; exact hi); omega)).below h0
  have cQ : ∀ d' os, Calls Try.prog 32 #[.agg #[.slice sa sn sc, .slice aa an ac], .slice (some ⟨fb, 0, none⟩) an an] (Sort.grow (redrawn w5 d') os) fun e w'' => e = .returned (.tuple #[.int .i64 C, .int .i64 0]) ∧ ∃ p : Regrown, w'' = Sort.grow (redrawn w5 p.d) p.os := fun d' os => by
    refine Calls.regrown_of ?_
    have h := gCost_any sa aa (some ⟨fb, 0, none⟩) sn sc an ac an an xs es fl (Sort.grow (redrawn w5 d') os) ((HX0.out.below hB5).below (below_regrown w5 d' os)) ((HE0.out.below hB5).below (below_regrown w5 d' os)) (hflI _ (below_regrown w5 d' os))
    rw [hcs] at h
    exact h
  have r0 := cell_regrown (w := w5) (a := ⟨w.heap.size, 0, none⟩) HF5.out.n0
  have r1 := cell_regrown (w := w5) (a := ⟨w.heap.size, 1, none⟩) HF5.out.n1
  have r2 := cell_regrown (w := w5) (a := ⟨lb, 2, none⟩) HL5.out.c2
  clear hW hI hN hcl hPC hL5 hcs hC hbd hCb hflI
  go_wp2_with fail
  refine wp_region_quiet_below (by kernel_rfl) (by kernel_rfl) ?_
  repeat (quiet_step (first | exact cQ _ _))
  refine wpQuiet_nil ?_
  intro _ hw'
  obtain ⟨⟨dq, osq⟩, hw''⟩ := hw'
  subst hw''
  have hbr := below_regrown w5 dq osq
  generalize Sort.grow (redrawn w5 dq) osq = w6 at *
  clear cQ r0 r1 r2
  have hL6 := HL5.out.grow hbr
  have hW6 := HW.out.grow hbr
  have hF6 := HF5.out.grow (K := w5.heap.size) HF5.out.sz hbr
  have q2 := hL6.c2
  have q1 := hW6.c1
  obtain ⟨⟨s0, s1, s2, s3, s4, s5⟩, sf⟩ := hF6.cells
  have sf0 := sf 0
  have sf1 := sf 1
  have sf2 := sf 2
  have sf3 := sf 3
  have sf4 := sf 4
  have sf5 := sf 5
  have hOA : OwnA w6 (w.heap.size + 2) (.agg #[.int .i64 1, .int .i64 C, .slice (some ⟨fb, 0, none⟩) an an, .slice (some ⟨cb, 0, none⟩) sn sn, .slice none 0 0, .slice none 0 0]) ⟨1, C, fl, costL cost xs.length, [], []⟩ := by
    have h1 := row_own (base := w.heap.size + 2) hL6.rf (by rw [hfl]; exact HEN.out) (by rw [← HZ0.out]; exact hge.2.1) (by omega)
    have h2 := row_own (base := w.heap.size + 2) (l := costL cost xs.length) (hW6.rc.congr (fun i hi => by rw [costL_at _ _ (by rw [HXN.out]; exact hi)])) (by rw [costL_len]; exact HXN.out) (by have := HW.out.lo.2.2.1; have := hB4.size; have := HZ0.out; omega) (by omega)
    obtain ⟨oa, oc, e1, o1⟩ := h1
    obtain ⟨ob, od, e2, o2⟩ := h2
    refine ⟨oa, oc, ob, od, none, 0, none, 0, ?_, o1, o2, World.ownsRow_nil _ _ _ _, World.ownsRow_nil _ _ _ _⟩
    rw [← e1, ← e2]
    rfl
  have HOA := hide ((hOA.put6 (b := w.heap.size + 1) (by omega) (.int .i64 1) (.int .i64 C) (.slice (some ⟨fb, 0, none⟩) an an) (.slice (some ⟨cb, 0, none⟩) sn sn) (.slice none 0 0) (.slice none 0 0)).mono (base' := w.heap.size) (by omega))
  have HPU := hide (hF6.put6 (.int .i64 1) (.int .i64 C) (.slice (some ⟨fb, 0, none⟩) an an) (.slice (some ⟨cb, 0, none⟩) sn sn) (.slice none 0 0) (.slice none 0 0))
  clear hL6 hW6 hF6 hOA sf hbr HL3 HV HPO HFIT HF0 HF3 HF5 HL5 HW HBD
  go_wp2_with fail
  go_region
  go_wp2
  all_goals
    obtain ⟨hbz, z0, z1, z2, z3, z4, z5⟩ := HPU.out
    unfold put6 at z0 z1 z2 z3 z4 z5 hbz
    refine bodyPost_ret (v := .agg #[.int .i64 1, .int .i64 C, .slice (some ⟨fb, 0, none⟩) an an, .slice (some ⟨cb, 0, none⟩) sn sn, .slice none 0 0, .slice none 0 0]) (by simp [results, Try.results60, go_sem, z0, z1, z2, z3, z4, z5]) rfl ⟨_, _, rfl, ?_, HOK.out, ?_⟩
    · exact HOA.out.below ((Below.refl _ _).drew)
    · exact hbz.drew
end Go.Proofs.Ytampcheafdlomaa
