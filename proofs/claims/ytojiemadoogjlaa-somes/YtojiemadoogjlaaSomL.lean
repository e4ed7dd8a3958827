import Derived.Test.YtojiemadoogjlaaSomK
namespace Go.Proofs.Ytojiemadoogjlaa
open Go.RowKit Go.Deep
set_option linter.unusedSimpArgs false
set_option linter.unusedVariables false

def lowsL (es : List A5) : List Int := (List.range es.length).map fun i => (es.getD i zA).lo
def leftL (xs : List Int) (es : List A5) : List Int := (List.range xs.length).map fun v => xs.getD v 0 - netTo es (lowsL es) (v : Int) es.length
theorem lowsL_len (es : List A5) : (lowsL es).length = es.length := by simp [lowsL]
theorem leftL_len (xs : List Int) (es : List A5) : (leftL xs es).length = xs.length := by simp [leftL]
theorem lowsL_at (es : List A5) {i : Nat} (hi : i < es.length) : (lowsL es).getD i 0 = (es.getD i zA).lo := by simp [lowsL, List.getD, hi]
theorem leftL_at (xs : List Int) (es : List A5) {v : Nat} (hv : v < xs.length) : (leftL xs es).getD v 0 = xs.getD v 0 - netTo es (lowsL es) (v : Int) es.length := by simp [leftL, List.getD, hv]
theorem netTo_bd60 (es : List A5) (fl : List Int) (node : Int) (n : Nat) (h : ∀ i, i < n → 0 ≤ fl.getD i 0 ∧ fl.getD i 0 ≤ 60) (k : Nat) (hk : k ≤ n) : -(60 * (k : Int)) ≤ netTo es fl node k ∧ netTo es fl node k ≤ 60 * (k : Int) := by
  induction k with
  | zero => simp [netTo]
  | succ k ih =>
    have i1 := ih (by omega)
    have h1 := h k (by omega)
    simp only [netTo]
    split <;> split <;> omega
theorem lows_bds {xs : List Int} {es : List A5} (hn : NetOK xs es) : ∀ i, i < es.length → 0 ≤ (lowsL es).getD i 0 ∧ (lowsL es).getD i 0 ≤ 60 := by
  intro i hi
  rw [lowsL_at es hi]
  have := arcB_out (hn.arc i hi)
  omega
theorem lows_inv {xs : List Int} {es : List A5} (hn : NetOK xs es) : LInv xs es (lowsL es) (leftL xs es) (posTo (leftL xs es) xs.length) where
  len := lowsL_len es
  llen := leftL_len xs es
  bd := fun i hi => by
    have h1 := arcB_out (hn.arc i hi)
    rw [lowsL_at es hi]
    have h2 := pos_le (leftL xs es) xs.length 1540 (by omega) (fun v hv => by
      rw [leftL_at xs es hv]
      have h3 := netTo_bd60 es (lowsL es) (v : Int) es.length (lows_bds hn) es.length (Nat.le_refl _)
      have h4 := getD_bd hn v
      have h5 := hn.arcs
      omega)
    have h6 := hn.ten
    exact ⟨by omega, by omega, by omega⟩
  left := fun v hv => leftL_at xs es hv
  go := rfl

theorem row_ints {w : World} {b n : Nat} {l : List Int} (h : w.rowIs b 3 n (fun i => .int .i64 (l.getD i 0))) (hl : l.length = n) (hs : n ≤ 17592186044416) (hb : ∀ i, i < n → -9223372036854775808 ≤ l.getD i 0 ∧ l.getD i 0 ≤ 9223372036854775807) : Ints w (some ⟨b, 0, none⟩) n l := by
  refine ⟨hl, hs, fun x hx => ?_, .inr ⟨b, 0, rfl, h.lt, fun i hi => by rw [Nat.zero_add]; exact h.cell hi⟩⟩
  obtain ⟨i, hi, rfl⟩ := mem_of_getD 0 l x hx
  exact hb i (by omega)

theorem set_alloc_cell {w : World} {b o b' o' : Nat} {u : Value} {ob : Obj} {v : Value} (h : w.cell? ⟨b, o, none⟩ = some v) (hb : b < w.heap.size) (hne : b ≠ b') : ((w.setCell ⟨b', o', none⟩ u).alloc ob).cell? ⟨b, o, none⟩ = some v :=
  ((Joins.below_alloc1 (w.setCell ⟨b', o', none⟩ u) ob).cell (p := ⟨b, o, none⟩) (by simpa [World.setCell] using hb)).trans ((set_blk hne).trans h)
theorem new_load {w : World} {fb vb : Nat} {sa : Option Addr} {sn sc : Nat} {aa : Option Addr} {an ac : Nat} {fl lf : List Int} (rf : w.rowIs fb 3 an (fun i => .int .i64 (fl.getD i 0))) (rl : w.rowIs vb 3 sn (fun i => .int .i64 (lf.getD i 0))) (hne : fb ≠ vb) :
    Load (w.alloc (.cells #[.slice sa sn sc, .slice aa an ac, .slice (some ⟨fb, 0, none⟩) an an, .slice (some ⟨vb, 0, none⟩) sn sn] 60)) w.heap.size fb vb sa sn sc aa an ac fl lf := by
  have h1 := rf.lt
  have h2 := rl.lt
  exact ⟨by simp, by simp, by simp, by simp, rf.alloc _, rl.alloc _, by simp, by omega⟩

set_option maxHeartbeats 4000000 in
theorem rAtLows_any (sa aa : Option Addr) (sn sc an ac : Nat) (xs : List Int) (es : List A5) (w : World) (hn : NetOK xs es) (hx : Ints w sa sn xs) (he : Arcs w aa an es) :
    Calls Try.prog 41 #[.agg #[.slice sa sn sc, .slice aa an ac]] w fun e w' => ∃ lb fb vb, e = .returned (.pointer (some ⟨lb, 0, none⟩)) ∧ Load w' lb fb vb sa sn sc aa an ac (lowsL es) (leftL xs es) ∧ (w.heap.size ≤ lb ∧ w.heap.size ≤ fb ∧ w.heap.size ≤ vb) ∧ Below w.heap.size w w' := by
  have hxl : Hid (xs.length = sn ∧ es.length = an) := ⟨hx.len, he.len⟩
  have h24 : an ≤ 24 := by rw [← hxl.out.2]; exact hn.arcs
  have h10 : sn ≤ 10 := by rw [← hxl.out.1]; exact hn.ten
  have hmA := run_make_row' (P := Try.prog) 22 3 (.int .i64 0) 8 Try.underlying22 infoInt rfl .i64 .i64 an (by omega) (by omega)
  have hmS := run_make_row' (P := Try.prog) 22 3 (.int .i64 0) 8 Try.underlying22 infoInt rfl .i64 .i64 sn (by omega) (by omega)
  have HX := hide hx
  have HE := hide he
  clear hx he
  go_enter Try.func41, Try.ntmps41
  go_wp2
  go_loopw [4, 5, 17] (fun nu p i wr => ∃ k : Nat, k ≤ an ∧ i = .int .i64 k ∧ Hid (wr.rowIs (w.heap.size + 1) 3 an (fun i => .int .i64 (if i < k then (es.getD i zA).lo else 0))) ∧ wr.cell? ⟨w.heap.size, 0, none⟩ = some (.slice sa sn sc) ∧ wr.cell? ⟨w.heap.size, 1, none⟩ = some (.slice aa an ac) ∧ Below w.heap.size w wr) (fun _ _ i _ => an - (intOf i).toNat)
  case atStart =>
    refine ⟨0, Nat.zero_le _, rfl, ?_, by simp, by simp, Joins.below_alloc2 _ _ _⟩
    have h := World.rowIs_made (w.alloc (.cells #[.slice sa sn sc, .slice aa an ac] 25)) (.int .i64 0) an 3
    rw [show (w.alloc (.cells #[.slice sa sn sc, .slice aa an ac] 25)).heap.size = w.heap.size + 1 from by simp] at h
    exact h.congr (fun i _ => by simp)
  case round =>
    obtain ⟨k, hk, rfl, hrow, m0, m1, hbel⟩ := hrel
    by_cases hlt : k < an
    · clear hmA hmS
      have hlt3 : (k : Int) < (an : Int) := by omega
      obtain ⟨b, off, f, t, l, c, q, rfl, hA, hb, e0, e1, e2, e3, e4⟩ := (HE.out.below hbel).get hlt
      have cf := hrow.out.cell hlt
      have ff := hrow.out.frozen k
      have hrl := hrow.out.lt
      have hset := hide ((hrow.out.alloc (.cells #[.int .i64 f, .int .i64 t, .int .i64 l, .int .i64 c, .int .i64 q] 48)).set k (.int .i64 l))
      have HAA := hide hA
      clear hA
      have hrow2 := hide ((hrow.out.set k (.int .i64 l)).alloc (.cells #[.int .i64 f, .int .i64 t, .int .i64 l, .int .i64 c, .int .i64 q] 48))
      have hB2 : Below w.heap.size w ((wr.setCell ⟨w.heap.size + 1, k, none⟩ (.int .i64 l)).alloc (.cells #[.int .i64 f, .int .i64 t, .int .i64 l, .int .i64 c, .int .i64 q] 48)) := (hbel.setCell (p := ⟨w.heap.size + 1, k, none⟩) (by show w.heap.size ≤ w.heap.size + 1; omega) _).alloc (by have := hbel.size; simpa [World.setCell] using this) _
      have HB2 := hide hB2
      have HM0 := hide (set_alloc_cell (b' := w.heap.size + 1) (o' := k) (u := .int .i64 l) (ob := .cells #[.int .i64 f, .int .i64 t, .int .i64 l, .int .i64 c, .int .i64 q] 48) m0 (by omega) (by omega))
      have HM1 := hide (set_alloc_cell (b' := w.heap.size + 1) (o' := k) (u := .int .i64 l) (ob := .cells #[.int .i64 f, .int .i64 t, .int .i64 l, .int .i64 c, .int .i64 q] 48) m1 (by omega) (by omega))
      clear hset hB2
      go_wp2
      refine ⟨⟨k + 1, by omega, by go_num, ?_, HM0.out, HM1.out, HB2.out⟩, by simp [intOf]; omega⟩
      refine hrow2.out.congr ?_
      intro i hi
      by_cases e : i = k
      · subst e; rw [if_pos rfl, if_pos (by omega), HAA.out]
      · rw [if_neg e]
        by_cases e2 : i < k
        · rw [if_pos e2, if_pos (by omega)]
        · rw [if_neg e2, if_neg (by omega)]
    · have hkn : k = an := by omega
      subst hkn
      have hrow1 : Hid (wr.rowIs (w.heap.size + 1) 3 k (fun i => .int .i64 ((lowsL es).getD i 0))) := hrow.out.congr (fun i hi => by rw [if_pos hi, lowsL_at es (by rw [hxl.out.2]; exact hi)])
      have hrl := hrow.out.lt
      clear hmA hrow
      obtain ⟨w1, hw1⟩ : ∃ w1, w1 = wr := ⟨_, rfl⟩
      subst hw1
      have hz0 : w.heap.size < w1.heap.size := by omega
      go_wp2
      go_loopw [7, 8, 9, 35] (fun nd su sn' i wq => ∃ j : Nat, j ≤ sn ∧ i = .int .i64 j ∧ Hid (wq.rowIs (w.heap.size + 1) 3 k (fun i => .int .i64 ((lowsL es).getD i 0))) ∧ Hid (wq.rowIs w1.heap.size 3 sn (fun i => .int .i64 (if i < j then (leftL xs es).getD i 0 else 0))) ∧ wq.cell? ⟨w.heap.size, 0, none⟩ = some (.slice sa sn sc) ∧ wq.cell? ⟨w.heap.size, 1, none⟩ = some (.slice aa k ac) ∧ Below w.heap.size w wq) (fun _ _ _ i _ => sn - (intOf i).toNat)
      case atStart =>
        refine ⟨0, Nat.zero_le _, rfl, hrow1.out.alloc _, (World.rowIs_made w1 (.int .i64 0) sn 3).congr (fun i _ => by simp), ?_, ?_, hbel.alloc hbel.size _⟩
        · exact ((Joins.below_alloc1 w1 _).cell (p := ⟨w.heap.size, 0, none⟩) (by show w.heap.size < w1.heap.size; omega)).trans m0
        · exact ((Joins.below_alloc1 w1 _).cell (p := ⟨w.heap.size, 1, none⟩) (by show w.heap.size < w1.heap.size; omega)).trans m1
      case round =>
        clear hmS hrow1 m0 m1 hbel
        obtain ⟨j, hj, rfl, hrf, hrv, m0, m1, hbel⟩ := hrel
        by_cases hlt2 : j < sn
        · have hlt3 : (j : Int) < (sn : Int) := by omega
          obtain ⟨b, off, x, rfl, hX, hb, cx⟩ := (HX.out.below hbel).get hlt2
          have hxb := getD_bd hn j
          rw [hX] at hxb
          have hnb := netTo_bd60 es (lowsL es) (j : Int) es.length (lows_bds hn) es.length (Nat.le_refl _)
          have hI := row_ints hrf.out (by rw [lowsL_len]; exact hxl.out.2) (by omega) (fun i hi => by have := lows_bds hn i (by rw [hxl.out.2]; exact hi); omega)
          have cS := gSurplus_any (some ⟨b, off, none⟩) aa (some ⟨w.heap.size + 1, 0, none⟩) sn sc k ac k es (lowsL es) (j : Int) wr (HE.out.below hbel) hI h24 (fun i hi => by have := lows_bds hn i (by rw [hxl.out.2]; exact hi); omega)
          obtain ⟨nt, hnt⟩ : ∃ nt, netTo es (lowsL es) (j : Int) es.length = nt := ⟨_, rfl⟩
          rw [hnt] at cS hnb
          have CS : n0 (Calls Try.prog 46 #[.agg #[.slice (some ⟨b, off, none⟩) sn sc, .slice aa k ac], .slice (some ⟨w.heap.size + 1, 0, none⟩) k k, .int .i64 j] wr fun e w' => e = .returned (.int .i64 nt) ∧ Below wr.heap.size wr w') := cS
          have hval : Hid ((leftL xs es).getD j 0 = x - nt) := by show (leftL xs es).getD j 0 = _; rw [leftL_at xs es (by rw [hxl.out.1]; exact hlt2), hX, hnt]
          have h24' : es.length ≤ 24 := hn.arcs
          have n1 : -1440 ≤ nt := by omega
          have n2 : nt ≤ 1440 := by omega
          obtain ⟨x1, x2⟩ := hxb
          clear cS hnb hI hX hnt h24'
          have hsz := hrf.out.lt
          go_wp2_with fail
          refine Calls.mono CS.out ?_
          rintro e w2 ⟨rfl, hb2⟩
          have p0 := (hb2.cell (p := ⟨w.heap.size, 0, none⟩) (by show w.heap.size < wr.heap.size; omega)).trans m0
          have p1 := (hb2.cell (p := ⟨w.heap.size, 1, none⟩) (by show w.heap.size < wr.heap.size; omega)).trans m1
          have hrf2 := below_row hb2 hrf.out hrf.out.lt
          have hrv2 := below_row hb2 hrv.out hrv.out.lt
          have cv := hrv2.cell hlt2
          have fv := hrv2.frozen j
          have HRF := hide (hrf2.setOther (a := ⟨w1.heap.size, j, none⟩) (by show w.heap.size + 1 ≠ w1.heap.size; omega) (.int .i64 (x - nt)))
          have HRV := hide (hrv2.set j (.int .i64 (x - nt)))
          have hB2 : Below w.heap.size w w2 := hbel.trans (hb2.mono hbel.size)
          have HB2 := hide (hB2.setCell (p := ⟨w1.heap.size, j, none⟩) (by show w.heap.size ≤ w1.heap.size; omega) (.int .i64 (x - nt)))
          have HP0 := hide ((set_blk (w := w2) (b := w.heap.size) (b' := w1.heap.size) (o := 0) (o' := j) (u := .int .i64 (x - nt)) (by omega)).trans p0)
          have HP1 := hide ((set_blk (w := w2) (b := w.heap.size) (b' := w1.heap.size) (o := 1) (o' := j) (u := .int .i64 (x - nt)) (by omega)).trans p1)
          clear CS m0 m1 hrf2 hrv2 hB2 hb2 cx
          go_wp2
          refine ⟨⟨j + 1, by omega, by go_num, HRF.out, ?_, HP0.out, HP1.out, HB2.out⟩, by simp [intOf]; omega⟩
          refine HRV.out.congr ?_
          intro i hi
          by_cases e : i = j
          · subst e; rw [if_pos rfl, if_pos (by omega), hval.out]
          · rw [if_neg e]
            by_cases e2 : i < j
            · rw [if_pos e2, if_pos (by omega)]
            · rw [if_neg e2, if_neg (by omega)]
        · have hjn : j = sn := by omega
          subst hjn
          have hrv1 : wr.rowIs w1.heap.size 3 j (fun i => .int .i64 ((leftL xs es).getD i 0)) := hrv.out.congr (fun i hi => by rw [if_pos hi])
          have HLd := hide (new_load (sa := sa) (sc := sc) (aa := aa) (ac := ac) hrf.out hrv1 (by omega))
          have hbs := hbel.size
          clear hrv hrf hrv1
          go_wp2
          go_ret
          exact ⟨_, _, _, rfl, HLd.out, ⟨hbs, by omega, by omega⟩, hbel.alloc hbs _⟩
end Go.Proofs.Ytojiemadoogjlaa
