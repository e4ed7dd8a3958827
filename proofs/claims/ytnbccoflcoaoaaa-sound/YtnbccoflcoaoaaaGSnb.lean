import Derived.Test.YtnbccoflcoaoaaaGAcc
import Derived.Deep.DeepCutAuto
namespace Go.Proofs.Ytnbccoflcoaoaaa
open Go.RowKit Go.Deep
set_option linter.unusedSimpArgs false
set_option linter.unusedVariables false

theorem snd_bad {xs : List Int} {es : List A5} {a : A6} {x : List Int} {y : Bool} {e c f wn : Int} (h1 : accS xs es a = (y, e)) (h2 : costS xs es x = (c, f)) (h3 : (checkS xs es).1 = wn) (hw : wn ≠ 0) : y = false ∧ e = wn ∧ f = wn := by
  rw [accS_check h3 hw] at h1
  rw [costS_check h3 hw] at h2
  cases h1; cases h2
  exact ⟨rfl, rfl, rfl⟩
theorem snd_ok {xs : List Int} {es : List A5} {a : A6} {y : Bool} {e : Int} (h1 : accS xs es a = (y, e)) (hn : NetOK xs es) : y = okB xs es a ∧ e = 0 := by
  rw [accS_ok hn] at h1; cases h1; exact ⟨rfl, rfl⟩
theorem snd_best {xs : List Int} {es : List A5} {cs : Int} {fl po cu ci x : List Int} {c f : Int} (hn : NetOK xs es) (h : okB xs es ⟨1, cs, fl, po, cu, ci⟩ = true) (h2 : costS xs es x = (c, f)) : f ≠ 0 ∨ cs ≤ c := by
  have hb : bestB xs es ⟨1, cs, fl, po, cu, ci⟩ = true := h
  unfold bestB holdsB at hb
  simp only [Bool.and_eq_true, decide_eq_true_eq] at hb
  obtain ⟨⟨⟨⟨h3, h4⟩, _⟩, _⟩, ⟨_, h5⟩⟩ := hb
  rcases costS_cases x hn with ⟨g1, g2⟩ | ⟨g1, g2⟩
  · rw [g2] at h2; cases h2; exact .inl g1
  · rw [g2] at h2; cases h2
    right
    rw [← h4]
    exact dual hn (fits_of h3) (fits_of g1) h5
theorem snd_none {xs : List Int} {es : List A5} {cs : Int} {fl po cu ci x : List Int} {c f : Int} (hn : NetOK xs es) (h : okB xs es ⟨2, cs, fl, po, cu, ci⟩ = true) (h2 : costS xs es x = (c, f)) : f ≠ 0 := by
  have hb : noneB xs es ⟨2, cs, fl, po, cu, ci⟩ = true := h
  unfold noneB at hb
  simp only [Bool.and_eq_true, decide_eq_true_eq] at hb
  obtain ⟨⟨⟨⟨⟨h3, _⟩, _⟩, _⟩, _⟩, h4⟩ := hb
  rcases costS_cases x hn with ⟨g1, g2⟩ | ⟨g1, g2⟩
  · rw [g2] at h2; cases h2; exact g1
  · exact absurd g1 (none_fits hn h3 h4 x)
theorem snd_end {xs : List Int} {es : List A5} {kd cs : Int} {fl po cu ci : List Int} (h : okB xs es ⟨kd, cs, fl, po, cu, ci⟩ = true) (h1 : kd ≠ 1) (h2 : kd ≠ 2) : kd = 3 ∧ flowErr xs es fl = 0 ∧ goodB es ci = true := by
  unfold okB at h
  simp only [] at h
  rw [if_neg h1, if_neg h2] at h
  split at h
  · rename_i h3
    unfold endB at h
    simp only [Bool.and_eq_true, decide_eq_true_eq] at h
    exact ⟨h3, h.1.1.1.1, h.2⟩
  · cases h
theorem good_out {es : List A5} {ci : List Int} (h : goodB es ci = true) : onceB es.length ci = true ∧ unlB es ci = true ∧ 0 < ci.length := by
  unfold goodB at h
  simp only [Bool.and_eq_true, decide_eq_true_eq] at h
  exact ⟨h.1.1.1.1, h.1.1.1.2, h.1.2⟩

theorem Boxed.setCell {w : World} {g : Nat} {sv av v0 v1 v2 v3 v4 v5 : Value} (h : Boxed w g sv av v0 v1 v2 v3 v4 v5) {p : Addr} (hp : g + 1 < p.block) (u : Value) : Boxed (w.setCell p u) g sv av v0 v1 v2 v3 v4 v5 := by
  have k : ∀ b o, b ≤ g + 1 → (w.setCell p u).cell? ⟨b, o, none⟩ = w.cell? ⟨b, o, none⟩ := fun b o hb => World.cell?_of_block (Below.heap_setCell _ _ _ _ (by show b ≠ p.block; omega))
  exact ⟨(k _ _ (by omega)).trans h.n0, (k _ _ (by omega)).trans h.n1, (k _ _ (by omega)).trans h.a0, (k _ _ (by omega)).trans h.a1, (k _ _ (by omega)).trans h.a2, (k _ _ (by omega)).trans h.a3, (k _ _ (by omega)).trans h.a4, (k _ _ (by omega)).trans h.a5, by have := h.lt; simpa [World.setCell] using this⟩

/-- The row that is counted up, as numbers. -/
def Counts (w : World) (g mc n : Nat) (l : List Int) : Prop := ∃ f, w.rowIs g 3 mc f ∧ n ≤ mc ∧ ∀ i, i < n → f i = .int .i64 (l.getD i 0)
theorem Counts.cell {w : World} {g mc n : Nat} {l : List Int} (h : Counts w g mc n l) {v : Nat} (hv : v < n) : w.cell? ⟨g, v, none⟩ = some (.int .i64 (l.getD v 0)) ∧ w.frozen? ⟨g, v, none⟩ = false := by
  obtain ⟨f, hr, hn, hf⟩ := h
  exact ⟨by rw [hr.cell (i := v) (by omega), hf v hv], hr.frozen v⟩
theorem Counts.bump {w : World} {g mc n : Nat} {l : List Int} (h : Counts w g mc n l) {v : Nat} (hv : v < n) (hl : l.length = n) : Counts (w.setCell ⟨g, v, none⟩ (.int .i64 (l.getD v 0 + 1))) g mc n (bump l v) := by
  obtain ⟨f, hr, hn, hf⟩ := h
  refine ⟨_, hr.set v _, hn, fun i hi => ?_⟩
  rw [bump_at l v i (by omega)]
  by_cases e : i = v
  · subst e; simp
  · simp only [if_neg e]; exact hf i hi
theorem Counts.ints {w : World} {g mc n : Nat} {l : List Int} (h : Counts w g mc n l) (hl : l.length = n) (hs : n ≤ 17592186044416) (hb : ∀ i, i < n → 0 ≤ l.getD i 0 ∧ l.getD i 0 ≤ 1000000) : Ints w (some ⟨g, 0, none⟩) n l := by
  refine ⟨hl, hs, fun x hx => ?_, ?_⟩
  · obtain ⟨i, hi, rfl⟩ := mem_of_getD 0 l x hx
    have := hb i (by omega); omega
  · by_cases h0 : n = 0
    · exact .inl h0
    · refine .inr ⟨g, 0, rfl, ?_, fun i hi => by rw [Nat.zero_add]; exact (h.cell hi).1⟩
      obtain ⟨f, hr, _, _⟩ := h
      exact hr.lt

set_option maxRecDepth 100000 in
set_option maxHeartbeats 8000000 in
theorem keepSound_any (sa aa fa pa ca ra xa : Option Addr) (sn sc an ac fn fc pn pc cn cc rn rc xn xc : Nat) (kd cs : Int) (xs : List Int) (es : List A5) (fl po cu ci x : List Int) (w : World) (hx : Ints w sa sn xs) (he : Arcs w aa an es)
    (ha : Ans w fa pa ca ra fn pn cn rn fl po cu ci) (hxx : Ints w xa xn x) :
    Calls Try.prog 11 #[.agg #[.slice sa sn sc, .slice aa an ac], .agg #[.int .i64 kd, .int .i64 cs, .slice fa fn fc, .slice pa pn pc, .slice ca cn cc, .slice ra rn rc], .slice xa xn xc] w fun e w' => e = .returned (.bool true) ∧ Below w.heap.size w w' := by
  have hbx := boxed_new w (.slice sa sn sc) (.slice aa an ac) (.int .i64 kd) (.int .i64 cs) (.slice fa fn fc) (.slice pa pn pc) (.slice ca cn cc) (.slice ra rn rc) 25 36
  have hb0 := Joins.below_alloc2 w (.cells #[.slice sa sn sc, .slice aa an ac] 25) (.cells #[.int .i64 kd, .int .i64 cs, .slice fa fn fc, .slice pa pn pc, .slice ca cn cc, .slice ra rn rc] 36)
  have HX := hide hx
  have HE := hide he
  have HA := hide ha
  have HXX := hide hxx
  obtain ⟨y, e, hac⟩ : ∃ y e, accS xs es ⟨kd, cs, fl, po, cu, ci⟩ = (y, e) := ⟨_, _, rfl⟩
  obtain ⟨c, f, hco⟩ : ∃ c f, costS xs es x = (c, f) := ⟨_, _, rfl⟩
  obtain ⟨wn, hwn⟩ : ∃ wn, (checkS xs es).1 = wn := ⟨_, rfl⟩
  have HAC := hide hac
  have HCO := hide hco
  have HWN := hide hwn
  clear hx he ha hxx hac hco hwn
  go_enter Try.func11, Try.ntmps11
  go_wp2_with fail
  refine (taken_any _).mono ?_
  rintro e1 w1 ⟨rfl, hb1⟩
  have hB1 : Below w.heap.size w w1 := hb0.trans (hb1.mono (by simp; omega))
  have hBX := hide (hbx.below hb1)
  clear hb0 hb1 hbx
  obtain ⟨m0, m1, m2, m3, m4, m5, m6, m7, m8⟩ := hBX.out
  have hb0d : Below w.heap.size w w1.drew := hB1.drew
  go_upto_region 2 with fail
  go_cut [8, 9] (fun s8 s9 wx => s8 = .bool y ∧ s9 = .int .i64 e ∧ Below w.heap.size w wx ∧ Boxed wx w.heap.size (.slice sa sn sc) (.slice aa an ac) (.int .i64 kd) (.int .i64 cs) (.slice fa fn fc) (.slice pa pn pc) (.slice ca cn cc) (.slice ra rn rc))
  case first =>
    go_region_with (first
      | (go_at_call 15; refine (refCopy_any sa aa sn sc an ac xs es _ ?_ ?_).mono ?_; exact HX.out.below hb0d; exact HE.out.below hb0d; rintro e1 w2 ⟨sa', sc', aa', ac', rfl, hI, hA, -, -, hb2⟩; have hB2 : Below w.heap.size w w2 := hb0d.trans (hb2.mono hb0d.size); have hx1 := hBX.out.below (((Below.refl _ _).drew).trans hb2); obtain ⟨p0, p1, p2, p3, p4, p5, p6, p7, p8⟩ := hx1)
      | (go_at_call 20; refine (accept_any sa' aa' fa pa ca ra sn sc' an ac' fn fc pn pc cn cc rn rc kd cs xs es fl po cu ci _ ?_ ?_ ?_).mono ?_; exact hI; exact hA; exact HA.out.below hB2; rintro e1 w3 ⟨rfl, hb3⟩; rw [HAC.out]; have hB3 : Below w.heap.size w w3 := hB2.trans (hb3.mono hB2.size); have hx3 := (Boxed.mk p0 p1 p2 p3 p4 p5 p6 p7 p8).below hb3))
    all_goals (go_wp2_with fail; go_meet; exact ⟨rfl, rfl, hB3, hx3⟩)
  case rest =>
  obtain ⟨rfl, rfl, hB3, hx3⟩ := hcut
  have hBX3 := hide hx3
  clear m0 m1 m2 m3 m4 m5 m6 m7 m8 hb0d hB1 hBX
  obtain ⟨m0, m1, m2, m3, m4, m5, m6, m7, m8⟩ := hx3
  go_wp2_with fail
  refine (refCopy_any sa aa sn sc an ac xs es _ (HX.out.below hB3) (HE.out.below hB3)).mono ?_
  rintro e1 w4 ⟨sa', sc', aa', ac', rfl, hI, hA, -, -, hb4⟩
  have hB4 : Below w.heap.size w w4 := hB3.trans (hb4.mono hB3.size)
  have hx4 := hBX3.out.below hb4
  clear m0 m1 m2 m3 m4 m5 m6 m7 m8 hBX3 hb4 hB3
  have hBX4 := hide hx4
  obtain ⟨m0, m1, m2, m3, m4, m5, m6, m7, m8⟩ := hx4
  go_wp2_with fail
  refine (cost_any sa' aa' xa sn sc' an ac' xn xc xs es x _ hI hA (HXX.out.below hB4)).mono ?_
  rintro e1 w5 ⟨rfl, hb5⟩
  rw [HCO.out]
  have hB5 : Below w.heap.size w w5 := hB4.trans (hb5.mono hB4.size)
  have hx5 := hBX4.out.below hb5
  clear m0 m1 m2 m3 m4 m5 m6 m7 m8 hBX4 hb5 hB4 hI hA
  have hBX5 := hide hx5
  obtain ⟨m0, m1, m2, m3, m4, m5, m6, m7, m8⟩ := hx5
  go_wp2_with fail
  refine (refCheck_any sa aa sn sc an ac xs es _ (HX.out.below hB5) (HE.out.below hB5)).mono ?_
  rintro e1 w6 ⟨rfl, hb6⟩
  rw [HWN.out]
  have hB6 : Below w.heap.size w w6 := hB5.trans (hb6.mono hB5.size)
  have hx6 := hBX5.out.below hb6
  clear m0 m1 m2 m3 m4 m5 m6 m7 m8 hBX5 hb6 hB5
  have hBX6 := hide hx6
  obtain ⟨m0, m1, m2, m3, m4, m5, m6, m7, m8⟩ := hx6
  generalize (checkS xs es).2 = at6
  cases hwz : (wn != 0) with
  | true =>
    obtain ⟨rfl, rfl, rfl⟩ := snd_bad HAC.out HCO.out HWN.out (by simpa using hwz)
    go_wp2
    go_ret
    exact ⟨rfl, hB6⟩
  | false =>
  obtain rfl : wn = 0 := by simpa using hwz
  have hn := netOK_of HWN.out
  have hN := hide hn
  obtain ⟨hy, rfl⟩ := snd_ok HAC.out hn
  have HY := hide hy
  clear hn hy hwz HAC
  cases y with
  | false =>
    go_wp2
    go_ret
    exact ⟨rfl, hB6⟩
  | true =>
  by_cases k1 : kd = 1
  · subst k1
    by_cases hf0 : f = 0
    · subst hf0
      have hle : cs ≤ c := (snd_best hN.out HY.out.symm HCO.out).resolve_left (by simp)
      go_wp2
      go_ret
      exact ⟨ret_b (by simp), hB6⟩
    · have hfb : (f != 0) = true := by simpa using hf0
      clear hf0
      go_wp2
      go_ret
      exact ⟨rfl, hB6⟩
  have t1 : (kd == 1) = false := by simpa using k1
  by_cases k2 : kd = 2
  · subst k2
    have hf0 := snd_none hN.out HY.out.symm HCO.out
    have hfb : (f != 0) = true := by simpa using hf0
    clear hf0 k1
    go_wp2
    go_ret
    exact ⟨rfl, hB6⟩
  have t2 : (kd == 2) = false := by simpa using k2
  obtain ⟨rfl, hfl, hgd⟩ := snd_end HY.out.symm k1 k2
  clear k1 k2
  have hfit := fits_of hfl
  have hfn : fn = an := by rw [← HA.out.fl.len, ← HE.out.len]; exact hfit.len
  subst hfn
  have HFL := hide hfl
  have HGD := hide hgd
  have HFT := hide hfit
  have h24 : fn ≤ 24 := by rw [← HE.out.len]; exact hN.out.arcs
  have hrs := HA.out.ci.small
  have hL : Hid (es.length = fn ∧ fl.length = fn ∧ ci.length = rn) := ⟨HE.out.len, HA.out.fl.len, HA.out.ci.len⟩
  have hrpos : 0 < rn := by have := (good_out hgd).2.2; rw [HA.out.ci.len] at this; exact this
  clear hfl hgd hfit
  go_wp2_with (at_builtin; refine wpList_copy_row rfl _ _ rfl rfl fa fn fc rfl fl ?_ ?_)
  · exact HA.out.fl.below hB6
  intro ma mc w7 hO hb7
  have hfpos : fn ≠ 0 := by
    intro h0
    have := once_out (good_out HGD.out).1 (i := 0) (by rw [hL.out.2.2]; exact hrpos)
    rw [hL.out.1] at this; omega
  obtain ⟨g, ff, rfl, hg, hrow, hnc, hff⟩ := hO.resolve_left hfpos
  have hB7 : Below w.heap.size w w7 := hB6.trans (hb7.mono hB6.size)
  have hx7 := hBX6.out.below hb7
  have hgl : w.heap.size + 1 < g := by omega
  have HC0 : Hid (Counts w7 g mc fn (moreTo fl ci 0)) := ⟨ff, hrow, hnc, hff⟩
  clear m0 m1 m2 m3 m4 m5 m6 m7 m8 hBX6 hb7 hB6 hO hrow hff hg
  have hBX7 := hide hx7
  obtain ⟨m0, m1, m2, m3, m4, m5, m6, m7, m8⟩ := hx7
  go_wp2
  go_loopw [15, 16] (fun i kk wr => ∃ k : Nat, k ≤ rn ∧ i = .int .i64 k ∧ Hid (Counts wr g mc fn (moreTo fl ci k)) ∧ Hid (Bds es (moreTo fl ci k)) ∧ Hid (Boxed wr w.heap.size (.slice sa sn sc) (.slice aa fn ac) (.int .i64 3) (.int .i64 cs) (.slice fa fn fc) (.slice pa pn pc) (.slice ca cn cc) (.slice ra rn rc)) ∧ Below w.heap.size w wr) (fun i _ _ => rn - (intOf i).toNat)
  case atStart => exact ⟨0, Nat.zero_le _, rfl, HC0.out, HFT.out.bd, hBX7.out, hB7⟩
  case round =>
    clear m0 m1 m2 m3 m4 m5 m6 m7 m8 hBX7 hB7 HC0
    obtain ⟨k, hk, rfl, hC, hBd, hBX, hbel⟩ := hrel
    by_cases hlt : k < rn
    · obtain ⟨m0, m1, m2, m3, m4, m5, m6, m7, m8⟩ := hBX.out
      have hri := once_out (good_out HGD.out).1 (i := k) (by rw [hL.out.2.2]; exact hlt)
      rw [hL.out.1] at hri
      obtain ⟨b, off, z, rfl, hZ, hb, ez⟩ := (HA.out.ci.below hbel).get hlt
      rw [hZ] at hri
      obtain ⟨v, rfl⟩ := nat_of hri.1
      have hvs : v < fn := by omega
      have hml : (moreTo fl ci k).length = fn := by rw [more_len]; exact hL.out.2.1
      obtain ⟨cv, fv⟩ := hC.out.cell hvs
      have hset := hide (hC.out.bump hvs hml)
      have hnext : Hid (moreTo fl ci (k + 1) = bump (moreTo fl ci k) v) := by show moreTo fl ci (k + 1) = _; simp only [moreTo, hZ, Int.toNat_natCast]
      have hnb := fun h => more_bds (by rw [hL.out.1]; exact hL.out.2.1) (good_out HGD.out).1 (good_out HGD.out).2.1 (k := k) (by rw [hL.out.2.2]; exact hlt) hBd.out h
      rw [hZ, Int.toNat_natCast] at hnb
      have hbd1 := hBd.out v (by rw [hL.out.1]; exact hvs)
      have hlo := (arcB_out (hN.out.arc v (by rw [hL.out.1]; exact hvs))).2.2.2.2.1
      clear hZ hri hml
      generalize (moreTo fl ci k).getD v 0 = q at *
      have hq1 : 0 ≤ q := by omega
      have hq2 : q ≤ 1000000 := hbd1.2.1
      clear hbd1 hlo
      have hlt3 : (k : Int) < (rn : Int) := by omega
      have hlt4 : (v : Int) < (fn : Int) := by omega
      have HNB := hide hnb
      clear hnb
      by_cases hq : 1000000 ≤ q
      · go_wp2
        all_goals first
          | (go_ret
             exact ⟨rfl, hbel⟩)
          | (exfalso; omega)
      · have hq3 : q < 1000000 := by omega
        go_wp2
        refine ⟨⟨k + 1, by omega, by go_num, ?_, HNB.out hq3, ?_, ?_⟩, by simp [intOf]; omega⟩
        · rw [hnext.out]; exact hset.out
        · exact hBX.out.setCell (p := ⟨g, v, none⟩) hgl _
        · exact hbel.setCell (p := ⟨g, v, none⟩) (by show w.heap.size ≤ g; omega) _
    · have hkn : k = rn := by omega
      subst hkn
      have hrl : ci.length = k := hL.out.2.2
      have hem := end_more HFT.out HGD.out (by rw [hrl]; exact hBd.out)
      rw [hrl] at hem
      have hfl := costS_ok hN.out HFL.out
      have hmo := costS_ok hN.out hem.1
      have hIn : Ints wr (some ⟨g, 0, none⟩) fn (moreTo fl ci k) := hC.out.ints (by rw [more_len]; exact hL.out.2.1) (by omega) (fun i hi => by
        have h1 := hBd.out i (by rw [hL.out.1]; exact hi)
        have h2 := (arcB_out (hN.out.arc i (by rw [hL.out.1]; exact hi))).2.2.2.2.1
        omega)
      have HMO := hide hmo
      have HFO := hide hfl
      have HLT := hide hem.2
      have HIN := hide hIn
      clear hem hfl hmo hIn hrl hC hBd
      obtain ⟨m0, m1, m2, m3, m4, m5, m6, m7, m8⟩ := hBX.out
      have hbd0 : Below w.heap.size w wr.drew := hbel.drew
      obtain ⟨C1, hC1⟩ : ∃ C1, costTo es fl es.length = C1 := ⟨_, rfl⟩
      obtain ⟨C2, hC2⟩ : ∃ C2, costTo es (moreTo fl ci k) es.length = C2 := ⟨_, rfl⟩
      rw [hC1] at HFO HLT
      rw [hC2] at HMO HLT
      clear hC1 hC2
      go_upto_region 27 with fail
      go_cut [17, 18] (fun s17 s18 wx => s17 = .int .i64 C1 ∧ s18 = .int .i64 0 ∧ Below wr.heap.size wr wx)
      case first =>
        go_region_with (first
          | (go_at_call 15; refine (refCopy_any sa aa sn sc fn ac xs es _ ?_ ?_).mono ?_; exact HX.out.below hbd0; exact HE.out.below hbd0; rintro e1 w2 ⟨sa2, sc2, aa2, ac2, rfl, hI, hA, -, -, hb2⟩; have hb2' : Below wr.heap.size wr w2 := ((Below.refl _ _).drew).trans hb2; have hx1 := hBX.out.below hb2'; obtain ⟨p0, p1, p2, p3, p4, p5, p6, p7, p8⟩ := hx1)
          | (go_at_call 17; refine (cost_any sa2 aa2 fa sn sc2 fn ac2 fn fc xs es fl _ ?_ ?_ ?_).mono ?_; exact hI; exact hA; exact (HA.out.fl.below hbel).below hb2'; rintro e1 w3 ⟨rfl, hb3⟩; rw [HFO.out]; have hb3' : Below wr.heap.size wr w3 := hb2'.trans (hb3.mono hb2'.size)))
        all_goals (go_wp2_with fail; go_meet; exact ⟨rfl, rfl, hb3'⟩)
      case rest =>
      obtain ⟨rfl, rfl, hb8⟩ := hcut
      have hx8 := hBX.out.below hb8
      have HIN8 := hide (HIN.out.below hb8)
      have hB8 : Below w.heap.size w wc := hbel.trans (hb8.mono hbel.size)
      clear m0 m1 m2 m3 m4 m5 m6 m7 m8 hBX hb8 hbel hbd0 HIN
      have hBX8 := hide hx8
      obtain ⟨m0, m1, m2, m3, m4, m5, m6, m7, m8⟩ := hx8
      go_wp2_with fail
      refine (refCopy_any sa aa sn sc fn ac xs es _ (HX.out.below hB8) (HE.out.below hB8)).mono ?_
      rintro e1 w9 ⟨sa3, sc3, aa3, ac3, rfl, hI, hA, -, -, hb9⟩
      have hx9 := hBX8.out.below hb9
      have hB9 : Below w.heap.size w w9 := hB8.trans (hb9.mono hB8.size)
      clear m0 m1 m2 m3 m4 m5 m6 m7 m8 hBX8
      have hBX9 := hide hx9
      obtain ⟨m0, m1, m2, m3, m4, m5, m6, m7, m8⟩ := hx9
      go_wp2_with fail
      refine (cost_any sa3 aa3 (some ⟨g, 0, none⟩) sn sc3 fn ac3 fn mc xs es (moreTo fl ci k) _ hI hA (HIN8.out.below hb9)).mono ?_
      rintro e1 w10 ⟨rfl, hb10⟩
      rw [HMO.out]
      have hx10 := hBX9.out.below hb10
      have hB10 : Below w.heap.size w w10 := hB9.trans (hb10.mono hB9.size)
      clear m0 m1 m2 m3 m4 m5 m6 m7 m8 hBX9 hb9 hb10 hI hA HIN8
      obtain ⟨m0, m1, m2, m3, m4, m5, m6, m7, m8⟩ := hx10
      have hlt9 : C2 < C1 := HLT.out
      go_wp2
      go_ret
      exact ⟨ret_b (by simp), hB10⟩
end Go.Proofs.Ytnbccoflcoaoaaa
