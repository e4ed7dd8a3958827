import Derived.Test.YtojiemadoogjlaaSomI
namespace Go.Proofs.Ytojiemadoogjlaa
open Go.RowKit Go.Deep
set_option linter.unusedSimpArgs false
set_option linter.unusedVariables false

theorem LInv.room {xs : List Int} {es : List A5} (hn : NetOK xs es) {fl lf : List Int} {t : Int} (h : LInv xs es fl lf t) (s : St) (hs : s.arc < es.length) : 0 ≤ roomOf es fl s ∧ roomOf es fl s ≤ 1000000 := by
  have h1 := h.bd s.arc hs
  have h2 := arcB_out (hn.arc s.arc hs)
  have h3 := h.mild hn s.arc hs
  have h4 : 0 ≤ t := by rw [h.go]; exact pos_nonneg _ _
  unfold roomOf
  split
  · omega
  · split <;> omega

/-- What is known behind k steps that have been taken. -/
theorem take_here {es : List A5} {fl : List Int} {way : List St} {e : Int} (h : WayOK es fl way e) (hl : fl.length = es.length) (x : Int) (k : Nat) (hk : k < way.length) : (takeTo fl way x k).getD (way.getD k zS).arc 0 = fl.getD (way.getD k zS).arc 0 :=
  take_off h hl x _ k (by omega) (fun j hj => h.once j k hj hk)

set_option maxRecDepth 100000 in
set_option maxHeartbeats 4000000 in
theorem rSend_any (K G rb sb tb ab : Nat) (oa : Option Addr) (oc : Nat) (seen start : Nat → Bool) (order : List Int) (last : Nat → St) (pos : Nat → Nat) (lb fb vb : Nat) (sa aa : Option Addr) (sn sc an ac : Nat) (xs fl lf : List Int) (es : List A5) (t : Int) (e0 : Nat) (wz w : World)
    (hn : NetOK xs es) (hxn : xs.length = sn) (hV : LInv xs es fl lf t) (hL : Load w lb fb vb sa sn sc aa an ac fl lf) (hzl : wz.heap.size ≤ fb ∧ wz.heap.size ≤ vb) (hA0 : Arcs wz aa an es) (hB0 : Below wz.heap.size wz w)
    (hR : Reach w K G rb sb tb ab sn oa oc seen start order last) (hI : RInv es fl lf sn seen start order last pos) (hel : e0 < sn) (hes : seen e0 = true) (hneg : lf.getD e0 0 < 0) :
    Calls Try.prog 58 #[.pointer (some ⟨lb, 0, none⟩), .pointer (some ⟨rb, 0, none⟩), .int .i64 e0] w fun e w' => ∃ (x : Int) (fl' lf' : List Int), e = .returned (.int .i64 x) ∧ 0 < x ∧ LInv xs es fl' lf' (t - x) ∧ Load w' lb fb vb sa sn sc aa an ac fl' lf' ∧ Below wz.heap.size wz w' := by
  have HL := hide hL
  have HA := hide hA0
  have HV := hide hV
  have HI := hide hI
  have hal : Hid (es.length = an) := hA0.len
  have hfbw := hL.flt
  have hlbw := hL.lt
  have hll : Hid (lf.length = sn ∧ fl.length = an) := ⟨by rw [hV.llen]; exact hxn, by rw [hV.len]; exact hA0.len⟩
  have cW : n0 (Calls Try.prog 66 #[.pointer (some ⟨lb, 0, none⟩), .pointer (some ⟨rb, 0, none⟩), .int .i64 e0] w fun e w' => ∃ (s : Nat) (v : Value) (way : List St), e = .returned (.tuple #[.int .i64 s, v]) ∧ s < sn ∧ start s = true ∧ BackOK es fl pos way e0 s ∧ way.length ≤ 10 ∧ OwnS w' w.heap.size v way ∧ Below w.heap.size w w') :=
    rWayTo_any K G rb sb tb ab oa oc seen start order last pos lb fb vb sa aa sn sc an ac xs fl lf es e0 w hn hxn hL (hA0.below hB0) hR hI hel hes
  have hne0 := hL.ne
  clear hL hA0 hR hI hes hV
  go_enter Try.func58, Try.ntmps58
  go_wp2_with fail
  refine Calls.mono cW.out ?_
  rintro e w1 ⟨s, v, way, rfl, hs, hst, hW, hwl, hO, hb1⟩
  clear cW
  have hpos := (HI.out.st1 s hs hst).2
  have hL1 := HL.out.grow hb1
  have k3 := hL1.c3
  have cs := hL1.rl.cell hs
  have ce := hL1.rl.cell hel
  have hbs := HV.out.left_bd hn s (by omega)
  have hbe := HV.out.left_bd hn e0 (by omega)
  have HW := hide hW
  have hse : s ≠ e0 := by intro h; subst h; omega
  have hB1 : Below wz.heap.size wz w1 := hB0.trans (hb1.mono hB0.size)
  have HO := hide hO
  have HL1 := hide hL1
  have hs2 : (s : Int) < (sn : Int) := by omega
  have he2 : (e0 : Int) < (sn : Int) := by omega
  obtain ⟨wa, wc, rfl, _⟩ := hO
  clear hL1 hW hst HL
  generalize hls : lf.getD s 0 = ls at cs hpos hbs
  generalize hle : lf.getD e0 0 = le at ce hneg hbe
  have HLS := hide hls
  have HLE := hide hle
  clear hls hle
  obtain ⟨b1, b2⟩ := hbs
  obtain ⟨b3, b4⟩ := hbe
  by_cases hc : -le < ls
  all_goals
    go_wp2
    go_loopw [9, 11, 12, 49] (fun am p r i wr => ∃ (k : Nat) (x : Int), k ≤ way.length ∧ i = .int .i64 k ∧ am = .int .i64 x ∧ 0 < x ∧ x ≤ ls ∧ x ≤ -le ∧ Hid (∀ j, j < k → x ≤ roomOf es fl (way.getD j zS)) ∧ Below w1.heap.size w1 wr) (fun _ _ _ i _ => way.length - (intOf i).toNat)
    case atStart => exact ⟨0, _, Nat.zero_le _, rfl, rfl, by omega, by omega, by omega, fun j hj => by omega, Below.refl _ _⟩
    case round =>
      clear k3 cs ce
      obtain ⟨k, x, hk, rfl, rfl, hx0, hx1, hx2, hm, hb⟩ := hrel
      by_cases hlt : k < way.length
      · have hO1 := HO.out.kept (grown_of_below hb none) (fun k h => by cases h)
        obtain ⟨wb, wcc, e, hwb, hwlt, c0, c1⟩ := hO1.get hlt
        cases e
        obtain ⟨⟨ar, bk⟩, hstp⟩ : ∃ s, way.getD k zS = s := ⟨_, rfl⟩
        have har := HW.out.ok.inr k hlt
        have hrp := HW.out.ok.room k hlt
        rw [hstp] at c0 c1 har hrp
        simp only [] at c0 c1 har
        have hr1 := (HV.out.room hn ⟨ar, bk⟩ har).2
        have hok := hn.arc ar har
        have hfa := HV.out.mild hn ar har
        rw [hal.out] at har
        have HST := hide hstp
        obtain ⟨r, hr⟩ : ∃ r, roomOf es fl ⟨ar, bk⟩ = r := ⟨_, rfl⟩
        rw [hr] at hrp hr1
        have cR : n0 (∀ w0, Load w0 lb fb vb sa sn sc aa an ac fl lf → Arcs w0 aa an es → Calls Try.prog 67 #[.pointer (some ⟨lb, 0, none⟩), .agg #[.int .i64 ar, .bool bk]] w0 fun e w' => e = .returned (.int .i64 r) ∧ Below w0.heap.size w0 w') :=
          fun w0 h1 h2 => by rw [← hr]; exact rRoom_any lb fb vb sa aa sn sc an ac fl lf es ar bk _ w0 h1 h2 har hok hfa
        have HRR := hide hr
        clear hstp hr hO1 hok hfa
        have hlt3 : (k : Int) < (way.length : Int) := by omega
        have hba : Below w1.heap.size w1 (wr.alloc (.cells #[.int .i64 ar, .bool bk] 85)) := hb.alloc hb.size _
        have hLa := HL1.out.grow hba
        have hAa := HA.out.below (hB1.trans (hba.mono hB1.size))
        go_wp2_with fail
        refine (cR.out _ hLa hAa).mono ?_
        rintro e w2 ⟨rfl, hb2⟩
        have hb3 : Below w1.heap.size w1 w2 := hba.trans (hb2.mono hba.size)
        clear cR c0 c1 hLa hAa hba hb2 hwb hwlt
        by_cases hrx : r < x
        · go_wp2
          go_roundw
          case rel =>
            refine ⟨k + 1, r, by omega, by go_num, rfl, by omega, by omega, by omega, ?_, hb3⟩
            intro j hj
            by_cases ej : j = k
            · subst ej; rw [HST.out, HRR.out]; omega
            · have := hm.out j (by omega); omega
          case measure => simp [intOf]; omega
        · have hrf : decide (r < x) = false := decide_eq_false hrx
          go_wp2
          all_goals first
            | (exfalso; omega)
            | (go_roundw
               case rel =>
                 refine ⟨k + 1, x, by omega, by go_num, rfl, by omega, by omega, by omega, ?_, hb3⟩
                 intro j hj
                 by_cases ej : j = k
                 · subst ej; rw [HST.out, HRR.out]; omega
                 · exact hm.out j (by omega)
               case measure => simp [intOf]; omega)
      · have hkn : k = way.length := by omega
        subst hkn
        have hL2 := hide (HL1.out.grow hb)
        have hO2 := hide (HO.out.kept (grown_of_below hb none) (fun k h => by cases h))
        have hB2 : Below wz.heap.size wz wr := hB1.trans (hb.mono hB1.size)
        clear hb hlt
        go_wp2
        go_loopw [14, 63] (fun p i wr => ∃ (k : Nat), k ≤ way.length ∧ i = .int .i64 k ∧ Hid (Load wr lb fb vb sa sn sc aa an ac (takeTo fl way x k) lf) ∧ Hid (OwnS wr w.heap.size (.slice wa way.length wc) way) ∧ Below wz.heap.size wz wr) (fun _ i _ => way.length - (intOf i).toNat)
        case atStart => exact ⟨0, Nat.zero_le _, rfl, hL2.out, hO2.out, hB2⟩
        case round =>
          clear hL2 hO2 hB2
          obtain ⟨k, hk, rfl, hL2, hO2, hB2⟩ := hrel
          by_cases hlt : k < way.length
          · obtain ⟨wb, wcc, e, hwb, hwlt, c0, c1⟩ := hO2.out.get hlt
            cases e
            obtain ⟨⟨ar, bk⟩, hstp⟩ : ∃ s, way.getD k zS = s := ⟨_, rfl⟩
            have har := HW.out.ok.inr k hlt
            have hxr := hm.out k hlt
            have hth := take_here HW.out.ok HV.out.len x k hlt
            rw [hstp] at c0 c1 har hxr hth
            simp only [] at c0 c1 har hth
            have hr1 := (HV.out.room hn ⟨ar, bk⟩ har).2
            have hfa := HV.out.mild hn ar har
            rw [← hth] at hfa
            rw [hal.out] at har
            have hnx : Hid (takeTo fl way x (k + 1) = addAt (takeTo fl way x k) ar (stD ⟨ar, bk⟩ x)) := by show takeTo fl way x (k + 1) = _; simp only [takeTo, hstp]
            clear hstp hth
            have hlt3 : (k : Int) < (way.length : Int) := by omega
            have hLa := hL2.out.grow (Joins.below_alloc1 wr (.cells #[.int .i64 ar, .bool bk] 85))
            go_wp2_with fail
            refine (rTake_any lb fb vb sa aa sn sc an ac (takeTo fl way x k) lf ar bk x _ hLa (by rw [take_len]; exact hll.out.2) har hfa (by omega)).mono ?_
            rintro e w2 ⟨rfl, hL3, hg3⟩
            have hO3 := hide ((hO2.out.kept (grown_of_below (Joins.below_alloc1 wr (.cells #[.int .i64 ar, .bool bk] 85)) none) (fun k h => by cases h)).kept hg3 (fun k h => by cases h; exact hfbw.1))
            have hB3 : Below wz.heap.size wz w2 := (hB2.alloc hB2.size _).grown hg3 (by have := hB2.size; simp; omega) (fun k h => by cases h; exact hzl.1)
            rw [← hnx.out] at hL3
            have HL3 := hide hL3
            clear c0 c1 hLa hL3 hg3 hwb hwlt
            go_wp2
            go_roundw
            case rel => exact ⟨k + 1, by omega, by go_num, HL3.out, hO3.out, hB3⟩
            case measure => simp [intOf]; omega
          · have hkn : k = way.length := by omega
            subst hkn
            have hLd := hL2.out
            have k3 := hLd.c3
            have c1 := hLd.rl.cell hs
            have f1 := hLd.rl.frozen s
            rw [HLS.out] at c1
            have hA1 := hLd.setLeft hs hll.out.1 (-x)
            rw [HLS.out, show ls + -x = ls - x from by omega] at hA1
            have k3' := hA1.c3
            have c2 := hA1.rl.cell hel
            have f2 := hA1.rl.frozen e0
            have hval : (addAt lf s (-x)).getD e0 0 = le := by rw [addAt_at _ _ _ _ (by rw [hll.out.1]; exact hs), if_neg (fun h => hse h.symm)]; exact HLE.out
            rw [hval] at c2
            have hA2 := hA1.setLeft hel (by rw [addAt_len]; exact hll.out.1) x
            rw [hval] at hA2
            have HA2 := hide hA2
            have HS := hide (HV.out.send hn HW.out.ok HW.out.here (by omega) (by omega) hx0 (by rw [HLS.out]; exact hx1) (by rw [HLE.out]; exact hx2) hm.out)
            have hBf : Below wz.heap.size wz ((wr.setCell ⟨vb, s, none⟩ (.int .i64 (ls - x))).setCell ⟨vb, e0, none⟩ (.int .i64 (le + x))) := (hB2.setCell (p := ⟨vb, s, none⟩) hzl.2 _).setCell (p := ⟨vb, e0, none⟩) hzl.2 _
            clear hLd hA1 hA2 hval hL2 hO2 hB2
            go_wp2
            go_ret
            exact ⟨x, _, _, rfl, hx0, HS.out, HA2.out, hBf⟩
end Go.Proofs.Ytojiemadoogjlaa
