import Derived.Test.YtampcheafdlomaaRtD
import Derived.Test.YtampcheafdlomaaRtN
namespace Go.Proofs.Ytampcheafdlomaa
open Go.RowKit Go.Deep
set_option linter.unusedSimpArgs false
set_option linter.unusedVariables false

theorem LInv.room {xs : List Int} {es : List A5} (hn : NetOK xs es) {fl lf : List Int} {t : Int} (h : LInv xs es fl lf t) (s : St) (hs : s.arc < es.length) : 0 ≤ roomOf es fl s ∧ roomOf es fl s ≤ 1000000 := by
  have h1 := h.bd s.arc hs
  have h2 := arcB_out (hn.arc s.arc hs)
  have h3 := h.mild hn s.arc hs
  have h4 : 0 ≤ t := by rw [h.go]; exact pos_nonneg _ _
  unfold roomOf
  split
  · omega
  · split <;> omega
/-- All along a way that is taken the numbers stay small. -/
theorem take_mild {xs : List Int} {es : List A5} (hn : NetOK xs es) {fl lf : List Int} {t : Int} (h : LInv xs es fl lf t) {way : List St} {e : Int} (hw : WayOK es fl way e) {x : Int} (hx : 0 ≤ x) (hr : ∀ j, j < way.length → x ≤ roomOf es fl (way.getD j zS)) (k : Nat) (hk : k ≤ way.length) : Mild (takeTo fl way x k) es.length := by
  intro i hi
  have hm := h.mild hn i hi
  by_cases hon : ∃ j, j < k ∧ (way.getD j zS).arc = i
  · obtain ⟨j, hj, rfl⟩ := hon
    rw [take_on hw h.len x j k hk hj]
    have h1 := hr j (by omega)
    have h2 := arcB_out (hn.arc _ hi)
    unfold roomOf at h1
    unfold stD
    by_cases hb : (way.getD j zS).back = true
    · rw [if_pos hb] at h1 ⊢; omega
    · rw [if_neg hb] at h1 ⊢
      split at h1 <;> omega
  · rw [take_off hw h.len x i k hk (fun j hj he => hon ⟨j, hj, he⟩)]
    exact hm

set_option maxRecDepth 100000 in
set_option maxHeartbeats 4000000 in
theorem rSend_any (K rb sb cb ab : Nat) (seen : Nat → Bool) (cost : Nat → Int) (last : Nat → St) (nw : Int) (T R : Nat → Nat) (c r : Nat) (done : St → Prop) (lb fb vb : Nat) (sa aa : Option Addr) (sn sc an ac : Nat) (xs fl : List Int) (es : List A5) (t : Int) (p : Nat → Int) (e0 : Nat) (wz w : World)
    (hn : NetOK xs es) (hxn : xs.length = sn) (hV : LInv xs es fl (leftOf xs es fl) t) (hL : Load w lb fb vb sa sn sc aa an ac fl (leftOf xs es fl)) (hzl : wz.heap.size ≤ fb ∧ wz.heap.size ≤ vb) (hA0 : Arcs wz aa an es) (hB0 : Below wz.heap.size wz w) (hp : Pot es fl p)
    (hW : Ways w K rb sb cb ab sn seen cost last nw) (hI : WInv es fl sn (readyF (leftOf xs es fl)) seen cost last T R c r done) (hcl : ∀ s : St, s.arc < es.length → 0 < roomOf es fl s → seen (s.srcN es) = true → s.srcN es < sn → Sat es seen cost s) (hel : e0 < sn) (hes : seen e0 = true) (hneg : (leftOf xs es fl).getD e0 0 < 0) :
    Calls Try.prog 76 #[.pointer (some ⟨lb, 0, none⟩), .pointer (some ⟨rb, 0, none⟩), .int .i64 e0] w fun e w' => ∃ (x : Int) (fl' : List Int), e = .returned (.int .i64 x) ∧ 0 < x ∧ LInv xs es fl' (leftOf xs es fl') (t - x) ∧ (∃ p', Pot es fl' p') ∧ Load w' lb fb vb sa sn sc aa an ac fl' (leftOf xs es fl') ∧ Below wz.heap.size wz w' := by
  have HL := hide hL
  have HA := hide hA0
  have HV := hide hV
  have hal : Hid (es.length = an) := hA0.len
  have hfbw := hL.flt
  have hlbw := hL.lt
  have hll : Hid (fl.length = an) := by show _ = _; rw [hV.len]; exact hA0.len
  have cW : n0 (Calls Try.prog 88 #[.pointer (some ⟨lb, 0, none⟩), .pointer (some ⟨rb, 0, none⟩), .int .i64 e0] w fun e w' => ∃ (k : Nat) (v : Value), e = .returned (.tuple #[.int .i64 (bk es last e0 k : Int), v]) ∧ k < sn ∧ 0 < (leftOf xs es fl).getD (bk es last e0 k) 0 ∧ (∀ j, j < k → T (bk es last e0 j) ≠ 0) ∧ OwnS w' w.heap.size v (wayL es last e0 k) ∧ Below w.heap.size w w') :=
    rWayTo_any K rb sb cb ab seen cost last nw T R c r done lb fb vb sa aa sn sc an ac xs fl (leftOf xs es fl) es p e0 w hn hxn hL (hA0.below hB0) hp hW hI hel hes
  have HWY : Hid (∀ k, (∀ j, j < k → T (bk es last e0 j) ≠ 0) → bk es last e0 k < sn ∧ WayOK es fl (wayL es last e0 k) (e0 : Int) ∧ atK es (wayL es last e0 k) (e0 : Int) k = (bk es last e0 k : Int) ∧ ∀ x : Int, ∃ p', Pot es (takeTo fl (wayL es last e0 k) x (wayL es last e0 k).length) p') := by
    intro k hk
    obtain ⟨h1, h2⟩ := hI.wayOK hn hxn hp hel k hk
    refine ⟨hI.bk_lt hel k hk k (Nat.le_refl _), h1, h2, fun x => ?_⟩
    refine pot_send hn hV.len hp (seen := seen) (cost := cost) (by rw [hxn]; exact hcl) h1 (fun j hj => ?_) x
    rw [wayL_len] at hj
    rw [wayL_at _ _ _ _ hj]
    exact hI.tight hcl (hI.bk_lt hel k hk j (by omega)) (hk j hj)
  clear hL hA0 hW hI hes hV hcl hp
  go_enter Try.func76, Try.ntmps76
  go_wp2_with fail
  refine Calls.mono cW.out ?_
  rintro e w1 ⟨kw, v, rfl, hkw, hpos, hT, hO, hb1⟩
  clear cW
  obtain ⟨hs, hWay, hAt, hPot⟩ := HWY.out kw hT
  clear HWY hT
  have hwlen : (wayL es last e0 kw).length = kw := wayL_len _ _ _ _
  have hwl : kw ≤ 10 := by have := hn.ten; omega
  obtain ⟨s, hsb⟩ : ∃ s, bk es last e0 kw = s := ⟨_, rfl⟩
  rw [hsb] at hs hAt hpos ⊢
  obtain ⟨way, hway⟩ : ∃ way, wayL es last e0 kw = way := ⟨_, rfl⟩
  rw [hway] at hO hWay hAt hPot hwlen
  have HPOT := hide hPot
  clear hsb hway hPot
  have hL1 := HL.out.grow hb1
  have k3 := hL1.c3
  have cs := hL1.rl.cell hs
  have ce := hL1.rl.cell hel
  have hbs := HV.out.left_bd hn s (by omega)
  have hbe := HV.out.left_bd hn e0 (by omega)
  have HW := hide hWay
  have HAT := hide hAt
  have hse : s ≠ e0 := by intro h; subst h; omega
  have hB1 : Below wz.heap.size wz w1 := hB0.trans (hb1.mono hB0.size)
  have HO := hide hO
  have HL1 := hide hL1
  have hs2 : (s : Int) < (sn : Int) := by omega
  have he2 : (e0 : Int) < (sn : Int) := by omega
  obtain ⟨wa, wc, rfl, _⟩ := hO
  clear hL1 hWay hAt HL
  generalize hls : (leftOf xs es fl).getD s 0 = ls at cs hpos hbs
  generalize hle : (leftOf xs es fl).getD e0 0 = le at ce hneg hbe
  have HLS := hide hls
  have HLE := hide hle
  clear hls hle
  obtain ⟨b1, b2⟩ := hbs
  obtain ⟨b3, b4⟩ := hbe
  subst hwlen
  by_cases hc : -le < ls
  all_goals
    go_wp2
    go_loopw [9, 11, 12, 49] (fun am p r i wr => ∃ (k : Nat) (x : Int), k ≤ way.length ∧ i = .int .i64 k ∧ am = .int .i64 x ∧ 0 < x ∧ x ≤ ls ∧ x ≤ -le ∧ Hid (∀ j, j < k → x ≤ roomOf es fl (way.getD j zS)) ∧ Below w1.heap.size w1 wr) (fun _ _ _ i _ => way.length - (intOf i).toNat)
    case atStart => exact ⟨0, _, Nat.zero_le _, rfl, rfl, by omega, by omega, by omega, fun j hj => by omega, Below.refl _ _⟩
    case round =>
      clear k3 cs ce
      obtain ⟨k, x, hk, rfl, rfl, hx0, hx1, hx2, hm, hb⟩ := hrel
      by_cases hlt : k < way.length
      · have hO1 := HO.out.kept (grown_of_below hb none) (fun k h => by cases h)
        obtain ⟨wb, wcc, e, hwb, hwlt, c0, c1⟩ := hO1.get hlt
        cases e
        obtain ⟨⟨ar, bk⟩, hstp⟩ : ∃ s, way.getD k zS = s := ⟨_, rfl⟩
        have har := HW.out.inr k hlt
        have hrp := HW.out.room k hlt
        rw [hstp] at c0 c1 har hrp
        simp only [] at c0 c1 har
        have hr1 := (HV.out.room hn ⟨ar, bk⟩ har).2
        have hok := hn.arc ar har
        have hfa := HV.out.mild hn ar har
        rw [hal.out] at har
        have HST := hide hstp
        obtain ⟨r, hr⟩ : ∃ r, roomOf es fl ⟨ar, bk⟩ = r := ⟨_, rfl⟩
        rw [hr] at hrp hr1
        have cR : n0 (∀ w0, Load w0 lb fb vb sa sn sc aa an ac fl (leftOf xs es fl) → Arcs w0 aa an es → Calls Try.prog 89 #[.pointer (some ⟨lb, 0, none⟩), .agg #[.int .i64 ar, .bool bk]] w0 fun e w' => e = .returned (.int .i64 r) ∧ Below w0.heap.size w0 w') :=
          fun w0 h1 h2 => by rw [← hr]; exact rRoom_any lb fb vb sa aa sn sc an ac fl (leftOf xs es fl) es ar bk _ w0 h1 h2 har hok hfa
        have HRR := hide hr
        clear hstp hr hO1 hok hfa
        have hlt3 : (k : Int) < (way.length : Int) := by omega
        have hba : Below w1.heap.size w1 (wr.alloc (.cells #[.int .i64 ar, .bool bk] 86)) := hb.alloc hb.size _
        have hLa := HL1.out.grow hba
        have hAa := HA.out.below (hB1.trans (hba.mono hB1.size))
        go_wp2_with fail
        refine (cR.out _ hLa hAa).mono ?_
        rintro e w2 ⟨rfl, hb2⟩
        have hb3 : Below w1.heap.size w1 w2 := hba.trans (hb2.mono hba.size)
        clear cR c0 c1 hLa hAa hba hb2 hwb hwlt
        by_cases hrx : r < x
        · go_wp2
          go_roundw
          case rel =>
            refine ⟨k + 1, r, by omega, by go_num, rfl, by omega, by omega, by omega, ?_, hb3⟩
            intro j hj
            by_cases ej : j = k
            · subst ej; rw [HST.out, HRR.out]; omega
            · have := hm.out j (by omega); omega
          case measure => simp [intOf]; omega
        · have hrf : decide (r < x) = false := decide_eq_false hrx
          go_wp2
          all_goals first
            | (exfalso; omega)
            | (go_roundw
               case rel =>
                 refine ⟨k + 1, x, by omega, by go_num, rfl, by omega, by omega, by omega, ?_, hb3⟩
                 intro j hj
                 by_cases ej : j = k
                 · subst ej; rw [HST.out, HRR.out]; omega
                 · exact hm.out j (by omega)
               case measure => simp [intOf]; omega)
      · have hkn : k = way.length := by omega
        subst hkn
        have hL2 := hide (HL1.out.grow hb)
        have hO2 := hide (HO.out.kept (grown_of_below hb none) (fun k h => by cases h))
        have hB2 : Below wz.heap.size wz wr := hB1.trans (hb.mono hB1.size)
        clear hb hlt
        go_wp2
        go_loopw [14, 63] (fun p i wr => ∃ (k : Nat), k ≤ way.length ∧ i = .int .i64 k ∧ Hid (Load wr lb fb vb sa sn sc aa an ac (takeTo fl way x k) (leftOf xs es (takeTo fl way x k))) ∧ Hid (OwnS wr w.heap.size (.slice wa way.length wc) way) ∧ Below wz.heap.size wz wr) (fun _ i _ => way.length - (intOf i).toNat)
        case atStart => exact ⟨0, Nat.zero_le _, rfl, hL2.out, hO2.out, hB2⟩
        case round =>
          clear hL2 hO2 hB2
          obtain ⟨k, hk, rfl, hL2, hO2, hB2⟩ := hrel
          by_cases hlt : k < way.length
          · obtain ⟨wb, wcc, e, hwb, hwlt, c0, c1⟩ := hO2.out.get hlt
            cases e
            obtain ⟨⟨ar, bk⟩, hstp⟩ : ∃ s, way.getD k zS = s := ⟨_, rfl⟩
            have har := HW.out.inr k hlt
            have hxr := hm.out k hlt
            rw [hstp] at c0 c1 har hxr
            simp only [] at c0 c1 har
            have hr1 := (HV.out.room hn ⟨ar, bk⟩ har).2
            have hmild := take_mild hn HV.out HW.out (show 0 ≤ x by omega) hm.out k hk
            rw [hal.out] at har
            have hnx : Hid (takeTo fl way x (k + 1) = addAt (takeTo fl way x k) ar (stD ⟨ar, bk⟩ x)) := by show takeTo fl way x (k + 1) = _; simp only [takeTo, hstp]
            clear hstp
            have hlt3 : (k : Int) < (way.length : Int) := by omega
            have hb0 := Joins.below_alloc1 wr (.cells #[.int .i64 ar, .bool bk] 86)
            have hLa := hL2.out.grow hb0
            have hAa := HA.out.below (hB2.trans (hb0.mono hB2.size))
            have cT : n0 (Calls Try.prog 71 #[.pointer (some ⟨lb, 0, none⟩), .agg #[.int .i64 ar, .bool bk], .int .i64 x] (wr.alloc (.cells #[.int .i64 ar, .bool bk] 86)) fun e w' => e = .returned (.tuple #[]) ∧ Load w' lb fb vb sa sn sc aa an ac (addAt (takeTo fl way x k) ar (stD ⟨ar, bk⟩ x)) (leftOf xs es (addAt (takeTo fl way x k) ar (stD ⟨ar, bk⟩ x))) ∧ ∃ w1' w2, Below (wr.alloc (.cells #[.int .i64 ar, .bool bk] 86)).heap.size (wr.alloc (.cells #[.int .i64 ar, .bool bk] 86)) w1' ∧ w1'.grownBy w2 (some vb) ∧ w2.grownBy w' (some fb)) :=
              rTake_any lb fb vb sa aa sn sc an ac xs (takeTo fl way x k) es ar bk x _ hn hxn hLa hAa (by rw [take_len]; exact hll.out) har hmild (by omega)
            go_wp2_with fail
            refine Calls.mono cT.out ?_
            rintro e w4 ⟨rfl, hL3, w2, w3, hg1, hg2, hg3⟩
            have hO3 := hide (((hO2.out.kept (grown_of_below hb0 none) (fun k h => by cases h)).kept (grown_of_below hg1 none) (fun k h => by cases h)).kept hg2 (fun k h => by cases h; exact hfbw.2))
            have hO4 := hide (hO3.out.kept hg3 (fun k h => by cases h; exact hfbw.1))
            have hBx : Below wz.heap.size wz w2 := (hB2.trans (hb0.mono hB2.size)).trans (hg1.mono (Nat.le_trans hB2.size hb0.size))
            have hB3 : Below wz.heap.size wz w4 := (hBx.grown hg2 hBx.size (fun k h => by cases h; exact hzl.2)).grown hg3 (Nat.le_trans hBx.size hg2.size) (fun k h => by cases h; exact hzl.1)
            rw [← hnx.out] at hL3
            have HL3 := hide hL3
            clear c0 c1 hLa hL3 hg1 hg2 hg3 hwb hwlt cT hAa hmild hb0 hO3
            go_wp2
            go_roundw
            case rel => exact ⟨k + 1, by omega, by go_num, HL3.out, hO4.out, hB3⟩
            case measure => simp [intOf]; omega
          · have hkn : k = way.length := by omega
            subst hkn
            have HS0 := HV.out.send hn HW.out HAT.out (by omega) (by omega) hx0 (by rw [HLS.out]; exact hx1) (by rw [HLE.out]; exact hx2) hm.out
            have hlf := HS0.lf_eq
            rw [hlf] at HS0
            have HS := hide HS0
            clear HS0 hlf hO2
            go_wp2
            go_ret
            exact ⟨x, _, rfl, hx0, HS.out, HPOT.out x, hL2.out, hB2⟩
end Go.Proofs.Ytampcheafdlomaa
