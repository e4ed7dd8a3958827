import Derived.Test.YtampcheafdlomaaRtE
namespace Go.Proofs.Ytampcheafdlomaa
open Go.RowKit Go.Deep
set_option linter.unusedSimpArgs false
set_option linter.unusedVariables false

/-- What 'settle' leaves. -/
def Settled (xs : List Int) (es : List A5) (lb fb vb : Nat) (sa : Option Addr) (sn sc : Nat) (aa : Option Addr) (an ac : Nat) (k0 : Nat) (v : Value) (w' : World) : Prop :=
  ∃ fl', Load w' lb fb vb sa sn sc aa an ac fl' (leftOf xs es fl') ∧ fl'.length = es.length ∧ ((v = .slice none 0 0 ∧ Fits xs es fl' ∧ (∃ t, LInv xs es fl' (leftOf xs es fl') t) ∧ ∃ p, Pot es fl' p) ∨ ∃ cut, OwnL w' k0 v cut ∧ 0 < cut.length ∧ cut.length ≤ 10 ∧ risB cut xs.length = true ∧ violB xs es cut = true)

set_option maxHeartbeats 2000000 in
theorem rSettle_any (lb fb vb : Nat) (sa aa : Option Addr) (sn sc an ac : Nat) (xs fl : List Int) (es : List A5) (wz w : World)
    (hn : NetOK xs es) (hxn : xs.length = sn) (hs0 : sumTo (fun v => xs.getD v 0) xs.length = 0) (hV : LInv xs es fl (leftOf xs es fl) (posTo (leftOf xs es fl) sn)) (hP : ∃ p, Pot es fl p) (hL : Load w lb fb vb sa sn sc aa an ac fl (leftOf xs es fl)) (hzl : wz.heap.size ≤ lb ∧ wz.heap.size ≤ fb ∧ wz.heap.size ≤ vb) (hA0 : Arcs wz aa an es) (hB0 : Below wz.heap.size wz w) :
    Calls Try.prog 54 #[.pointer (some ⟨lb, 0, none⟩)] w fun e w' => ∃ v, e = .returned v ∧ Settled xs es lb fb vb sa sn sc aa an ac wz.heap.size v w' ∧ Below wz.heap.size wz w' := by
  have h10 : sn ≤ 10 := by rw [← hxn]; exact hn.ten
  have HA := hide hA0
  have HS0 := hide hs0
  have cU : n0 (Calls Try.prog 72 #[.pointer (some ⟨lb, 0, none⟩)] w fun e w' => e = .returned (.int .i64 (posTo (leftOf xs es fl) sn)) ∧ w' = w) :=
    rUnsent_any lb fb vb sa aa sn sc an ac fl (leftOf xs es fl) w hL h10 (fun v hv => hV.left_bd hn v (by omega))
  have HV := hide hV
  have HL := hide hL
  have HP := hide hP
  have HXN := hide hxn
  clear hV hL hA0 hs0 hxn hP
  go_enter Try.func54, Try.ntmps54
  go_wp2_with fail
  refine Calls.mono cU.out ?_
  rintro e w1 ⟨rfl, rfl⟩
  clear cU
  go_wp2
  go_loopw [3, 4, 5, 6, 7, 8] (fun tg re ws en fo se wr => ∃ (fl : List Int) (t : Int), tg = .int .i64 t ∧ Hid (LInv xs es fl (leftOf xs es fl) t) ∧ Hid (∃ p, Pot es fl p) ∧ Hid (Load wr lb fb vb sa sn sc aa an ac fl (leftOf xs es fl)) ∧ Below wz.heap.size wz wr) (fun tg _ _ _ _ _ _ => (intOf tg).toNat)
  case atStart => exact ⟨fl, _, rfl, HV.out, HP.out, HL.out, hB0⟩
  case round =>
    clear HV HL hB0 HP
    obtain ⟨fl, t, rfl, hV, hP, hL, hB⟩ := hrel
    have ht0 : 0 ≤ t := by rw [hV.out.go]; exact pos_nonneg _ _
    have ht1 : t ≤ 300000000 := by
      have h1 := pos_le (leftOf xs es fl) xs.length 24000100 (by omega) (fun v hv => (hV.out.left_bd hn v hv).2)
      have h2 := hn.ten
      have h3 := hV.out.go
      omega
    by_cases hpos : 0 < t
    · have cR : n0 (Calls Try.prog 73 #[.pointer (some ⟨lb, 0, none⟩)] wr fun e w' => ∃ tb, e = .returned (.slice (some ⟨tb, 0, none⟩) sn sn) ∧ w'.rowIs tb 4 sn (fun i => .bool (readyF (leftOf xs es fl) i)) ∧ wr.heap.size ≤ tb ∧ Below wr.heap.size wr w') :=
        rReady_any lb fb vb sa aa sn sc an ac fl (leftOf xs es fl) wr hL.out h10
      go_wp2_with fail
      refine Calls.mono cR.out ?_
      rintro e w2 ⟨tb, rfl, hTb, -, hb2⟩
      clear cR
      have hL2 := hL.out.grow hb2
      have hB2 : Below wz.heap.size wz w2 := hB.trans (hb2.mono hB.size)
      have cC : n0 (Calls Try.prog 57 #[.pointer (some ⟨lb, 0, none⟩), .slice (some ⟨tb, 0, none⟩) sn sn] w2 fun e w' => ∃ rb, e = .returned (.pointer (some ⟨rb, 0, none⟩)) ∧ Below w2.heap.size w2 w' ∧ Cheap es fl sn (readyF (leftOf xs es fl)) w2.heap.size rb w') :=
        rCheapest_any lb fb vb sa aa sn sc an ac xs fl (leftOf xs es fl) es (readyF (leftOf xs es fl)) tb wz w2 hn HXN.out hL2 HA.out hB2 (hV.out.mild hn) (fun s hs => (hV.out.room hn s hs).1) hTb
      have HL2 := hide hL2
      clear hTb hL2 hL
      go_wp2_with fail
      refine Calls.mono cC.out ?_
      rintro e w3 ⟨rb, rfl, hb3, sb, cb, ab, seen, cost, last, T, R, c, nw, hW, hI, hN, hc⟩
      clear cC
      have hL3 := HL2.out.grow hb3
      have hB3 : Below wz.heap.size wz w3 := hB2.trans (hb3.mono hB2.size)
      obtain ⟨p, hp⟩ := hP.out
      have hcl := hI.closed hN (hI.none_new hN hp)
      have HL3 := hide hL3
      have HW := hide hW
      have HI := hide hI
      have HPP := hide hp
      have HCL := hide hcl
      have cWn : n0 (Calls Try.prog 74 #[.pointer (some ⟨lb, 0, none⟩), .pointer (some ⟨rb, 0, none⟩)] w3 fun e w' => w' = w3 ∧
        ((∃ v : Nat, v < sn ∧ seen v = true ∧ (leftOf xs es fl).getD v 0 < 0 ∧ e = .returned (.tuple #[.int .i64 v, .bool true])) ∨ (e = .returned (.tuple #[.int .i64 0, .bool false]) ∧ ∀ v, v < sn → seen v = true → 0 ≤ (leftOf xs es fl).getD v 0))) :=
        rWanting_any w2.heap.size rb sb cb ab seen cost last nw lb fb vb sa aa sn sc an ac fl (leftOf xs es fl) w3 hL3 hW h10
      clear hL3 hW hI hp hcl HL2 hb2 hb3 hB2 hB hP hN
      go_wp2_with fail
      refine Calls.mono cWn.out ?_
      rintro e w4 ⟨rfl, h⟩
      clear cWn
      rcases h with ⟨v, hv, hsv, hlv, rfl⟩ | ⟨rfl, hnn⟩
      · have cS : n0 (Calls Try.prog 76 #[.pointer (some ⟨lb, 0, none⟩), .pointer (some ⟨rb, 0, none⟩), .int .i64 v] w4 fun e w' => ∃ (x : Int) (fl' : List Int), e = .returned (.int .i64 x) ∧ 0 < x ∧ LInv xs es fl' (leftOf xs es fl') (t - x) ∧ (∃ p', Pot es fl' p') ∧ Load w' lb fb vb sa sn sc aa an ac fl' (leftOf xs es fl') ∧ Below wz.heap.size wz w') :=
          rSend_any w2.heap.size rb sb cb ab seen cost last nw T R c (sn + 1) (fun _ => False) lb fb vb sa aa sn sc an ac xs fl es t p v wz w4 hn HXN.out hV.out HL3.out hzl.2 HA.out hB3 HPP.out HW.out HI.out HCL.out hv hsv hlv
        clear HW HI HPP HCL HL3 hsv hlv
        go_wp2_with fail
        refine Calls.mono cS.out ?_
        rintro e w5 ⟨x, fl', rfl, hx, hV', hP', hL', hB'⟩
        clear cS
        have hx2 : x ≤ t := by
          have h1 : 0 ≤ t - x := by rw [hV'.go]; exact pos_nonneg _ _
          omega
        have HV' := hide hV'
        have HL' := hide hL'
        have HP' := hide hP'
        clear hV' hL' hP'
        go_wp2
        go_roundw
        case rel => exact ⟨fl', t - x, rfl, HV'.out, HP'.out, HL'.out, hB'⟩
        case measure => simp [intOf]; omega
      · have hcut := hV.out.cut hn hpos seen (fun v hv hp => HI.out.start v (by rw [← HXN.out]; exact hv) (decide_eq_true hp)) (fun v hv hs => hnn v (by rw [← HXN.out]; exact hv) hs) (fun s hs h1 h2 => by
          have hr := (hV.out.room hn s hs).1
          by_cases h0 : 0 < roomOf es fl s
          · have h3 := (HCL.out s hs h0 h1 (by rw [← HXN.out]; exact (st_ends hn hs).2.2.1)).1
            have h2' : seen (s.dstN es) = false := h2
            rw [h2'] at h3; cases h3
          · omega)
        have HC := hide hcut
        have cN : n0 (Calls Try.prog 75 #[.pointer (some ⟨rb, 0, none⟩)] w4 fun e w' => ∃ v, e = .returned v ∧ OwnL w' w4.heap.size v (seenTo seen sn) ∧ Below w4.heap.size w4 w') :=
          rNodes_any w2.heap.size rb sb cb ab sn seen cost last nw w4 HW.out h10
        clear hcut HW HI HPP HCL hnn
        go_wp2_with fail
        refine Calls.mono cN.out ?_
        rintro e w5 ⟨v, rfl, hO, hb5⟩
        clear cN
        have hlen := seen_len seen sn
        have hB5 : Below wz.heap.size wz w5 := hB3.trans (hb5.mono hB3.size)
        have HFIN : Hid (Settled xs es lb fb vb sa sn sc aa an ac wz.heap.size v w5) := by
          refine ⟨fl, HL3.out.grow hb5, hV.out.len, .inr ⟨seenTo seen sn, hO.mono hB3.size, ?_, by omega, ?_, ?_⟩⟩
          · have := HC.out.1; rw [HXN.out] at this; exact this
          · have := HC.out.2.1; rw [HXN.out] at this ⊢; exact this
          · have := HC.out.2.2; rw [HXN.out] at this; exact this
        clear hO HL3 HC
        go_wp2
        go_ret
        exact ⟨v, rfl, HFIN.out, hB5⟩
    · have ht : t = 0 := by omega
      subst ht
      have HFIN : Hid (Settled xs es lb fb vb sa sn sc aa an ac wz.heap.size (.slice none 0 0) wr) := ⟨fl, hL.out, hV.out.len, .inl ⟨rfl, hV.out.done hn HS0.out (Int.le_refl _), ⟨_, hV.out⟩, hP.out⟩⟩
      clear hL
      go_wp2
      go_ret
      exact ⟨_, rfl, HFIN.out, hB⟩
end Go.Proofs.Ytampcheafdlomaa
