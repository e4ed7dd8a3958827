import Derived.Test.YtojiemadoogjlaaSomJ
namespace Go.Proofs.Ytojiemadoogjlaa
open Go.RowKit Go.Deep
set_option linter.unusedSimpArgs false
set_option linter.unusedVariables false

theorem ownsRow_mono {w : World} {base base' : Nat} {e : TypeId} {size : Nat} {v : Value} {n : Nat} {xs : List Value} (h : w.ownsRow base e size v n xs) (hb : base' ≤ base) : w.ownsRow base' e size v n xs :=
  ⟨h.1, h.2.imp id fun ⟨g, cap, cur, a, b, r⟩ => ⟨g, cap, cur, a, by omega, r⟩⟩
theorem OwnL.mono {w : World} {base base' : Nat} {v : Value} {l : List Int} (h : OwnL w base v l) (hb : base' ≤ base) : OwnL w base' v l := by
  obtain ⟨oa, oc, e, ho⟩ := h
  exact ⟨oa, oc, e, ownsRow_mono ho hb⟩

/-- What 'settle' leaves. -/
def Settled (xs : List Int) (es : List A5) (lb fb vb : Nat) (sa : Option Addr) (sn sc : Nat) (aa : Option Addr) (an ac : Nat) (k0 : Nat) (v : Value) (w' : World) : Prop :=
  ∃ fl' lf', Load w' lb fb vb sa sn sc aa an ac fl' lf' ∧ fl'.length = es.length ∧ ((v = .slice none 0 0 ∧ Fits xs es fl') ∨ ∃ cut, OwnL w' k0 v cut ∧ 0 < cut.length ∧ cut.length ≤ 10 ∧ risB cut xs.length = true ∧ violB xs es cut = true)

set_option maxHeartbeats 2000000 in
theorem rSettle_any (lb fb vb : Nat) (sa aa : Option Addr) (sn sc an ac : Nat) (xs fl lf : List Int) (es : List A5) (wz w : World)
    (hn : NetOK xs es) (hxn : xs.length = sn) (hs0 : sumTo (fun v => xs.getD v 0) xs.length = 0) (hV : LInv xs es fl lf (posTo lf sn)) (hL : Load w lb fb vb sa sn sc aa an ac fl lf) (hzl : wz.heap.size ≤ lb ∧ wz.heap.size ≤ fb ∧ wz.heap.size ≤ vb) (hA0 : Arcs wz aa an es) (hB0 : Below wz.heap.size wz w) :
    Calls Try.prog 42 #[.pointer (some ⟨lb, 0, none⟩)] w fun e w' => ∃ v, e = .returned v ∧ Settled xs es lb fb vb sa sn sc aa an ac wz.heap.size v w' ∧ Below wz.heap.size wz w' := by
  have h10 : sn ≤ 10 := by rw [← hxn]; exact hn.ten
  have HA := hide hA0
  have HS0 := hide hs0
  have cU : n0 (Calls Try.prog 54 #[.pointer (some ⟨lb, 0, none⟩)] w fun e w' => e = .returned (.int .i64 (posTo lf sn)) ∧ w' = w) :=
    rUnsent_any lb fb vb sa aa sn sc an ac fl lf w hL h10 (fun v hv => hV.left_bd hn v (by omega))
  have HV := hide hV
  have HL := hide hL
  have HXN := hide hxn
  clear hV hL hA0 hs0 hxn
  go_enter Try.func42, Try.ntmps42
  go_wp2_with fail
  refine Calls.mono cU.out ?_
  rintro e w1 ⟨rfl, rfl⟩
  clear cU
  go_wp2
  go_loopw [3, 4, 5, 6, 7] (fun tg r en fo se wr => ∃ (fl lf : List Int) (t : Int), tg = .int .i64 t ∧ Hid (LInv xs es fl lf t) ∧ Hid (Load wr lb fb vb sa sn sc aa an ac fl lf) ∧ Below wz.heap.size wz wr) (fun tg _ _ _ _ _ => (intOf tg).toNat)
  case atStart => exact ⟨fl, lf, _, rfl, HV.out, HL.out, hB0⟩
  case round =>
    clear HV HL hB0
    obtain ⟨fl, lf, t, rfl, hV, hL, hB⟩ := hrel
    have ht0 : 0 ≤ t := by rw [hV.out.go]; exact pos_nonneg _ _
    have ht1 : t ≤ 300000000 := by
      have h1 := pos_le lf xs.length 24000100 (by omega) (fun v hv => (hV.out.left_bd hn v hv).2)
      have h2 := hn.ten
      have h3 := hV.out.go
      omega
    by_cases hpos : 0 < t
    · have cR : n0 (Calls Try.prog 55 #[.pointer (some ⟨lb, 0, none⟩)] wr fun e w' => ∃ rb, e = .returned (.pointer (some ⟨rb, 0, none⟩)) ∧ Below wr.heap.size wr w' ∧ Found es fl lf wr.heap.size sn rb w') :=
        rReached_any lb fb vb sa aa sn sc an ac xs fl lf es wz wr hn HXN.out hL.out HA.out hB (hV.out.mild hn) (fun s hs => (hV.out.room hn s hs).1)
      go_wp2_with fail
      refine Calls.mono cR.out ?_
      rintro e w2 ⟨rb, rfl, hb2, G, sb, tb, ab, oa, oc, seen, start, order, last, pos, hR, hI, hst, hsh⟩
      clear cR
      have hL2 := hL.out.grow hb2
      have hB2 : Below wz.heap.size wz w2 := hB.trans (hb2.mono hB.size)
      have cW := rWanting_any wr.heap.size G rb sb tb ab oa oc seen start order last pos lb fb vb sa aa sn sc an ac fl lf es w2 hL2 hR hI h10
      have CW : n0 (Calls Try.prog 56 #[.pointer (some ⟨lb, 0, none⟩), .pointer (some ⟨rb, 0, none⟩)] w2 fun e w' => w' = w2 ∧
        ((∃ v : Nat, v < sn ∧ seen v = true ∧ lf.getD v 0 < 0 ∧ e = .returned (.tuple #[.int .i64 v, .bool true])) ∨ (e = .returned (.tuple #[.int .i64 0, .bool false]) ∧ ∀ v, v < sn → seen v = true → 0 ≤ lf.getD v 0))) := cW
      have HR := hide hR
      have HI := hide hI
      have HST := hide hst
      have HSH := hide hsh
      have HL2 := hide hL2
      clear cW hR hI hst hsh hL2
      go_wp2_with fail
      refine Calls.mono CW.out ?_
      rintro e w3 ⟨rfl, hw⟩
      clear CW
      rcases hw with ⟨v, hv, hsv, hneg, rfl⟩ | ⟨rfl, hnn⟩
      · have cS : n0 (Calls Try.prog 58 #[.pointer (some ⟨lb, 0, none⟩), .pointer (some ⟨rb, 0, none⟩), .int .i64 v] w3 fun e w' => ∃ (x : Int) (fl' lf' : List Int), e = .returned (.int .i64 x) ∧ 0 < x ∧ LInv xs es fl' lf' (t - x) ∧ Load w' lb fb vb sa sn sc aa an ac fl' lf' ∧ Below wz.heap.size wz w') :=
          rSend_any wr.heap.size G rb sb tb ab oa oc seen start order last pos lb fb vb sa aa sn sc an ac xs fl lf es t v wz w3 hn HXN.out hV.out HL2.out hzl.2 HA.out hB2 HR.out HI.out hv hsv hneg
        clear hneg hsv
        go_wp2_with fail
        refine Calls.mono cS.out ?_
        rintro e w4 ⟨x, fl', lf', rfl, hx, hV', hL', hB'⟩
        clear cS
        have ht2 : 0 ≤ t - x := by rw [hV'.go]; exact pos_nonneg _ _
        have HV' := hide hV'
        have HL' := hide hL'
        clear hV' hL'
        go_wp2
        go_roundw
        case rel => exact ⟨fl', lf', t - x, by go_num, HV'.out, HL'.out, hB'⟩
        case measure => simp [intOf]; omega
      · have cN : n0 (Calls Try.prog 57 #[.pointer (some ⟨rb, 0, none⟩)] w3 fun e w' => ∃ v, e = .returned v ∧ OwnL w' w3.heap.size v (seenTo seen sn) ∧ Below w3.heap.size w3 w') :=
          rNodes_any wr.heap.size G rb sb tb ab sn oa oc seen start order last w3 HR.out h10
        have hcut := hV.out.cut hn hpos seen (fun u hu hp => (HI.out.st1 u (by rw [← HXN.out]; exact hu) (HST.out u (by rw [← HXN.out]; exact hu) hp)).1) (fun u hu hs => hnn u (by rw [← HXN.out]; exact hu) hs) (fun s hs h1 h2 => by
          have hen := hn.ends s.arc hs
          have hsr : 0 ≤ s.src es ∧ s.src es < xs.length := by unfold St.src; split <;> omega
          have hsh := HSH.out (s.src es).toNat (by rw [← HXN.out]; omega) h1 s hs (by omega)
          rcases hsh with h3 | h3
          · rw [h2] at h3; cases h3
          · exact h3)
        rw [HXN.out] at hcut
        have HC := hide hcut
        clear hcut hnn
        go_wp2_with fail
        refine Calls.mono cN.out ?_
        rintro e w4 ⟨v, rfl, hO, hb4⟩
        clear cN
        go_wp2
        go_ret
        have hlen := seen_len seen sn
        refine ⟨v, rfl, ⟨fl, lf, HL2.out.grow hb4, hV.out.len, .inr ⟨seenTo seen sn, hO.mono (Nat.le_trans hB2.size (Nat.le_refl _)), HC.out.1, by omega, by rw [HXN.out]; exact HC.out.2.1, HC.out.2.2⟩⟩, hB2.trans (hb4.mono hB2.size)⟩
    · have HT := hide hpos
      have htf : decide (0 < t) = false := decide_eq_false hpos
      go_wp2
      all_goals first
        | (exfalso; omega)
        | (go_ret
           exact ⟨_, rfl, ⟨fl, lf, hL.out, hV.out.len, .inl ⟨rfl, hV.out.done hn HS0.out (by have := HT.out; omega)⟩⟩, hB⟩)
end Go.Proofs.Ytojiemadoogjlaa
