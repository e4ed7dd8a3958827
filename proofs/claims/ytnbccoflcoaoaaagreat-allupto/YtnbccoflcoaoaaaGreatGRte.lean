import Derived.Test.YtnbccoflcoaoaaaGreatGRtd
import Derived.Test.YtnbccoflcoaoaaaGreatGRta
import Derived.Test.YtnbccoflcoaoaaaGreatGRtb
import Derived.Test.YtnbccoflcoaoaaaGreatGBas
import Derived.Test.YtnbccoflcoaoaaaGreatGSol
import Derived.Test.YtnbccoflcoaoaaaGreatGFlo
namespace Go.Proofs.YtnbccoflcoaoaaaGreat
open Go.RowKit Go.Deep
set_option linter.unusedSimpArgs false
set_option linter.unusedVariables false

theorem take_snocI (l : List Int) {k : Nat} (hk : k < l.length) : l.take (k + 1) = l.take k ++ [l.getD k 0] := by
  rw [List.take_add_one]
  congr 1
  simp [List.getD, hk]

set_option maxHeartbeats 1000000 in
theorem rTurned_any (v : Value) (base : Nat) (l : List Int) (w : World) (hO : OwnL w base v l) (hl : l.length ≤ 24) (hb : ∀ x ∈ l, -1000000 ≤ x ∧ x ≤ 1000000) :
    Calls Tryz.prog 103 #[v] w fun e w' => ∃ v', e = .returned v' ∧ OwnL w' w.heap.size v' l.reverse ∧ Below w.heap.size w w' := by
  obtain ⟨la, lc, rfl, ho⟩ := hO
  have HI := hide (own_ints ho (by omega) (fun x hx => by have := hb x hx; omega))
  have hrl : l.reverse.length = l.length := List.length_reverse
  clear ho hb
  have hl2 : (l.length : Int) ≤ 24 := by omega
  go_enter Tryz.func103, Tryz.ntmps103
  go_wp2
  go_loopw [3, 4] (fun v i wr => ∃ k : Nat, k ≤ l.length ∧ i = .int .i64 ((l.length : Int) - 1 - k) ∧ Hid (OwnL wr w.heap.size v (l.reverse.take k)) ∧ Below w.heap.size w wr) (fun _ i _ => (intOf i + 1).toNat)
  case atStart => exact ⟨0, Nat.zero_le _, by simp, OwnL.lit w, (Below.refl _ _).alloc (Nat.le_refl _) _⟩
  case round =>
    obtain ⟨k, hk, rfl, hO, hb⟩ := hrel
    obtain ⟨oa, oc, rfl, hown⟩ := hO.out
    have HO := hide hown
    have hsz := hb.size
    have hlen : (l.reverse.take k).length = k := by rw [List.length_take, hrl]; omega
    clear hown
    by_cases hlt : k < l.length
    · obtain ⟨q, hq⟩ : ∃ q : Nat, l.length = q + 1 + k := ⟨l.length - 1 - k, by omega⟩
      have hqq : (l.length : Int) - 1 - k = (q : Int) := by omega
      rw [hqq]
      have hql : q < l.length := by omega
      have hq3 : (q : Int) < (l.length : Int) := by omega
      obtain ⟨b, off, x, rfl, hX, hbb, cx⟩ := (HI.out.below hb).get hql
      have hnx : Hid (l.reverse.take (k + 1) = l.reverse.take k ++ [x]) := by
        show _ = _
        rw [take_snocI _ (by rw [hrl]; exact hlt), rev_at _ hlt, show l.length - 1 - k = q from by omega, hX]
      generalize hLL : l.reverse.take k = L at *
      clear hLL hX
      rw [hlen] at HO ⊢
      have hge : decide ((0 : Int) ≤ (q : Int)) = true := decide_eq_true (by omega)
      have HQ := hide hq
      clear hq hqq
      go_wp2_with (at_builtin; refine wpList_push_int rfl (.tmp 13) (.tmp 18) rfl w.heap.size oa oc L (by rw [hlen]; rfl) ?_ wr.heap.size x 1 rfl ?_ (by omega) ?_ ?_)
      · rw [hlen]; exact HO.out.alloc _
      · go_simp
      · simp; omega
      intro g' c' w2 hown2 hgr
      have hblk := (HO.out.alloc (.cells #[.int .i64 x] 3)).lt
      have hb2 : Below w.heap.size w w2 := (hb.alloc hsz _).grown hgr (by simp; omega) (fun b hb' => (hblk b hb').1)
      go_wp2
      go_roundw
      case rel =>
        refine ⟨k + 1, by omega, ?_, ?_, hb2⟩
        · rw [show (l.length : Int) - 1 - ((k + 1 : Nat) : Int) = (q : Int) - 1 from by have := HQ.out; omega]
        · rw [hnx.out]
          have := OwnL.push (l := L) (y := x) (by rw [hlen]; exact hown2)
          rw [hlen] at this
          exact this
      case measure => simp [intOf]
    · have hkn : k = l.length := by omega
      subst hkn
      rw [show (l.length : Int) - 1 - (l.length : Int) = -1 from by omega]
      have hall : Hid (OwnL wr w.heap.size (.slice oa (l.reverse.take l.length).length oc) l.reverse) := by
        have h := hO.out
        rw [List.take_of_length_le (show l.reverse.length ≤ l.length by rw [hrl]; exact Nat.le_refl _)] at h ⊢
        exact h
      clear hO HO
      go_wp2
      go_ret
      exact ⟨_, rfl, hall.out, hb⟩

/-- What 'circle' answers. -/
def Circled (es : List A5) (last : Nat → St) (n : Nat) (T : Nat → Nat) (nw : Int) (base : Nat) (v : Value) (w' : World) : Prop :=
  (nw = -1 ∧ v = .slice none 0 0) ∨ (nw ≠ -1 ∧ ∃ f m, f = bk es last nw.toNat n ∧ Cyc es last n T f m ∧ OwnL w' base v (backL es last f m).reverse)

set_option maxHeartbeats 4000000 in
theorem rCircle_any (K rb sb cb ab : Nat) (S seen : Nat → Bool) (cost : Nat → Int) (last : Nat → St) (nw : Int) (T R : Nat → Nat) (c : Nat) (done : St → Prop) (lb fb vb : Nat) (sa aa : Option Addr) (sn sc an ac : Nat) (xs fl lf : List Int) (es : List A5) (w : World)
    (hn : NetW xs es) (hxn : xs.length = sn) (hL : Load w lb fb vb sa sn sc aa an ac fl lf) (he : Arcs w aa an es)
    (hW : Ways w K rb sb cb ab sn seen cost last nw) (hI : WInv es fl sn S seen cost last T R c (sn + 1) done) (hN : New sn R sn nw) :
    Calls Tryz.prog 81 #[.pointer (some ⟨lb, 0, none⟩), .pointer (some ⟨rb, 0, none⟩)] w fun e w' => ∃ v, e = .returned v ∧ Circled es last sn T nw w.heap.size v w' ∧ Below w.heap.size w w' := by
  have hal : Hid (es.length = an) := he.len
  have h10 : sn ≤ 16 := by rw [← hxn]; exact hn.ten
  have h24 : an ≤ 64 := by rw [← hal.out]; exact hn.arcs
  have k3 := hW.c3
  have HL := hide hL
  have HE := hide he
  have HW := hide hW
  have HI := hide hI
  rcases hN with ⟨rfl, _⟩ | ⟨z, hz, rfl, hR⟩
  · clear hL he hW hI
    go_enter Tryz.func81, Tryz.ntmps81
    go_wp2
    go_ret
    exact ⟨_, rfl, .inl ⟨rfl, rfl⟩, Below.refl _ _⟩
  · obtain ⟨m, hC⟩ := hI.cycle hz hR
    have HC := hide hC
    have hfar := hide (hI.bk_far hz hR)
    have hblt := hide (hI.bk_lt hz sn (hI.bk_far hz hR))
    have k2 := hW.c2
    have cB : n0 (∀ w0 v, Below w.heap.size w w0 → v < sn → T v ≠ 0 → Calls Tryz.prog 102 #[.pointer (some ⟨lb, 0, none⟩), .pointer (some ⟨rb, 0, none⟩), .int .i64 v] w0 fun e w' => e = .returned (.int .i64 ((last v).srcN es : Int)) ∧ Below w0.heap.size w0 w') := by
      intro w0 v hb0 hv hT
      exact rBefore_any K rb sb cb ab seen cost last z lb fb vb sa aa sn sc an ac xs fl lf es v w0 hn (HL.out.grow hb0) (HE.out.below hb0) (HW.out.grow hb0) hv (by rw [← hal.out]; exact (HI.out.way v hv hT).2.1)
    have hzn : ((z : Int) == -1) = false := by simp <;> omega
    clear hL he hW hI hC
    go_enter Tryz.func81, Tryz.ntmps81
    go_wp2
    go_loopw [5, 22] (fun fi i wr => ∃ k : Nat, k ≤ sn ∧ i = .int .i64 k ∧ fi = .int .i64 (bk es last z k : Int) ∧ Below w.heap.size w wr) (fun _ i _ => sn - (intOf i).toNat)
    case atStart => exact ⟨0, Nat.zero_le _, rfl, rfl, Below.refl _ _⟩
    case round =>
      clear k3 k2
      obtain ⟨k, hk, rfl, rfl, hb⟩ := hrel
      by_cases hlt : k < sn
      · have hlt3 : (k : Int) < (sn : Int) := by omega
        have hnx : Hid (bk es last z (k + 1) = (last (bk es last z k)).srcN es) := rfl
        have hv := hblt.out k hk
        have hT := hfar.out k hlt
        obtain ⟨a, haa⟩ : ∃ a, bk es last z k = a := ⟨_, rfl⟩
        rw [haa] at hv hT hnx ⊢
        clear haa
        go_wp2_with fail
        refine (cB.out _ a hb hv hT).mono ?_
        rintro e w2 ⟨rfl, hb2⟩
        have hb3 : Below w.heap.size w w2 := hb.trans (hb2.mono hb.size)
        go_wp2
        go_roundw
        case rel => exact ⟨k + 1, by omega, by go_num, by rw [hnx.out], hb3⟩
        case measure => simp [intOf]; omega
      · have hkn : k = sn := by omega
        subst hkn
        obtain ⟨f, hf⟩ : ∃ f, bk es last z k = f := ⟨_, rfl⟩
        have HFE := hide hf
        rw [hf] at HC ⊢
        clear hf
        have hfl := HC.out.lt
        have hTf := HC.out.way 0
        have hW1 := HW.out.grow hb
        have k2 := hW1.c2
        have c1 := hW1.ra.cell (i := f * 2) (by omega)
        rw [lastEven] at c1
        have hf2 : (f : Int) < (k : Int) := by omega
        obtain ⟨a0, ha0⟩ : ∃ a, (last f).arc = a := ⟨_, rfl⟩
        rw [ha0] at c1
        have HO1 : Hid (OwnL (wr.alloc (.cells #[.int .i64 (a0 : Int)] 3)) w.heap.size (.slice (some ⟨wr.heap.size, 0, none⟩) 1 1) (backL es last f 1)) := by
          have h0 : backL es last f 1 = [(a0 : Int)] := by rw [← ha0]; rfl
          rw [h0]
          exact ⟨_, _, rfl, World.ownsRow_lit wr #[.int .i64 (a0 : Int)] 1 hb.size (by unfold maxLen; omega) rfl⟩
        have hb1 : Below w.heap.size w (wr.alloc (.cells #[.int .i64 (a0 : Int)] 3)) := hb.alloc hb.size _
        clear hW1 ha0
        go_wp2_with fail
        refine (cB.out _ f hb1 hfl hTf).mono ?_
        rintro e w2 ⟨rfl, hb2⟩
        have hb3 : Below w.heap.size w w2 := hb1.trans (hb2.mono hb1.size)
        have HO2 := hide (HO1.out.grow hb2)
        clear HO1 k2 c1 hb2
        have hpos := HC.out.pos
        have hmle := HC.out.le
        go_wp2
        go_loopw [6, 7] (fun v i wr => ∃ j : Nat, 1 ≤ j ∧ j ≤ m ∧ i = .int .i64 (bk es last f j : Int) ∧ Hid (OwnL wr w.heap.size v (backL es last f j)) ∧ lenOf v = j ∧ Below w.heap.size w wr) (fun v _ _ => k - lenOf v)
        case atStart => exact ⟨1, Nat.le_refl _, hpos, rfl, HO2.out, rfl, hb3⟩
        case round =>
          clear HO2 hb3
          obtain ⟨j, hj1, hj2, rfl, hO, hlv, hb3⟩ := hrel
          obtain ⟨oa, oc, rfl, hown⟩ := hO.out
          have hlen : (backL es last f j).length = j := backL_len _ _ _ _
          have HO := hide hown
          rw [hlen] at HO ⊢
          clear hown
          by_cases hlt2 : j < m
          · have hne := HC.out.first j (by omega) hlt2
            have hTa := HC.out.way j
            have hal' := HI.out.bk_lt hfl j (fun i _ => HC.out.way i) j (Nat.le_refl _)
            have hnx : Hid (bk es last f (j + 1) = (last (bk es last f j)).srcN es) := rfl
            have hsn2 : Hid (backL es last f (j + 1) = backL es last f j ++ [((last (bk es last f j)).arc : Int)]) := backL_snoc _ _ _ _
            obtain ⟨a, haa⟩ : ∃ a, bk es last f j = a := ⟨_, rfl⟩
            rw [haa] at hne hTa hal' hnx hsn2 ⊢
            have hW1 := HW.out.grow hb3
            have k2 := hW1.c2
            have c1 := hW1.ra.cell (i := a * 2) (by omega)
            rw [lastEven] at c1
            have ha2 : (a : Int) < (k : Int) := by omega
            have hnb : ((a : Int) != (f : Int)) = true := by simp; omega
            obtain ⟨a1, ha1⟩ : ∃ x, (last a).arc = x := ⟨_, rfl⟩
            rw [ha1] at c1 hsn2
            have hjk : (j : Int) < (k : Int) := by omega
            have hsz := hb3.size
            clear hW1 haa ha1
            generalize hLL : backL es last f j = L at *
            clear hLL
            go_wp2_with (at_builtin; refine wpList_push_int rfl (.tmp 55) (.tmp 64) rfl w.heap.size oa oc L (by rw [hlen]; rfl) ?_ wr.heap.size a1 1 rfl ?_ (by omega) ?_ ?_)
            · rw [hlen]; exact HO.out.alloc _
            · go_simp
            · simp; omega
            intro g' c' w3 hown2 hgr
            have hblk := (HO.out.alloc (.cells #[.int .i64 (a1 : Int)] 3)).lt
            have hb4 : Below w.heap.size w w3 := (hb3.alloc hsz _).grown hgr (by simp; omega) (fun b hb' => (hblk b hb').1)
            have HO3 : Hid (OwnL w3 w.heap.size (.slice (some ⟨g', 0, none⟩) (j + 1) c') (L ++ [(a1 : Int)])) := by
              have := OwnL.push (l := L) (y := (a1 : Int)) (by rw [hlen]; exact hown2)
              rw [hlen] at this
              exact this
            clear hown2 hgr hblk k2 c1 hO HO
            go_wp2_with fail
            refine (cB.out _ a hb4 hal' hTa).mono ?_
            rintro e w4 ⟨rfl, hb5⟩
            have hb6 : Below w.heap.size w w4 := hb4.trans (hb5.mono hb4.size)
            have HO4 := hide (HO3.out.grow hb5)
            go_wp2
            go_roundw
            case rel => exact ⟨j + 1, by omega, by omega, by rw [hnx.out], by rw [hsn2.out]; exact HO4.out, rfl, hb6⟩
            case measure => simp [lenOf]; omega
          · have hjm : j = m := by omega
            subst hjm
            have hback := HC.out.back
            rw [hback]
            have hff : ((f : Int) != (f : Int)) = false := by simp
            have cT : n0 (Calls Tryz.prog 103 #[.slice oa j oc] wr fun e w' => ∃ v', e = .returned v' ∧ OwnL w' wr.heap.size v' (backL es last f j).reverse ∧ Below wr.heap.size wr w') :=
              rTurned_any (.slice oa j oc) w.heap.size (backL es last f j) wr ⟨oa, oc, by rw [hlen], by rw [hlen]; exact HO.out⟩ (by omega) (fun x hx => by
                obtain ⟨i, hi, rfl⟩ := mem_of_getD 0 _ x hx
                rw [hlen] at hi
                rw [backL_at _ _ _ _ hi]
                have := HI.out.arcs _ (HI.out.bk_lt hfl i (fun i _ => HC.out.way i) i (Nat.le_refl _))
                omega)
            clear hO HO
            go_wp2_with fail
            refine Calls.mono cT.out ?_
            rintro e w4 ⟨v', rfl, hO5, hb5⟩
            have HF : Hid (Circled es last k T z w.heap.size v' w4) := .inr ⟨by omega, f, j, by rw [Int.toNat_natCast]; exact HFE.out.symm, HC.out, hO5.mono hb3.size⟩
            have hb6 : Below w.heap.size w w4 := hb3.trans (hb5.mono hb3.size)
            clear cT hO5 hb5
            go_wp2
            go_ret
            exact ⟨v', rfl, HF.out, hb6⟩
end Go.Proofs.YtnbccoflcoaoaaaGreat

namespace Go.Proofs.YtnbccoflcoaoaaaGreat
open Go.RowKit Go.Deep
set_option linter.unusedSimpArgs false
set_option linter.unusedVariables false

theorem sup_bd {xs : List Int} {es : List A5} (hn : NetOK xs es) : ∀ v, v < xs.length → -100 ≤ xs.getD v 0 ∧ xs.getD v 0 ≤ 100 := fun v _ => getD_bd hn v

theorem lows_inv {xs : List Int} {es : List A5} (hn : NetW xs es) : LInv xs es (lowsL es) (leftOf xs es (lowsL es)) (posTo (leftOf xs es (lowsL es)) xs.length) :=
  linv_of hn (lowsL_len es) (fun i hi => by have := arcB_out (hn.arc i hi); rw [lowsL_at _ hi]; omega)

set_option maxHeartbeats 2000000 in
theorem rSome_any (sa aa : Option Addr) (sn sc an ac : Nat) (xs : List Int) (es : List A5) (w : World) (hx : Ints w sa sn xs) (he : Arcs w aa an es) :
    Calls Tryz.prog 52 #[.agg #[.slice sa sn sc, .slice aa an ac]] w fun e w' => ∃ fv cv fl cu err, e = .returned (.tuple #[fv, cv, .int .i64 err]) ∧ OwnL w' w.heap.size fv fl ∧ OwnL w' w.heap.size cv cu ∧ (fv = .slice none 0 0 ∨ cv = .slice none 0 0) ∧ SomeAns xs es fl cu err ∧ SomeRel xs es fl cu err ∧ Below w.heap.size w w' := by
  have HX := hide hx
  have HE := hide he
  have hxl : Hid (xs.length = sn ∧ es.length = an) := ⟨hx.len, he.len⟩
  have hb0 : Below w.heap.size w (w.alloc (.cells #[.slice sa sn sc, .slice aa an ac] 48)) := (Below.refl _ _).alloc (Nat.le_refl _) _
  clear hx he
  go_enter Tryz.func52, Tryz.ntmps52
  go_wp2_with fail
  refine (gCheck_any sa aa sn sc an ac xs es _ (HX.out.below hb0) (HE.out.below hb0)).mono ?_
  rintro e w1 ⟨rfl, hb1⟩
  have k0 : w1.cell? ⟨w.heap.size, 0, none⟩ = some (.slice sa sn sc) := (hb1.cell (by simp)).trans (by go_simp)
  have k1 : w1.cell? ⟨w.heap.size, 1, none⟩ = some (.slice aa an ac) := (hb1.cell (by simp)).trans (by go_simp)
  have hz1 : w.heap.size < w1.heap.size := by have := hb1.size; simp at this; omega
  have hB1 : Below w.heap.size w w1 := hb0.trans (hb1.mono (by simp))
  clear hb0 hb1
  obtain ⟨wn, hwn⟩ : ∃ wn, (checkS xs es).1 = wn := ⟨_, rfl⟩
  have HWN := hide hwn
  rw [hwn]
  generalize (checkS xs es).2 = pl
  clear hwn
  by_cases hw0 : wn = 0
  · subst hw0
    have hn := netOK_of HWN.out
    have h10 : sn ≤ 10 := by rw [← hxl.out.1]; exact hn.ten
    have h24 : an ≤ 24 := by rw [← hxl.out.2]; exact hn.arcs
    have cS : n0 (Calls Tryz.prog 76 #[.slice sa sn sc] w1 fun e w' => e = .returned (.int .i64 (sumTo (fun v => xs.getD v 0) sn)) ∧ w' = w1) :=
      rSum_any sa sn sc xs w1 (HX.out.below hB1) h10 (fun v hv => getD_bd hn v)
    go_wp2_with fail
    refine Calls.mono cS.out ?_
    rintro e w2 ⟨rfl, rfl⟩
    clear cS
    obtain ⟨sm, hsm⟩ : ∃ sm, sumTo (fun v => xs.getD v 0) sn = sm := ⟨_, rfl⟩
    have HSM := hide hsm
    rw [hsm]
    clear hsm
    by_cases hs0 : sm = 0
    · subst hs0
      have cL : n0 (Calls Tryz.prog 78 #[.agg #[.slice sa sn sc, .slice aa an ac]] w2 fun e w' => ∃ ca cc, e = .returned (.agg #[.slice sa sn sc, .slice ca an cc]) ∧ Arcs w' ca an (costlessL es) ∧ Below w2.heap.size w2 w') :=
        rCostless_any sa aa sn sc an ac xs es w2 hn (HE.out.below hB1)
      have hn' := costless_ok hn.wide
      have hlen' : Hid ((costlessL es).length = an) := by show _ = _; rw [costlessL_len]; exact hxl.out.2
      go_wp2_with fail
      refine Calls.mono cL.out ?_
      rintro e w2a ⟨ca, cc, rfl, hA2, hb2a⟩
      clear cL
      have hBa : Below w.heap.size w w2a := hB1.trans (hb2a.mono hB1.size)
      have HA2 := hide hA2
      have cA : n0 (Calls Tryz.prog 62 #[.agg #[.slice sa sn sc, .slice ca an cc]] w2a fun e w' => ∃ lb fb vb, e = .returned (.pointer (some ⟨lb, 0, none⟩)) ∧ Load w' lb fb vb sa sn sc ca an cc (lowsL (costlessL es)) (leftOf xs (costlessL es) (lowsL (costlessL es))) ∧ (w2a.heap.size ≤ lb ∧ w2a.heap.size ≤ fb ∧ w2a.heap.size ≤ vb) ∧ Below w2a.heap.size w2a w') :=
        rAtLows_any sa ca sn sc an cc xs (costlessL es) w2a hn' (HX.out.below hBa) hA2
      clear hA2
      go_wp2_with fail
      refine Calls.mono cA.out ?_
      rintro e w3 ⟨lb, fb, vb, rfl, hLd, hge, hb3⟩
      clear cA
      have cT : n0 (Calls Tryz.prog 64 #[.pointer (some ⟨lb, 0, none⟩)] w3 fun e w' => ∃ v, e = .returned v ∧ Settled xs (costlessL es) (lowsL (costlessL es)) (leftOf xs (costlessL es) (lowsL (costlessL es))) lb fb vb sa sn sc ca an cc w2a.heap.size v w' ∧ Below w2a.heap.size w2a w') :=
        rSettle_any _ _ lb fb vb sa ca sn sc an cc xs (lowsL (costlessL es)) (costlessL es) w2a w3 hn' hxl.out.1 (by rw [hxl.out.1]; exact HSM.out) (by rw [← hxl.out.1]; exact lows_inv hn') ⟨_, costless_pot es _⟩ hLd hge HA2.out hb3 (Nearer.refl _ _) ⟨0, rfl⟩
      clear hLd hb3
      go_wp2_with fail
      refine Calls.mono cT.out ?_
      rintro e w4 ⟨v, rfl, ⟨fl', hL', hfl0, hans0⟩, hb4⟩
      clear cT
      have hfl : fl'.length = es.length := by rw [hfl0, costlessL_len]
      have hans : (v = .slice none 0 0 ∧ Fits xs es fl' ∧ SettR xs (costlessL es) (lowsL (costlessL es)) fl' none) ∨ ∃ cut, OwnL w4 w2a.heap.size v cut ∧ 0 < cut.length ∧ cut.length ≤ 10 ∧ risB cut xs.length = true ∧ violB xs es cut = true ∧ SettR xs (costlessL es) (lowsL (costlessL es)) fl' (some cut) := by
        have hten := hn.ten
        rcases hans0 with ⟨h1, h2, _, _, h6⟩ | ⟨cut, h1, h2, h3, h4, h5, seen, hcu, _, h6, _⟩
        · exact .inl ⟨h1, costless_fits h2, h6⟩
        · exact .inr ⟨cut, h1, h2, by omega, h4, by rw [← costless_viol]; exact h5, h6⟩
      clear hans0 hfl0
      have hB4 : Below w.heap.size w w4 := hBa.trans (hb4.mono hBa.size)
      have hz2 : w.heap.size < w2a.heap.size := Nat.lt_of_lt_of_le hz1 hb2a.size
      have q2 := hL'.c2
      rcases hans with ⟨rfl, hfit, hSR⟩ | ⟨cut, hO, hc0, hc1, hr, hv, hSR⟩
      · have HF := hide hfit
        have HREL : Hid (SomeRel xs es fl' [] 0) := .inr (.inr ⟨HWN.out, rfl, by rw [hxl.out.1]; exact HSM.out, fl', none, hSR, .inl ⟨rfl, rfl, rfl⟩⟩)
        clear hSR
        have HO := hide (row_own (base := w.heap.size) hL'.rf (by rw [hfl]; exact hxl.out.2) (by omega) (by omega))
        clear hfit hL'
        go_wp2
        go_ret3
        refine ⟨_, _, fl', [], 0, rfl, HO.out, OwnL.nil _ _, .inr rfl, .inr ⟨HWN.out, rfl, .inl ⟨rfl, of_fits HF.out, by rw [hfl]; exact hn.arcs, fun x hx => ?_⟩⟩, HREL.out, hB4⟩
        obtain ⟨i, hi, rfl⟩ := mem_of_getD 0 fl' x hx
        have h1 := HF.out.bd i (by omega)
        have h2 := arcB_out (hn.arc i (by omega))
        omega
      · have HC := hide (show SomeAns xs es [] cut 0 from .inr ⟨HWN.out, rfl, .inr ⟨rfl, hc0, hc1, hr, hv⟩⟩)
        have HREL : Hid (SomeRel xs es [] cut 0) := .inr (.inr ⟨HWN.out, rfl, by rw [hxl.out.1]; exact HSM.out, fl', some cut, hSR, .inr ⟨rfl, rfl⟩⟩)
        clear hSR
        have HO := hide hO
        obtain ⟨oa, oc, rfl, _⟩ := hO
        clear hr hv hL' q2
        have hcb : ((cut.length : Int) != 0) = true := by simp only [bne_iff_ne, ne_eq]; omega
        go_wp2
        all_goals first
          | (go_ret3
             exact ⟨_, _, [], cut, 0, rfl, OwnL.nil _ _, HO.out.mono (Nat.le_of_lt hz2), .inl rfl, HC.out, HREL.out, hB4⟩)
          | (exfalso; omega)
    · have hsb : (sm != 0) = true := by simpa using hs0
      have HS0 := hide hs0
      have cE : n0 (Calls Tryz.prog 77 #[.int .i64 sn] w2 fun e w' => ∃ v, e = .returned v ∧ OwnL w' w2.heap.size v (seenTo (fun _ => true) sn) ∧ Below w2.heap.size w2 w') := rEvery_any sn w2 h10
      clear hs0
      go_wp2_with fail
      refine Calls.mono cE.out ?_
      rintro e w3 ⟨v, rfl, hO, hb3⟩
      clear cE
      have hB3 : Below w.heap.size w w3 := hB1.trans (hb3.mono hB1.size)
      have hav := all_viol hn.wide (by rw [hxl.out.1, HSM.out]; exact HS0.out)
      have hlen := seen_len (fun _ => true) sn
      rw [hxl.out.1] at hav
      have HC := hide (show SomeAns xs es [] (seenTo (fun _ => true) sn) 0 from .inr ⟨HWN.out, rfl, .inr ⟨rfl, hav.1, by omega, by rw [hxl.out.1]; exact hav.2.1, hav.2.2⟩⟩)
      have HO := hide hO
      have HREL : Hid (SomeRel xs es [] (seenTo (fun _ => true) sn) 0) := .inr (.inl ⟨HWN.out, rfl, by rw [hxl.out.1, HSM.out]; exact HS0.out, rfl, by rw [hxl.out.1]⟩)
      clear hav hO
      go_wp2
      go_ret3
      exact ⟨_, _, [], _, 0, rfl, OwnL.nil _ _, HO.out.mono (Nat.le_of_lt hz1), .inl rfl, HC.out, HREL.out, hB3⟩
  · have hwb : (wn != 0) = true := by simpa using hw0
    have HW0 := hide hw0
    clear hw0
    go_wp2
    go_ret3
    exact ⟨_, _, [], [], wn, rfl, OwnL.nil _ _, OwnL.nil _ _, .inl rfl, .inl ⟨by rw [HWN.out]; exact HW0.out, HWN.out.symm, rfl, rfl⟩, .inl ⟨by rw [HWN.out]; exact HW0.out, HWN.out.symm, rfl, rfl⟩, hB1⟩

/-- SOME's CONTRACT, as All wants it. -/
def SomeD : Prop := ∀ (sa aa : Option Addr) (sn sc an ac : Nat) (xs : List Int) (es : List A5) (w : World), Ints w sa sn xs → Arcs w aa an es →
  Calls Tryz.prog 34 #[.agg #[.slice sa sn sc, .slice aa an ac]] w fun e w' => ∃ fv cv fl cu err, e = .returned (.tuple #[fv, cv, .int .i64 err]) ∧ OwnL w' w.heap.size fv fl ∧ OwnL w' w.heap.size cv cu ∧ (fv = .slice none 0 0 ∨ cv = .slice none 0 0) ∧ SomeAns xs es fl cu err ∧ SomeRel xs es fl cu err ∧ Below w.heap.size w w'
set_option maxHeartbeats 1000000 in
theorem some_all : SomeD := by
  intro sa aa sn sc an ac xs es w hx he
  have hb0 : Below w.heap.size w (w.alloc (.cells #[.slice sa sn sc, .slice aa an ac] 48)) := (Below.refl _ _).alloc (Nat.le_refl _) _
  have HX := hide hx
  have HE := hide he
  clear hx he
  go_enter Tryz.func34, Tryz.ntmps34
  go_wp2_with fail
  refine (rSome_any sa aa sn sc an ac xs es _ (HX.out.below hb0) (HE.out.below hb0)).mono ?_
  rintro e w1 ⟨fv, cv, fl, cu, err, rfl, h1, h2, h3, h4, h5, hb1⟩
  have hB1 : Below w.heap.size w w1 := hb0.trans (hb1.mono (by simp))
  have H1 := hide (h1.mono (base' := w.heap.size) (by simp))
  have H2 := hide (h2.mono (base' := w.heap.size) (by simp))
  have H4 := hide h4
  have H3 := hide h3
  have H5 := hide h5
  clear h1 h2 h3 h4 h5 hb1 hb0
  go_wp2
  go_ret3
  exact ⟨fv, cv, fl, cu, err, rfl, H1.out, H2.out, H3.out, H4.out, H5.out, hB1⟩
theorem some_any : SomeC := fun sa aa sn sc an ac xs es w hx he =>
  (some_all sa aa sn sc an ac xs es w hx he).mono fun e w' ⟨fv, cv, fl, cu, err, h0, h1, h2, h3, h4, _, h6⟩ => ⟨fv, cv, fl, cu, err, h0, h1, h2, h3, h4, h6⟩
end Go.Proofs.YtnbccoflcoaoaaaGreat

namespace Go.Proofs.YtnbccoflcoaoaaaGreat
open Go.RowKit Go.Deep
set_option linter.unusedSimpArgs false
set_option linter.unusedVariables false

def zAns (i : Nat) : Value := if i < 2 then .int .i64 0 else .slice none 0 0
/-- The net's box and the result, still empty. -/
structure Fr (w wr : World) (sa aa : Option Addr) (sn sc an ac : Nat) : Prop where
  n0 : wr.cell? ⟨w.heap.size, 0, none⟩ = some (.slice sa sn sc)
  n1 : wr.cell? ⟨w.heap.size, 1, none⟩ = some (.slice aa an ac)
  rr : wr.rowIs (w.heap.size + 1) 35 6 zAns
  be : Below w.heap.size w wr
  sz : w.heap.size + 2 ≤ wr.heap.size
theorem Fr.start (w : World) (sa aa : Option Addr) (sn sc an ac : Nat) :
    Fr w ((w.alloc (.cells #[.slice sa sn sc, .slice aa an ac] 48)).alloc (.cells #[.int .i64 0, .int .i64 0, .slice none 0 0, .slice none 0 0, .slice none 0 0, .slice none 0 0] 35)) sa aa sn sc an ac := by
  refine ⟨by simp, by simp, ?_, Joins.below_alloc2 _ _ _, by simp⟩
  have h := World.rowIs_alloc (w.alloc (.cells #[.slice sa sn sc, .slice aa an ac] 48)) #[.int .i64 0, .int .i64 0, .slice none 0 0, .slice none 0 0, .slice none 0 0, .slice none 0 0] 35 zAns (by
    intro i hi
    simp only [List.size_toArray, List.length_cons, List.length_nil] at hi
    match i, hi with
    | 0, _ => rfl
    | 1, _ => rfl
    | 2, _ => rfl
    | 3, _ => rfl
    | 4, _ => rfl
    | 5, _ => rfl)
  simpa using h
theorem Fr.grow {w wr w' : World} {sa aa : Option Addr} {sn sc an ac : Nat} (h : Fr w wr sa aa sn sc an ac) {K : Nat} (hK : w.heap.size + 2 ≤ K) (hb : Below K wr w') : Fr w w' sa aa sn sc an ac :=
  ⟨(hb.cell (p := ⟨w.heap.size, 0, none⟩) (by show w.heap.size < K; omega)).trans h.n0, (hb.cell (p := ⟨w.heap.size, 1, none⟩) (by show w.heap.size < K; omega)).trans h.n1, below_row hb h.rr (by omega), h.be.trans (hb.mono (by omega)), Nat.le_trans h.sz hb.size⟩
theorem Fr.cells {w wr : World} {sa aa : Option Addr} {sn sc an ac : Nat} (h : Fr w wr sa aa sn sc an ac) : (wr.cell? ⟨w.heap.size + 1, 0, none⟩ = some (.int .i64 0) ∧ wr.cell? ⟨w.heap.size + 1, 1, none⟩ = some (.int .i64 0) ∧ wr.cell? ⟨w.heap.size + 1, 2, none⟩ = some (.slice none 0 0) ∧ wr.cell? ⟨w.heap.size + 1, 3, none⟩ = some (.slice none 0 0) ∧ wr.cell? ⟨w.heap.size + 1, 4, none⟩ = some (.slice none 0 0) ∧ wr.cell? ⟨w.heap.size + 1, 5, none⟩ = some (.slice none 0 0)) ∧ ∀ o, wr.frozen? ⟨w.heap.size + 1, o, none⟩ = false :=
  ⟨⟨h.rr.cell (i := 0) (by omega), h.rr.cell (i := 1) (by omega), h.rr.cell (i := 2) (by omega), h.rr.cell (i := 3) (by omega), h.rr.cell (i := 4) (by omega), h.rr.cell (i := 5) (by omega)⟩, fun o => h.rr.frozen o⟩
/-- Six cells are written. -/
def put6 (w : World) (b : Nat) (v0 v1 v2 v3 v4 v5 : Value) : World := (((((w.setCell ⟨b, 0, none⟩ v0).setCell ⟨b, 1, none⟩ v1).setCell ⟨b, 2, none⟩ v2).setCell ⟨b, 3, none⟩ v3).setCell ⟨b, 4, none⟩ v4).setCell ⟨b, 5, none⟩ v5
theorem OwnA.put6 {w : World} {base : Nat} {v : Value} {a : A6} (h : OwnA w base v a) {b : Nat} (hb : b < base) (v0 v1 v2 v3 v4 v5 : Value) : OwnA (put6 w b v0 v1 v2 v3 v4 v5) base v a :=
  (((((h.setBelow hb _).setBelow hb _).setBelow hb _).setBelow hb _).setBelow hb _).setBelow hb _
theorem Fr.put6 {w wr : World} {sa aa : Option Addr} {sn sc an ac : Nat} (h : Fr w wr sa aa sn sc an ac) (v0 v1 v2 v3 v4 v5 : Value) : Below w.heap.size w (put6 wr (w.heap.size + 1) v0 v1 v2 v3 v4 v5) ∧
    ((put6 wr (w.heap.size + 1) v0 v1 v2 v3 v4 v5).cell? ⟨w.heap.size + 1, 0, none⟩ = some v0 ∧ (put6 wr (w.heap.size + 1) v0 v1 v2 v3 v4 v5).cell? ⟨w.heap.size + 1, 1, none⟩ = some v1 ∧ (put6 wr (w.heap.size + 1) v0 v1 v2 v3 v4 v5).cell? ⟨w.heap.size + 1, 2, none⟩ = some v2 ∧ (put6 wr (w.heap.size + 1) v0 v1 v2 v3 v4 v5).cell? ⟨w.heap.size + 1, 3, none⟩ = some v3 ∧ (put6 wr (w.heap.size + 1) v0 v1 v2 v3 v4 v5).cell? ⟨w.heap.size + 1, 4, none⟩ = some v4 ∧ (put6 wr (w.heap.size + 1) v0 v1 v2 v3 v4 v5).cell? ⟨w.heap.size + 1, 5, none⟩ = some v5) := by
  have hh : w.heap.size ≤ w.heap.size + 1 := by omega
  refine ⟨(((((h.be.setCell (p := ⟨w.heap.size + 1, 0, none⟩) hh _).setCell (p := ⟨w.heap.size + 1, 1, none⟩) hh _).setCell (p := ⟨w.heap.size + 1, 2, none⟩) hh _).setCell (p := ⟨w.heap.size + 1, 3, none⟩) hh _).setCell (p := ⟨w.heap.size + 1, 4, none⟩) hh _).setCell (p := ⟨w.heap.size + 1, 5, none⟩) hh _, ?_⟩
  have hr := (((((h.rr.set 0 v0).set 1 v1).set 2 v2).set 3 v3).set 4 v4).set 5 v5
  exact ⟨(hr.cell (i := 0) (by omega)).trans (by simp), (hr.cell (i := 1) (by omega)).trans (by simp), (hr.cell (i := 2) (by omega)).trans (by simp), (hr.cell (i := 3) (by omega)).trans (by simp), (hr.cell (i := 4) (by omega)).trans (by simp), (hr.cell (i := 5) (by omega)).trans (by simp)⟩

theorem fits_sum {xs : List Int} {es : List A5} (hn : NetOK xs es) {y : List Int} (h : Fits xs es y) : sumTo (fun v => xs.getD v 0) xs.length = 0 :=
  (sumTo_congr (fun v hv => (h.bal v hv).symm)).trans (net_all hn.wide y)
theorem best_ok {xs : List Int} {es : List A5} (hn : NetOK xs es) {fl : List Int} (hf : Fits xs es fl) {t : Int} (hV : LInv xs es fl (leftOf xs es fl) t) {cost : Nat → Int} (hp : Pot es fl cost) (hb : ∀ v, v < xs.length → -102400 ≤ cost v ∧ cost v ≤ 102400) :
    okB xs es ⟨1, costTo es fl es.length, fl, costL cost xs.length, [], []⟩ = true := by
  unfold okB
  rw [if_pos rfl]
  unfold bestB holdsB
  have h1 := hold_of hn.wide hV (po := costL cost xs.length) (fun v hv => costL_at cost _ hv) hp
  have h2 : potB (costL cost xs.length) = true := all_t (fun i hi => by
    rw [costL_len] at hi
    unfold potAt
    rw [costL_at _ _ hi]
    have := hb i hi
    exact decide_eq_true (by omega))
  simp only [Bool.and_eq_true, decide_eq_true_eq]
  exact ⟨⟨⟨⟨of_fits hf, trivial⟩, rfl⟩, rfl⟩, ⟨⟨costL_len _ _, h2⟩, h1⟩⟩

set_option maxRecDepth 100000 in
set_option maxHeartbeats 4000000 in
theorem rBest_any (sa aa pa : Option Addr) (sn sc an ac pc : Nat) (xs po : List Int) (es : List A5) (w : World) (hn : NetOK xs es) (hx : Ints w sa sn xs) (he : Arcs w aa an es) (hp : Ints w pa sn po) (hpot : ∀ i, i < sn → -1000000 ≤ po.getD i 0 ∧ po.getD i 0 ≤ 1000000) (hu : ∀ i, i < es.length → (es.getD i zA).cap = -1 → 0 ≤ driftAt es po i) (hfit : ∃ y, Fits xs es y) :
    Calls Tryz.prog 82 #[.agg #[.slice sa sn sc, .slice aa an ac], .slice pa sn pc] w fun e w' => ∃ v a, e = .returned v ∧ OwnA w' w.heap.size v a ∧ okB xs es a = true ∧ BestR xs es po a ∧ ApartA v ∧ Below w.heap.size w w' := by
  have hxn := hx.len
  have hen := he.len
  have h10 : sn ≤ 10 := by rw [← hxn]; exact hn.ten
  have h24 : an ≤ 24 := by rw [← hen]; exact hn.arcs
  obtain ⟨W0, hW0⟩ : ∃ W0, (w.alloc (.cells #[.slice sa sn sc, .slice aa an ac] 48)).alloc (.cells #[.int .i64 0, .int .i64 0, .slice none 0 0, .slice none 0 0, .slice none 0 0, .slice none 0 0] 35) = W0 := ⟨_, rfl⟩
  have hF0 := Fr.start w sa aa sn sc an ac
  rw [hW0] at hF0
  have hz0 : W0.heap.size = w.heap.size + 2 := by rw [← hW0]; simp
  have HX0 := hide (hx.below hF0.be)
  have HE0 := hide (he.below hF0.be)
  have HP0 := hide (hp.below hF0.be)
  have HW0 := hide hW0
  have cA : n0 (Calls Tryz.prog 62 #[.agg #[.slice sa sn sc, .slice aa an ac]] W0 fun e w' => ∃ lb fb vb, e = .returned (.pointer (some ⟨lb, 0, none⟩)) ∧ Load w' lb fb vb sa sn sc aa an ac (lowsL es) (leftOf xs es (lowsL es)) ∧ (W0.heap.size ≤ lb ∧ W0.heap.size ≤ fb ∧ W0.heap.size ≤ vb) ∧ Below W0.heap.size W0 w') :=
    rAtLows_any sa aa sn sc an ac xs es W0 hn.wide HX0.out HE0.out
  have HXN := hide hxn
  have HEN := hide hen
  have HU := hide hu
  have HPB := hide hpot
  have HFT := hide hfit
  have HF0 := hide hF0
  have HZ0 := hide hz0
  clear hx he hp hpot hu hfit hW0 hxn hen hF0 hz0
  go_enter Tryz.func82, Tryz.ntmps82
  go_wp2_with fail
  rw [HW0.out]
  refine Calls.mono cA.out ?_
  rintro e w1 ⟨lb, fb, vb, rfl, hL1, hge, hb1⟩
  clear cA HW0
  have cF : n0 (Calls Tryz.prog 104 #[.pointer (some ⟨lb, 0, none⟩), .slice pa sn pc] w1 fun e w' => e = .returned (.tuple #[]) ∧ Load w' lb fb vb sa sn sc aa an ac (fillK es po es.length) (leftOf xs es (fillK es po es.length)) ∧ Below W0.heap.size W0 w') :=
    rFill_any lb fb vb sa aa pa sn sc an ac pc xs po es W0 w1 hn.wide HXN.out hL1 hge HE0.out hb1 HP0.out HPB.out HU.out
  clear hL1 hb1
  go_wp2_with fail
  refine Calls.mono cF.out ?_
  rintro e w2 ⟨rfl, hL2, hb2⟩
  clear cF
  obtain ⟨y, hy⟩ := HFT.out
  have cS : n0 (Calls Tryz.prog 64 #[.pointer (some ⟨lb, 0, none⟩)] w2 fun e w' => ∃ v, e = .returned v ∧ Settled xs es (fillK es po es.length) (leftOf xs es (fillK es po es.length)) lb fb vb sa sn sc aa an ac W0.heap.size v w' ∧ Below W0.heap.size W0 w') :=
    rSettle_any _ _ lb fb vb sa aa sn sc an ac xs (fillK es po es.length) es W0 w2 hn.wide HXN.out (fits_sum hn hy) (by rw [← HXN.out]; exact linv_of hn.wide (fillK_len _ _ _) (fillK_bd hn.wide HU.out _)) ⟨_, fill_pot hn.wide HU.out⟩ hL2 hge HE0.out hb2 (Nearer.refl _ _) ⟨0, rfl⟩
  clear hL2 hb2
  go_wp2_with fail
  refine Calls.mono cS.out ?_
  rintro e w3 ⟨vs, rfl, ⟨fl, hL3, hfl, hans⟩, hb3⟩
  clear cS
  obtain ⟨hfit, ⟨t, hV⟩, ⟨p, hp⟩, hSR⟩ : Fits xs es fl ∧ (∃ t, LInv xs es fl (leftOf xs es fl) t) ∧ (∃ p, Pot es fl p) ∧ SettR xs es (fillK es po es.length) fl none := by
    rcases hans with ⟨_, h⟩ | ⟨cut, _, _, _, h4, h5, _⟩
    · exact h
    · exact absurd (of_fits hy) (none_fits hn h4 h5 y)
  have HL3 := hide hL3
  have HV := hide hV
  have HPO := hide hp
  have HFIT := hide hfit
  have hF3 := HF0.out.grow (by rw [HZ0.out]; exact Nat.le_refl _) hb3
  have cP : n0 (Calls Tryz.prog 93 #[.pointer (some ⟨lb, 0, none⟩)] w3 fun e w' => ∃ cb cost, e = .returned (.slice (some ⟨cb, 0, none⟩) sn sn) ∧ w3.heap.size ≤ cb ∧ w'.rowIs cb 3 sn (fun i => .int .i64 (cost i)) ∧ Pot es fl cost ∧ (∀ v, v < sn → -102400 ≤ cost v ∧ cost v ≤ 102400) ∧ Below w3.heap.size w3 w' ∧ cost = (cheapF es fl sn (fun _ => true)).cost) :=
    rPots_any lb fb vb sa aa sn sc an ac xs fl es W0 w3 hn.wide HXN.out hL3 HE0.out hb3 (hV.mild hn.wide) (fun s hs => (hV.room hn.wide s hs).1) ⟨p, hp⟩
  have HF3 := hide hF3
  clear hL3 hV hp hfit hans hF3
  go_wp2_with fail
  refine Calls.mono cP.out ?_
  rintro e w5 ⟨cb, cost, rfl, hcb, hrc, hPC, hbd0, hb5, hYC⟩
  clear cP
  have HSR := hide hSR
  have HYC : Hid (cost = (cheapF es fl xs.length (fun _ => true)).cost) := by show _ = _; rw [HXN.out]; exact hYC
  have hfbc : fb < cb := Nat.lt_of_lt_of_le HL3.out.flt.1 hcb
  clear hSR hYC
  have hB5 : Below W0.heap.size W0 w5 := hb3.trans (hb5.mono hb3.size)
  have hL5 := HL3.out.grow hb5
  have hbd : ∀ v, v < xs.length → -102400 ≤ cost v ∧ cost v ≤ 102400 := fun v hv => hbd0 v (by rw [← HXN.out]; exact hv)
  have HOK := hide (best_ok hn HFIT.out HV.out hPC hbd)
  have HBD := hide hbd
  have HW := hide hrc
  have HL5 := hide hL5
  have HF5 := hide (HF0.out.grow (by rw [HZ0.out]; exact Nat.le_refl _) hB5)
  have hcs : costS xs es fl = (costTo es fl es.length, 0) := by
    unfold costS
    rw [hn.zero, of_fits HFIT.out]
    simp
  obtain ⟨C, hC⟩ : ∃ C, costTo es fl es.length = C := ⟨_, rfl⟩
  have hCb := costTo_bd xs es fl hn (HV.out.mild hn.wide) es.length (Nat.le_refl _)
  have HBR : Hid (BestR xs es po ⟨1, C, fl, costL cost xs.length, [], []⟩) := ⟨fl, none, HSR.out, by rw [← hC, ← HYC.out]⟩
  rw [hC] at hcs HOK hCb
  have hC1 : -1200000000 ≤ C := by rw [HEN.out] at hCb; omega
  have hC2 : C ≤ 1200000000 := by rw [HEN.out] at hCb; omega
  have hflI : ∀ w0, Below w5.heap.size w5 w0 → Ints w0 (some ⟨fb, 0, none⟩) an fl := fun w0 h0 => (row_ints HL5.out.rf (by rw [hfl]; exact HEN.out) (by omega) (fun i hi => by have := HV.out.mild hn.wide i (by rw [HEN.out]; exact hi); omega)).below h0
  have cQ : ∀ d' os, Calls Tryz.prog 48 #[.agg #[.slice sa sn sc, .slice aa an ac], .slice (some ⟨fb, 0, none⟩) an an] (Sort.grow (redrawn w5 d') os) fun e w'' => e = .returned (.tuple #[.int .i64 C, .int .i64 0]) ∧ ∃ p : Regrown, w'' = Sort.grow (redrawn w5 p.d) p.os := fun d' os => by
    refine Calls.regrown_of ?_
    have h := gCost_any sa aa (some ⟨fb, 0, none⟩) sn sc an ac an an xs es fl (Sort.grow (redrawn w5 d') os) ((HX0.out.below hB5).below (below_regrown w5 d' os)) ((HE0.out.below hB5).below (below_regrown w5 d' os)) (hflI _ (below_regrown w5 d' os))
    rw [hcs] at h
    exact h
  have r0 := cell_regrown (w := w5) (a := ⟨w.heap.size, 0, none⟩) HF5.out.n0
  have r1 := cell_regrown (w := w5) (a := ⟨w.heap.size, 1, none⟩) HF5.out.n1
  have r2 := cell_regrown (w := w5) (a := ⟨lb, 2, none⟩) HL5.out.c2
  clear hrc hPC hL5 hcs hC hbd hbd0 hCb hflI
  go_wp2_with fail
  refine wp_region_quiet_below (by kernel_rfl) (by kernel_rfl) ?_
  repeat (quiet_step (first | exact cQ _ _))
  refine wpQuiet_nil ?_
  intro _ hw'
  obtain ⟨⟨dq, osq⟩, hw''⟩ := hw'
  subst hw''
  have hbr := below_regrown w5 dq osq
  generalize Sort.grow (redrawn w5 dq) osq = w6 at *
  clear cQ r0 r1 r2
  have hL6 := HL5.out.grow hbr
  have hW6 := below_row hbr HW.out HW.out.lt
  have hF6 := HF5.out.grow (K := w5.heap.size) HF5.out.sz hbr
  have q2 := hL6.c2
  obtain ⟨⟨s0, s1, s2, s3, s4, s5⟩, sf⟩ := hF6.cells
  have sf0 := sf 0
  have sf1 := sf 1
  have sf2 := sf 2
  have sf3 := sf 3
  have sf4 := sf 4
  have sf5 := sf 5
  have hOA : OwnA w6 (w.heap.size + 2) (.agg #[.int .i64 1, .int .i64 C, .slice (some ⟨fb, 0, none⟩) an an, .slice (some ⟨cb, 0, none⟩) sn sn, .slice none 0 0, .slice none 0 0]) ⟨1, C, fl, costL cost xs.length, [], []⟩ := by
    have h1 := row_own (base := w.heap.size + 2) hL6.rf (by rw [hfl]; exact HEN.out) (by rw [← HZ0.out]; exact hge.2.1) (by omega)
    have h2 := row_own (base := w.heap.size + 2) (l := costL cost xs.length) (hW6.congr (fun i hi => by rw [costL_at _ _ (by rw [HXN.out]; exact hi)])) (by rw [costL_len]; exact HXN.out) (by have := hb3.size; have := HZ0.out; omega) (by omega)
    obtain ⟨oa, oc, e1, o1⟩ := h1
    obtain ⟨ob, od, e2, o2⟩ := h2
    refine ⟨oa, oc, ob, od, none, 0, none, 0, ?_, o1, o2, World.ownsRow_nil _ _ _ _, World.ownsRow_nil _ _ _ _⟩
    rw [← e1, ← e2]
    rfl
  have HOA := hide ((hOA.put6 (b := w.heap.size + 1) (by omega) (.int .i64 1) (.int .i64 C) (.slice (some ⟨fb, 0, none⟩) an an) (.slice (some ⟨cb, 0, none⟩) sn sn) (.slice none 0 0) (.slice none 0 0)).mono (base' := w.heap.size) (by omega))
  have HPU := hide (hF6.put6 (.int .i64 1) (.int .i64 C) (.slice (some ⟨fb, 0, none⟩) an an) (.slice (some ⟨cb, 0, none⟩) sn sn) (.slice none 0 0) (.slice none 0 0))
  clear hL6 hW6 hF6 hOA sf hbr HL3 HV HPO HFIT HF0 HF3 HF5 HL5 HW HBD
  go_wp2
  all_goals
    obtain ⟨hbz, z0, z1, z2, z3, z4, z5⟩ := HPU.out
    unfold put6 at z0 z1 z2 z3 z4 z5 hbz
    refine bodyPost_ret (v := .agg #[.int .i64 1, .int .i64 C, .slice (some ⟨fb, 0, none⟩) an an, .slice (some ⟨cb, 0, none⟩) sn sn, .slice none 0 0, .slice none 0 0]) (by simp [results, Tryz.results82, go_sem, z0, z1, z2, z3, z4, z5]) rfl ⟨_, _, rfl, HOA.out, HOK.out, HBR.out, ⟨_, _, _, _, _, _, rfl, .inr (by simp [Value.ownBlock]; omega), Apt.nil2 _, Apt.nil2 _, Apt.nil2 _, Apt.nil2 _, Apt.nil _⟩, hbz⟩
end Go.Proofs.YtnbccoflcoaoaaaGreat

namespace Go.Proofs.YtnbccoflcoaoaaaGreat
open Go.RowKit Go.Deep
set_option linter.unusedSimpArgs false
set_option linter.unusedVariables false

/-- Potentials that the stiff net's cheapest ways cost: no unlimited arc has a drift below 0. -/
theorem stiff_drift {xs : List Int} {es : List A5} (hn : NetOK xs es) {n : Nat} (hxn : xs.length = n) {seen : Nat → Bool} {cost : Nat → Int} {last : Nat → St} {T R : Nat → Nat} {c : Nat} {done : St → Prop} (h : WInv (stiffL es) (lowsL (stiffL es)) n (fun _ => true) seen cost last T R c (n + 1) done) (hN : New n R n (-1)) :
    ∀ i, i < es.length → (es.getD i zA).cap = -1 → 0 ≤ driftAt es (costL cost n) i := by
  intro i hi hc
  have hi2 : i < (stiffL es).length := by rw [stiffL_len]; exact hi
  have e := hn.ends i hi
  have ha := arcB_out (hn.arc i hi)
  have hroom : 0 < roomOf (stiffL es) (lowsL (stiffL es)) ⟨i, false⟩ := by
    unfold roomOf
    simp only [Bool.false_eq_true, if_false]
    rw [lowsL_at _ hi2, stiffL_at, if_pos hc, if_pos hc]
    omega
  have hs := st_ends (stiff_ok hn.wide) (s := ⟨i, false⟩) hi2
  rw [hxn] at hs
  have hcl := (h.closed hN rfl ⟨i, false⟩ hi2 hroom (h.start _ hs.2.2.1 rfl) hs.2.2.1).2
  simp only [St.srcN, St.dstN, St.src, St.dst, priceOf, stiffL_at, hc, if_true, Bool.false_eq_true, if_false] at hcl
  unfold driftAt
  rw [costL_at _ _ (by omega), costL_at _ _ (by omega)]
  omega
theorem none_ok {xs : List Int} {es : List A5} {cut : List Int} (h1 : risB cut xs.length = true) (h2 : violB xs es cut = true) : okB xs es ⟨2, 0, [], [], cut, []⟩ = true := by
  unfold okB
  rw [if_neg (show ¬ ((2 : Int) = 1) by decide), if_pos rfl]
  unfold noneB
  rw [h1, h2]
  rfl
theorem end_ok {xs : List Int} {es : List A5} {fl ci : List Int} (h1 : flowErr xs es fl = 0) (h2 : goodB es ci = true) : okB xs es ⟨3, 0, fl, [], [], ci⟩ = true := by
  unfold okB
  rw [if_neg (show ¬ ((3 : Int) = 1) by decide), if_neg (show ¬ ((3 : Int) = 2) by decide), if_pos rfl]
  unfold endB
  rw [h2, h1]
  rfl
theorem OwnL.own {w : World} {base : Nat} {a : Option Addr} {n c : Nat} {l : List Int} (h : OwnL w base (.slice a n c) l) : n = l.length ∧ w.ownsRow base 3 1 (.slice a l.length c) l.length (intCells l) := by
  obtain ⟨oa, oc, e, ho⟩ := h
  cases e
  exact ⟨rfl, ho⟩

set_option maxRecDepth 100000 in
set_option maxHeartbeats 4000000 in
theorem rSolve_any (sa aa : Option Addr) (sn sc an ac : Nat) (xs : List Int) (es : List A5) (w : World) (hx : Ints w sa sn xs) (he : Arcs w aa an es) :
    Calls Tryz.prog 54 #[.agg #[.slice sa sn sc, .slice aa an ac]] w fun e w' => ∃ (a : A6) (err : Int) (v : Value), e = .returned (.tuple #[v, .int .i64 err]) ∧ OwnA w' w.heap.size v a ∧ SolveAns xs es a err ∧ SolveRel xs es a err ∧ ApartA v ∧ Below w.heap.size w w' := by
  have hxn := hx.len
  have hen := he.len
  obtain ⟨W0, hW0⟩ : ∃ W0, (w.alloc (.cells #[.slice sa sn sc, .slice aa an ac] 48)).alloc (.cells #[.int .i64 0, .int .i64 0, .slice none 0 0, .slice none 0 0, .slice none 0 0, .slice none 0 0] 35) = W0 := ⟨_, rfl⟩
  have hF0 := Fr.start w sa aa sn sc an ac
  rw [hW0] at hF0
  have hz0 : W0.heap.size = w.heap.size + 2 := by rw [← hW0]; simp
  have HX0 := hide (hx.below hF0.be)
  have HE0 := hide (he.below hF0.be)
  have HW0 := hide hW0
  have cS : n0 (Calls Tryz.prog 52 #[.agg #[.slice sa sn sc, .slice aa an ac]] W0 fun e w' => ∃ fv cv fl cu err, e = .returned (.tuple #[fv, cv, .int .i64 err]) ∧ OwnL w' W0.heap.size fv fl ∧ OwnL w' W0.heap.size cv cu ∧ (fv = .slice none 0 0 ∨ cv = .slice none 0 0) ∧ SomeAns xs es fl cu err ∧ SomeRel xs es fl cu err ∧ Below W0.heap.size W0 w') :=
    rSome_any sa aa sn sc an ac xs es W0 HX0.out HE0.out
  have HXN := hide hxn
  have HEN := hide hen
  have HF0 := hide hF0
  have HZ0 := hide hz0
  clear hx he hW0 hxn hen hF0 hz0
  go_enter Tryz.func54, Tryz.ntmps54
  go_wp2_with fail
  rw [HW0.out]
  refine Calls.mono cS.out ?_
  rintro e w1 ⟨fv, cv, fl, cu, err, rfl, hO1, hO2, hO3, hans, hRel, hb1⟩
  clear cS HW0
  have hF1 := HF0.out.grow (by rw [HZ0.out]; exact Nat.le_refl _) hb1
  have HF1 := hide hF1
  obtain ⟨⟨s0, s1, s2, s3, s4, s5⟩, sf⟩ := hF1.cells
  have sf0 := sf 0
  have sf1 := sf 1
  have sf2 := sf 2
  have sf3 := sf 3
  have sf4 := sf 4
  have sf5 := sf 5
  have HSF := hide sf
  have HREL := hide hRel
  clear hRel
  have HANS := hide hans
  rw [HZ0.out] at hO1 hO2
  obtain ⟨fa, fc, rfl, o1⟩ := hO1
  obtain ⟨ca, cc, rfl, o2⟩ := hO2
  have HO1 := hide o1
  have HO2 := hide o2
  clear sf o1 o2 hO3
  rcases hans with ⟨h1, h2, rfl, rfl⟩ | ⟨h1, rfl, h2⟩
  · have heb : (err != 0) = true := by rw [h2]; simpa using h1
    have HPU := hide (hF1.put6 (.int .i64 0) (.int .i64 0) (.slice none 0 0) (.slice none 0 0) (.slice none 0 0) (.slice none 0 0))
    have HOA : Hid (OwnA (put6 w1 (w.heap.size + 1) (.int .i64 0) (.int .i64 0) (.slice none 0 0) (.slice none 0 0) (.slice none 0 0) (.slice none 0 0)) w.heap.size (.agg #[.int .i64 0, .int .i64 0, .slice none 0 0, .slice none 0 0, .slice none 0 0, .slice none 0 0]) ⟨0, 0, [], [], [], []⟩) :=
      ⟨none, 0, none, 0, none, 0, none, 0, rfl, World.ownsRow_nil _ _ _ _, World.ownsRow_nil _ _ _ _, World.ownsRow_nil _ _ _ _, World.ownsRow_nil _ _ _ _⟩
    have HA : Hid (SolveAns xs es ⟨0, 0, [], [], [], []⟩ err) := .inl ⟨h1, h2, rfl⟩
    have HSV : Hid (SolveRel xs es ⟨0, 0, [], [], [], []⟩ err) := ⟨_, _, HREL.out, .inl ⟨by rw [h2]; exact h1, rfl⟩⟩
    clear h1 h2 hF1 HF1 HF0 HO1 HO2 HANS
    go_wp2
    obtain ⟨hbz, z0, z1, z2, z3, z4, z5⟩ := HPU.out
    unfold put6 at z0 z1 z2 z3 z4 z5 hbz
    refine bodyPost_ret (v := .tuple #[.agg #[.int .i64 0, .int .i64 0, .slice none 0 0, .slice none 0 0, .slice none 0 0, .slice none 0 0], .int .i64 err]) (by simp [results, Tryz.results54, go_sem, z0, z1, z2, z3, z4, z5]) rfl ⟨_, _, _, rfl, HOA.out, HA.out, HSV.out, ⟨_, _, _, _, _, _, rfl, Apt.nil _, Apt.nil _, Apt.nil _, Apt.nil _, Apt.nil _, Apt.nil _⟩, hbz⟩
  · have hn := netOK_of h1
    have h10 : sn ≤ 10 := by rw [← HXN.out]; exact hn.ten
    have h24 : an ≤ 24 := by rw [← HEN.out]; exact hn.arcs
    rcases h2 with ⟨rfl, hfe, hfl, hfb⟩ | ⟨rfl, hc0, hc1, hr, hv⟩
    · have hz1 := HF1.out.sz
      have m0 := HF1.out.n0
      have m1 := HF1.out.n1
      have HFE := hide hfe
      have cL : n0 (Calls Tryz.prog 79 #[.agg #[.slice sa sn sc, .slice aa an ac]] w1 fun e w' => ∃ ca cc, e = .returned (.agg #[.slice sa sn sc, .slice ca an cc]) ∧ Arcs w' ca an (stiffL es) ∧ Below w1.heap.size w1 w') :=
        rStiff_any sa aa sn sc an ac xs es w1 hn (HE0.out.below hb1)
      have hn' := stiff_ok hn.wide
      clear hF1 s0 s1 s2 s3 s4 s5 sf0 sf1 sf2 sf3 sf4 sf5 HSF hfe
      go_wp2_with fail
      refine Calls.mono cL.out ?_
      rintro e w2 ⟨ga, gc, rfl, hA2, hb2⟩
      clear cL m0 m1
      have hB2 : Below W0.heap.size W0 w2 := hb1.trans (hb2.mono hb1.size)
      have HA2 := hide hA2
      have cA : n0 (Calls Tryz.prog 62 #[.agg #[.slice sa sn sc, .slice ga an gc]] w2 fun e w' => ∃ lb fb vb, e = .returned (.pointer (some ⟨lb, 0, none⟩)) ∧ Load w' lb fb vb sa sn sc ga an gc (lowsL (stiffL es)) (leftOf xs (stiffL es) (lowsL (stiffL es))) ∧ (w2.heap.size ≤ lb ∧ w2.heap.size ≤ fb ∧ w2.heap.size ≤ vb) ∧ Below w2.heap.size w2 w') :=
        rAtLows_any sa ga sn sc an gc xs (stiffL es) w2 hn' (HX0.out.below hB2) hA2
      clear hA2
      go_wp2_with fail
      refine Calls.mono cA.out ?_
      rintro e w3 ⟨lb, fb, vb, rfl, hL3, hge, hb3⟩
      clear cA
      have HL3 := hide hL3
      have hB3 : Below W0.heap.size W0 w3 := hB2.trans (hb3.mono hB2.size)
      have hLI := lows_inv hn'
      have cC : n0 (Calls Tryz.prog 80 #[.pointer (some ⟨lb, 0, none⟩)] w3 fun e w' => ∃ rb, e = .returned (.pointer (some ⟨rb, 0, none⟩)) ∧ Below w3.heap.size w3 w' ∧ Cheap (stiffL es) (lowsL (stiffL es)) sn (fun _ => true) w3.heap.size rb w') :=
        rEverywhere_any lb fb vb sa ga sn sc an gc xs (lowsL (stiffL es)) (leftOf xs (stiffL es) (lowsL (stiffL es))) (stiffL es) w2 w3 hn' HXN.out hL3 HA2.out hb3 (hLI.mild hn') (fun s hs => (hLI.room hn' s hs).1)
      clear hL3 hLI
      go_wp2_with fail
      refine Calls.mono cC.out ?_
      rintro e w5 ⟨rb, rfl, hb5, sb, cb, ab, seen, cost, last, T, R, c, nw, hW, hI, hN, hc, hY⟩
      clear cC
      have HY : Hid ((⟨seen, cost, last, nw⟩ : Wy) = stiffY es xs.length) := by show _ = _; unfold stiffY; rw [HXN.out]; exact hY
      clear hY
      have hB5 : Below W0.heap.size W0 w5 := hB3.trans (hb5.mono hB3.size)
      have cC2 : n0 (Calls Tryz.prog 81 #[.pointer (some ⟨lb, 0, none⟩), .pointer (some ⟨rb, 0, none⟩)] w5 fun e w' => ∃ v, e = .returned v ∧ Circled (stiffL es) last sn T nw w5.heap.size v w' ∧ Below w5.heap.size w5 w') :=
        rCircle_any w3.heap.size rb sb cb ab (fun _ => true) seen cost last nw T R c (fun _ => False) lb fb vb sa ga sn sc an gc xs (lowsL (stiffL es)) (leftOf xs (stiffL es) (lowsL (stiffL es))) (stiffL es) w5 hn' HXN.out (HL3.out.grow hb5) (HA2.out.below (hb3.trans (hb5.mono hb3.size))) hW hI hN
      have HW := hide hW
      have HI := hide hI
      have HN := hide hN
      clear hW hI hN HL3
      go_wp2_with fail
      refine Calls.mono cC2.out ?_
      rintro e w6 ⟨vc, rfl, hcir, hb6⟩
      clear cC2
      have hB6 : Below W0.heap.size W0 w6 := hB5.trans (hb6.mono hB5.size)
      have hF6 := HF0.out.grow (by rw [HZ0.out]; exact Nat.le_refl _) hB6
      have HF6 := hide hF6
      have hO6 : w6.ownsRow (w.heap.size + 2) 3 1 (.slice fa fl.length fc) fl.length (intCells fl) := HO1.out.kept (grown_of_below ((hb2.trans (hb3.mono hb2.size)).trans ((hb5.trans (hb6.mono hb5.size)).mono (Nat.le_trans hb2.size hb3.size))) none) (by cases fa <;> simp [Value.ownBlock])
      have HO6 := hide hO6
      clear hO6
      rcases hcir with ⟨rfl, rfl⟩ | ⟨hnw, f, m, hfe, hC, hOc⟩
      · have hpoA : ∀ i, i < sn → -102400 ≤ cost i ∧ cost i ≤ 102400 := fun i hi => by have := HI.out.bd i hi; omega
        have hpo : ∀ w0, Below w6.heap.size w6 w0 → Ints w0 (some ⟨cb, 0, none⟩) sn (costL cost sn) := fun w0 h0 => (row_ints (l := costL cost sn) ((HW.out.grow hb6).rc.congr (fun i hi => by rw [costL_at _ _ hi])) (costL_len _ _) (by omega) (fun i hi => by rw [costL_at _ _ hi]; have := hpoA i hi; omega)).below h0
        have hdr := stiff_drift hn HXN.out HI.out HN.out
        have cB : n0 (∀ w0, Below w6.heap.size w6 w0 → Calls Tryz.prog 82 #[.agg #[.slice sa sn sc, .slice aa an ac], .slice (some ⟨cb, 0, none⟩) sn sn] w0 fun e w' => ∃ v a, e = .returned v ∧ OwnA w' w0.heap.size v a ∧ okB xs es a = true ∧ BestR xs es (costL cost sn) a ∧ ApartA v ∧ Below w0.heap.size w0 w') := fun w0 h0 =>
          rBest_any sa aa (some ⟨cb, 0, none⟩) sn sc an ac sn xs (costL cost sn) es w0 hn ((HX0.out.below hB6).below h0) ((HE0.out.below hB6).below h0) (hpo w0 h0) (fun i hi => by rw [costL_at _ _ hi]; have := hpoA i hi; omega) hdr ⟨fl, fits_of HFE.out⟩
        have m0 := hF6.n0
        have m1 := hF6.n1
        have q1 := (HW.out.grow hb6).c1
        clear hpo hpoA hdr HI HN HW HF0 hF6
        go_wp2_with fail
        go_region_with (first
          | (go_at_call 82; refine (cB.out _ ?_).mono ?_; exact (Below.refl _ _).drew; rintro e w7 ⟨v, a, rfl, hOA, hok, hbr, hap, hb7⟩; have HBR := hide hbr; have HAP := hide hap; clear hbr hap; have hF7 := HF6.out.grow (K := w6.heap.size) HF6.out.sz (((Below.refl w6.heap.size w6).drew).trans hb7); obtain ⟨fa', fc', pa', pc', ca', cc', ra', rc', rfl, a1, a2, a3, a4⟩ := hOA; obtain ⟨⟨s0, s1, s2, s3, s4, s5⟩, sf⟩ := hF7.cells; have sf0 := sf 0; have sf1 := sf 1; have sf2 := sf 2; have sf3 := sf 3; have sf4 := sf 4; have sf5 := sf 5; have HF7 := hide hF7; have HOK := hide hok; have HA1 := hide a1; have HA2 := hide a2; have HA3 := hide a3; have HA4 := hide a4; clear sf hF7 hok a1 a2 a3 a4))
        all_goals
          have HPU := hide (HF7.out.put6 (.int .i64 a.kind) (.int .i64 a.cost) (.slice fa' a.flow.length fc') (.slice pa' a.pots.length pc') (.slice ca' a.cut.length cc') (.slice ra' a.circ.length rc'))
          have hle : w.heap.size + 2 ≤ w6.drew.heap.size := HF6.out.sz
          have HOA := hide (((OwnA.mono ⟨fa', fc', pa', pc', ca', cc', ra', rc', rfl, HA1.out, HA2.out, HA3.out, HA4.out⟩ hle).put6 (b := w.heap.size + 1) (by omega) (.int .i64 a.kind) (.int .i64 a.cost) (.slice fa' a.flow.length fc') (.slice pa' a.pots.length pc') (.slice ca' a.cut.length cc') (.slice ra' a.circ.length rc')).mono (base' := w.heap.size) (by omega))
          clear HA1 HA2 HA3 HA4 HF7 HF6 HF1 HO1 HO2 HO6 cB
          go_wp2
          obtain ⟨hbz, z0, z1, z2, z3, z4, z5⟩ := HPU.out
          unfold put6 at z0 z1 z2 z3 z4 z5 hbz
          refine bodyPost_ret (v := .tuple #[.agg #[.int .i64 a.kind, .int .i64 a.cost, .slice fa' a.flow.length fc', .slice pa' a.pots.length pc', .slice ca' a.cut.length cc', .slice ra' a.circ.length rc'], .int .i64 0]) (by simp [results, Tryz.results54, go_sem, z0, z1, z2, z3, z4, z5]) rfl ⟨a, 0, _, rfl, HOA.out, .inr ⟨h1, rfl, HOK.out⟩, ⟨_, _, HREL.out, .inr (.inr (.inr ⟨rfl, rfl, by rw [← HY.out], by rw [← HY.out, HXN.out]; exact HBR.out⟩))⟩, HAP.out, hbz⟩
      · have HNW := hide hnw
        have hgood := good_circle hn.wide HXN.out HI.out hC
        have HOK := hide (end_ok HFE.out hgood)
        have hlen : (backL (stiffL es) last f m).reverse.length = m := by rw [List.length_reverse, backL_len]
        have hmp := hC.pos
        have hml := hC.le
        have hcge := hOc.blkGe
        have HCR : Hid (CircR (stiffL es) (stiffY es xs.length) xs.length (backL (stiffL es) last f m).reverse) := by
          refine ⟨f, m, ?_, hC.pos, ?_, ?_, ?_⟩
          · rw [← HY.out, HXN.out]; exact hfe
          · rw [← HY.out]; exact hC.back
          · rw [← HY.out]; exact hC.first
          · rw [← HY.out]
        obtain ⟨ra, rc, rfl, hOr⟩ := hOc
        have HAPT : Hid (Apt (.slice fa fl.length fc) (.slice ra (backL (stiffL es) last f m).reverse.length rc)) := apt_lt (m := w1.heap.size) (fun b hb => (HO1.out.lt b hb).2) (fun b hb => Nat.le_trans (Nat.le_trans hb2.size (Nat.le_trans hb3.size hb5.size)) (hcge b hb).1)
        clear hcge hfe
        obtain ⟨ci, hci⟩ : ∃ ci, (backL (stiffL es) last f m).reverse = ci := ⟨_, rfl⟩
        rw [hci] at hOr hlen HOK HCR HAPT
        rw [hci, hlen]
        rw [hlen] at hOr HAPT
        obtain ⟨⟨s0, s1, s2, s3, s4, s5⟩, sf⟩ := hF6.cells
        have sf0 := sf 0
        have sf1 := sf 1
        have sf2 := sf 2
        have sf3 := sf 3
        have sf4 := sf 4
        have sf5 := sf 5
        have HPU := hide (hF6.put6 (.int .i64 3) (.int .i64 0) (.slice fa fl.length fc) (.slice none 0 0) (.slice none 0 0) (.slice ra m rc))
        have hOA : OwnA w6 (w.heap.size + 2) (.agg #[.int .i64 3, .int .i64 0, .slice fa fl.length fc, .slice none 0 0, .slice none 0 0, .slice ra m rc]) ⟨3, 0, fl, [], [], ci⟩ :=
          ⟨fa, fc, none, 0, none, 0, ra, rc, by simp only [List.length_nil, hlen], HO6.out, World.ownsRow_nil _ _ _ _, World.ownsRow_nil _ _ _ _, by simp only [hlen]; exact ownsRow_mono hOr (by have := hB5.size; rw [HZ0.out] at this; exact this)⟩
        have HOA := hide ((hOA.put6 (b := w.heap.size + 1) (by omega) (.int .i64 3) (.int .i64 0) (.slice fa fl.length fc) (.slice none 0 0) (.slice none 0 0) (.slice ra m rc)).mono (base' := w.heap.size) (by omega))
        have hmb : ((m : Int) != 0) = true := by simp only [bne_iff_ne, ne_eq]; omega
        have hm10 : m ≤ 10 := by omega
        clear hgood hC hOr hOA sf hF6 HF6 HF1 HF0 HO1 HO2 HO6 HI HN HW hci
        go_wp2
        all_goals first
          | (obtain ⟨hbz, z0, z1, z2, z3, z4, z5⟩ := HPU.out
             unfold put6 at z0 z1 z2 z3 z4 z5 hbz
             refine bodyPost_ret (v := .tuple #[.agg #[.int .i64 3, .int .i64 0, .slice fa fl.length fc, .slice none 0 0, .slice none 0 0, .slice ra m rc], .int .i64 0]) (by simp [results, Tryz.results54, go_sem, z0, z1, z2, z3, z4, z5]) rfl ⟨_, 0, _, rfl, HOA.out, .inr ⟨h1, rfl, HOK.out⟩, ⟨_, _, HREL.out, .inr (.inr (.inl ⟨rfl, rfl, by rw [← HY.out]; exact HNW.out, ci, HCR.out, rfl⟩))⟩, ⟨_, _, _, _, _, _, rfl, Apt.nil2 _, Apt.nil2 _, HAPT.out, Apt.nil _, Apt.nil _, Apt.nil _⟩, hbz⟩)
          | (exfalso; omega)
    · have HOK := hide (none_ok hr hv)
      have HPU := hide (hF1.put6 (.int .i64 2) (.int .i64 0) (.slice none 0 0) (.slice none 0 0) (.slice ca cu.length cc) (.slice none 0 0))
      have hOA : OwnA w1 (w.heap.size + 2) (.agg #[.int .i64 2, .int .i64 0, .slice none 0 0, .slice none 0 0, .slice ca cu.length cc, .slice none 0 0]) ⟨2, 0, [], [], cu, []⟩ :=
        ⟨none, 0, none, 0, ca, cc, none, 0, rfl, World.ownsRow_nil _ _ _ _, World.ownsRow_nil _ _ _ _, HO2.out, World.ownsRow_nil _ _ _ _⟩
      have HOA := hide ((hOA.put6 (b := w.heap.size + 1) (by omega) (.int .i64 2) (.int .i64 0) (.slice none 0 0) (.slice none 0 0) (.slice ca cu.length cc) (.slice none 0 0)).mono (base' := w.heap.size) (by omega))
      have hcb : ((cu.length : Int) != 0) = true := by simp only [bne_iff_ne, ne_eq]; omega
      clear hr hv hF1 HF1 HF0 HO1 HO2 HANS hOA
      go_wp2
      all_goals first
        | (obtain ⟨hbz, z0, z1, z2, z3, z4, z5⟩ := HPU.out
           unfold put6 at z0 z1 z2 z3 z4 z5 hbz
           refine bodyPost_ret (v := .tuple #[.agg #[.int .i64 2, .int .i64 0, .slice none 0 0, .slice none 0 0, .slice ca cu.length cc, .slice none 0 0], .int .i64 0]) (by simp [results, Tryz.results54, go_sem, z0, z1, z2, z3, z4, z5]) rfl ⟨_, 0, _, rfl, HOA.out, .inr ⟨h1, rfl, HOK.out⟩, ⟨_, _, HREL.out, .inr (.inl ⟨rfl, by omega, rfl⟩)⟩, ⟨_, _, _, _, _, _, rfl, Apt.nil _, Apt.nil _, Apt.nil _, Apt.nil _, Apt.nil _, Apt.nil2 _⟩, hbz⟩)
        | (exfalso; omega)

/-- SOLVE's CONTRACT, as All wants it. -/
def SolveD : Prop := ∀ (sa aa : Option Addr) (sn sc an ac : Nat) (xs : List Int) (es : List A5) (w : World), Ints w sa sn xs → Arcs w aa an es →
  Calls Tryz.prog 36 #[.agg #[.slice sa sn sc, .slice aa an ac]] w fun e w' => ∃ (a : A6) (err : Int) (v : Value), e = .returned (.tuple #[v, .int .i64 err]) ∧ OwnA w' w.heap.size v a ∧ SolveAns xs es a err ∧ SolveRel xs es a err ∧ ApartA v ∧ Below w.heap.size w w'
set_option maxHeartbeats 1000000 in
theorem solve_all : SolveD := by
  intro sa aa sn sc an ac xs es w hx he
  obtain ⟨W0, hW0⟩ : ∃ W0, (w.alloc (.cells #[.slice sa sn sc, .slice aa an ac] 48)).alloc (.cells #[.int .i64 0, .int .i64 0, .slice none 0 0, .slice none 0 0, .slice none 0 0, .slice none 0 0] 35) = W0 := ⟨_, rfl⟩
  have hF0 := Fr.start w sa aa sn sc an ac
  rw [hW0] at hF0
  have hz0 : W0.heap.size = w.heap.size + 2 := by rw [← hW0]; simp
  have HW0 := hide hW0
  have cS : n0 (Calls Tryz.prog 54 #[.agg #[.slice sa sn sc, .slice aa an ac]] W0 fun e w' => ∃ (a : A6) (err : Int) (v : Value), e = .returned (.tuple #[v, .int .i64 err]) ∧ OwnA w' W0.heap.size v a ∧ SolveAns xs es a err ∧ SolveRel xs es a err ∧ ApartA v ∧ Below W0.heap.size W0 w') :=
    rSolve_any sa aa sn sc an ac xs es W0 (hx.below hF0.be) (he.below hF0.be)
  have HF0 := hide hF0
  have HZ0 := hide hz0
  clear hx he hW0 hF0 hz0
  go_enter Tryz.func36, Tryz.ntmps36
  go_wp2_with fail
  rw [HW0.out]
  refine Calls.mono cS.out ?_
  rintro e w1 ⟨a, err, v, rfl, hOA, hans, hrel, hap, hb1⟩
  have HREL := hide hrel
  have HAP := hide hap
  clear hrel hap
  clear cS HW0
  have hF1 := HF0.out.grow (by rw [HZ0.out]; exact Nat.le_refl _) hb1
  obtain ⟨⟨s0, s1, s2, s3, s4, s5⟩, sf⟩ := hF1.cells
  have sf0 := sf 0
  have sf1 := sf 1
  have sf2 := sf 2
  have sf3 := sf 3
  have sf4 := sf 4
  have sf5 := sf 5
  rw [HZ0.out] at hOA
  have hOA0 := hOA
  obtain ⟨fa, fc, pa, pc, ca, cc, ra, rc, rfl, -⟩ := hOA0
  have HOA := hide ((hOA.put6 (b := w.heap.size + 1) (by omega) (.int .i64 a.kind) (.int .i64 a.cost) (.slice fa a.flow.length fc) (.slice pa a.pots.length pc) (.slice ca a.cut.length cc) (.slice ra a.circ.length rc)).mono (base' := w.heap.size) (by omega))
  have HPU := hide (hF1.put6 (.int .i64 a.kind) (.int .i64 a.cost) (.slice fa a.flow.length fc) (.slice pa a.pots.length pc) (.slice ca a.cut.length cc) (.slice ra a.circ.length rc))
  have HANS := hide hans
  clear hOA hans sf hF1 HF0
  go_wp2
  obtain ⟨hbz, z0, z1, z2, z3, z4, z5⟩ := HPU.out
  unfold put6 at z0 z1 z2 z3 z4 z5 hbz
  refine bodyPost_ret (v := .tuple #[.agg #[.int .i64 a.kind, .int .i64 a.cost, .slice fa a.flow.length fc, .slice pa a.pots.length pc, .slice ca a.cut.length cc, .slice ra a.circ.length rc], .int .i64 err]) (by simp [results, Tryz.results36, go_sem, z0, z1, z2, z3, z4, z5]) rfl ⟨a, err, _, rfl, HOA.out, HANS.out, HREL.out, HAP.out, hbz⟩
theorem solve_any : SolveC := fun sa aa sn sc an ac xs es w hx he =>
  (solve_all sa aa sn sc an ac xs es w hx he).mono fun e w' ⟨a, err, v, h0, h1, h2, _, _, h5⟩ => ⟨a, err, v, h0, h1, h2, h5⟩
end Go.Proofs.YtnbccoflcoaoaaaGreat
