import Derived.Test.YtampcheafdlomaaRtD
import Derived.Test.YtampcheafdlomaaRtR
namespace Go.Proofs.Ytampcheafdlomaa
open Go.RowKit Go.Deep
set_option linter.unusedSimpArgs false
set_option linter.unusedVariables false

theorem take_snocI (l : List Int) {k : Nat} (hk : k < l.length) : l.take (k + 1) = l.take k ++ [l.getD k 0] := by
  rw [List.take_add_one]
  congr 1
  simp [List.getD, hk]

set_option maxHeartbeats 1000000 in
theorem rTurned_any (v : Value) (base : Nat) (l : List Int) (w : World) (hO : OwnL w base v l) (hl : l.length ≤ 24) (hb : ∀ x ∈ l, -1000000 ≤ x ∧ x ≤ 1000000) :
    Calls Try.prog 79 #[v] w fun e w' => ∃ v', e = .returned v' ∧ OwnL w' w.heap.size v' l.reverse ∧ Below w.heap.size w w' := by
  obtain ⟨la, lc, rfl, ho⟩ := hO
  have HI := hide (own_ints ho (by omega) (fun x hx => by have := hb x hx; omega))
  have hrl : l.reverse.length = l.length := List.length_reverse
  clear ho hb
  have hl2 : (l.length : Int) ≤ 24 := by omega
  go_enter Try.func79, Try.ntmps79
  go_wp2
  go_loopw [3, 4] (fun v i wr => ∃ k : Nat, k ≤ l.length ∧ i = .int .i64 ((l.length : Int) - 1 - k) ∧ Hid (OwnL wr w.heap.size v (l.reverse.take k)) ∧ Below w.heap.size w wr) (fun _ i _ => (intOf i + 1).toNat)
  case atStart => exact ⟨0, Nat.zero_le _, by simp, OwnL.lit w, (Below.refl _ _).alloc (Nat.le_refl _) _⟩
  case round =>
    obtain ⟨k, hk, rfl, hO, hb⟩ := hrel
    obtain ⟨oa, oc, rfl, hown⟩ := hO.out
    have HO := hide hown
    have hsz := hb.size
    have hlen : (l.reverse.take k).length = k := by rw [List.length_take, hrl]; omega
    clear hown
    by_cases hlt : k < l.length
    · obtain ⟨q, hq⟩ : ∃ q : Nat, l.length = q + 1 + k := ⟨l.length - 1 - k, by omega⟩
      have hqq : (l.length : Int) - 1 - k = (q : Int) := by omega
      rw [hqq]
      have hql : q < l.length := by omega
      have hq3 : (q : Int) < (l.length : Int) := by omega
      obtain ⟨b, off, x, rfl, hX, hbb, cx⟩ := (HI.out.below hb).get hql
      have hnx : Hid (l.reverse.take (k + 1) = l.reverse.take k ++ [x]) := by
        show _ = _
        rw [take_snocI _ (by rw [hrl]; exact hlt), rev_at _ hlt, show l.length - 1 - k = q from by omega, hX]
      generalize hLL : l.reverse.take k = L at *
      clear hLL hX
      rw [hlen] at HO ⊢
      have hge : decide ((0 : Int) ≤ (q : Int)) = true := decide_eq_true (by omega)
      have HQ := hide hq
      clear hq hqq
      go_wp2_with (at_builtin; refine wpList_push_int rfl (.tmp 13) (.tmp 18) rfl w.heap.size oa oc L (by rw [hlen]; rfl) ?_ wr.heap.size x 1 rfl ?_ (by omega) ?_ ?_)
      · rw [hlen]; exact HO.out.alloc _
      · go_simp
      · simp; omega
      intro g' c' w2 hown2 hgr
      have hblk := (HO.out.alloc (.cells #[.int .i64 x] 3)).lt
      have hb2 : Below w.heap.size w w2 := (hb.alloc hsz _).grown hgr (by simp; omega) (fun b hb' => (hblk b hb').1)
      go_wp2
      go_roundw
      case rel =>
        refine ⟨k + 1, by omega, ?_, ?_, hb2⟩
        · rw [show (l.length : Int) - 1 - ((k + 1 : Nat) : Int) = (q : Int) - 1 from by have := HQ.out; omega]
        · rw [hnx.out]
          have := OwnL.push (l := L) (y := x) (by rw [hlen]; exact hown2)
          rw [hlen] at this
          exact this
      case measure => simp [intOf]
    · have hkn : k = l.length := by omega
      subst hkn
      rw [show (l.length : Int) - 1 - (l.length : Int) = -1 from by omega]
      have hall : Hid (OwnL wr w.heap.size (.slice oa (l.reverse.take l.length).length oc) l.reverse) := by
        have h := hO.out
        rw [List.take_of_length_le (show l.reverse.length ≤ l.length by rw [hrl]; exact Nat.le_refl _)] at h ⊢
        exact h
      clear hO HO
      go_wp2
      go_ret
      exact ⟨_, rfl, hall.out, hb⟩

/-- What 'circle' answers. -/
def Circled (es : List A5) (last : Nat → St) (n : Nat) (T : Nat → Nat) (nw : Int) (base : Nat) (v : Value) (w' : World) : Prop :=
  (nw = -1 ∧ v = .slice none 0 0) ∨ (nw ≠ -1 ∧ ∃ f m, Cyc es last n T f m ∧ OwnL w' base v (backL es last f m).reverse)

set_option maxHeartbeats 4000000 in
theorem rCircle_any (K rb sb cb ab : Nat) (S seen : Nat → Bool) (cost : Nat → Int) (last : Nat → St) (nw : Int) (T R : Nat → Nat) (c : Nat) (done : St → Prop) (lb fb vb : Nat) (sa aa : Option Addr) (sn sc an ac : Nat) (xs fl lf : List Int) (es : List A5) (w : World)
    (hn : NetOK xs es) (hxn : xs.length = sn) (hL : Load w lb fb vb sa sn sc aa an ac fl lf) (he : Arcs w aa an es)
    (hW : Ways w K rb sb cb ab sn seen cost last nw) (hI : WInv es fl sn S seen cost last T R c (sn + 1) done) (hN : New sn R sn nw) :
    Calls Try.prog 59 #[.pointer (some ⟨lb, 0, none⟩), .pointer (some ⟨rb, 0, none⟩)] w fun e w' => ∃ v, e = .returned v ∧ Circled es last sn T nw w.heap.size v w' ∧ Below w.heap.size w w' := by
  have hal : Hid (es.length = an) := he.len
  have h10 : sn ≤ 10 := by rw [← hxn]; exact hn.ten
  have h24 : an ≤ 24 := by rw [← hal.out]; exact hn.arcs
  have k3 := hW.c3
  have HL := hide hL
  have HE := hide he
  have HW := hide hW
  have HI := hide hI
  rcases hN with ⟨rfl, _⟩ | ⟨z, hz, rfl, hR⟩
  · clear hL he hW hI
    go_enter Try.func59, Try.ntmps59
    go_wp2
    go_ret
    exact ⟨_, rfl, .inl ⟨rfl, rfl⟩, Below.refl _ _⟩
  · obtain ⟨m, hC⟩ := hI.cycle hz hR
    have HC := hide hC
    have hfar := hide (hI.bk_far hz hR)
    have hblt := hide (hI.bk_lt hz sn (hI.bk_far hz hR))
    have k2 := hW.c2
    have cB : n0 (∀ w0 v, Below w.heap.size w w0 → v < sn → T v ≠ 0 → Calls Try.prog 78 #[.pointer (some ⟨lb, 0, none⟩), .pointer (some ⟨rb, 0, none⟩), .int .i64 v] w0 fun e w' => e = .returned (.int .i64 ((last v).srcN es : Int)) ∧ Below w0.heap.size w0 w') := by
      intro w0 v hb0 hv hT
      exact rBefore_any K rb sb cb ab seen cost last z lb fb vb sa aa sn sc an ac xs fl lf es v w0 hn (HL.out.grow hb0) (HE.out.below hb0) (HW.out.grow hb0) hv (by rw [← hal.out]; exact (HI.out.way v hv hT).2.1)
    have hzn : ((z : Int) == -1) = false := by simp <;> omega
    clear hL he hW hI hC
    go_enter Try.func59, Try.ntmps59
    go_wp2
    go_loopw [5, 22] (fun fi i wr => ∃ k : Nat, k ≤ sn ∧ i = .int .i64 k ∧ fi = .int .i64 (bk es last z k : Int) ∧ Below w.heap.size w wr) (fun _ i _ => sn - (intOf i).toNat)
    case atStart => exact ⟨0, Nat.zero_le _, rfl, rfl, Below.refl _ _⟩
    case round =>
      clear k3 k2
      obtain ⟨k, hk, rfl, rfl, hb⟩ := hrel
      by_cases hlt : k < sn
      · have hlt3 : (k : Int) < (sn : Int) := by omega
        have hnx : Hid (bk es last z (k + 1) = (last (bk es last z k)).srcN es) := rfl
        have hv := hblt.out k hk
        have hT := hfar.out k hlt
        obtain ⟨a, haa⟩ : ∃ a, bk es last z k = a := ⟨_, rfl⟩
        rw [haa] at hv hT hnx ⊢
        clear haa
        go_wp2_with fail
        refine (cB.out _ a hb hv hT).mono ?_
        rintro e w2 ⟨rfl, hb2⟩
        have hb3 : Below w.heap.size w w2 := hb.trans (hb2.mono hb.size)
        go_wp2
        go_roundw
        case rel => exact ⟨k + 1, by omega, by go_num, by rw [hnx.out], hb3⟩
        case measure => simp [intOf]; omega
      · have hkn : k = sn := by omega
        subst hkn
        obtain ⟨f, hf⟩ : ∃ f, bk es last z k = f := ⟨_, rfl⟩
        rw [hf] at HC ⊢
        clear hf
        have hfl := HC.out.lt
        have hTf := HC.out.way 0
        have hW1 := HW.out.grow hb
        have k2 := hW1.c2
        have c1 := hW1.ra.cell (i := f * 2) (by omega)
        rw [lastEven] at c1
        have hf2 : (f : Int) < (k : Int) := by omega
        obtain ⟨a0, ha0⟩ : ∃ a, (last f).arc = a := ⟨_, rfl⟩
        rw [ha0] at c1
        have HO1 : Hid (OwnL (wr.alloc (.cells #[.int .i64 (a0 : Int)] 3)) w.heap.size (.slice (some ⟨wr.heap.size, 0, none⟩) 1 1) (backL es last f 1)) := by
          have h0 : backL es last f 1 = [(a0 : Int)] := by rw [← ha0]; rfl
          rw [h0]
          exact ⟨_, _, rfl, World.ownsRow_lit wr #[.int .i64 (a0 : Int)] 1 hb.size (by unfold maxLen; omega) rfl⟩
        have hb1 : Below w.heap.size w (wr.alloc (.cells #[.int .i64 (a0 : Int)] 3)) := hb.alloc hb.size _
        clear hW1 ha0
        go_wp2_with fail
        refine (cB.out _ f hb1 hfl hTf).mono ?_
        rintro e w2 ⟨rfl, hb2⟩
        have hb3 : Below w.heap.size w w2 := hb1.trans (hb2.mono hb1.size)
        have HO2 := hide (HO1.out.grow hb2)
        clear HO1 k2 c1 hb2
        have hpos := HC.out.pos
        have hmle := HC.out.le
        go_wp2
        go_loopw [6, 7] (fun v i wr => ∃ j : Nat, 1 ≤ j ∧ j ≤ m ∧ i = .int .i64 (bk es last f j : Int) ∧ Hid (OwnL wr w.heap.size v (backL es last f j)) ∧ lenOf v = j ∧ Below w.heap.size w wr) (fun v _ _ => k - lenOf v)
        case atStart => exact ⟨1, Nat.le_refl _, hpos, rfl, HO2.out, rfl, hb3⟩
        case round =>
          clear HO2 hb3
          obtain ⟨j, hj1, hj2, rfl, hO, hlv, hb3⟩ := hrel
          obtain ⟨oa, oc, rfl, hown⟩ := hO.out
          have hlen : (backL es last f j).length = j := backL_len _ _ _ _
          have HO := hide hown
          rw [hlen] at HO ⊢
          clear hown
          by_cases hlt2 : j < m
          · have hne := HC.out.first j (by omega) hlt2
            have hTa := HC.out.way j
            have hal' := HI.out.bk_lt hfl j (fun i _ => HC.out.way i) j (Nat.le_refl _)
            have hnx : Hid (bk es last f (j + 1) = (last (bk es last f j)).srcN es) := rfl
            have hsn2 : Hid (backL es last f (j + 1) = backL es last f j ++ [((last (bk es last f j)).arc : Int)]) := backL_snoc _ _ _ _
            obtain ⟨a, haa⟩ : ∃ a, bk es last f j = a := ⟨_, rfl⟩
            rw [haa] at hne hTa hal' hnx hsn2 ⊢
            have hW1 := HW.out.grow hb3
            have k2 := hW1.c2
            have c1 := hW1.ra.cell (i := a * 2) (by omega)
            rw [lastEven] at c1
            have ha2 : (a : Int) < (k : Int) := by omega
            have hnb : ((a : Int) != (f : Int)) = true := by simp; omega
            obtain ⟨a1, ha1⟩ : ∃ x, (last a).arc = x := ⟨_, rfl⟩
            rw [ha1] at c1 hsn2
            have hjk : (j : Int) < (k : Int) := by omega
            have hsz := hb3.size
            clear hW1 haa ha1
            generalize hLL : backL es last f j = L at *
            clear hLL
            go_wp2_with (at_builtin; refine wpList_push_int rfl (.tmp 55) (.tmp 64) rfl w.heap.size oa oc L (by rw [hlen]; rfl) ?_ wr.heap.size a1 1 rfl ?_ (by omega) ?_ ?_)
            · rw [hlen]; exact HO.out.alloc _
            · go_simp
            · simp; omega
            intro g' c' w3 hown2 hgr
            have hblk := (HO.out.alloc (.cells #[.int .i64 (a1 : Int)] 3)).lt
            have hb4 : Below w.heap.size w w3 := (hb3.alloc hsz _).grown hgr (by simp; omega) (fun b hb' => (hblk b hb').1)
            have HO3 : Hid (OwnL w3 w.heap.size (.slice (some ⟨g', 0, none⟩) (j + 1) c') (L ++ [(a1 : Int)])) := by
              have := OwnL.push (l := L) (y := (a1 : Int)) (by rw [hlen]; exact hown2)
              rw [hlen] at this
              exact this
            clear hown2 hgr hblk k2 c1 hO HO
            go_wp2_with fail
            refine (cB.out _ a hb4 hal' hTa).mono ?_
            rintro e w4 ⟨rfl, hb5⟩
            have hb6 : Below w.heap.size w w4 := hb4.trans (hb5.mono hb4.size)
            have HO4 := hide (HO3.out.grow hb5)
            go_wp2
            go_roundw
            case rel => exact ⟨j + 1, by omega, by omega, by rw [hnx.out], by rw [hsn2.out]; exact HO4.out, rfl, hb6⟩
            case measure => simp [lenOf]; omega
          · have hjm : j = m := by omega
            subst hjm
            have hback := HC.out.back
            rw [hback]
            have hff : ((f : Int) != (f : Int)) = false := by simp
            have cT : n0 (Calls Try.prog 79 #[.slice oa j oc] wr fun e w' => ∃ v', e = .returned v' ∧ OwnL w' wr.heap.size v' (backL es last f j).reverse ∧ Below wr.heap.size wr w') :=
              rTurned_any (.slice oa j oc) w.heap.size (backL es last f j) wr ⟨oa, oc, by rw [hlen], by rw [hlen]; exact HO.out⟩ (by omega) (fun x hx => by
                obtain ⟨i, hi, rfl⟩ := mem_of_getD 0 _ x hx
                rw [hlen] at hi
                rw [backL_at _ _ _ _ hi]
                have := HI.out.arcs _ (HI.out.bk_lt hfl i (fun i _ => HC.out.way i) i (Nat.le_refl _))
                omega)
            clear hO HO
            go_wp2_with fail
            refine Calls.mono cT.out ?_
            rintro e w4 ⟨v', rfl, hO5, hb5⟩
            have HF : Hid (Circled es last k T z w.heap.size v' w4) := .inr ⟨by omega, f, j, HC.out, hO5.mono hb3.size⟩
            have hb6 : Below w.heap.size w w4 := hb3.trans (hb5.mono hb3.size)
            clear cT hO5 hb5
            go_wp2
            go_ret
            exact ⟨v', rfl, HF.out, hb6⟩
end Go.Proofs.Ytampcheafdlomaa
