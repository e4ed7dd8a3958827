import Derived.Test.YtnbccoflcoaoaabGKpa
import Derived.Test.YtnbccoflcoaoaabGDuo
namespace Go.Proofs.Ytnbccoflcoaoaab
open Go.RowKit Go.Deep
set_option linter.unusedSimpArgs false
set_option linter.unusedVariables false

theorem set_cell_ne {w : World} {b b' o o' : Nat} {u : Value} (h : b ≠ b') : (w.setCell ⟨b', o', none⟩ u).cell? ⟨b, o, none⟩ = w.cell? ⟨b, o, none⟩ := World.cell?_of_block (Below.heap_setCell _ _ _ _ h)
theorem set_blk_ne {w : World} {b b' o' : Nat} {u : Value} (h : b ≠ b') : (w.setCell ⟨b', o', none⟩ u).drew.heap[b]? = w.heap[b]? := Below.heap_setCell _ _ _ _ h

/-- What stands behind a copy whose box is laid: its rows apart from each other and from the boxes. -/
theorem copy_two {w1 w2 : World} {nb : Nat} {sa : Option Addr} {sn sc : Nat} {aa : Option Addr} {an ac : Nat} {sb : Option Addr} {sd : Nat} {ab : Option Addr} {ad m : Nat} {xs : List Int} {es : List A5} (hk0 : w1.cell? ⟨nb, 0, none⟩ = some (.slice sa sn sc)) (hk1 : w1.cell? ⟨nb, 1, none⟩ = some (.slice aa an ac)) (hz : nb < w1.heap.size)
    (hb : Below w1.heap.size w1 w2) (hC : CopyRows w2 w1.heap.size m sb sn sd ab an ad xs es) (hs : 1 ≤ sn) :
    Two (w2.alloc (.cells #[.slice sb sn sd, .slice ab an ad] 25)) nb w2.heap.size sa sn sc aa an ac sb sd ab ad ∧ RowI (w2.alloc (.cells #[.slice sb sn sd, .slice ab an ad] 25)) w1.heap.size sn sb sd (fun i => xs.getD i 0) ∧ RowA (w2.alloc (.cells #[.slice sb sn sd, .slice ab an ad] 25)) m an ab ad (fun i => es.getD i zA) ∧
    (∃ gs, sb = some ⟨gs, 0, none⟩ ∧ w1.heap.size ≤ gs ∧ gs < m ∧ gs < w2.heap.size) ∧ (∀ g, 0 < an → ab = some ⟨g, 0, none⟩ → m ≤ g ∧ g < w2.heap.size) := by
  obtain ⟨h1, h2, h3, h4, -⟩ := hC
  have hal := Joins.below_alloc1 w2 (.cells #[.slice sb sn sd, .slice ab an ad] 25)
  refine ⟨⟨(hal.cell (p := ⟨nb, 0, none⟩) (Nat.lt_of_lt_of_le hz hb.size)).trans ((hb.cell (p := ⟨nb, 0, none⟩) hz).trans hk0), (hal.cell (p := ⟨nb, 1, none⟩) (Nat.lt_of_lt_of_le hz hb.size)).trans ((hb.cell (p := ⟨nb, 1, none⟩) hz).trans hk1), by simp, by simp, by have := hb.size; simp; omega, by simp⟩, h1.rowI.below hal, h2.rowA.below hal, ?_, ?_⟩
  · rcases h1 with h0 | ⟨g, F, e, hl, hr, _⟩
    · omega
    · exact ⟨g, e, hl, h4 _ (by omega) e, hr.lt⟩
  · intro g h0 e
    rcases h2 with h0' | ⟨g', F, e', hl, hr, _⟩
    · omega
    · rw [e] at e'; cases e'; exact ⟨hl, hr.lt⟩

end Go.Proofs.Ytnbccoflcoaoaab

namespace Go.Proofs.Ytnbccoflcoaoaab
open Go.RowKit Go.Deep
set_option linter.unusedSimpArgs false
set_option linter.unusedVariables false

/-- A copy of a net that is written: its rows, its box at mb, the box of the net that it was made of at nb. -/
structure Cop (W : World) (L m nb mb : Nat) (sa : Option Addr) (sn sc : Nat) (aa : Option Addr) (an ac gs sd : Nat) (ab : Option Addr) (ad : Nat) (fI : Nat → Int) (fA : Nat → A5) : Prop where
  ri : RowI W L sn (some ⟨gs, 0, none⟩) sd fI
  ra : RowA W m an ab ad fA
  two : Two W nb mb sa sn sc aa an ac (some ⟨gs, 0, none⟩) sd ab ad
  c1 : nb < L
  c2 : L ≤ gs
  c3 : gs < m
  c4 : gs < mb
  c5 : ∀ g, 0 < an → ab = some ⟨g, 0, none⟩ → m ≤ g ∧ g < mb
section
variable {W : World} {L m nb mb : Nat} {sa : Option Addr} {sn sc : Nat} {aa : Option Addr} {an ac gs sd : Nat} {ab : Option Addr} {ad : Nat} {fI : Nat → Int} {fA : Nat → A5}
theorem Cop.setI (h : Cop W L m nb mb sa sn sc aa an ac gs sd ab ad fI fA) (k : Nat) (x : Int) : Cop (W.setCell ⟨gs, k, none⟩ (.int .i64 x)).drew L m nb mb sa sn sc aa an ac gs sd ab ad (upd fI k x) fA := by
  have h1 := h.c1; have h2 := h.c2; have h3 := h.c3; have h4 := h.c4
  exact ⟨(h.ri.set k x).below ((Below.refl _ _).drew), h.ra.keep (fun g e h1 h2 => set_blk_ne (by omega)), (h.two.set (by omega) (by omega) _).drew, h1, h2, h3, h4, h.c5⟩
theorem Cop.setA {ga : Nat} (h : Cop W L m nb mb sa sn sc aa an ac gs sd (some ⟨ga, 0, none⟩) ad fI fA) {k : Nat} (hk : k < an) (j : Nat) (hj : j < 5) (x : Int) : Cop (W.setCell ⟨ga, k * 5 + j, none⟩ (.int .i64 x)).drew L m nb mb sa sn sc aa an ac gs sd (some ⟨ga, 0, none⟩) ad fI (upd fA k ((fA k).put j x)) := by
  have h1 := h.c1; have h2 := h.c2; have h3 := h.c3; have h4 := h.c4
  have h5 := h.c5 ga (by omega) rfl
  exact ⟨h.ri.keep (fun g e h1 h2 => by cases e; exact set_blk_ne (by omega)), (h.ra.set k j hj x).below ((Below.refl _ _).drew), (h.two.set (by omega) (by omega) _).drew, h1, h2, h3, h4, h.c5⟩
theorem Cop.congr {gI : Nat → Int} {gA : Nat → A5} (h : Cop W L m nb mb sa sn sc aa an ac gs sd ab ad fI fA) (e1 : ∀ i, i < sn → fI i = gI i) (e2 : ∀ i, i < an → fA i = gA i) : Cop W L m nb mb sa sn sc aa an ac gs sd ab ad gI gA :=
  ⟨h.ri.congr e1, h.ra.congr e2, h.two, h.c1, h.c2, h.c3, h.c4, h.c5⟩
theorem Cop.ge (h : Cop W L m nb mb sa sn sc aa an ac gs sd ab ad fI fA) (g : Nat) (h0 : 0 < an) (e : ab = some ⟨g, 0, none⟩) : L ≤ g := by
  have := h.c5 g h0 e; have := h.c2; have := h.c3; omega
end
theorem cop_new {w1 w2 : World} {nb : Nat} {sa : Option Addr} {sn sc : Nat} {aa : Option Addr} {an ac : Nat} {sb : Option Addr} {sd : Nat} {ab : Option Addr} {ad m : Nat} {xs : List Int} {es : List A5} (hk0 : w1.cell? ⟨nb, 0, none⟩ = some (.slice sa sn sc)) (hk1 : w1.cell? ⟨nb, 1, none⟩ = some (.slice aa an ac)) (hz : nb < w1.heap.size)
    (hb : Below w1.heap.size w1 w2) (hC : CopyRows w2 w1.heap.size m sb sn sd ab an ad xs es) (hs : 1 ≤ sn) :
    ∃ gs, sb = some ⟨gs, 0, none⟩ ∧ Cop (w2.alloc (.cells #[.slice sb sn sd, .slice ab an ad] 25)) w1.heap.size m nb w2.heap.size sa sn sc aa an ac gs sd ab ad (fun i => xs.getD i 0) (fun i => es.getD i zA) := by
  obtain ⟨hT, hRI, hRA, ⟨gs, rfl, h1, h2, h3⟩, hga⟩ := copy_two hk0 hk1 hz hb hC hs
  exact ⟨gs, rfl, hRI, hRA, hT, hz, h1, h2, h3, hga⟩

theorem upd_two {α : Type} (f : Nat → α) (k : Nat) (a b : α) : upd (upd f k a) k b = upd f k b := by funext i; unfold upd; split <;> rfl

theorem halv_bd (c m : Int) (h1 : -m ≤ c) (h2 : c ≤ m) : -m ≤ c.tdiv 2 ∧ c.tdiv 2 ≤ m := ⟨(half_bd2 h1 h2).2.2.1, (half_bd2 h1 h2).2.2.2⟩

set_option maxRecDepth 100000 in
set_option maxHeartbeats 8000000 in
theorem keepTwofold_any (hS : SolveC) (hM : SomeC) (sa aa : Option Addr) (sn sc an ac : Nat) (xs : List Int) (es : List A5) (w : World) (hx : Ints w sa sn xs) (he : Arcs w aa an es) :
    Calls Try.prog 4 #[.agg #[.slice sa sn sc, .slice aa an ac]] w fun e w' => e = .returned (.bool true) ∧ Below w.heap.size w w' := by
  have HX := hide hx
  have HE := hide he
  have hxl : Hid (xs.length = sn ∧ es.length = an) := ⟨hx.len, he.len⟩
  have hb0 : Below w.heap.size w (w.alloc (.cells #[.slice sa sn sc, .slice aa an ac] 25)) := (Below.refl _ _).alloc (Nat.le_refl _) _
  clear hx he
  go_enter Try.func4, Try.ntmps4
  go_wp2_with fail
  refine (refused_any hS hM sa aa sn sc an ac xs es _ (HX.out.below hb0) (HE.out.below hb0)).mono ?_
  rintro e v1 ⟨rfl, hb1⟩
  have k0 : v1.cell? ⟨w.heap.size, 0, none⟩ = some (.slice sa sn sc) := (hb1.cell (by simp)).trans (by go_simp)
  have k1 : v1.cell? ⟨w.heap.size, 1, none⟩ = some (.slice aa an ac) := (hb1.cell (by simp)).trans (by go_simp)
  have hz1 : w.heap.size < v1.heap.size := by have := hb1.size; simp at this; omega
  have hB1 : Below w.heap.size w v1 := hb0.trans (hb1.mono (by simp))
  clear hb0 hb1
  cases hck : ((checkS xs es).1 == 0) with
  | false =>
    go_wp2
    go_ret
    exact ⟨rfl, hB1⟩
  | true =>
    have hn := netOK_of (show (checkS xs es).1 = 0 by simpa using hck)
    have h1s : 1 ≤ sn := by rw [← hxl.out.1]; exact hn.one
    have h10 : sn ≤ 10 := by rw [← hxl.out.1]; exact hn.ten
    have h24 : an ≤ 24 := by rw [← hxl.out.2]; exact hn.arcs
    clear hck
    go_wp2_with fail
    refine (refCopyOwn_any sa aa sn sc an ac xs es _ (HX.out.below hB1) (HE.out.below hB1)).mono ?_
    rintro e w2 ⟨sb, sd, ab, ad, m, rfl, hC, hb2⟩
    obtain ⟨gs, rfl, hCop⟩ := cop_new k0 k1 hz1 hb2 hC h1s
    have hB2 : Below w.heap.size w w2 := hB1.trans (hb2.mono hB1.size)
    have hB3 : Below w.heap.size w (w2.alloc (.cells #[.slice (some ⟨gs, 0, none⟩) sn sd, .slice ab an ad] 25)) := hB2.alloc hB2.size _
    obtain ⟨mb, hmb⟩ : ∃ mb, w2.heap.size = mb := ⟨_, rfl⟩
    obtain ⟨w3, hw3⟩ : ∃ w3, w2.alloc (.cells #[.slice (some ⟨gs, 0, none⟩) sn sd, .slice ab an ad] 25) = w3 := ⟨_, rfl⟩
    rw [hw3] at hCop hB3
    rw [hmb] at hCop
    have HC := hide hCop
    clear hC hb2 k0 k1 hCop hB2 hB1
    go_wp2
    go_loopw [6] (fun i wr => ∃ k : Nat, k ≤ sn ∧ i = .int .i64 k ∧ Hid (Cop wr v1.heap.size m w.heap.size mb sa sn sc aa an ac gs sd ab ad (fun i => if i < k then (xs.getD i 0).tdiv 2 else xs.getD i 0) (fun i => es.getD i zA)) ∧ Below w.heap.size w wr) (fun i _ => sn - (intOf i).toNat)
    case atStart => exact ⟨0, Nat.zero_le _, rfl, HC.out.congr (fun i _ => by simp) (fun i _ => rfl), hB3⟩
    case round =>
      clear hw3 hmb HC hB3
      obtain ⟨k, hk, rfl, hC, hb⟩ := hrel
      by_cases hlt : k < sn
      · have hlt3 : (k : Int) < (sn : Int) := by omega
        have m0 := hC.out.two.m0
        obtain ⟨g, e, hgl, hgw, cx, fx⟩ := hC.out.ri.get hlt
        cases e
        rw [if_neg (by omega)] at cx
        have hxb := getD_bd hn k
        have hval : Hid ((fun i => (xs.getD i 0).tdiv 2) k = (xs.getD k 0).tdiv 2) := rfl
        have hset := hC.out.setI k ((xs.getD k 0).tdiv 2)
        have hB2 := hide ((hb.setCell (p := ⟨gs, k, none⟩) (by show w.heap.size ≤ gs; have := hC.out.c2; omega) (.int .i64 ((xs.getD k 0).tdiv 2))).drew)
        have hSet := hide (hset.congr (fun i _ => upd_step (fun i => xs.getD i 0) (fun i => (xs.getD i 0).tdiv 2) k _ rfl i) (fun i _ => rfl))
        clear hset hval
        obtain ⟨x1, x2⟩ := hxb
        generalize hxx : xs.getD k 0 = x at cx x1 x2 hSet hB2
        clear hxx
        obtain ⟨y, hy⟩ : ∃ y, x.tdiv 2 = y := ⟨_, rfl⟩
        have hyb := halv_bd x 100 x1 x2
        rw [hy] at hSet hB2 hyb
        obtain ⟨y1, y2⟩ := hyb
        go_wp2_with fail
        go_region
        go_wp2
        go_roundw
        case rel => exact ⟨k + 1, by omega, by go_num, hSet.out, hB2.out⟩
        case measure => simp [intOf]; omega
      · have hkn : k = sn := by omega
        subst hkn
        have hC1 := hide (hC.out.congr (gI := (fun i => (xs.getD i 0).tdiv 2)) (gA := (fun i => es.getD i zA)) (fun i hi => by rw [if_pos hi]) (fun i _ => rfl))
        have m0 := hC.out.two.m0
        obtain ⟨sn, rfl⟩ : ∃ sn, sn = k := ⟨_, rfl⟩
        clear hC
        go_wp2
        go_loopw [7] (fun i wr => ∃ k : Nat, k ≤ an ∧ i = .int .i64 k ∧ Hid (Cop wr v1.heap.size m w.heap.size mb sa sn sc aa an ac gs sd ab ad (fun i => (xs.getD i 0).tdiv 2) (fun i => if i < k then halvA (es.getD i zA) else es.getD i zA)) ∧ Below w.heap.size w wr) (fun i _ => an - (intOf i).toNat)
        case atStart => exact ⟨0, Nat.zero_le _, rfl, hC1.out.congr (fun i _ => rfl) (fun i _ => by simp), hb⟩
        case round =>
          clear hC1 hb m0
          obtain ⟨k, hk, rfl, hC, hb⟩ := hrel
          by_cases hlt : k < an
          · have hlt3 : (k : Int) < (an : Int) := by omega
            have m1 := hC.out.two.m1
            obtain ⟨ga, rfl, hga1, hga2, ca, fa⟩ := hC.out.ra.get hlt
            rw [if_neg (by omega)] at ca
            have hge := hC.out.ge ga (by omega) rfl
            have hab := (by have := arcB_out (hn.arc k (by rw [hxl.out.2]; exact hlt)); omega : 0 ≤ (es.getD k zA).lo ∧ (es.getD k zA).lo ≤ 60 ∧ -1 ≤ (es.getD k zA).cap ∧ (es.getD k zA).cap ≤ 60)
            obtain ⟨⟨fr, tt, lo, cp, cst⟩, hA⟩ : ∃ A, es.getD k zA = A := ⟨_, rfl⟩
            rw [hA] at ca hab
            have c2 := ca 2 (by omega)
            have c3 := ca 3 (by omega)
            have f2 := fa (k * 5 + 2)
            simp only [A5.at] at c2 c3 hab
            obtain ⟨vl, hvl⟩ : ∃ vl, lo.tdiv 2 = vl := ⟨_, rfl⟩
            obtain ⟨vc, hvc⟩ : ∃ vc, cp.tdiv 2 = vc := ⟨_, rfl⟩
            have hvb : -200 ≤ vl ∧ vl ≤ 200 := by rw [← hvl]; have := halv_bd lo 60 (by omega) (by omega); omega
            have hvd : -200 ≤ vc ∧ vc ≤ 200 := by rw [← hvc]; have := halv_bd cp 60 (by omega) (by omega); omega
            have s1 := hC.out.setA hlt 2 (by omega) vl
            simp only [Nat.lt_irrefl, if_false] at s1
            rw [hA] at s1
            have b1 := (hb.setCell (p := ⟨ga, k * 5 + 2, none⟩) (by show w.heap.size ≤ ga; have := hC.out.c1; omega) (.int .i64 vl)).drew
            obtain ⟨w5, hw5⟩ : ∃ w5, (wr.setCell ⟨ga, k * 5 + 2, none⟩ (.int .i64 vl)).drew = w5 := ⟨_, rfl⟩
            rw [hw5] at s1 b1
            have HW5 := hide hw5
            obtain ⟨g', eg, _, _, cb, fb⟩ := s1.ra.get hlt
            cases eg
            rw [upd_same] at cb
            have d3 := cb 3 (by omega)
            have g3 := fb (k * 5 + 3)
            simp only [A5.at, A5.put] at d3
            have mm1 := s1.two.m1
            have HAA := hide hA
            have HVL := hide hvl
            have HVC := hide hvc
            have HS1 := hide s1
            have HC0 := hide hC.out
            obtain ⟨v1', v2'⟩ := hvb
            obtain ⟨v3', v4'⟩ := hvd
            obtain ⟨a1, a2, a3, a4⟩ := hab
            clear ca fa cb fb hA hw5 s1 hC
            by_cases hcp : cp = -1
            · subst hcp
              have HF := hide (HS1.out.congr (fun i _ => rfl) (fun i _ => upd_step (fun i => es.getD i zA) (fun i => halvA (es.getD i zA)) k _ (by show halvA (es.getD k zA) = _; rw [HAA.out]; show A5.mk fr tt (lo.tdiv 2) _ cst = _; rw [HVL.out]; rfl) i))
              go_wp2_with fail
              go_region
              rw [HW5.out]
              go_wp2
              go_roundw
              case rel => exact ⟨k + 1, by omega, by go_num, HF.out, b1⟩
              case measure => simp [intOf]; omega
            · have hcb : (cp != -1) = true := by simpa using hcp
              have s2 := HS1.out.setA hlt 3 (by omega) vc
              rw [upd_same, upd_two] at s2
              have HF := hide (s2.congr (fun i _ => rfl) (fun i _ => upd_step (fun i => es.getD i zA) (fun i => halvA (es.getD i zA)) k _ (by show halvA (es.getD k zA) = _; rw [HAA.out]; show A5.mk fr tt (lo.tdiv 2) (if cp = -1 then -1 else cp.tdiv 2) cst = _; rw [if_neg hcp, HVL.out, HVC.out]; rfl) i))
              have HB := hide ((b1.setCell (p := ⟨ga, k * 5 + 3, none⟩) (by show w.heap.size ≤ ga; have := HS1.out.c1; omega) (.int .i64 vc)).drew)
              clear s2 hcp
              go_wp2_with fail
              go_region
              rw [HW5.out]
              go_wp2_with fail
              go_region
              go_wp2
              go_roundw
              case rel => exact ⟨k + 1, by omega, by go_num, HF.out, HB.out⟩
              case measure => simp [intOf]; omega
          · have hkn : k = an := by omega
            subst hkn
            obtain ⟨an, rfl⟩ : ∃ an, an = k := ⟨_, rfl⟩
            have hnh := (halv_ok hn).1
            have hnd := (halv_ok hn).2
            have hIm := hC.out.ri.ints (l := halvX xs) (by rw [halvX_len]; exact hxl.out.1) (fun i _ => (halvX_at xs i).symm) (by omega) (fun i _ => by have := getD_bd hnh i; omega)
            have hAm := hC.out.ra.arcs (l := halvE es) (by rw [halvE_len]; exact hxl.out.2) (fun i hi => by rw [if_pos hi, halvE_at]) (by omega) (fun i hi jj => arc_wf (hnh.arc i (by rw [halvE_len, hxl.out.2]; exact hi)) (by have := hnh.ten; omega) jj)
            obtain ⟨n0', n1', m0, m1, hln, hlm⟩ := hC.out.two
            obtain ⟨w4, hw4⟩ : ∃ w4, w4 = wr := ⟨_, rfl⟩
            subst hw4
            have HIM := hide hIm
            have HAM := hide hAm
            clear hIm hAm hC
            go_wp2_with fail
            refine (refCopyOwn_any (some ⟨gs, 0, none⟩) ab sn sd an ad (halvX xs) (halvE es) _ HIM.out HAM.out).mono ?_
            rintro e w5 ⟨sb2, sd2, ab2, ad2, m2, rfl, hCR, hb5⟩
            obtain ⟨gs2, rfl, hQ⟩ := cop_new m0 m1 hlm hb5 hCR h1s
            have hb6 : Below w4.heap.size w4 (w5.alloc (.cells #[.slice (some ⟨gs2, 0, none⟩) sn sd2, .slice ab2 an ad2] 25)) := hb5.alloc hb5.size _
            obtain ⟨qb, hqb⟩ : ∃ qb, w5.heap.size = qb := ⟨_, rfl⟩
            obtain ⟨w6, hw6⟩ : ∃ w6, w5.alloc (.cells #[.slice (some ⟨gs2, 0, none⟩) sn sd2, .slice ab2 an ad2] 25) = w6 := ⟨_, rfl⟩
            rw [hw6] at hQ hb6
            rw [hqb] at hQ
            have HQ := hide hQ
            have hb4 := hb
            clear hCR hb5 hQ n0' n1' m0 m1 hb
            go_wp2
            go_loopw [9] (fun i wr => ∃ k : Nat, k ≤ sn ∧ i = .int .i64 k ∧ Hid (Cop wr w4.heap.size m2 mb qb (some ⟨gs, 0, none⟩) sn sd ab an ad gs2 sd2 ab2 ad2 (fun i => if i < k then 2 * (halvX xs).getD i 0 else (halvX xs).getD i 0) (fun i => (halvE es).getD i zA)) ∧ Below w4.heap.size w4 wr) (fun i _ => sn - (intOf i).toNat)
            case atStart => exact ⟨0, Nat.zero_le _, rfl, HQ.out.congr (fun i _ => by simp) (fun i _ => rfl), hb6⟩
            case round =>
              clear hw6 hqb HQ hb6
              obtain ⟨k, hk, rfl, hC, hb⟩ := hrel
              by_cases hlt : k < sn
              · have hlt3 : (k : Int) < (sn : Int) := by omega
                have m0 := hC.out.two.m0
                obtain ⟨g, e, hgl, hgw, cx, fx⟩ := hC.out.ri.get hlt
                cases e
                rw [if_neg (by omega)] at cx
                have hxb := getD_bd hnh k
                have hval : Hid ((fun i => 2 * (halvX xs).getD i 0) k = 2 * (halvX xs).getD k 0) := rfl
                have hset := hC.out.setI k (2 * (halvX xs).getD k 0)
                have hB2 := hide ((hb.setCell (p := ⟨gs2, k, none⟩) (by show w4.heap.size ≤ gs2; have := hC.out.c2; omega) (.int .i64 (2 * (halvX xs).getD k 0))).drew)
                have hSet := hide (hset.congr (fun i _ => upd_step (fun i => (halvX xs).getD i 0) (fun i => 2 * (halvX xs).getD i 0) k _ rfl i) (fun i _ => rfl))
                clear hset hval
                obtain ⟨x1, x2⟩ := hxb
                generalize hxx : (halvX xs).getD k 0 = x at cx x1 x2 hSet hB2
                clear hxx
                go_wp2_with fail
                go_region
                go_wp2
                go_roundw
                case rel => exact ⟨k + 1, by omega, by go_num, hSet.out, hB2.out⟩
                case measure => simp [intOf]; omega
              · have hkn : k = sn := by omega
                subst hkn
                have hC1 := hide (hC.out.congr (gI := (fun i => 2 * (halvX xs).getD i 0)) (gA := (fun i => (halvE es).getD i zA)) (fun i hi => by rw [if_pos hi]) (fun i _ => rfl))
                have m0 := hC.out.two.m0
                obtain ⟨sn, rfl⟩ : ∃ sn, sn = k := ⟨_, rfl⟩
                clear hC
                go_wp2
                go_loopw [10] (fun i wr => ∃ k : Nat, k ≤ an ∧ i = .int .i64 k ∧ Hid (Cop wr w4.heap.size m2 mb qb (some ⟨gs, 0, none⟩) sn sd ab an ad gs2 sd2 ab2 ad2 (fun i => 2 * (halvX xs).getD i 0) (fun i => if i < k then dblA ((halvE es).getD i zA) else (halvE es).getD i zA)) ∧ Below w4.heap.size w4 wr) (fun i _ => an - (intOf i).toNat)
                case atStart => exact ⟨0, Nat.zero_le _, rfl, hC1.out.congr (fun i _ => rfl) (fun i _ => by simp), hb⟩
                case round =>
                  clear hC1 hb m0
                  obtain ⟨k, hk, rfl, hC, hb⟩ := hrel
                  by_cases hlt : k < an
                  · have hlt3 : (k : Int) < (an : Int) := by omega
                    have m1 := hC.out.two.m1
                    obtain ⟨ga, rfl, hga1, hga2, ca, fa⟩ := hC.out.ra.get hlt
                    rw [if_neg (by omega)] at ca
                    have hge := hC.out.ge ga (by omega) rfl
                    have hab := (by have := arcB_out (hnh.arc k (by rw [halvE_len, hxl.out.2]; exact hlt)); omega : 0 ≤ ((halvE es).getD k zA).lo ∧ ((halvE es).getD k zA).lo ≤ 60 ∧ -1 ≤ ((halvE es).getD k zA).cap ∧ ((halvE es).getD k zA).cap ≤ 60)
                    obtain ⟨⟨fr, tt, lo, cp, cst⟩, hA⟩ : ∃ A, (halvE es).getD k zA = A := ⟨_, rfl⟩
                    rw [hA] at ca hab
                    have c2 := ca 2 (by omega)
                    have c3 := ca 3 (by omega)
                    have f2 := fa (k * 5 + 2)
                    simp only [A5.at] at c2 c3 hab
                    obtain ⟨vl, hvl⟩ : ∃ vl, 2 * lo = vl := ⟨_, rfl⟩
                    obtain ⟨vc, hvc⟩ : ∃ vc, 2 * cp = vc := ⟨_, rfl⟩
                    have hvb : -200 ≤ vl ∧ vl ≤ 200 := by rw [← hvl]; omega
                    have hvd : -200 ≤ vc ∧ vc ≤ 200 := by rw [← hvc]; omega
                    have s1 := hC.out.setA hlt 2 (by omega) vl
                    simp only [Nat.lt_irrefl, if_false] at s1
                    rw [hA] at s1
                    have b1 := (hb.setCell (p := ⟨ga, k * 5 + 2, none⟩) (by show w4.heap.size ≤ ga; omega) (.int .i64 vl)).drew
                    obtain ⟨w5, hw5⟩ : ∃ w5, (wr.setCell ⟨ga, k * 5 + 2, none⟩ (.int .i64 vl)).drew = w5 := ⟨_, rfl⟩
                    rw [hw5] at s1 b1
                    have HW5 := hide hw5
                    obtain ⟨g', eg, _, _, cb, fb⟩ := s1.ra.get hlt
                    cases eg
                    rw [upd_same] at cb
                    have d3 := cb 3 (by omega)
                    have g3 := fb (k * 5 + 3)
                    simp only [A5.at, A5.put] at d3
                    have mm1 := s1.two.m1
                    have HAA := hide hA
                    have HVL := hide hvl
                    have HVC := hide hvc
                    have HS1 := hide s1
                    have HC0 := hide hC.out
                    obtain ⟨v1', v2'⟩ := hvb
                    obtain ⟨v3', v4'⟩ := hvd
                    obtain ⟨a1, a2, a3, a4⟩ := hab
                    clear ca fa cb fb hA hw5 s1 hC
                    by_cases hcp : cp = -1
                    · subst hcp
                      have HF := hide (HS1.out.congr (fun i _ => rfl) (fun i _ => upd_step (fun i => (halvE es).getD i zA) (fun i => dblA ((halvE es).getD i zA)) k _ (by show dblA ((halvE es).getD k zA) = _; rw [HAA.out]; show A5.mk fr tt (2 * lo) _ cst = _; rw [HVL.out]; rfl) i))
                      go_wp2_with fail
                      go_region
                      rw [HW5.out]
                      go_wp2
                      go_roundw
                      case rel => exact ⟨k + 1, by omega, by go_num, HF.out, b1⟩
                      case measure => simp [intOf]; omega
                    · have hcb : (cp != -1) = true := by simpa using hcp
                      have s2 := HS1.out.setA hlt 3 (by omega) vc
                      rw [upd_same, upd_two] at s2
                      have HF := hide (s2.congr (fun i _ => rfl) (fun i _ => upd_step (fun i => (halvE es).getD i zA) (fun i => dblA ((halvE es).getD i zA)) k _ (by show dblA ((halvE es).getD k zA) = _; rw [HAA.out]; show A5.mk fr tt (2 * lo) (if cp = -1 then -1 else 2 * cp) cst = _; rw [if_neg hcp, HVL.out, HVC.out]; rfl) i))
                      have HB := hide ((b1.setCell (p := ⟨ga, k * 5 + 3, none⟩) (by show w4.heap.size ≤ ga; omega) (.int .i64 vc)).drew)
                      clear s2 hcp
                      go_wp2_with fail
                      go_region
                      rw [HW5.out]
                      go_wp2_with fail
                      go_region
                      go_wp2
                      go_roundw
                      case rel => exact ⟨k + 1, by omega, by go_num, HF.out, HB.out⟩
                      case measure => simp [intOf]; omega
                  · have hkn : k = an := by omega
                    subst hkn
                    have hIq := hC.out.ri.ints (l := dblX (halvX xs)) (by rw [dblX_len, halvX_len]; exact hxl.out.1) (fun i _ => (dblX_at (halvX xs) i).symm) (by omega) (fun i _ => by have := getD_bd hnd i; omega)
                    have hAq := hC.out.ra.arcs (l := dblE (halvE es)) (by rw [dblE_len, halvE_len]; exact hxl.out.2) (fun i hi => by rw [if_pos hi, dblE_at]) (by omega) (fun i hi jj => arc_wf (hnd.arc i (by rw [dblE_len, halvE_len, hxl.out.2]; exact hi)) (by have := hnd.ten; omega) jj)
                    obtain ⟨n0', n1', m0, m1, -, -⟩ := hC.out.two
                    have HIQ := hide hIq
                    have HAQ := hide hAq
                    have hb7 : Below w.heap.size w wr := hb4.trans (hb.mono hb4.size)
                    clear hIq hAq hC
                    go_wp2_with fail
                    refine (alike_any hS (some ⟨gs, 0, none⟩) ab (some ⟨gs2, 0, none⟩) ab2 sn sd k ad sn sd2 k ad2 (halvX xs) (dblX (halvX xs)) (halvE es) (dblE (halvE es)) 2 0 _ (HIM.out.below hb) (HAM.out.below hb) HIQ.out HAQ.out hnh hnd (by omega) (by omega) (fun a b ha hb => twofold_alike hnh hnd ha hb)).mono ?_
                    rintro e w9 ⟨rfl, hb9⟩
                    have hB9 : Below w.heap.size w w9 := hb7.trans (hb9.mono hb7.size)
                    clear n0' n1' m0 m1
                    go_wp2
                    go_ret
                    exact ⟨rfl, hB9⟩
end Go.Proofs.Ytnbccoflcoaoaab
