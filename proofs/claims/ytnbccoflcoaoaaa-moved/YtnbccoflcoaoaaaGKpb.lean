import Derived.Test.YtnbccoflcoaoaaaGKpa
import Derived.Test.YtnbccoflcoaoaaaGDuo
namespace Go.Proofs.Ytnbccoflcoaoaaa
open Go.RowKit Go.Deep
set_option linter.unusedSimpArgs false
set_option linter.unusedVariables false

theorem set_cell_ne {w : World} {b b' o o' : Nat} {u : Value} (h : b ≠ b') : (w.setCell ⟨b', o', none⟩ u).cell? ⟨b, o, none⟩ = w.cell? ⟨b, o, none⟩ := World.cell?_of_block (Below.heap_setCell _ _ _ _ h)
theorem set_blk_ne {w : World} {b b' o' : Nat} {u : Value} (h : b ≠ b') : (w.setCell ⟨b', o', none⟩ u).drew.heap[b]? = w.heap[b]? := Below.heap_setCell _ _ _ _ h

/-- What stands behind a copy whose box is laid: its rows apart from each other and from the boxes. -/
theorem copy_two {w1 w2 : World} {nb : Nat} {sa : Option Addr} {sn sc : Nat} {aa : Option Addr} {an ac : Nat} {sb : Option Addr} {sd : Nat} {ab : Option Addr} {ad m : Nat} {xs : List Int} {es : List A5} (hk0 : w1.cell? ⟨nb, 0, none⟩ = some (.slice sa sn sc)) (hk1 : w1.cell? ⟨nb, 1, none⟩ = some (.slice aa an ac)) (hz : nb < w1.heap.size)
    (hb : Below w1.heap.size w1 w2) (hC : CopyRows w2 w1.heap.size m sb sn sd ab an ad xs es) (hs : 1 ≤ sn) :
    Two (w2.alloc (.cells #[.slice sb sn sd, .slice ab an ad] 25)) nb w2.heap.size sa sn sc aa an ac sb sd ab ad ∧ RowI (w2.alloc (.cells #[.slice sb sn sd, .slice ab an ad] 25)) w1.heap.size sn sb sd (fun i => xs.getD i 0) ∧ RowA (w2.alloc (.cells #[.slice sb sn sd, .slice ab an ad] 25)) m an ab ad (fun i => es.getD i zA) ∧
    (∃ gs, sb = some ⟨gs, 0, none⟩ ∧ w1.heap.size ≤ gs ∧ gs < m ∧ gs < w2.heap.size) ∧ (∀ g, 0 < an → ab = some ⟨g, 0, none⟩ → m ≤ g ∧ g < w2.heap.size) := by
  obtain ⟨h1, h2, h3, h4, -⟩ := hC
  have hal := Joins.below_alloc1 w2 (.cells #[.slice sb sn sd, .slice ab an ad] 25)
  refine ⟨⟨(hal.cell (p := ⟨nb, 0, none⟩) (Nat.lt_of_lt_of_le hz hb.size)).trans ((hb.cell (p := ⟨nb, 0, none⟩) hz).trans hk0), (hal.cell (p := ⟨nb, 1, none⟩) (Nat.lt_of_lt_of_le hz hb.size)).trans ((hb.cell (p := ⟨nb, 1, none⟩) hz).trans hk1), by simp, by simp, by have := hb.size; simp; omega, by simp⟩, h1.rowI.below hal, h2.rowA.below hal, ?_, ?_⟩
  · rcases h1 with h0 | ⟨g, F, e, hl, hr, _⟩
    · omega
    · exact ⟨g, e, hl, h4 _ (by omega) e, hr.lt⟩
  · intro g h0 e
    rcases h2 with h0' | ⟨g', F, e', hl, hr, _⟩
    · omega
    · rw [e] at e'; cases e'; exact ⟨hl, hr.lt⟩

set_option maxRecDepth 100000 in
set_option maxHeartbeats 4000000 in
theorem keepReversed_any (hS : SolveC) (hM : SomeC) (sa aa : Option Addr) (sn sc an ac : Nat) (xs : List Int) (es : List A5) (w : World) (hx : Ints w sa sn xs) (he : Arcs w aa an es) :
    Calls Try.prog 12 #[.agg #[.slice sa sn sc, .slice aa an ac]] w fun e w' => e = .returned (.bool true) ∧ Below w.heap.size w w' := by
  have HX := hide hx
  have HE := hide he
  have hxl : Hid (xs.length = sn ∧ es.length = an) := ⟨hx.len, he.len⟩
  have hb0 : Below w.heap.size w (w.alloc (.cells #[.slice sa sn sc, .slice aa an ac] 25)) := (Below.refl _ _).alloc (Nat.le_refl _) _
  clear hx he
  go_enter Try.func12, Try.ntmps12
  go_wp2_with fail
  refine (refused_any hS hM sa aa sn sc an ac xs es _ (HX.out.below hb0) (HE.out.below hb0)).mono ?_
  rintro e w1 ⟨rfl, hb1⟩
  have k0 : w1.cell? ⟨w.heap.size, 0, none⟩ = some (.slice sa sn sc) := (hb1.cell (by simp)).trans (by go_simp)
  have k1 : w1.cell? ⟨w.heap.size, 1, none⟩ = some (.slice aa an ac) := (hb1.cell (by simp)).trans (by go_simp)
  have hz1 : w.heap.size < w1.heap.size := by have := hb1.size; simp at this; omega
  have hB1 : Below w.heap.size w w1 := hb0.trans (hb1.mono (by simp))
  clear hb0 hb1
  cases hck : ((checkS xs es).1 == 0) with
  | false =>
    go_wp2
    go_ret
    exact ⟨rfl, hB1⟩
  | true =>
    have hn := netOK_of (show (checkS xs es).1 = 0 by simpa using hck)
    have h1s : 1 ≤ sn := by rw [← hxl.out.1]; exact hn.one
    have h10 : sn ≤ 10 := by rw [← hxl.out.1]; exact hn.ten
    have h24 : an ≤ 24 := by rw [← hxl.out.2]; exact hn.arcs
    clear hck
    go_wp2_with fail
    refine (refCopyOwn_any sa aa sn sc an ac xs es _ (HX.out.below hB1) (HE.out.below hB1)).mono ?_
    rintro e w2 ⟨sb, sd, ab, ad, m, rfl, hC, hb2⟩
    obtain ⟨hT, hRI, hRA, ⟨gs, rfl, hg1, hg2, hg3⟩, hga⟩ := copy_two k0 k1 hz1 hb2 hC h1s
    have hB2 : Below w.heap.size w w2 := hB1.trans (hb2.mono hB1.size)
    have hB3 : Below w.heap.size w (w2.alloc (.cells #[.slice (some ⟨gs, 0, none⟩) sn sd, .slice ab an ad] 25)) := hB2.alloc hB2.size _
    have hsz2 : w1.heap.size ≤ w2.heap.size := hb2.size
    obtain ⟨mb, hmb⟩ : ∃ mb, w2.heap.size = mb := ⟨_, rfl⟩
    obtain ⟨w3, hw3⟩ : ∃ w3, w2.alloc (.cells #[.slice (some ⟨gs, 0, none⟩) sn sd, .slice ab an ad] 25) = w3 := ⟨_, rfl⟩
    rw [hw3] at hT hRI hRA hB3
    rw [hmb] at hT hg3 hga hsz2
    have HT := hide hT
    have HRI := hide hRI
    have HRA := hide hRA
    have HGA := hide hga
    clear hC hb2 k0 k1 hT hRI hRA hga hB2 hB1
    go_wp2
    go_loopw [6] (fun i wr => ∃ k : Nat, k ≤ sn ∧ i = .int .i64 k ∧ Hid (RowI wr w1.heap.size sn (some ⟨gs, 0, none⟩) sd (fun i => if i < k then -(xs.getD i 0) else xs.getD i 0)) ∧ Hid (RowA wr m an ab ad (fun i => es.getD i zA)) ∧ Hid (Two wr w.heap.size mb sa sn sc aa an ac (some ⟨gs, 0, none⟩) sd ab ad) ∧ Below w.heap.size w wr) (fun i _ => sn - (intOf i).toNat)
    case atStart => exact ⟨0, Nat.zero_le _, rfl, HRI.out.congr (fun i _ => by simp), HRA.out, HT.out, hB3⟩
    case round =>
      clear hw3 hmb HT HRI HRA hB3
      obtain ⟨k, hk, rfl, hRI, hRA, hT, hb⟩ := hrel
      by_cases hlt : k < sn
      · have hlt3 : (k : Int) < (sn : Int) := by omega
        have m0 := hT.out.m0
        obtain ⟨g, e, hgl, hgw, cx, fx⟩ := hRI.out.get hlt
        cases e
        rw [if_neg (by omega)] at cx
        have hxb := getD_bd hn k
        have hset := hide (hRI.out.set k (-(xs.getD k 0)))
        have hRA2 := hide (hRA.out.keep (w' := (wr.setCell ⟨gs, k, none⟩ (.int .i64 (-(xs.getD k 0)))).drew) (fun g e h1 h2 => set_blk_ne (by omega)))
        have hT2 := hide ((hT.out.set (b := gs) (o := k) (by omega) (by omega) (.int .i64 (-(xs.getD k 0)))).drew)
        have hB2 := hide ((hb.setCell (p := ⟨gs, k, none⟩) (by show w.heap.size ≤ gs; omega) (.int .i64 (-(xs.getD k 0)))).drew)
        obtain ⟨x1, x2⟩ := hxb
        generalize hxx : xs.getD k 0 = x at *
        have HXX := hide hxx
        clear hxx
        go_wp2_with fail
        go_region
        go_wp2
        go_roundw
        case rel =>
          exact ⟨k + 1, by omega, by go_num, (hset.out.below ((Below.refl _ _).drew)).congr (fun i _ => upd_step (fun i => xs.getD i 0) (fun i => -(xs.getD i 0)) k _ (by rw [HXX.out]) i), hRA2.out, hT2.out, hB2.out⟩
        case measure => simp [intOf]; omega
      · have hkn : k = sn := by omega
        subst hkn
        have m0 := hT.out.m0
        have hRI1 : Hid (RowI wr w1.heap.size k (some ⟨gs, 0, none⟩) sd (fun i => -(xs.getD i 0))) := hRI.out.congr (fun i hi => by rw [if_pos hi])
        clear hRI
        go_wp2
        go_loopw [7] (fun i wr => ∃ j : Nat, j ≤ an ∧ i = .int .i64 j ∧ Hid (RowI wr w1.heap.size k (some ⟨gs, 0, none⟩) sd (fun i => -(xs.getD i 0))) ∧ Hid (RowA wr m an ab ad (fun i => if i < j then flipA (es.getD i zA) else es.getD i zA)) ∧ Hid (Two wr w.heap.size mb sa k sc aa an ac (some ⟨gs, 0, none⟩) sd ab ad) ∧ Below w.heap.size w wr) (fun i _ => an - (intOf i).toNat)
        case atStart => exact ⟨0, Nat.zero_le _, rfl, hRI1.out, hRA.out.congr (fun i _ => by simp), hT.out, hb⟩
        case round =>
          clear hRI1 hRA hT hb m0
          obtain ⟨j, hj, rfl, hRI, hRA, hT, hb⟩ := hrel
          by_cases hlt2 : j < an
          · have hlt3 : (j : Int) < (an : Int) := by omega
            obtain ⟨ga, rfl, hga1, hga2, ca, fa⟩ := hRA.out.get hlt2
            have hgm := (HGA.out ga (by omega) rfl).2
            obtain ⟨b, off, f, t, l, c, q, rfl, hA, hbb, e0, e1, e2, e3, e4⟩ := (HE.out.below hb).get hlt2
            have hbw : b < w.heap.size := by
              obtain ⟨b', off', e', hl', _⟩ := HE.out.lies.resolve_left (by omega)
              cases e'; exact hl'
            rw [if_neg (by omega), hA] at ca
            have c0 := ca 0 (by omega)
            have c1 := ca 1 (by omega)
            simp only [A5.at, Nat.add_zero] at c0 c1
            have f0 := fa (j * 5)
            have n1 := hT.out.n1
            have m1 := hT.out.m1
            have hs1 := hRA.out.set j 0 (by omega) t
            simp only [Nat.add_zero] at hs1
            obtain ⟨w5, hw5⟩ : ∃ w5, (wr.setCell ⟨ga, j * 5, none⟩ (.int .i64 t)).drew = w5 := ⟨_, rfl⟩
            have hRA5 := hs1.below (w' := w5) (by rw [← hw5]; exact (Below.refl _ _).drew)
            have hRI5 : Hid (RowI w5 w1.heap.size k (some ⟨gs, 0, none⟩) sd (fun i => -(xs.getD i 0))) := by rw [← hw5]; exact hRI.out.keep (fun g e h1 h2 => by cases e; exact set_blk_ne (by omega))
            have hT5 : Two w5 w.heap.size mb sa k sc (some ⟨b, off, none⟩) an ac (some ⟨gs, 0, none⟩) sd (some ⟨ga, 0, none⟩) ad := by rw [← hw5]; exact (hT.out.set (by omega) (by omega) _).drew
            have hb5 : Below w.heap.size w w5 := by rw [← hw5]; exact (hb.setCell (p := ⟨ga, j * 5, none⟩) (by show w.heap.size ≤ ga; omega) _).drew
            have d0 : w5.cell? ⟨b, off + j * 5, none⟩ = some (.int .i64 f) := by rw [← hw5]; exact (set_cell_ne (w := wr) (by omega)).trans e0
            obtain ⟨g', eg, _, _, cb, fb⟩ := hRA5.get hlt2
            cases eg
            have c1' := cb 1 (by omega)
            rw [upd_same, A5.put_at _ _ _ _ (by omega) (by omega), if_neg (by omega)] at c1'
            rw [if_neg (by omega), hA] at c1'
            simp only [A5.at] at c1'
            have f1 := fb (j * 5 + 1)
            have n1' := hT5.n1
            have m1' := hT5.m1
            have hs2 := hide (hRA5.set j 1 (by omega) f)
            have hRI6 := hide (hRI5.out.keep (w' := (w5.setCell ⟨ga, j * 5 + 1, none⟩ (.int .i64 f)).drew) (fun g e h1 h2 => by cases e; exact set_blk_ne (by omega)))
            have hT6 := hide ((hT5.set (b := ga) (o := j * 5 + 1) (by omega) (by omega) (.int .i64 f)).drew)
            have hb6 := hide ((hb5.setCell (p := ⟨ga, j * 5 + 1, none⟩) (by show w.heap.size ≤ ga; omega) (.int .i64 f)).drew)
            have HAA := hide hA
            have HW5 := hide hw5
            clear hA hs1 hRA5 hT5 hb5 hRI5 hRI hRA hT hb ca cb fa fb hw5
            go_wp2_with fail
            go_region
            rw [HW5.out]
            go_wp2_with fail
            go_region
            go_wp2
            go_roundw
            case rel =>
              refine ⟨j + 1, by omega, by go_num, hRI6.out, (hs2.out.below ((Below.refl _ _).drew)).congr (fun i _ => ?_), hT6.out, hb6.out⟩
              refine Eq.trans ?_ (upd_step (fun i => es.getD i zA) (fun i => flipA (es.getD i zA)) j (flipA (es.getD j zA)) rfl i)
              unfold upd
              by_cases e : i = j
              · subst e
                simp only [if_true]
                rw [if_neg (by omega), HAA.out]
                rfl
              · simp only [if_neg e]
            case measure => simp [intOf]; omega
          · have hjn : j = an := by omega
            subst hjn
            have hIm := hRI.out.ints (l := revX xs) (by rw [revX_len]; exact hxl.out.1) (fun i _ => (revX_at xs i).symm) (by omega) (fun i _ => by rw [revX_at]; have := getD_bd hn i; omega)
            have hAm := hRA.out.arcs (l := revE es) (by rw [revE_len]; exact hxl.out.2) (fun i hi => by rw [if_pos hi, revE_at]) (by omega) (fun i hi jj => by
              have h2 := (rev_ok hn).arc i (by rw [revE_len, hxl.out.2]; exact hi)
              exact arc_wf h2 (by rw [revX_len]; have := hn.ten; omega) jj)
            obtain ⟨n0, n1, m0, m1, -, -⟩ := hT.out
            have HIM := hide hIm
            have HAM := hide hAm
            clear hIm hAm hRI hRA
            go_wp2_with fail
            refine (alike_any hS sa aa (some ⟨gs, 0, none⟩) ab k sc j ac k sd j ad xs (revX xs) es (revE es) 1 0 _ (HX.out.below hb) (HE.out.below hb) HIM.out HAM.out hn (rev_ok hn) (by omega) (by omega) (fun a b ha hb => reversed_alike hn ha hb)).mono ?_
            rintro e w9 ⟨rfl, hb9⟩
            have hB9 : Below w.heap.size w w9 := hb.trans (hb9.mono hb.size)
            clear n0 n1 m0 m1
            go_wp2
            go_ret
            exact ⟨rfl, hB9⟩
end Go.Proofs.Ytnbccoflcoaoaaa

namespace Go.Proofs.Ytnbccoflcoaoaaa
open Go.RowKit Go.Deep
set_option linter.unusedSimpArgs false
set_option linter.unusedVariables false

/-- A copy of a net that is written: its rows, its box at mb, the box of the net that it was made of at nb. -/
structure Cop (W : World) (L m nb mb : Nat) (sa : Option Addr) (sn sc : Nat) (aa : Option Addr) (an ac gs sd : Nat) (ab : Option Addr) (ad : Nat) (fI : Nat → Int) (fA : Nat → A5) : Prop where
  ri : RowI W L sn (some ⟨gs, 0, none⟩) sd fI
  ra : RowA W m an ab ad fA
  two : Two W nb mb sa sn sc aa an ac (some ⟨gs, 0, none⟩) sd ab ad
  c1 : nb < L
  c2 : L ≤ gs
  c3 : gs < m
  c4 : gs < mb
  c5 : ∀ g, 0 < an → ab = some ⟨g, 0, none⟩ → m ≤ g ∧ g < mb
section
variable {W : World} {L m nb mb : Nat} {sa : Option Addr} {sn sc : Nat} {aa : Option Addr} {an ac gs sd : Nat} {ab : Option Addr} {ad : Nat} {fI : Nat → Int} {fA : Nat → A5}
theorem Cop.setI (h : Cop W L m nb mb sa sn sc aa an ac gs sd ab ad fI fA) (k : Nat) (x : Int) : Cop (W.setCell ⟨gs, k, none⟩ (.int .i64 x)).drew L m nb mb sa sn sc aa an ac gs sd ab ad (upd fI k x) fA := by
  have h1 := h.c1; have h2 := h.c2; have h3 := h.c3; have h4 := h.c4
  exact ⟨(h.ri.set k x).below ((Below.refl _ _).drew), h.ra.keep (fun g e h1 h2 => set_blk_ne (by omega)), (h.two.set (by omega) (by omega) _).drew, h1, h2, h3, h4, h.c5⟩
theorem Cop.setA {ga : Nat} (h : Cop W L m nb mb sa sn sc aa an ac gs sd (some ⟨ga, 0, none⟩) ad fI fA) {k : Nat} (hk : k < an) (j : Nat) (hj : j < 5) (x : Int) : Cop (W.setCell ⟨ga, k * 5 + j, none⟩ (.int .i64 x)).drew L m nb mb sa sn sc aa an ac gs sd (some ⟨ga, 0, none⟩) ad fI (upd fA k ((fA k).put j x)) := by
  have h1 := h.c1; have h2 := h.c2; have h3 := h.c3; have h4 := h.c4
  have h5 := h.c5 ga (by omega) rfl
  exact ⟨h.ri.keep (fun g e h1 h2 => by cases e; exact set_blk_ne (by omega)), (h.ra.set k j hj x).below ((Below.refl _ _).drew), (h.two.set (by omega) (by omega) _).drew, h1, h2, h3, h4, h.c5⟩
theorem Cop.congr {gI : Nat → Int} {gA : Nat → A5} (h : Cop W L m nb mb sa sn sc aa an ac gs sd ab ad fI fA) (e1 : ∀ i, i < sn → fI i = gI i) (e2 : ∀ i, i < an → fA i = gA i) : Cop W L m nb mb sa sn sc aa an ac gs sd ab ad gI gA :=
  ⟨h.ri.congr e1, h.ra.congr e2, h.two, h.c1, h.c2, h.c3, h.c4, h.c5⟩
theorem Cop.ge (h : Cop W L m nb mb sa sn sc aa an ac gs sd ab ad fI fA) (g : Nat) (h0 : 0 < an) (e : ab = some ⟨g, 0, none⟩) : L ≤ g := by
  have := h.c5 g h0 e; have := h.c2; have := h.c3; omega
end
theorem cop_new {w1 w2 : World} {nb : Nat} {sa : Option Addr} {sn sc : Nat} {aa : Option Addr} {an ac : Nat} {sb : Option Addr} {sd : Nat} {ab : Option Addr} {ad m : Nat} {xs : List Int} {es : List A5} (hk0 : w1.cell? ⟨nb, 0, none⟩ = some (.slice sa sn sc)) (hk1 : w1.cell? ⟨nb, 1, none⟩ = some (.slice aa an ac)) (hz : nb < w1.heap.size)
    (hb : Below w1.heap.size w1 w2) (hC : CopyRows w2 w1.heap.size m sb sn sd ab an ad xs es) (hs : 1 ≤ sn) :
    ∃ gs, sb = some ⟨gs, 0, none⟩ ∧ Cop (w2.alloc (.cells #[.slice sb sn sd, .slice ab an ad] 25)) w1.heap.size m nb w2.heap.size sa sn sc aa an ac gs sd ab ad (fun i => xs.getD i 0) (fun i => es.getD i zA) := by
  obtain ⟨hT, hRI, hRA, ⟨gs, rfl, h1, h2, h3⟩, hga⟩ := copy_two hk0 hk1 hz hb hC hs
  exact ⟨gs, rfl, hRI, hRA, hT, hz, h1, h2, h3, hga⟩

theorem upd_two {α : Type} (f : Nat → α) (k : Nat) (a b : α) : upd (upd f k a) k b = upd f k b := by funext i; unfold upd; split <;> rfl

theorem halv_bd (c m : Int) (h1 : -m ≤ c) (h2 : c ≤ m) : -m ≤ c.tdiv 2 ∧ c.tdiv 2 ≤ m := ⟨(half_bd2 h1 h2).2.2.1, (half_bd2 h1 h2).2.2.2⟩

end Go.Proofs.Ytnbccoflcoaoaaa
