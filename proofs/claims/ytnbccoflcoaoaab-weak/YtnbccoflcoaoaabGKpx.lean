import Derived.Test.YtnbccoflcoaoaabGKpb
import Derived.Test.YtnbccoflcoaoaabGBas
namespace Go.Proofs.Ytnbccoflcoaoaab
open Go.RowKit Go.Deep
set_option linter.unusedSimpArgs false
set_option linter.unusedVariables false

/-! ### an arc in two parts -/
def ArcAt (w : World) (g : Nat) (a : A5) : Prop := w.rowIs g 32 5 (fun j => .int .i64 (a.at j))
theorem ArcAt.cells {w : World} {g : Nat} {a : A5} (h : ArcAt w g a) : (w.cell? ⟨g, 0, none⟩ = some (.int .i64 a.fr) ∧ w.cell? ⟨g, 1, none⟩ = some (.int .i64 a.to) ∧ w.cell? ⟨g, 2, none⟩ = some (.int .i64 a.lo) ∧ w.cell? ⟨g, 3, none⟩ = some (.int .i64 a.cap) ∧ w.cell? ⟨g, 4, none⟩ = some (.int .i64 a.cost)) ∧ ∀ o, w.frozen? ⟨g, o, none⟩ = false :=
  ⟨⟨h.cell (i := 0) (by omega), h.cell (i := 1) (by omega), h.cell (i := 2) (by omega), h.cell (i := 3) (by omega), h.cell (i := 4) (by omega)⟩, fun o => h.frozen o⟩
theorem ArcAt.set {w : World} {g : Nat} {a : A5} (h : ArcAt w g a) (j : Nat) (hj : j < 5) (x : Int) : ArcAt (w.setCell ⟨g, j, none⟩ (.int .i64 x)) g (a.put j x) :=
  (World.rowIs.set h j _).congr (fun i hi => by rw [A5.put_at _ _ _ _ hj hi]; split <;> rfl)
theorem ArcAt.other {w : World} {g : Nat} {a : A5} (h : ArcAt w g a) {b o : Nat} (hb : g ≠ b) (u : Value) : ArcAt (w.setCell ⟨b, o, none⟩ u) g a := World.rowIs.setOther h hb u
theorem ArcAt.below {w w' : World} {g : Nat} {a : A5} (h : ArcAt w g a) (hb : Below w.heap.size w w') : ArcAt w' g a := blockBelow hb (World.rowIs.lt h) h
theorem arcAt_new (w : World) (a : A5) : ArcAt (w.alloc (.cells #[.int .i64 a.fr, .int .i64 a.to, .int .i64 a.lo, .int .i64 a.cap, .int .i64 a.cost] 32)) w.heap.size a := by
  have := World.rowIs_alloc w #[.int .i64 a.fr, .int .i64 a.to, .int .i64 a.lo, .int .i64 a.cap, .int .i64 a.cost] 32 (fun j => .int .i64 (a.at j)) (fun i hi => by
    match i, hi with
    | 0, _ => rfl
    | 1, _ => rfl
    | 2, _ => rfl
    | 3, _ => rfl
    | 4, _ => rfl)
  unfold ArcAt
  simpa using this

theorem take_ok {xs : List Int} {es : List A5} (h : NetOK xs es) (n : Nat) : NetOK xs (es.take n) where
  one := h.one
  ten := h.ten
  arcs := by rw [List.length_take]; have := h.arcs; omega
  sup := h.sup
  arc := fun j hj => by
    rw [List.length_take] at hj
    have := h.arc j (by omega)
    rw [show (es.take n).getD j zA = es.getD j zA from by simp [List.getD, List.getElem?_take, show j < n by omega]]
    exact this
theorem take_arcs {w : World} {a : Option Addr} {n : Nat} {es : List A5} (h : Arcs w a n es) (m : Nat) (hm : m ≤ n) : Arcs w a m (es.take m) := by
  refine ⟨by rw [List.length_take, h.len]; omega, by have := h.small; omega, fun x hx => h.wf x (List.mem_of_mem_take hx), ?_⟩
  by_cases h0 : n = 0
  · exact .inl (by omega)
  · obtain ⟨b, off, e, hl, hc⟩ := h.lies.resolve_left h0
    refine .inr ⟨b, off, e, hl, fun i hi j hj => ?_⟩
    rw [show (es.take m).getD i zA = es.getD i zA from by simp [List.getD, List.getElem?_take, hi]]
    exact hc i (by omega) j hj

/-- A row of arcs that is one's own, for append. -/
theorem RowA.owns {w : World} {lo n : Nat} {g c : Nat} {f : Nat → A5} (h : RowA w lo n (some ⟨g, 0, none⟩) c f) (hn : 0 < n) (hc : c ≤ maxLen) {l : List A5} (hl : l.length = n) (hf : ∀ i, i < n → f i = l.getD i zA) : w.ownsRow lo 32 5 (.slice (some ⟨g, 0, none⟩) n c) n (arcCells l) := by
  rcases h with h | ⟨g', F, e, hlo, ⟨cur, hh, hs, hcur⟩, hnc, hF⟩
  · omega
  · cases e
    refine ⟨by rw [arcCells_length, hl], .inr ⟨g, c, cur, rfl, hlo, hh, hnc, hc, hs, ?_⟩⟩
    have h5 : n * 5 ≤ c * 5 := Nat.mul_le_mul_right 5 hnc
    apply List.ext_getElem?
    intro j
    rw [List.getElem?_take]
    by_cases hj : j < n * 5
    · have h2 := arcCells_at l (j / 5) (j % 5) (by omega) (by omega)
      rw [show j / 5 * 5 + j % 5 = j from by omega] at h2
      have h3 := hF (j / 5) (by omega) (j % 5) (by omega)
      rw [show j / 5 * 5 + j % 5 = j from by omega, hf (j / 5) (by omega)] at h3
      rw [if_pos hj, h2, Array.getElem?_toList, hcur j (by omega), h3]
    · rw [if_neg hj, List.getElem?_eq_none (by rw [arcCells_length]; omega)]

/-- Five cells of an arc are written. -/
theorem RowA.setArc {w : World} {lo n g c : Nat} {f : Nat → A5} (h : RowA w lo n (some ⟨g, 0, none⟩) c f) (k : Nat) (a : A5) :
    RowA (((((w.setCell ⟨g, k * 5, none⟩ (.int .i64 a.fr)).setCell ⟨g, k * 5 + 1, none⟩ (.int .i64 a.to)).setCell ⟨g, k * 5 + 2, none⟩ (.int .i64 a.lo)).setCell ⟨g, k * 5 + 3, none⟩ (.int .i64 a.cap)).setCell ⟨g, k * 5 + 4, none⟩ (.int .i64 a.cost)) lo n (some ⟨g, 0, none⟩) c (upd f k a) := by
  have h0 := h.set k 0 (by omega) a.fr
  simp only [Nat.add_zero] at h0
  have h1 := h0.set k 1 (by omega) a.to
  have h2 := h1.set k 2 (by omega) a.lo
  have h3 := h2.set k 3 (by omega) a.cap
  have h4 := h3.set k 4 (by omega) a.cost
  simp only [upd_same, upd_two] at h4
  exact h4
theorem set5_blk {w : World} {g k b : Nat} {v0 v1 v2 v3 v4 : Value} (h : b ≠ g) : (((((w.setCell ⟨g, k * 5, none⟩ v0).setCell ⟨g, k * 5 + 1, none⟩ v1).setCell ⟨g, k * 5 + 2, none⟩ v2).setCell ⟨g, k * 5 + 3, none⟩ v3).setCell ⟨g, k * 5 + 4, none⟩ v4).heap[b]? = w.heap[b]? := by
  rw [Below.heap_setCell _ _ _ _ h, Below.heap_setCell _ _ _ _ h, Below.heap_setCell _ _ _ _ h, Below.heap_setCell _ _ _ _ h, Below.heap_setCell _ _ _ _ h]
theorem getD_setA (l : List A5) (k i : Nat) (a : A5) (hk : k < l.length) : (l.set k a).getD i zA = if i = k then a else l.getD i zA := by
  simp only [List.getD, List.getElem?_set]
  by_cases h : k = i
  · subst h; simp [hk]
  · rw [if_neg h, if_neg (fun e => h e.symm)]
end Go.Proofs.Ytnbccoflcoaoaab

namespace Go.Proofs.Ytnbccoflcoaoaab
open Go.RowKit Go.Deep
set_option linter.unusedSimpArgs false
set_option linter.unusedVariables false

set_option maxRecDepth 100000 in
set_option maxHeartbeats 8000000 in
theorem keepSplit_any (hS : SolveC) (hM : SomeC) (sa aa : Option Addr) (sn sc an ac : Nat) (wh lw mr : Int) (xs : List Int) (es : List A5) (w : World) (hx : Ints w sa sn xs) (he : Arcs w aa an es) (hwh : -9223372036854775808 ≤ wh ∧ wh ≤ 9223372036854775807) (hlw : -9223372036854775808 ≤ lw ∧ lw ≤ 9223372036854775807) (hmr : -9223372036854775808 ≤ mr ∧ mr ≤ 9223372036854775807) :
    Calls Try.prog 3 #[.agg #[.slice sa sn sc, .slice aa an ac], .int .i64 wh, .int .i64 lw, .int .i64 mr] w fun e w' => e = .returned (.bool true) ∧ Below w.heap.size w w' := by
  have HX := hide hx
  have HE := hide he
  have hxl : Hid (xs.length = sn ∧ es.length = an) := ⟨hx.len, he.len⟩
  have hb0 : Below w.heap.size w (w.alloc (.cells #[.slice sa sn sc, .slice aa an ac] 25)) := (Below.refl _ _).alloc (Nat.le_refl _) _
  clear hx he
  go_enter Try.func3, Try.ntmps3
  go_wp2_with fail
  refine (refused_any hS hM sa aa sn sc an ac xs es _ (HX.out.below hb0) (HE.out.below hb0)).mono ?_
  rintro e v1 ⟨rfl, hb1⟩
  have k0 : v1.cell? ⟨w.heap.size, 0, none⟩ = some (.slice sa sn sc) := (hb1.cell (by simp)).trans (by go_simp)
  have k1 : v1.cell? ⟨w.heap.size, 1, none⟩ = some (.slice aa an ac) := (hb1.cell (by simp)).trans (by go_simp)
  have hz1 : w.heap.size < v1.heap.size := by have := hb1.size; simp at this; omega
  have hB1 : Below w.heap.size w v1 := hb0.trans (hb1.mono (by simp))
  clear hb0 hb1
  cases hck : ((checkS xs es).1 == 0) with
  | false =>
    go_wp2
    go_ret
    exact ⟨rfl, hB1⟩
  | true =>
    have hn := netOK_of (show (checkS xs es).1 = 0 by simpa using hck)
    have h1s : 1 ≤ sn := by rw [← hxl.out.1]; exact hn.one
    have h10 : sn ≤ 10 := by rw [← hxl.out.1]; exact hn.ten
    have h24 : an ≤ 24 := by rw [← hxl.out.2]; exact hn.arcs
    clear hck
    go_wp2_with fail
    refine (refCopyOwn_any sa aa sn sc an ac xs es _ (HX.out.below hB1) (HE.out.below hB1)).mono ?_
    rintro e w2 ⟨sb, sd, ab, ad, m, rfl, hC, hb2⟩
    have hB2 : Below w.heap.size w w2 := hB1.trans (hb2.mono hB1.size)
    have hIm : Ints w2 sb sn xs := hC.1.ints hxl.out.1 (by omega) HX.out.wf
    have hAm : Arcs w2 ab an es := hC.2.1.arcs hxl.out.2 (by omega) HE.out.wf
    have hcap : Hid (0 < an → ∃ ga, ab = some ⟨ga, 0, none⟩ ∧ an ≤ ad) := fun h0 => by
      rcases hC.2.1 with h | ⟨g, F, e, _, _, hnc, _⟩
      · omega
      · exact ⟨g, e, hnc⟩
    have HB2 := hide hB2
    have HIM := hide hIm
    have HAM := hide hAm
    clear hC hb2 k0 k1 hIm hAm hB2 hB1
    -- the copy, cut to 23 arcs
    obtain ⟨n1, hn1⟩ : ∃ n1, n1 = (if 23 < an then 23 else an) := ⟨_, rfl⟩
    have hn1a : n1 ≤ an := by rw [hn1]; split <;> omega
    have hn23 : n1 ≤ 23 := by rw [hn1]; split <;> omega
    have HN1 := hide hn1
    clear hn1
    go_upto_if 30 with fail
    go_cut [11] (fun s11 wx => s11 = .pointer (some ⟨w2.heap.size, 0, none⟩) ∧ Below w2.heap.size w2 wx ∧ wx.cell? ⟨w2.heap.size, 0, none⟩ = some (.slice sb sn sd) ∧ wx.cell? ⟨w2.heap.size, 1, none⟩ = some (.slice ab n1 ad) ∧ w2.heap.size < wx.heap.size)
    case first =>
      by_cases h23 : 23 < an
      · obtain ⟨ga, rfl, hca⟩ := hcap.out (by omega)
        have h23b : (23 : Int) < (an : Int) := by omega
        have hca2 : (23 : Int) ≤ (ad : Int) := by omega
        go_wp2_with fail
        go_meet
        case rel =>
          rw [HN1.out, if_pos h23]
          exact ⟨rfl, (Below.refl _ _).alloc (Nat.le_refl _) _, by simp, by simp, by simp⟩
      · have h23b : decide ((23 : Int) < (an : Int)) = false := decide_eq_false (by omega)
        go_wp2_with fail
        all_goals first
          | (exfalso; omega)
          | (go_meet
             case rel =>
               rw [HN1.out, if_neg h23]
               exact ⟨rfl, (Below.refl _ _).alloc (Nat.le_refl _) _, by simp, by simp, by simp⟩)
    case rest =>
    obtain ⟨rfl, hbw, m0, m1, hlm⟩ := hcut
    obtain ⟨wm, hwm⟩ : ∃ wm, wm = wc := ⟨_, rfl⟩
    subst hwm
    obtain ⟨es1, hes1⟩ : ∃ es1, es.take n1 = es1 := ⟨_, rfl⟩
    have hnn : NetOK xs es1 := by rw [← hes1]; exact take_ok hn n1
    have hA1 : Arcs wm ab n1 es1 := by rw [← hes1]; exact take_arcs (HAM.out.below hbw) n1 hn1a
    have hBc : Below w.heap.size w wm := HB2.out.trans (hbw.mono HB2.out.size)
    have HI1 := hide (HIM.out.below hbw)
    have HA1 := hide hA1
    have hl1 : Hid (es1.length = n1) := hA1.len
    obtain ⟨mb, hmb⟩ : ∃ mb, w2.heap.size = mb := ⟨_, rfl⟩
    rw [hmb] at m0 m1 hlm ⊢
    clear hmb hbw hes1 HAM HIM HB2 hA1 hn HE HX HN1 hn1a h24
    by_cases h0 : n1 = 0
    · subst h0
      go_wp2_with fail
      refine (alike_any hS sb ab sb ab sn sd 0 ad sn sd 0 ad xs xs es1 es1 1 0 _ HI1.out HA1.out HI1.out HA1.out hnn hnn (by omega) (by omega) (fun a b ha hb => same_alike hnn ha hb)).mono ?_
      rintro e w9 ⟨rfl, hb9⟩
      have hB9 : Below w.heap.size w w9 := hBc.trans (hb9.mono hBc.size)
      clear m0 m1
      go_wp2
      go_ret
      exact ⟨rfl, hB9⟩
    · have h0b : ((n1 : Int) == 0) = false := by simp only [beq_eq_false_iff_ne, ne_eq]; omega
      have hn0 : 0 < n1 := by omega
      clear h0
      go_wp2_with fail
      refine (refCopyOwn_any sb ab sn sd n1 ad xs es1 _ HI1.out HA1.out).mono ?_
      rintro e w5 ⟨sb2, sd2, ab2, ad2, m2, rfl, hC, hb5⟩
      obtain ⟨gs2, rfl, hQ⟩ := cop_new m0 m1 hlm hb5 hC h1s
      have hmx := hC.2.2.2.2.1
      have hb6 : Below wm.heap.size wm (w5.alloc (.cells #[.slice (some ⟨gs2, 0, none⟩) sn sd2, .slice ab2 n1 ad2] 25)) := hb5.alloc hb5.size _
      obtain ⟨ga, rfl, -⟩ := hQ.ra.get hn0
      obtain ⟨qb, hqb⟩ : ∃ qb, w5.heap.size = qb := ⟨_, rfl⟩
      obtain ⟨w6, hw6⟩ : ∃ w6, w5.alloc (.cells #[.slice (some ⟨gs2, 0, none⟩) sn sd2, .slice (some ⟨ga, 0, none⟩) n1 ad2] 25) = w6 := ⟨_, rfl⟩
      have hq6 : w6.heap.size = qb + 1 := by rw [← hw6, ← hqb]; simp
      have fq6 : w6.frozen? ⟨qb, 1, none⟩ = false := by rw [← hw6, ← hqb]; simp
      rw [hw6] at hQ hb6
      rw [hqb] at hQ
      have cP : n0 (Calls Try.prog 12 #[.int .i64 wh, .int .i64 n1] w6 fun e w' => e = .returned (.int .i64 (pickS wh n1)) ∧ w' = w6) := pick_any wh n1 w6 hwh.1 hwh.2 (by omega) (by omega)
      have hpk := pickS_bd wh n1 (by omega)
      generalize pickS wh n1 = kk at *
      obtain ⟨kn, rfl⟩ := nat_of hpk.1
      have hkn : kn < n1 := by omega
      have hkn3 : (kn : Int) < (n1 : Int) := by omega
      have q1 := hQ.two.m1
      have q0 := hQ.two.m0
      obtain ⟨g', eg, _, _, ca, fa⟩ := hQ.ra.get hkn
      cases eg
      obtain ⟨⟨fr, tt, lo, cp, cst⟩, hA⟩ : ∃ A, es1.getD kn zA = A := ⟨_, rfl⟩
      rw [hA] at ca
      have c0 := ca 0 (by omega)
      have c1 := ca 1 (by omega)
      have c2 := ca 2 (by omega)
      have c3 := ca 3 (by omega)
      have c4 := ca 4 (by omega)
      simp only [A5.at, Nat.add_zero] at c0 c1 c2 c3 c4
      have hab := arcB_out (hnn.arc kn (by rw [hl1.out]; exact hkn))
      rw [hA] at hab
      simp only [] at hab
      have HQ := hide hQ
      have HAA := hide hA
      have hgl := hQ.two.lm
      clear hC hb5 ca fa hpk hA hQ m0 m1
      go_wp2_with fail
      refine Calls.mono cP.out ?_
      rintro e w7 ⟨rfl, rfl⟩
      clear cP
      have cL : n0 (∀ W, Calls Try.prog 12 #[.int .i64 lw, .int .i64 (lo + 1)] W fun e w' => e = .returned (.int .i64 (pickS lw (lo + 1))) ∧ w' = W) := fun W => pick_any lw (lo + 1) W hlw.1 hlw.2 (by omega) (by omega)
      have hbl := pickS_bd lw (lo + 1) (by omega)
      generalize pickS lw (lo + 1) = bl at *
      obtain ⟨bl0, bl1⟩ := hbl
      have l0 : 0 ≤ lo := by omega
      have l1 : lo ≤ 60 := by omega
      have hcp : cp = -1 ∨ (lo ≤ cp ∧ cp ≤ 60) := hab.2.2.2.2.2.2.1
      have p1 : -1 ≤ cp := by omega
      have p2 : cp ≤ 60 := by omega
      clear hab
      go_wp2_with fail
      refine Calls.mono (cL.out _) ?_
      rintro e w8 ⟨rfl, rfl⟩
      clear cL
      go_upto_if 69 with fail
      have hA9 : ArcAt ((w7.alloc (.cells #[.int .i64 fr, .int .i64 tt, .int .i64 (lo - bl), .int .i64 cp, .int .i64 cst] 32)).alloc (.cells #[.int .i64 fr, .int .i64 tt, .int .i64 bl, .int .i64 cp, .int .i64 cst] 32)) (qb + 1) ⟨fr, tt, lo - bl, cp, cst⟩ := by
        have h := (arcAt_new w7 ⟨fr, tt, lo - bl, cp, cst⟩).below (Joins.below_alloc1 _ (.cells #[.int .i64 fr, .int .i64 tt, .int .i64 bl, .int .i64 cp, .int .i64 cst] 32))
        rw [hq6] at h
        exact h
      have hB9 : ArcAt ((w7.alloc (.cells #[.int .i64 fr, .int .i64 tt, .int .i64 (lo - bl), .int .i64 cp, .int .i64 cst] 32)).alloc (.cells #[.int .i64 fr, .int .i64 tt, .int .i64 bl, .int .i64 cp, .int .i64 cst] 32)) (qb + 1 + 1) ⟨fr, tt, bl, cp, cst⟩ := by
        have h := arcAt_new (w7.alloc (.cells #[.int .i64 fr, .int .i64 tt, .int .i64 (lo - bl), .int .i64 cp, .int .i64 cst] 32)) ⟨fr, tt, bl, cp, cst⟩
        rw [show (w7.alloc (.cells #[.int .i64 fr, .int .i64 tt, .int .i64 (lo - bl), .int .i64 cp, .int .i64 cst] 32)).heap.size = qb + 1 + 1 from by simp [hq6]] at h
        exact h
      have hb9 := Joins.below_alloc2 w7 (.cells #[.int .i64 fr, .int .i64 tt, .int .i64 (lo - bl), .int .i64 cp, .int .i64 cst] 32) (.cells #[.int .i64 fr, .int .i64 tt, .int .i64 bl, .int .i64 cp, .int .i64 cst] 32)
      obtain ⟨w9, hw9⟩ : ∃ w9, (w7.alloc (.cells #[.int .i64 fr, .int .i64 tt, .int .i64 (lo - bl), .int .i64 cp, .int .i64 cst] 32)).alloc (.cells #[.int .i64 fr, .int .i64 tt, .int .i64 bl, .int .i64 cp, .int .i64 cst] 32) = w9 := ⟨_, rfl⟩
      rw [hw9] at hA9 hB9 hb9 ⊢
      have HA9 := hide hA9
      have HB9 := hide hB9
      have z1 := (hb9.cell (p := ⟨mb, 1, none⟩) (by have := HQ.out.two.ln; exact this)).trans HQ.out.two.n1
      obtain ⟨bm, om, fm, tm, lm, cm, qm, rfl, hAm, hbm, e0, e1, e2, e3, e4⟩ := (HA1.out.below (hb6.trans (hb9.mono hb6.size))).get hkn
      rw [HAA.out] at hAm
      cases hAm
      have hcl : Hid (Below w7.heap.size w7 w9) := hb9
      clear hw9 hA9 hB9 q0 q1 c0 c1 c2 c3 c4 hw6 hqb
      go_cut [13] (fun s13 wx => s13 = .int .i64 kn ∧ ∃ a b, Parts (es1.getD kn zA) a b ∧ ArcAt wx (qb + 1) a ∧ ArcAt wx (qb + 1 + 1) b ∧ Below w7.heap.size w7 wx)
      case first =>
        obtain ⟨⟨a0, a1, a2, a3, a4⟩, af⟩ := HA9.out.cells
        obtain ⟨⟨b0, b1, b2, b3, b4⟩, bf⟩ := HB9.out.cells
        simp only [] at a0 a1 a2 a3 a4 b0 b1 b2 b3 b4
        by_cases hc1 : cp = -1
        · subst hc1
          go_wp2_with fail
          go_meet
          case rel => exact ⟨rfl, _, _, by rw [HAA.out]; exact ⟨⟨rfl, rfl, rfl⟩, ⟨rfl, rfl, rfl⟩, ⟨by show lo - bl + bl = lo; omega, by show 0 ≤ lo - bl; omega, bl0⟩, .inl ⟨rfl, rfl, rfl⟩⟩, HA9.out, HB9.out, hcl.out⟩
        · have hc2 : (cp != -1) = true := by simpa using hc1
          have hlc : lo ≤ cp := by rcases hcp with h | h; exact absurd h hc1; exact h.1
          have hrb := pickS_bd mr (cp - lo + 1) (by omega)
          have cR : n0 (∀ W, Calls Try.prog 12 #[.int .i64 mr, .int .i64 (cp - lo + 1)] W fun e w' => e = .returned (.int .i64 (pickS mr (cp - lo + 1))) ∧ Below W.heap.size W w') := fun W => (pick_any mr (cp - lo + 1) W hmr.1 hmr.2 (by omega) (by omega)).mono (fun e w' h => ⟨h.1, by rw [h.2]; exact Below.refl _ _⟩)
          generalize pickS mr (cp - lo + 1) = r at *
          obtain ⟨r0, r1⟩ := hrb
          have HC1 := hide hc1
          clear hc1 hcp
          go_wp2_with fail
          have k1 := cell_regrown z1
          have k2 := cell_regrown e2
          have k3 := cell_regrown e3
          have cQ : ∀ d os, Calls Try.prog 12 #[.int .i64 mr, .int .i64 (IntKind.i64.wrap (IntKind.i64.wrap (cp - lo) + 1))] (Sort.grow (redrawn w9 d) os) fun e w'' => e = .returned (.int .i64 r) ∧ ∃ p : Regrown, w'' = Sort.grow (redrawn w9 p.d) p.os := fun d os => by
            rw [show IntKind.i64.wrap (IntKind.i64.wrap (cp - lo) + 1) = cp - lo + 1 from by rw [IntKind.wrap_i64, IntKind.wrap_i64]; omega]
            exact Calls.regrown_of (cR.out _)
          clear a0 a1 a2 a3 a4 b0 b1 b2 b3 b4 af bf
          refine wp_region_quiet_below (by kernel_rfl) (by kernel_rfl) ?_
          repeat (quiet_step (first | exact cQ _ _))
          refine wpQuiet_nil ?_
          intro _ hw'
          obtain ⟨⟨dq, osq⟩, hw''⟩ := hw'
          subst hw''
          have hbr := below_regrown w9 dq osq
          generalize Sort.grow (redrawn w9 dq) osq = w10 at *
          have hA10 := HA9.out.below hbr
          have hB10 := HB9.out.below hbr
          have hb10 : Below w7.heap.size w7 w10 := hcl.out.trans (hbr.mono hcl.out.size)
          have z1' := (hbr.cell (p := ⟨mb, 1, none⟩) (by have h1 := HQ.out.two.ln; have h2 := hcl.out.size; show mb < w9.heap.size; omega)).trans z1
          have e3' := (hbr.cell (p := ⟨bm, om + kn * 5 + 3, none⟩) hbm).trans e3
          have hbw7 : bm < w7.heap.size := by
            obtain ⟨b', off', e', hl', _⟩ := HA1.out.lies.resolve_left (by omega)
            cases e'
            have := hb6.size
            omega
          clear k1 k2 k3 cQ z1 e0 e1 e2 e3 e4 hbr cR hbm
          obtain ⟨⟨b0, b1, b2, b3, b4⟩, bf⟩ := hB10.cells
          simp only [] at b2 b3
          have bf3 := bf 3
          have hB11 := hB10.set 3 (by omega) (bl + r)
          have hA11 := hA10.other (b := qb + 1 + 1) (o := 3) (by omega) (.int .i64 (bl + r))
          have hb11 : Below w7.heap.size w7 (w10.setCell ⟨qb + 1 + 1, 3, none⟩ (.int .i64 (bl + r))) := hb10.setCell (p := ⟨qb + 1 + 1, 3, none⟩) (by show w7.heap.size ≤ qb + 1 + 1; omega) _
          have hmbq : mb < qb + 1 := by have h1 := HQ.out.two.ln; omega
          have z11 := (set_cell_ne (w := w10) (b := mb) (b' := qb + 1 + 1) (o := 1) (o' := 3) (u := .int .i64 (bl + r)) (by omega)).trans z1'
          have e11 := (set_cell_ne (w := w10) (b := bm) (b' := qb + 1 + 1) (o := om + kn * 5 + 3) (o' := 3) (u := .int .i64 (bl + r)) (by omega)).trans e3'
          obtain ⟨⟨-, -, -, d3, -⟩, -⟩ := hB11.cells
          obtain ⟨⟨-, -, -, a3, -⟩, af⟩ := hA11.cells
          have af3 := af 3
          simp only [A5.put] at d3 a3
          have hA12 := hA11.set 3 (by omega) (cp - (bl + r))
          have hB12 := hB11.other (b := qb + 1) (o := 3) (by omega) (.int .i64 (cp - (bl + r)))
          have HA12 := hide (hA12.below ((Below.refl _ _).drew))
          have HB12 := hide (hB12.below ((Below.refl _ _).drew))
          have HB := hide ((hb11.setCell (p := ⟨qb + 1, 3, none⟩) (by show w7.heap.size ≤ qb + 1; omega) (.int .i64 (cp - (bl + r)))).drew)
          clear hA10 hB10 hb10 hB11 hA11 hb11 hA12 hB12 bf af b0 b1 b4
          have g1 : -100 ≤ bl + r := by omega
          have g2 : bl + r ≤ 200 := by omega
          go_wp2_with fail
          go_region
          go_wp2_with fail
          go_meet
          case rel =>
            refine ⟨rfl, _, _, ?_, HA12.out, HB12.out, HB.out⟩
            rw [HAA.out]
            refine ⟨⟨rfl, rfl, rfl⟩, ⟨rfl, rfl, rfl⟩, ⟨by show lo - bl + bl = lo; omega, by show 0 ≤ lo - bl; omega, bl0⟩, .inr ⟨HC1.out, by show cp - (bl + r) + (bl + r) = cp; omega, by show lo - bl ≤ cp - (bl + r); omega, by show bl ≤ bl + r; omega⟩⟩
      case rest =>
      obtain ⟨rfl, a, b, hpt, hAt, hBt, hb10⟩ := hcut
      clear z1 e0 e1 e2 e3 e4 HA9 HB9 hcl
      have hRA := HQ.out.ra.below hb10
      have hRI := HQ.out.ri.below hb10
      have hTT := HQ.out.two.below hb10
      obtain ⟨⟨a0, a1, a2, a3, a4⟩, -⟩ := hAt.cells
      obtain ⟨g', eg, hg2, hg3, ca, fa⟩ := hRA.get hkn
      cases eg
      have c0 := ca 0 (by omega)
      have c1 := ca 1 (by omega)
      have c2 := ca 2 (by omega)
      have c3 := ca 3 (by omega)
      have c4 := ca 4 (by omega)
      simp only [Nat.add_zero] at c0
      have f0 := fa (kn * 5)
      have f1 := fa (kn * 5 + 1)
      have f2 := fa (kn * 5 + 2)
      have f3 := fa (kn * 5 + 3)
      have f4 := fa (kn * 5 + 4)
      have q1 := hTT.m1
      obtain ⟨w12, hw12⟩ : ∃ w12, ((((wc.setCell ⟨ga, kn * 5, none⟩ (.int .i64 a.fr)).setCell ⟨ga, kn * 5 + 1, none⟩ (.int .i64 a.to)).setCell ⟨ga, kn * 5 + 2, none⟩ (.int .i64 a.lo)).setCell ⟨ga, kn * 5 + 3, none⟩ (.int .i64 a.cap)).setCell ⟨ga, kn * 5 + 4, none⟩ (.int .i64 a.cost) = w12 := ⟨_, rfl⟩
      have hgaq := HQ.out.c5 ga hn0 rfl
      have hgsq := HQ.out.c3
      have hgsm := HQ.out.c2
      have hgq2 := HQ.out.c4
      have hmlt := HQ.out.two.ln
      have hnb := HQ.out.c1
      have hRA12 := hRA.setArc kn a
      rw [hw12] at hRA12
      have hblk : Hid (∀ b, b ≠ ga → w12.heap[b]? = wc.heap[b]?) := fun b hb => by rw [← hw12]; exact set5_blk hb
      have hsz12 : w12.heap.size = wc.heap.size := by rw [← hw12]; simp [World.setCell]
      have hRI12 := hide (hRI.keep (w' := w12) (fun g e _ _ => by cases e; exact hblk.out gs2 (by omega)))
      have hB12 : ArcAt w12 (qb + 1 + 1) b := World.rowIs.of_block hBt (hblk.out _ (by omega))
      have q12 : w12.cell? ⟨qb, 1, none⟩ = some (.slice (some ⟨ga, 0, none⟩) n1 ad2) := (World.cell?_of_block (w := wc) (hblk.out qb (by omega))).trans q1
      have q12' : w12.cell? ⟨qb, 0, none⟩ = some (.slice (some ⟨gs2, 0, none⟩) sn sd2) := (World.cell?_of_block (w := wc) (hblk.out qb (by omega))).trans hTT.m0
      have n12 : w12.cell? ⟨mb, 0, none⟩ = some (.slice sb sn sd) := (World.cell?_of_block (w := wc) (hblk.out mb (by omega))).trans hTT.n0
      have n12' : w12.cell? ⟨mb, 1, none⟩ = some (.slice (some ⟨bm, om, none⟩) n1 ad) := (World.cell?_of_block (w := wc) (hblk.out mb (by omega))).trans hTT.n1
      have fq12 : w12.frozen? ⟨qb, 1, none⟩ = false := (World.frozen?_of_block (w := wc) (hblk.out qb (by omega))).trans ((hb10.frozen (p := ⟨qb, 1, none⟩) (by show qb < w7.heap.size; omega)).trans fq6)
      have hqlt : qb < w12.heap.size := by have := hTT.lm; omega
      have hb12 : Below wm.heap.size wm w12 := by
        refine (hb6.trans (hb10.mono hb6.size)).trans ⟨?_, ?_, ?_, by rw [hsz12]; exact Nat.le_refl _, fun k hk => hblk.out k (by omega)⟩
        · rw [← hw12]; rfl
        · rw [← hw12]; rfl
        · rw [← hw12]; rfl
      have hown := hRA12.owns hn0 hmx (l := es1.set kn a) (by rw [List.length_set]; exact hl1.out) (fun i hi => by
        rw [getD_setA _ _ _ _ (by rw [hl1.out]; exact hkn)]
        rfl)
      obtain ⟨⟨b0, b1, b2, b3, b4⟩, -⟩ := hB12.cells
      have HOW := hide hown
      have HBT := hide hB12
      have HPT := hide hpt
      have HW12 := hide hw12
      have HB12 := hide hb12
      have hm2s : m2 ≤ w12.heap.size := by omega
      have hgaw : ga < w12.heap.size := by omega
      have hmbw : mb < w12.heap.size := by omega
      have hgsw : gs2 < w12.heap.size := by omega
      clear hRA hRI hTT hRA12 hown hB12 hpt hw12 ca fa hb10 hb12 hAt hBt fq6 hblk hsz12
      go_upto_region 20 with fail
      rw [HW12.out]
      clear a0 a1 a2 a3 a4 c0 c1 c2 c3 c4 f0 f1 f2 f3 f4 q1
      go_wp2_with (at_builtin; refine wpList_push_arc rfl (.tmp 107) (.tmp 109) rfl m2 (some ⟨ga, 0, none⟩) ad2 (es1.set kn a) n1 (by rw [List.length_set]; exact hl1.out) rfl ?_ w12.heap.size b 1 rfl ?_ (by omega) ?_ ?_)
      · exact HOW.out.alloc _
      · intro j hj
        match j, hj with
        | 0, _ => simp [A5.at]
        | 1, _ => simp [A5.at]
        | 2, _ => simp [A5.at]
        | 3, _ => simp [A5.at]
        | 4, _ => simp [A5.at]
      · simp; omega
      intro g9 c9 w13 hown hgr
      have hba := Joins.below_alloc1 w12 (.cells #[.int .i64 b.fr, .int .i64 b.to, .int .i64 b.lo, .int .i64 b.cap, .int .i64 b.cost] 32)
      have hkeep : Hid (∀ k, k < w12.heap.size → k ≠ ga → w13.heap[k]? = w12.heap[k]?) := fun k hk hne => (hgr.block k (by simp; omega) (by simp [Value.ownBlock]; exact hne)).trans (hba.block k hk)
      have q13 := (World.cell?_of_block (a := ⟨qb, 1, none⟩) (hkeep.out qb hqlt (by omega))).trans q12
      have q13' := (World.cell?_of_block (a := ⟨qb, 0, none⟩) (hkeep.out qb hqlt (by omega))).trans q12'
      have fq13 := (World.frozen?_of_block (a := ⟨qb, 1, none⟩) (hkeep.out qb hqlt (by omega))).trans fq12
      have n13 := (World.cell?_of_block (a := ⟨mb, 0, none⟩) (hkeep.out mb (by omega) (by omega))).trans n12
      have n13' := (World.cell?_of_block (a := ⟨mb, 1, none⟩) (hkeep.out mb (by omega) (by omega))).trans n12'
      have hg9 : g9 ≠ qb := by
        intro e
        subst e
        have h1 := hown.cellAt 1 (by omega)
        have h2 := arcCells_at (es1.set kn a ++ [b]) 0 1 (by simp) (by omega)
        simp only [Nat.zero_mul, Nat.zero_add] at h2
        rw [h2, q13] at h1
        cases h1
      have hb13 : Below wm.heap.size wm w13 := HB12.out.trans ⟨hgr.os, hgr.tape, hgr.output, by have := hgr.size; simp at this; omega, fun k hk => hkeep.out k (by have := HB12.out.size; omega) (by omega)⟩
      have hown14 := hown.kept (w' := w13.setCell ⟨qb, 1, none⟩ (.slice (some ⟨g9, 0, none⟩) (n1 + 1) c9)) (row := some qb) ⟨rfl, rfl, rfl, by simp [World.setCell], fun k _ hk => Below.heap_setCell _ _ _ _ (fun e => hk (by rw [e]))⟩ (.inr (by simp [Value.ownBlock]; exact hg9))
      have hb14 : Below wm.heap.size wm (w13.setCell ⟨qb, 1, none⟩ (.slice (some ⟨g9, 0, none⟩) (n1 + 1) c9)) := hb13.setCell (p := ⟨qb, 1, none⟩) (by show wm.heap.size ≤ qb; omega) _
      have hlen : (cutE es1 kn a b).length = n1 + 1 := by rw [cutE_len, hl1.out]
      have hnq := parts_ok hnn (by rw [hl1.out]; exact hn23) (by rw [hl1.out]; exact hkn) HPT.out
      have hAq : Arcs (w13.setCell ⟨qb, 1, none⟩ (.slice (some ⟨g9, 0, none⟩) (n1 + 1) c9)) (some ⟨g9, 0, none⟩) (n1 + 1) (cutE es1 kn a b) := by
        obtain ⟨a', c', e, h, _⟩ := arcs_of_own hown14 (by rw [← hlen]; rfl) (by omega) (fun x hx j => by
          obtain ⟨i, hi, rfl⟩ := mem_of_getD zA _ x hx
          exact arc_wf (hnq.arc i hi) (by have := hnq.ten; omega) j)
        cases e
        exact h
      have hIq : Ints (w13.setCell ⟨qb, 1, none⟩ (.slice (some ⟨g9, 0, none⟩) (n1 + 1) c9)) (some ⟨gs2, 0, none⟩) sn xs := by
        refine (hRI12.out.keep (fun g e _ h2 => ?_)).ints hxl.out.1 (fun i _ => rfl) (by omega) (fun i _ => by have := getD_bd hnn i; omega)
        cases e
        rw [Below.heap_setCell _ _ _ _ (by show gs2 ≠ qb; omega)]
        exact hkeep.out gs2 h2 (by omega)
      have HIQ := hide hIq
      have HAQ := hide hAq
      have HB14 := hide hb14
      have hbq : Below w.heap.size w (w13.setCell ⟨qb, 1, none⟩ (.slice (some ⟨g9, 0, none⟩) (n1 + 1) c9)) := hBc.trans (hb14.mono hBc.size)
      have HBQ := hide hbq
      have hmq : mb ≠ qb := by omega
      clear hown hgr hown14 hb13 hb14 hAq hIq hbq q12 q12' n12 n12' fq12 hba b0 b1 b2 b3 b4 hRI12 HOW HBT
      go_wp2_with fail
      refine (alike_any hS sb (some ⟨bm, om, none⟩) (some ⟨gs2, 0, none⟩) (some ⟨g9, 0, none⟩) sn sd n1 ad sn sd2 (n1 + 1) c9 xs xs es1 (cutE es1 kn a b) 1 0 _ (HI1.out.below HB14.out) (HA1.out.below HB14.out) HIQ.out HAQ.out hnn hnq (by omega) (by omega) (fun u v hu hv => split_alike hnn (by rw [hl1.out]; exact hn23) (by rw [hl1.out]; exact hkn) HPT.out hu hv)).mono ?_
      rintro e w19 ⟨rfl, hb19⟩
      have hB19 : Below w.heap.size w w19 := HBQ.out.trans (hb19.mono HBQ.out.size)
      clear q13 q13' n13 n13' fq13
      go_wp2
      go_ret
      exact ⟨rfl, hB19⟩
end Go.Proofs.Ytnbccoflcoaoaab
