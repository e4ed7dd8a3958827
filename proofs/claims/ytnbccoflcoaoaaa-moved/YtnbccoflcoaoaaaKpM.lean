import Derived.Test.YtnbccoflcoaoaaaGKpb
namespace Go.Proofs.Ytnbccoflcoaoaaa
open Go.RowKit Go.Deep
set_option linter.unusedSimpArgs false
set_option linter.unusedVariables false

theorem small_arcs {xs : List Int} {es : List A5} (hn : NetOK xs es) (i : Nat) (hi : i < es.length) (j : Nat) : -9223372036854775808 ≤ (es.getD i zA).at j ∧ (es.getD i zA).at j ≤ 9223372036854775807 := by
  have := hn.ten
  exact arc_wf (hn.arc i hi) (by omega) j

set_option maxRecDepth 100000 in
set_option maxHeartbeats 8000000 in
theorem keepMoved_any (hS : SolveC) (hM : SomeC) (sa aa : Option Addr) (sn sc an ac : Nat) (nd pr : Int) (xs : List Int) (es : List A5) (w : World) (hx : Ints w sa sn xs) (he : Arcs w aa an es) (hnd : -9223372036854775808 ≤ nd ∧ nd ≤ 9223372036854775807) (hpr : -9223372036854775808 ≤ pr ∧ pr ≤ 9223372036854775807) :
    Calls Try.prog 13 #[.agg #[.slice sa sn sc, .slice aa an ac], .int .i64 nd, .int .i64 pr] w fun e w' => e = .returned (.bool true) ∧ Below w.heap.size w w' := by
  have HX := hide hx
  have HE := hide he
  have hxl : Hid (xs.length = sn ∧ es.length = an) := ⟨hx.len, he.len⟩
  have hb0 : Below w.heap.size w (w.alloc (.cells #[.slice sa sn sc, .slice aa an ac] 25)) := (Below.refl _ _).alloc (Nat.le_refl _) _
  clear hx he
  go_enter Try.func13, Try.ntmps13
  go_wp2_with fail
  refine (refused_any hS hM sa aa sn sc an ac xs es _ (HX.out.below hb0) (HE.out.below hb0)).mono ?_
  rintro e w1 ⟨rfl, hb1⟩
  have k0 : w1.cell? ⟨w.heap.size, 0, none⟩ = some (.slice sa sn sc) := (hb1.cell (by simp)).trans (by go_simp)
  have k1 : w1.cell? ⟨w.heap.size, 1, none⟩ = some (.slice aa an ac) := (hb1.cell (by simp)).trans (by go_simp)
  have hz1 : w.heap.size < w1.heap.size := by have := hb1.size; simp at this; omega
  have hB1 : Below w.heap.size w w1 := hb0.trans (hb1.mono (by simp))
  clear hb0 hb1
  cases hck : ((checkS xs es).1 == 0) with
  | false =>
    go_wp2
    go_ret
    exact ⟨rfl, hB1⟩
  | true =>
    have hn := netOK_of (show (checkS xs es).1 = 0 by simpa using hck)
    have h1s : 1 ≤ sn := by rw [← hxl.out.1]; exact hn.one
    have h10 : sn ≤ 10 := by rw [← hxl.out.1]; exact hn.ten
    have h24 : an ≤ 24 := by rw [← hxl.out.2]; exact hn.arcs
    clear hck
    have cP : n0 (Calls Try.prog 36 #[.int .i64 nd, .int .i64 sn] w1 fun e w' => e = .returned (.int .i64 (pickS nd sn)) ∧ w' = w1) := pick_any nd sn w1 hnd.1 hnd.2 (by omega) (by omega)
    have cQ : n0 (Calls Try.prog 36 #[.int .i64 pr, .int .i64 51] w1 fun e w' => e = .returned (.int .i64 (pickS pr 51)) ∧ w' = w1) := pick_any pr 51 w1 hpr.1 hpr.2 (by omega) (by omega)
    have hpk := pickS_bd nd sn (by omega)
    have hpq := pickS_bd pr 51 (by omega)
    generalize pickS nd sn = kk at *
    generalize pickS pr 51 = qq at *
    obtain ⟨kn, rfl⟩ := nat_of hpk.1
    have hkn : kn < sn := by omega
    obtain ⟨q1, q2⟩ := hpq
    clear hpk
    go_wp2_with fail
    refine Calls.mono cP.out ?_
    rintro e v1 ⟨rfl, rfl⟩
    clear cP
    go_wp2_with fail
    refine Calls.mono cQ.out ?_
    rintro e v1 ⟨rfl, rfl⟩
    clear cQ
    obtain ⟨p, hp⟩ : ∃ p, qq - 25 = p := ⟨_, rfl⟩
    have p1 : -25 ≤ p := by omega
    have p2 : p ≤ 25 := by omega
    go_wp2_with fail
    refine (refCopyOwn_any sa aa sn sc an ac xs es _ (HX.out.below hB1) (HE.out.below hB1)).mono ?_
    rintro e w2 ⟨sb, sd, ab, ad, m, rfl, hC, hb2⟩
    obtain ⟨hT, hRI, hRA, ⟨gs, rfl, hg1, hg2, hg3⟩, hga⟩ := copy_two k0 k1 hz1 hb2 hC h1s
    have hB2 : Below w.heap.size w w2 := hB1.trans (hb2.mono hB1.size)
    have hB3 : Below w.heap.size w (w2.alloc (.cells #[.slice (some ⟨gs, 0, none⟩) sn sd, .slice ab an ad] 25)) := hB2.alloc hB2.size _
    have hsz2 : v1.heap.size ≤ w2.heap.size := hb2.size
    obtain ⟨mb, hmb⟩ : ∃ mb, w2.heap.size = mb := ⟨_, rfl⟩
    obtain ⟨w3, hw3⟩ : ∃ w3, w2.alloc (.cells #[.slice (some ⟨gs, 0, none⟩) sn sd, .slice ab an ad] 25) = w3 := ⟨_, rfl⟩
    rw [hw3] at hT hRI hRA hB3
    rw [hmb] at hT hg3 hga hsz2
    have HT := hide hT
    have HRI := hide hRI
    have HRA := hide hRA
    have HGA := hide hga
    have HP := hide hp
    clear hC hb2 k0 k1 hT hRI hRA hga hB2 hB1
    go_wp2
    go_loopw [12] (fun i wr => ∃ k : Nat, k ≤ an ∧ i = .int .i64 k ∧ Hid (RowI wr v1.heap.size sn (some ⟨gs, 0, none⟩) sd (fun i => xs.getD i 0)) ∧ Hid (RowA wr m an ab ad (fun i => if i < k then halfA (es.getD i zA) else es.getD i zA)) ∧ Hid (Two wr w.heap.size mb sa sn sc aa an ac (some ⟨gs, 0, none⟩) sd ab ad) ∧ Below w.heap.size w wr) (fun i _ => an - (intOf i).toNat)
    case atStart => exact ⟨0, Nat.zero_le _, rfl, HRI.out, HRA.out.congr (fun i _ => by simp), HT.out, hB3⟩
    case round =>
      clear hw3 hmb HT HRI HRA hB3 hp
      obtain ⟨k, hk, rfl, hRI, hRA, hT, hb⟩ := hrel
      by_cases hlt : k < an
      · have hlt3 : (k : Int) < (an : Int) := by omega
        have m1 := hT.out.m1
        obtain ⟨ga, rfl, hga1, hga2, ca, fa⟩ := hRA.out.get hlt
        have hgm := (HGA.out ga (by omega) rfl).2
        rw [if_neg (by omega)] at ca
        have c4 := ca 4 (by omega)
        have f4 := fa (k * 5 + 4)
        have hcb := cost_bd1 hn k
        have hset := hRA.out.set k 4 (by omega) ((es.getD k zA).cost.tdiv 2)
        simp only [A5.at] at c4
        have HAE : Hid ((es.getD k zA).put 4 ((es.getD k zA).cost.tdiv 2) = halfA (es.getD k zA)) := rfl
        have hhb := half_bd hcb.1 hcb.2
        have hRI2 := hide (hRI.out.keep (w' := (wr.setCell ⟨ga, k * 5 + 4, none⟩ (.int .i64 ((es.getD k zA).cost.tdiv 2))).drew) (fun g e h1 h2 => by cases e; exact set_blk_ne (by omega)))
        have hT2 := hide ((hT.out.set (b := ga) (o := k * 5 + 4) (by omega) (by omega) (.int .i64 ((es.getD k zA).cost.tdiv 2))).drew)
        have hB2 := hide ((hb.setCell (p := ⟨ga, k * 5 + 4, none⟩) (by show w.heap.size ≤ ga; omega) (.int .i64 ((es.getD k zA).cost.tdiv 2))).drew)
        have hSet := hide hset
        clear ca fa hset
        obtain ⟨x1, x2⟩ := hcb
        generalize hxx : (es.getD k zA).cost = x at c4 x1 x2 hSet HAE hhb hRI2 hT2 hB2
        clear hxx
        obtain ⟨y, hy⟩ : ∃ y, x.tdiv 2 = y := ⟨_, rfl⟩
        rw [hy] at hSet HAE hhb hRI2 hT2 hB2
        obtain ⟨y1, y2⟩ := hhb
        go_wp2_with fail
        go_region
        go_wp2
        go_roundw
        case rel =>
          refine ⟨k + 1, by omega, by go_num, hRI2.out, (hSet.out.below ((Below.refl _ _).drew)).congr (fun i _ => ?_), hT2.out, hB2.out⟩
          refine Eq.trans ?_ (upd_step (fun i => es.getD i zA) (fun i => halfA (es.getD i zA)) k (halfA (es.getD k zA)) rfl i)
          unfold upd
          by_cases e : i = k
          · subst e
            simp only [if_true]
            rw [if_neg (by omega), HAE.out]
          · simp only [if_neg e]
        case measure => simp [intOf]; omega
      · have hkn2 : k = an := by omega
        subst hkn2
        have hnh := half_ok hn
        have hIm := hRI.out.ints (l := xs) hxl.out.1 (fun i _ => rfl) (by omega) (fun i _ => by have := getD_bd hn i; omega)
        have hAm := hRA.out.arcs (l := halfE es) (by rw [halfE_len]; exact hxl.out.2) (fun i hi => by rw [if_pos hi, halfE_at]) (by omega) (fun i hi jj => small_arcs hnh i (by rw [halfE_len, hxl.out.2]; exact hi) jj)
        obtain ⟨n0', n1', m0, m1, hln, hlm⟩ := hT.out
        obtain ⟨w4, hw4⟩ : ∃ w4, w4 = wr := ⟨_, rfl⟩
        subst hw4
        have HIM := hide hIm
        have HAM := hide hAm
        have HT4 := hide hT.out
        clear hIm hAm hRI hRA hT
        go_wp2_with fail
        refine (refCopyOwn_any (some ⟨gs, 0, none⟩) ab sn sd k ad xs (halfE es) _ HIM.out HAM.out).mono ?_
        rintro e w5 ⟨sb2, sd2, ab2, ad2, m2, rfl, hC, hb5⟩
        obtain ⟨hT, hRI, hRA, ⟨gs2, rfl, hh1, hh2, hh3⟩, hga2⟩ := copy_two m0 m1 hlm hb5 hC h1s
        have hb6 : Below w4.heap.size w4 (w5.alloc (.cells #[.slice (some ⟨gs2, 0, none⟩) sn sd2, .slice ab2 k ad2] 25)) := hb5.alloc hb5.size _
        obtain ⟨qb, hqb⟩ : ∃ qb, w5.heap.size = qb := ⟨_, rfl⟩
        obtain ⟨w6, hw6⟩ : ∃ w6, w5.alloc (.cells #[.slice (some ⟨gs2, 0, none⟩) sn sd2, .slice ab2 k ad2] 25) = w6 := ⟨_, rfl⟩
        have hsz5 : w4.heap.size ≤ qb := by rw [← hqb]; exact hb5.size
        have hm2 : w4.heap.size ≤ m2 := by omega
        rw [hw6] at hT hRI hRA hb6
        rw [hqb] at hT hh3 hga2
        have HT := hide hT
        have HRI := hide hRI
        have HRA := hide hRA
        have HGA2 := hide hga2
        clear hC hb5 hT hRI hRA hga2 n0' n1' m0 m1
        go_wp2
        go_loopw [14] (fun i wr => ∃ j : Nat, j ≤ k ∧ i = .int .i64 j ∧ Hid (RowI wr w4.heap.size sn (some ⟨gs2, 0, none⟩) sd2 (fun i => xs.getD i 0)) ∧ Hid (RowA wr m2 k ab2 ad2 (fun i => if i < j then moveA kn p ((halfE es).getD i zA) else (halfE es).getD i zA)) ∧ Hid (Two wr mb qb (some ⟨gs, 0, none⟩) sn sd ab k ad (some ⟨gs2, 0, none⟩) sd2 ab2 ad2) ∧ Below w4.heap.size w4 wr) (fun i _ => k - (intOf i).toNat)
        case atStart => exact ⟨0, Nat.zero_le _, rfl, HRI.out, HRA.out.congr (fun i _ => by simp), HT.out, hb6⟩
        case round =>
          clear hw6 hqb HT HRI HRA hb6
          obtain ⟨j, hj, rfl, hRI, hRA, hT, hb6⟩ := hrel
          by_cases hlt2 : j < k
          · have hlt3 : (j : Int) < (k : Int) := by omega
            have m1 := hT.out.m1
            obtain ⟨ga, rfl, hga1, hga2, ca, fa⟩ := hRA.out.get hlt2
            have hgm := (HGA2.out ga (by omega) rfl).2
            rw [if_neg (by omega)] at ca
            have c0 := ca 0 (by omega)
            have c1 := ca 1 (by omega)
            have c4 := ca 4 (by omega)
            have f4 := fa (j * 5 + 4)
            have hcb := half_small hn j (by rw [halfE_len, hxl.out.2]; exact hlt2)
            obtain ⟨⟨fr, tt, lo, cp, cst⟩, hA⟩ : ∃ A, (halfE es).getD j zA = A := ⟨_, rfl⟩
            rw [hA] at c0 c1 c4 hcb
            simp only [A5.at, Nat.add_zero] at c0 c1 c4 hcb
            obtain ⟨x1, x2⟩ := hcb
            have HAA := hide hA
            have fin : n0 (∀ (W : World) (y : Int), RowI W w4.heap.size sn (some ⟨gs2, 0, none⟩) sd2 (fun i => xs.getD i 0) → RowA W m2 k (some ⟨ga, 0, none⟩) ad2 (upd (fun i => if i < j then moveA kn p ((halfE es).getD i zA) else (halfE es).getD i zA) j ⟨fr, tt, lo, cp, y⟩) → y = cst + (if fr = (kn : Int) then p else 0) - (if tt = (kn : Int) then p else 0) → RowA W m2 k (some ⟨ga, 0, none⟩) ad2 (fun i => if i < j + 1 then moveA kn p ((halfE es).getD i zA) else (halfE es).getD i zA)) := by
              intro W y _ h2 h3
              refine h2.congr (fun i _ => ?_)
              refine upd_step (fun i => (halfE es).getD i zA) (fun i => moveA kn p ((halfE es).getD i zA)) j _ ?_ i
              show moveA kn p ((halfE es).getD j zA) = _
              rw [HAA.out, h3]
              rfl
            have one : n0 (∀ (W : World) (f : Nat → A5) (y z : Int), f j = ⟨fr, tt, lo, cp, z⟩ → RowI W w4.heap.size sn (some ⟨gs2, 0, none⟩) sd2 (fun i => xs.getD i 0) → RowA W m2 k (some ⟨ga, 0, none⟩) ad2 f → Two W mb qb (some ⟨gs, 0, none⟩) sn sd ab k ad (some ⟨gs2, 0, none⟩) sd2 (some ⟨ga, 0, none⟩) ad2 → Below w4.heap.size w4 W →
                RowI (W.setCell ⟨ga, j * 5 + 4, none⟩ (.int .i64 y)).drew w4.heap.size sn (some ⟨gs2, 0, none⟩) sd2 (fun i => xs.getD i 0) ∧ RowA (W.setCell ⟨ga, j * 5 + 4, none⟩ (.int .i64 y)).drew m2 k (some ⟨ga, 0, none⟩) ad2 (upd f j ⟨fr, tt, lo, cp, y⟩) ∧ Two (W.setCell ⟨ga, j * 5 + 4, none⟩ (.int .i64 y)).drew mb qb (some ⟨gs, 0, none⟩) sn sd ab k ad (some ⟨gs2, 0, none⟩) sd2 (some ⟨ga, 0, none⟩) ad2 ∧ Below w4.heap.size w4 (W.setCell ⟨ga, j * 5 + 4, none⟩ (.int .i64 y)).drew) := by
              intro W f y z hf h1 h2 h3 h4
              refine ⟨h1.keep (fun g e h1 h2 => by cases e; exact set_blk_ne (by omega)), ?_, (h3.set (by omega) (by omega) _).drew, (h4.setCell (p := ⟨ga, j * 5 + 4, none⟩) (by show w4.heap.size ≤ ga; omega) _).drew⟩
              have h5 := (h2.set j 4 (by omega) y).below ((Below.refl _ _).drew)
              rw [hf] at h5
              exact h5
            have upd2 : n0 (∀ (f : Nat → A5) (a b : A5), upd (upd f j a) j b = upd f j b) := fun f a b => by funext i; unfold upd; split <;> rfl
            have hself : n0 (upd (fun i => if i < j then moveA kn p ((halfE es).getD i zA) else (halfE es).getD i zA) j ⟨fr, tt, lo, cp, cst⟩ = (fun i => if i < j then moveA kn p ((halfE es).getD i zA) else (halfE es).getD i zA)) := by
              funext i
              unfold upd
              by_cases e : i = j
              · subst e; rw [if_pos rfl, if_neg (by omega), HAA.out]
              · rw [if_neg e]
            clear ca fa hA
            by_cases hf : fr = (kn : Int)
            · have hf2 : (fr == (kn : Int)) = true := by simpa using hf
              obtain ⟨r1, r2, r3, r4⟩ := one.out wr _ (cst + p) cst (by show (if j < j then _ else _) = _; rw [if_neg (by omega), HAA.out]) hRI.out hRA.out hT.out hb6
              obtain ⟨w7, hw7⟩ : ∃ w7, (wr.setCell ⟨ga, j * 5 + 4, none⟩ (.int .i64 (cst + p))).drew = w7 := ⟨_, rfl⟩
              rw [hw7] at r1 r2 r3 r4
              have HW7 := hide hw7
              obtain ⟨g', eg, _, _, cb, fb⟩ := r2.get hlt2
              cases eg
              rw [upd_same] at cb
              have d1 := cb 1 (by omega)
              have d4 := cb 4 (by omega)
              have g4 := fb (j * 5 + 4)
              simp only [A5.at] at d1 d4
              have mm1 := r3.m1
              by_cases ht : tt = (kn : Int)
              · have ht2 : (tt == (kn : Int)) = true := by simpa using ht
                obtain ⟨s1, s2, s3, s4⟩ := one.out w7 _ cst (cst + p) (upd_same _ _ _) r1 r2 r3 r4
                rw [upd2.out] at s2
                have HS2 := hide (fin.out _ _ s1 s2 (by rw [if_pos hf, if_pos ht]; omega))
                have HS1 := hide s1
                have HS3 := hide s3
                have HS4 := hide s4
                clear s1 s2 s3 s4 r1 r2 r3 r4 cb fb hw7 hf ht fin one upd2 hself
                go_wp2_with fail
                go_region
                rw [HW7.out]
                go_wp2_with fail
                go_region
                go_wp2
                go_roundw
                case rel => exact ⟨j + 1, by omega, by go_num, HS1.out, HS2.out, HS3.out, HS4.out⟩
                case measure => simp [intOf]; omega
              · have ht2 : (tt == (kn : Int)) = false := by simpa using ht
                have HS2 := hide (fin.out _ _ r1 r2 (by rw [if_pos hf, if_neg ht]; omega))
                have HS1 := hide r1
                have HS3 := hide r3
                have HS4 := hide r4
                clear r1 r2 r3 r4 cb fb hw7 hf ht fin one upd2 hself
                go_wp2_with fail
                go_region
                rw [HW7.out]
                go_wp2
                go_roundw
                case rel => exact ⟨j + 1, by omega, by go_num, HS1.out, HS2.out, HS3.out, HS4.out⟩
                case measure => simp [intOf]; omega
            · have hf2 : (fr == (kn : Int)) = false := by simpa using hf
              by_cases ht : tt = (kn : Int)
              · have ht2 : (tt == (kn : Int)) = true := by simpa using ht
                obtain ⟨s1, s2, s3, s4⟩ := one.out wr _ (cst - p) cst (by show (if j < j then _ else _) = _; rw [if_neg (by omega), HAA.out]) hRI.out hRA.out hT.out hb6
                have HS2 := hide (fin.out _ _ s1 s2 (by rw [if_neg hf, if_pos ht]; omega))
                have HS1 := hide s1
                have HS3 := hide s3
                have HS4 := hide s4
                clear s1 s2 s3 s4 hf ht fin one upd2 hself
                go_wp2_with fail
                go_region
                go_wp2
                go_roundw
                case rel => exact ⟨j + 1, by omega, by go_num, HS1.out, HS2.out, HS3.out, HS4.out⟩
                case measure => simp [intOf]; omega
              · have ht2 : (tt == (kn : Int)) = false := by simpa using ht
                have hRA0 : RowA wr m2 k (some ⟨ga, 0, none⟩) ad2 (upd (fun i => if i < j then moveA kn p ((halfE es).getD i zA) else (halfE es).getD i zA) j ⟨fr, tt, lo, cp, cst⟩) := by rw [hself.out]; exact hRA.out
                have HS2 := hide (fin.out _ _ hRI.out hRA0 (by rw [if_neg hf, if_neg ht]; omega))
                clear hRA0 hf ht fin one upd2 hself
                go_wp2
                go_roundw
                case rel => exact ⟨j + 1, by omega, by go_num, hRI.out, HS2.out, hT.out, hb6⟩
                case measure => simp [intOf]; omega
          · have hjn : j = k := by omega
            subst hjn
            have hsmall := half_small hn
            have hnm := move_ok hnh hsmall (k := (kn : Int)) p1 p2
            have hIq := hRI.out.ints (l := xs) hxl.out.1 (fun i _ => rfl) (by omega) (fun i _ => by have := getD_bd hn i; omega)
            have hAq := hRA.out.arcs (l := moveE kn p (halfE es)) (by rw [moveE_len, halfE_len]; exact hxl.out.2) (fun i hi => by rw [if_pos hi, moveE_at _ _ _ _ (by rw [halfE_len, hxl.out.2]; exact hi)]) (by omega) (fun i hi jj => small_arcs hnm i (by rw [moveE_len, halfE_len, hxl.out.2]; exact hi) jj)
            obtain ⟨n0', n1', m0, m1, -, -⟩ := hT.out
            have HIQ := hide hIq
            have HAQ := hide hAq
            have hb7 : Below w.heap.size w wr := hb.trans (hb6.mono hb.size)
            obtain ⟨b, off, x, rfl, hX, hbb, cx⟩ := (HX.out.below hb7).get hkn
            have hxb := getD_bd hn kn
            rw [hX] at hxb
            have HXX := hide hX
            have z0 := (HT4.out.below hb6).n0
            have pm : -2500 ≤ p * x ∧ p * x ≤ 2500 := by
              have h1 := Int.mul_le_mul_of_nonneg_left hxb.2 (show 0 ≤ p + 25 by omega)
              have h2 := Int.mul_le_mul_of_nonneg_left hxb.1 (show 0 ≤ p + 25 by omega)
              have h3 := Int.mul_le_mul_of_nonneg_left hxb.2 (show 0 ≤ 25 - p by omega)
              have h4 := Int.mul_le_mul_of_nonneg_left hxb.1 (show 0 ≤ 25 - p by omega)
              simp only [Int.add_mul, Int.sub_mul] at h1 h2 h3 h4
              omega
            obtain ⟨px, hpx⟩ : ∃ px, p * x = px := ⟨_, rfl⟩
            rw [hpx] at pm
            have CA : n0 (∀ W, Below wr.heap.size wr W → Calls Try.prog 35 #[.agg #[.slice (some ⟨gs, 0, none⟩) sn sd, .slice ab j ad], .agg #[.slice (some ⟨gs2, 0, none⟩) sn sd2, .slice ab2 j ad2], .int .i64 1, .int .i64 px] W fun e w' => e = .returned (.bool true) ∧ Below W.heap.size W w') := by
              intro W hW
              refine alike_any hS (some ⟨gs, 0, none⟩) ab (some ⟨gs2, 0, none⟩) ab2 sn sd j ad sn sd2 j ad2 xs xs (halfE es) (moveE kn p (halfE es)) 1 px W ((HIM.out.below hb6).below hW) ((HAM.out.below hb6).below hW) (HIQ.out.below hW) (HAQ.out.below hW) hnh hnm (by omega) (by omega) (fun a b ha hb => ?_)
              have := moved_alike hnh kn (by rw [hxl.out.1]; exact hkn) p hnm ha hb
              rw [HXX.out, hpx] at this
              exact this
            have hkn3 : (kn : Int) < (sn : Int) := by omega
            obtain ⟨x1, x2⟩ := hxb
            obtain ⟨pm1, pm2⟩ := pm
            clear hRI hRA hT hIq hAq hX hbb
            go_wp2_with fail
            have r0 := cell_regrown n0'
            have r1 := cell_regrown n1'
            have r2 := cell_regrown m0
            have r3 := cell_regrown m1
            have r4 := cell_regrown z0
            have r5 := cell_regrown cx
            have cQ : ∀ d os, Calls Try.prog 35 #[.agg #[.slice (some ⟨gs, 0, none⟩) sn sd, .slice ab j ad], .agg #[.slice (some ⟨gs2, 0, none⟩) sn sd2, .slice ab2 j ad2], .int .i64 1, .int .i64 (IntKind.i64.wrap px)] (Sort.grow (redrawn wr d) os) fun e w'' => e = .returned (.bool true) ∧ ∃ p : Regrown, w'' = Sort.grow (redrawn wr p.d) p.os := fun d os => by
              rw [show IntKind.i64.wrap px = px from by rw [IntKind.wrap_i64]; omega]
              exact Calls.regrown_of (CA.out _ (below_regrown wr d os))
            clear n0' n1' m0 m1 z0 cx CA
            refine wp_region_quiet_below (by kernel_rfl) (by kernel_rfl) ?_
            repeat (quiet_step (first | exact cQ _ _))
            refine wpQuiet_nil ?_
            intro _ hw'
            obtain ⟨⟨dq, osq⟩, hw''⟩ := hw'
            subst hw''
            have hbr := below_regrown wr dq osq
            have hB9 : Below w.heap.size w (Sort.grow (redrawn wr dq) osq) := hb7.trans (hbr.mono hb7.size)
            clear r0 r1 r2 r3 r4 r5 cQ
            go_wp2
            go_ret
            exact ⟨rfl, hB9⟩
end Go.Proofs.Ytnbccoflcoaoaaa
