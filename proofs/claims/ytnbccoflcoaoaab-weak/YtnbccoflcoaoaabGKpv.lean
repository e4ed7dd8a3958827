import Derived.Test.YtnbccoflcoaoaabGKpb
import Derived.Test.YtnbccoflcoaoaabGDuo
import Derived.Test.YtnbccoflcoaoaabGMst
import Derived.Test.YtnbccoflcoaoaabGKpx
namespace Go.Proofs.Ytnbccoflcoaoaab
open Go.RowKit Go.Deep
set_option linter.unusedSimpArgs false
set_option linter.unusedVariables false

/-! ### a net of the kind that Most takes -/
def pipeA (a : A5) : A5 := ⟨a.fr, a.to, 0, if a.cap = -1 then 60 else a.cap, 0⟩
def pipeX (xs : List Int) : List Int := xs.map (fun _ => 0)
def pipeE (es : List A5) : List A5 := es.map pipeA
theorem pipeX_len (xs : List Int) : (pipeX xs).length = xs.length := by simp [pipeX]
theorem pipeE_len (es : List A5) : (pipeE es).length = es.length := by simp [pipeE]
theorem pipeX_at (xs : List Int) (i : Nat) : (pipeX xs).getD i 0 = 0 := by
  unfold pipeX
  simp only [List.getD, List.getElem?_map]
  cases xs[i]? <;> rfl
theorem pipeE_at (es : List A5) (i : Nat) (hi : i < es.length) : (pipeE es).getD i zA = pipeA (es.getD i zA) := by simp [pipeE, List.getD, hi]
theorem pipe_ok {xs : List Int} {es : List A5} (h : NetOK xs es) : NetOK (pipeX xs) (pipeE es) where
  one := by rw [pipeX_len]; exact h.one
  ten := by rw [pipeX_len]; exact h.ten
  arcs := by rw [pipeE_len]; exact h.arcs
  sup := fun j _ => by rw [pipeX_at]; rfl
  arc := fun j hj => by
    rw [pipeE_len] at hj
    rw [pipeE_at es j hj, pipeX_len]
    have := arcB_out (h.arc j hj)
    refine decide_eq_true ?_
    unfold pipeA
    simp only []
    split <;> omega

theorem Cop.undrew {W : World} {L m nb mb : Nat} {sa : Option Addr} {sn sc : Nat} {aa : Option Addr} {an ac gs sd : Nat} {ab : Option Addr} {ad : Nat} {fI : Nat → Int} {fA : Nat → A5} (h : Cop W.drew L m nb mb sa sn sc aa an ac gs sd ab ad fI fA) : Cop W L m nb mb sa sn sc aa an ac gs sd ab ad fI fA :=
  ⟨h.ri, h.ra, ⟨h.two.n0, h.two.n1, h.two.m0, h.two.m1, h.two.ln, h.two.lm⟩, h.c1, h.c2, h.c3, h.c4, h.c5⟩

/-- A fresh net: its two rows apart. -/
def FreshNet (w : World) (lo : Nat) (sb : Option Addr) (sn sd : Nat) (ab : Option Addr) (an ad : Nat) (xs : List Int) (es : List A5) : Prop := ∃ m, CopyRows w lo m sb sn sd ab an ad xs es

set_option maxRecDepth 100000 in
set_option maxHeartbeats 4000000 in
theorem pipes_any (sa aa : Option Addr) (sn sc an ac : Nat) (xs : List Int) (es : List A5) (w : World) (hx : Ints w sa sn xs) (he : Arcs w aa an es) (hn : NetOK xs es) :
    Calls Try.prog 14 #[.agg #[.slice sa sn sc, .slice aa an ac]] w fun e w' => ∃ sb sd ab ad, e = .returned (.agg #[.slice sb sn sd, .slice ab an ad]) ∧ FreshNet w' w.heap.size sb sn sd ab an ad (pipeX xs) (pipeE es) ∧ Below w.heap.size w w' := by
  have HX := hide hx
  have HE := hide he
  have hxl : Hid (xs.length = sn ∧ es.length = an) := ⟨hx.len, he.len⟩
  have h1s : 1 ≤ sn := by rw [← hxl.out.1]; exact hn.one
  have h10 : sn ≤ 10 := by rw [← hxl.out.1]; exact hn.ten
  have h24 : an ≤ 24 := by rw [← hxl.out.2]; exact hn.arcs
  have hb0 := Joins.below_alloc2 w (.cells #[.slice sa sn sc, .slice aa an ac] 25) (.cells #[.slice none 0 0, .slice none 0 0] 25)
  clear hx he
  go_enter Try.func14, Try.ntmps14
  go_wp2_with fail
  refine (refCopyOwn_any sa aa sn sc an ac xs es _ (HX.out.below hb0) (HE.out.below hb0)).mono ?_
  rintro e w2 ⟨sb, sd, ab, ad, m, rfl, hC, hb2⟩
  have k0 : ((w.alloc (.cells #[.slice sa sn sc, .slice aa an ac] 25)).alloc (.cells #[.slice none 0 0, .slice none 0 0] 25)).cell? ⟨w.heap.size, 0, none⟩ = some (.slice sa sn sc) := by go_simp
  have k1 : ((w.alloc (.cells #[.slice sa sn sc, .slice aa an ac] 25)).alloc (.cells #[.slice none 0 0, .slice none 0 0] 25)).cell? ⟨w.heap.size, 1, none⟩ = some (.slice aa an ac) := by go_simp
  have hrr : ((w.alloc (.cells #[.slice sa sn sc, .slice aa an ac] 25)).alloc (.cells #[.slice none 0 0, .slice none 0 0] 25)).rowIs (w.heap.size + 1) 25 2 (fun _ => .slice none 0 0) := by
    have h := World.rowIs_alloc (w.alloc (.cells #[.slice sa sn sc, .slice aa an ac] 25)) #[.slice none 0 0, .slice none 0 0] 25 (fun _ => .slice none 0 0) (fun i hi => by
      match i, hi with
      | 0, _ => rfl
      | 1, _ => rfl)
    simpa using h
  have hmx := hC.2.2.2.2
  obtain ⟨gs, rfl, hCop⟩ := cop_new k0 k1 (by simp; omega) hb2 hC h1s
  have hL : ((w.alloc (.cells #[.slice sa sn sc, .slice aa an ac] 25)).alloc (.cells #[.slice none 0 0, .slice none 0 0] 25)).heap.size = w.heap.size + 1 + 1 := by simp
  rw [hL] at hCop hb2
  have hRR := hide (blockBelow hb2 (by omega) hrr)
  have hB2 : Below w.heap.size w w2 := hb0.trans (hb2.mono (by omega))
  obtain ⟨mb, hmb⟩ : ∃ mb, w2.heap.size = mb := ⟨_, rfl⟩
  obtain ⟨w3, hw3⟩ : ∃ w3, w2.alloc (.cells #[.slice (some ⟨gs, 0, none⟩) sn sd, .slice ab an ad] 25) = w3 := ⟨_, rfl⟩
  have hb3 : Below (w.heap.size + 1 + 1) w2 w3 := by rw [← hw3]; exact (Below.refl _ _).alloc (by have := hb2.size; rw [hL] at this; exact this) _
  rw [hw3] at hCop
  rw [hmb] at hCop
  have HC := hide hCop
  clear hC hb2 k0 k1 hCop hb0 hrr hL
  go_wp2
  go_loopw [4] (fun i wr => ∃ k : Nat, k ≤ sn ∧ i = .int .i64 k ∧ Hid (Cop wr (w.heap.size + 1 + 1) m w.heap.size mb sa sn sc aa an ac gs sd ab ad (fun i => if i < k then 0 else xs.getD i 0) (fun i => es.getD i zA)) ∧ Below (w.heap.size + 1 + 1) w2 wr) (fun i _ => sn - (intOf i).toNat)
  case atStart => exact ⟨0, Nat.zero_le _, rfl, HC.out.congr (fun i _ => by simp) (fun i _ => rfl), hb3⟩
  case round =>
    clear hw3 hmb HC hb3
    obtain ⟨k, hk, rfl, hC, hb⟩ := hrel
    by_cases hlt : k < sn
    · have hlt3 : (k : Int) < (sn : Int) := by omega
      have m0 := hC.out.two.m0
      obtain ⟨g, e, hgl, hgw, cx, fx⟩ := hC.out.ri.get hlt
      cases e
      rw [if_neg (by omega)] at cx
      have hSet := hide ((hC.out.setI k 0).undrew.congr (fun i _ => upd_step (fun i => xs.getD i 0) (fun _ => 0) k _ rfl i) (fun i _ => rfl))
      have hB3 := hide (hb.setCell (p := ⟨gs, k, none⟩) (by show w.heap.size + 1 + 1 ≤ gs; exact hgl) (.int .i64 0))
      go_wp2
      refine ⟨⟨k + 1, by omega, by go_num, hSet.out, hB3.out⟩, by simp [intOf]; omega⟩
    · have hkn : k = sn := by omega
      subst hkn
      have hC1 := hide (hC.out.congr (gI := (fun _ => 0)) (gA := (fun i => es.getD i zA)) (fun i hi => by rw [if_pos hi]) (fun i _ => rfl))
      have m0 := hC.out.two.m0
      clear hC
      go_wp2
      go_loopw [5] (fun i wr => ∃ j : Nat, j ≤ an ∧ i = .int .i64 j ∧ Hid (Cop wr (w.heap.size + 1 + 1) m w.heap.size mb sa k sc aa an ac gs sd ab ad (fun _ => 0) (fun i => if i < j then pipeA (es.getD i zA) else es.getD i zA)) ∧ Below (w.heap.size + 1 + 1) w2 wr) (fun i _ => an - (intOf i).toNat)
      case atStart => exact ⟨0, Nat.zero_le _, rfl, hC1.out.congr (fun i _ => rfl) (fun i _ => by simp), hb⟩
      case round =>
        clear hC1 hb m0
        obtain ⟨j, hj, rfl, hC, hb⟩ := hrel
        by_cases hlt2 : j < an
        · have hlt3 : (j : Int) < (an : Int) := by omega
          have m1 := hC.out.two.m1
          obtain ⟨ga, rfl, hga1, hga2, ca, fa⟩ := hC.out.ra.get hlt2
          rw [if_neg (by omega)] at ca
          have hge := hC.out.ge ga (by omega) rfl
          obtain ⟨⟨fr, tt, lo, cp, cst⟩, hA⟩ : ∃ A, es.getD j zA = A := ⟨_, rfl⟩
          rw [hA] at ca
          have c2 := ca 2 (by omega)
          have f2 := fa (j * 5 + 2)
          simp only [A5.at] at c2
          have s1 := (hC.out.setA hlt2 2 (by omega) 0).undrew
          simp only [Nat.lt_irrefl, if_false] at s1
          rw [hA] at s1
          have s2 := (s1.setA hlt2 4 (by omega) 0).undrew
          rw [upd_same, upd_two] at s2
          have b2 := (hb.setCell (p := ⟨ga, j * 5 + 2, none⟩) hge (.int .i64 0)).setCell (p := ⟨ga, j * 5 + 4, none⟩) hge (.int .i64 0)
          have mm1 := s1.two.m1
          obtain ⟨g', eg, _, _, cb, fb⟩ := s1.ra.get hlt2
          cases eg
          rw [upd_same] at cb
          have d4 := cb 4 (by omega)
          have g4 := fb (j * 5 + 4)
          simp only [A5.at, A5.put] at d4
          have mm2 := s2.two.m1
          obtain ⟨g', eg, _, _, cd, fd⟩ := s2.ra.get hlt2
          cases eg
          rw [upd_same] at cd
          have e3 := cd 3 (by omega)
          have g3 := fd (j * 5 + 3)
          simp only [A5.at, A5.put] at e3
          have HAA := hide hA
          have HS2 := hide s2
          clear ca fa cb fb cd fd hA s1 s2 hC
          by_cases hcp : cp = -1
          · subst hcp
            have s3 := (HS2.out.setA hlt2 3 (by omega) 60).undrew
            rw [upd_same, upd_two] at s3
            have HF := hide (s3.congr (fun i _ => rfl) (fun i _ => upd_step (fun i => es.getD i zA) (fun i => pipeA (es.getD i zA)) j _ (by show pipeA (es.getD j zA) = _; rw [HAA.out]; rfl) i))
            have HB := hide (b2.setCell (p := ⟨ga, j * 5 + 3, none⟩) hge (.int .i64 60))
            clear s3 b2 HS2
            go_wp2
            refine ⟨⟨j + 1, by omega, by go_num, HF.out, HB.out⟩, by simp [intOf]; omega⟩
          · have hcb : (cp == -1) = false := by simpa using hcp
            have HF := hide (HS2.out.congr (fun i _ => rfl) (fun i _ => upd_step (fun i => es.getD i zA) (fun i => pipeA (es.getD i zA)) j _ (by show pipeA (es.getD j zA) = _; rw [HAA.out]; show A5.mk fr tt 0 (if cp = -1 then 60 else cp) 0 = _; rw [if_neg hcp]; rfl) i))
            have HB := hide b2
            clear b2 HS2 hcp
            go_wp2
            refine ⟨⟨j + 1, by omega, by go_num, HF.out, HB.out⟩, by simp [intOf]; omega⟩
        · have hjn : j = an := by omega
          subst hjn
          have hR := hide (blockBelow hb (by omega) hRR.out)
          have z0 := hR.out.cell (i := 0) (by omega)
          have z1 := hR.out.cell (i := 1) (by omega)
          have y0 := hR.out.frozen 0
          have y1 := hR.out.frozen 1
          obtain ⟨n0', n1', m0, m1, hln, hlm⟩ := hC.out.two
          have hgs := hC.out.c2
          have hgm := hC.out.c3
          have hgb := hC.out.c4
          have hml : w.heap.size + 1 < mb := by omega
          have HC := hide hC.out
          have hB9 : Below w.heap.size w wr := hB2.trans (hb.mono (by omega))
          clear hC
          go_wp2
          have r1 := hR.out.set 0 (.slice (some ⟨gs, 0, none⟩) k sd)
          have r2 := r1.set 1 (.slice ab j ad)
          have q0 := r1.cell (i := 0) (by omega)
          have q1 := r2.cell (i := 1) (by omega)
          simp only [if_true] at q0 q1
          refine bodyPost_ret (v := .agg #[.slice (some ⟨gs, 0, none⟩) k sd, .slice ab j ad]) (by simp [results, Try.results14, go_sem, q0, q1]) rfl ⟨_, _, _, _, rfl, ⟨m, ?_, ?_, by omega, ?_, hmx⟩, ?_⟩
          · refine OwnRow.mono (lo := w.heap.size + 1 + 1) ?_ (by omega)
            refine (HC.out.ri.keep (fun g e h1 _ => ?_)).congr (fun i _ => (pipeX_at xs i).symm)
            rw [Below.heap_setCell _ _ _ _ (by show g ≠ w.heap.size + 1; omega), Below.heap_setCell _ _ _ _ (by show g ≠ w.heap.size + 1; omega)]
          · refine (HC.out.ra.keep (fun g e h1 _ => ?_)).congr (fun i hi => by rw [if_pos hi, pipeE_at es i (by rw [hxl.out.2]; exact hi)])
            rw [Below.heap_setCell _ _ _ _ (by show g ≠ w.heap.size + 1; omega), Below.heap_setCell _ _ _ _ (by show g ≠ w.heap.size + 1; omega)]
          · intro p _ e
            cases e
            exact hgm
          · exact (hB9.setCell (p := ⟨w.heap.size + 1, 0, none⟩) (by show w.heap.size ≤ w.heap.size + 1; omega) _).setCell (p := ⟨w.heap.size + 1, 1, none⟩) (by show w.heap.size ≤ w.heap.size + 1; omega) _
end Go.Proofs.Ytnbccoflcoaoaab

namespace Go.Proofs.Ytnbccoflcoaoaab
open Go.RowKit Go.Deep
set_option linter.unusedSimpArgs false
set_option linter.unusedVariables false

theorem pipe_zero (xs : List Int) : zeroB (pipeX xs) = true := all_t (fun i _ => decide_eq_true (pipeX_at xs i))
theorem pipe_pipes {xs : List Int} {es : List A5} (hn : NetOK xs es) : pipeB (pipeE es) = true := all_t (fun i hi => by
  rw [pipeE_len] at hi
  rw [pipeE_at es i hi]
  refine decide_eq_true ⟨rfl, rfl, ?_⟩
  have := arcB_out (hn.arc i hi)
  unfold pipeA
  simp only []
  split <;> omega)
theorem FreshNet.ints {w : World} {lo : Nat} {sb : Option Addr} {sn sd : Nat} {ab : Option Addr} {an ad : Nat} {xs : List Int} {es : List A5} (h : FreshNet w lo sb sn sd ab an ad xs es) (hn : NetOK xs es) (h1 : xs.length = sn) (h2 : es.length = an) : Ints w sb sn xs ∧ Arcs w ab an es := by
  obtain ⟨m, h3, h4, _⟩ := h
  have := hn.ten
  have := hn.arcs
  refine ⟨h3.ints h1 (by omega) (fun x hx => ?_), h4.arcs h2 (by omega) (fun x hx j => ?_)⟩
  · obtain ⟨i, hi, rfl⟩ := mem_of_getD 0 xs x hx
    have := getD_bd hn i
    omega
  · obtain ⟨i, hi, rfl⟩ := mem_of_getD zA es x hx
    exact arc_wf (hn.arc i hi) (by omega) j
theorem most_ok_of {xs : List Int} {es : List A5} {s t : Nat} {much : Int} {fl cu : List Int} {err : Int} (h : MostAns xs es (s : Int) (t : Int) much fl cu err) (h0 : mostErr xs es (s : Int) (t : Int) = 0) : err = 0 ∧ fl.length = es.length ∧ MostOK xs.length es s t much fl := by
  rcases h with ⟨h1, _⟩ | ⟨_, h1, h2, h3, _, h5, _, _, _⟩
  · exact absurd h0 h1
  · obtain ⟨hn, hab, _, hpb⟩ := mostErr_ok h0
    refine ⟨h1, h2, ⟨fun i hi => ?_, ?_, fun k hk e1 e2 => ?_⟩⟩
    · have hb := boundB_out (of_all h3 i hi)
      have hp := of_decide_eq_true (of_all hpb i hi)
      rcases hb.2.2 with hc | hc
      · exact absurd hc hp.2.2
      · omega
    · have ha := of_decide_eq_true hab
      exact (of_decide_eq_true (h5 s (by omega))).1 rfl
    · exact (of_decide_eq_true (h5 k hk)).2 (by omega) (by omega)

def capK (S : Nat → Bool) (es : List A5) (k : Nat) : Int := sumTo (fun i => if S (frN es i) = true ∧ S (toN es i) = false then (es.getD i zA).cap else 0) k
def goK (S : Nat → Bool) (es : List A5) (y : List Int) (k : Nat) : Int := sumTo (fun i => (if S (frN es i) = true ∧ S (toN es i) = false then y.getD i 0 else 0) - (if S (toN es i) = true ∧ S (frN es i) = false then y.getD i 0 else 0)) k
theorem capK_bd (S : Nat → Bool) (es : List A5) (n : Nat) (h : ∀ i, i < n → 0 ≤ (es.getD i zA).cap ∧ (es.getD i zA).cap ≤ 60) (k : Nat) (hk : k ≤ n) : 0 ≤ capK S es k ∧ capK S es k ≤ 60 * (k : Int) := by
  unfold capK
  induction k with
  | zero => simp [sumTo]
  | succ k ih =>
    have := ih (by omega)
    have := h k (by omega)
    simp only [sumTo]
    split <;> omega
theorem goK_bd (S : Nat → Bool) (es : List A5) (y : List Int) (n : Nat) (h : ∀ i, i < n → 0 ≤ (es.getD i zA).cap ∧ (es.getD i zA).cap ≤ 60) (hy : ∀ i, i < n → 0 ≤ y.getD i 0 ∧ y.getD i 0 ≤ (es.getD i zA).cap) (k : Nat) (hk : k ≤ n) : -(60 * (k : Int)) ≤ goK S es y k ∧ goK S es y k ≤ 60 * (k : Int) := by
  unfold goK
  induction k with
  | zero => simp [sumTo]
  | succ k ih =>
    have := ih (by omega)
    have := h k (by omega)
    have := hy k (by omega)
    simp only [sumTo]
    split <;> split <;> omega

set_option maxRecDepth 100000 in
set_option maxHeartbeats 8000000 in
theorem keepWeak_any (hS : SolveC) (hM : SomeC) (hT : MostC) (sa aa : Option Addr) (sn sc an ac : Nat) (fm tm wh : Int) (xs : List Int) (es : List A5) (w : World) (hx : Ints w sa sn xs) (he : Arcs w aa an es) (hfm : -9223372036854775808 ≤ fm ∧ fm ≤ 9223372036854775807) (htm : -9223372036854775808 ≤ tm ∧ tm ≤ 9223372036854775807) (hwh : -9223372036854775808 ≤ wh ∧ wh ≤ 9223372036854775807) :
    Calls Try.prog 5 #[.agg #[.slice sa sn sc, .slice aa an ac], .int .i64 fm, .int .i64 tm, .int .i64 wh] w fun e w' => e = .returned (.bool true) ∧ Below w.heap.size w w' := by
  have HX := hide hx
  have HE := hide he
  have hxl : Hid (xs.length = sn ∧ es.length = an) := ⟨hx.len, he.len⟩
  have hb0 : Below w.heap.size w (w.alloc (.cells #[.slice sa sn sc, .slice aa an ac] 25)) := (Below.refl _ _).alloc (Nat.le_refl _) _
  clear hx he
  go_enter Try.func5, Try.ntmps5
  go_wp2_with fail
  refine (refused_any hS hM sa aa sn sc an ac xs es _ (HX.out.below hb0) (HE.out.below hb0)).mono ?_
  rintro e v1 ⟨rfl, hb1⟩
  have k0 : v1.cell? ⟨w.heap.size, 0, none⟩ = some (.slice sa sn sc) := (hb1.cell (by simp)).trans (by go_simp)
  have k1 : v1.cell? ⟨w.heap.size, 1, none⟩ = some (.slice aa an ac) := (hb1.cell (by simp)).trans (by go_simp)
  have hz1 : w.heap.size < v1.heap.size := by have := hb1.size; simp at this; omega
  have hB1 : Below w.heap.size w v1 := hb0.trans (hb1.mono (by simp))
  clear hb0 hb1
  cases hck : ((checkS xs es).1 == 0) with
  | false =>
    go_wp2
    go_ret
    exact ⟨rfl, hB1⟩
  | true =>
    have hn := netOK_of (show (checkS xs es).1 = 0 by simpa using hck)
    have h1s : 1 ≤ sn := by rw [← hxl.out.1]; exact hn.one
    have h10 : sn ≤ 10 := by rw [← hxl.out.1]; exact hn.ten
    have h24 : an ≤ 24 := by rw [← hxl.out.2]; exact hn.arcs
    clear hck
    have hnp := pipe_ok hn
    by_cases hs2 : sn < 2
    · have hs2b : (sn : Int) < 2 := by omega
      go_wp2_with fail
      refine (pipes_any sa aa sn sc an ac xs es _ (HX.out.below hB1) (HE.out.below hB1) hn).mono ?_
      rintro e w2 ⟨sb, sd, ab, ad, rfl, hFN, hb2⟩
      obtain ⟨hI, hA⟩ := hFN.ints hnp (by rw [pipeX_len]; exact hxl.out.1) (by rw [pipeE_len]; exact hxl.out.2)
      have hB2 : Below w.heap.size w w2 := hB1.trans (hb2.mono hB1.size)
      clear k0 k1 hb2
      go_wp2_with fail
      refine (hT sb ab sn sd an ad 0 0 (pipeX xs) (pipeE es) _ hI hA (by omega) (by omega)).mono ?_
      rintro e w3 ⟨much, fv, cv, fl, cu, err, rfl, -, -, hans, hb3⟩
      obtain rfl : err = 7 := by
        have h7 : mostErr (pipeX xs) (pipeE es) 0 0 = 7 := mostErr_arg hnp (decide_eq_false (by omega))
        rcases hans with ⟨_, h, _⟩ | ⟨h, _⟩
        · rw [h7] at h; exact h
        · rw [h7] at h; omega
      have hB3 : Below w.heap.size w w3 := hB2.trans (hb3.mono hB2.size)
      clear hI hA hFN hans hb3
      go_wp2
      go_ret
      exact ⟨ret_b (by simp), hB3⟩
    · have hs2b : decide ((sn : Int) < 2) = false := decide_eq_false (by omega)
      have hs3 : ¬ ((sn : Int) < 2) := by omega
      go_wp2_with fail
      refine (pipes_any sa aa sn sc an ac xs es _ (HX.out.below hB1) (HE.out.below hB1) hn).mono ?_
      rintro e w2 ⟨sb, sd, ab, ad, rfl, hFN, hb2⟩
      obtain ⟨hI, hA⟩ := hFN.ints hnp (by rw [pipeX_len]; exact hxl.out.1) (by rw [pipeE_len]; exact hxl.out.2)
      have hB2 : Below w.heap.size w w2 := hB1.trans (hb2.mono hB1.size)
      have hbx := Joins.below_alloc1 w2 (.cells #[.slice sb sn sd, .slice ab an ad] 25)
      have HI := hide (hI.below hbx)
      have HA := hide (hA.below hbx)
      have hB3 : Below w.heap.size w (w2.alloc (.cells #[.slice sb sn sd, .slice ab an ad] 25)) := hB2.alloc hB2.size _
      obtain ⟨mb, hmb⟩ : ∃ mb, w2.heap.size = mb := ⟨_, rfl⟩
      have m0 : (w2.alloc (.cells #[.slice sb sn sd, .slice ab an ad] 25)).cell? ⟨mb, 0, none⟩ = some (.slice sb sn sd) := by rw [← hmb]; simp
      have m1 : (w2.alloc (.cells #[.slice sb sn sd, .slice ab an ad] 25)).cell? ⟨mb, 1, none⟩ = some (.slice ab an ad) := by rw [← hmb]; simp
      have hlm : mb < (w2.alloc (.cells #[.slice sb sn sd, .slice ab an ad] 25)).heap.size := by rw [← hmb]; simp
      obtain ⟨w3, hw3⟩ : ∃ w3, w2.alloc (.cells #[.slice sb sn sd, .slice ab an ad] 25) = w3 := ⟨_, rfl⟩
      rw [hw3] at HI HA hB3 m0 m1 hlm
      clear k0 k1 hb2 hI hA hFN hbx hB2
      have cP : n0 (Calls Try.prog 12 #[.int .i64 fm, .int .i64 sn] w3 fun e w' => e = .returned (.int .i64 (pickS fm sn)) ∧ w' = w3) := pick_any fm sn w3 hfm.1 hfm.2 (by omega) (by omega)
      have cQ : n0 (Calls Try.prog 12 #[.int .i64 tm, .int .i64 ((sn : Int) - 1)] w3 fun e w' => e = .returned (.int .i64 (pickS tm ((sn : Int) - 1))) ∧ w' = w3) := pick_any tm ((sn : Int) - 1) w3 htm.1 htm.2 (by omega) (by omega)
      have hp1 := pickS_bd fm sn (by omega)
      have hp2 := pickS_bd tm ((sn : Int) - 1) (by omega)
      generalize pickS fm sn = s0 at *
      generalize pickS tm ((sn : Int) - 1) = t0 at *
      obtain ⟨s, rfl⟩ := nat_of hp1.1
      obtain ⟨q1, q2⟩ := hp2
      have hsl : s < sn := by omega
      go_wp2_with fail
      refine Calls.mono cP.out ?_
      rintro e v3 ⟨rfl, rfl⟩
      clear cP
      go_wp2_with fail
      refine Calls.mono cQ.out ?_
      rintro e v3 ⟨rfl, rfl⟩
      clear cQ
      go_upto_if 65 with fail
      go_cut [16, 17] (fun a b wx => a = .int .i64 s ∧ wx = v3 ∧ ∃ t : Nat, b = .int .i64 t ∧ t < sn ∧ s ≠ t)
      case first =>
        obtain ⟨t1, rfl⟩ := nat_of q1
        by_cases hst : (s : Int) ≤ (t1 : Int)
        · go_wp2_with fail
          go_meet
          case rel => exact ⟨rfl, rfl, t1 + 1, by go_num, by omega, by omega⟩
        · have hstb : decide ((s : Int) ≤ (t1 : Int)) = false := decide_eq_false hst
          go_wp2_with fail
          all_goals first
            | (exfalso; omega)
            | (go_meet
               case rel => exact ⟨rfl, rfl, t1, rfl, by omega, by omega⟩)
      case rest =>
      obtain ⟨rfl, rfl, t, rfl, htl, hst⟩ := hcut
      have hpl : Hid ((pipeX xs).length = sn ∧ (pipeE es).length = an) := ⟨by rw [pipeX_len]; exact hxl.out.1, by rw [pipeE_len]; exact hxl.out.2⟩
      have hme : Hid (mostErr (pipeX xs) (pipeE es) (s : Int) (t : Int) = 0) := mostErr_fine hnp (decide_eq_true (by rw [hpl.out.1]; omega)) (pipe_zero xs) (pipe_pipes hn)
      have hcapb : Hid (∀ i, i < an → 0 ≤ ((pipeE es).getD i zA).cap ∧ ((pipeE es).getD i zA).cap ≤ 60) := fun i hi => by
        have h1 := arcB_out (hnp.arc i (by rw [hpl.out.2]; exact hi))
        have h2 := of_decide_eq_true (of_all (pipe_pipes hn) i (by rw [hpl.out.2]; exact hi))
        omega
      have hends := hide hnp.ends
      generalize pipeX xs = ys at *
      generalize pipeE es = gs at *
      clear hw3 hmb HX HE hxl q1 q2 hp1
      go_wp2_with fail
      refine (refCopy_any sb ab sn sd an ad ys gs _ HI.out HA.out).mono ?_
      rintro e w4 ⟨sb2, sd2, ab2, ad2, rfl, hI, hA, -, -, hb4⟩
      have hlm4 : mb < w4.heap.size := Nat.lt_of_lt_of_le hlm hb4.size
      have k0 := (hb4.cell (p := ⟨mb, 0, none⟩) hlm).trans m0
      have k1 := (hb4.cell (p := ⟨mb, 1, none⟩) hlm).trans m1
      clear m0 m1
      go_wp2_with fail
      refine (hT sb2 ab2 sn sd2 an ad2 (s : Int) (t : Int) ys gs _ hI hA (by omega) (by omega)).mono ?_
      rintro e w5 ⟨much, fv, cv, fl, cu, err, rfl, ⟨fa, fc, rfl, hof⟩, -, hans, hb5⟩
      have HFL := hide (own_ints hof (by have := hans.wf.1.1; omega) hans.wf.1.2)
      obtain ⟨rfl, hfl, hmo⟩ := most_ok_of hans hme.out
      have hfn : fl.length = an := by rw [hfl]; exact hpl.out.2
      have l1 := (hb5.cell (p := ⟨mb, 1, none⟩) hlm4).trans k1
      have hb45 := hb4.trans (hb5.mono hb4.size)
      have HA5 := hide (HA.out.below hb45)
      have hB5 : Below w.heap.size w w5 := hB3.trans (hb45.mono hB3.size)
      have hlm5 : mb < w5.heap.size := Nat.lt_of_lt_of_le hlm4 hb5.size
      have HMO := hide hmo
      rw [hfn] at HFL ⊢
      clear hI hA hb4 hb5 hof hans k0 k1 hmo hfl hb45 hB3
      obtain ⟨S, hS0⟩ : ∃ S : Nat → Bool, ∀ v, S v = (decide (v = s) || (decide (v ≠ t) && (bits BinOp.and IntKind.i64 (wh / 2 ^ min v 64) 1 == 1))) := ⟨fun v => (decide (v = s) || (decide (v ≠ t) && (bits BinOp.and IntKind.i64 (wh / 2 ^ min v 64) 1 == 1))), fun _ => rfl⟩
      have HS := hide hS0
      have hSs : Hid (S s = true) := by show S s = true; rw [hS0]; simp
      have hSt : Hid (S t = false) := by show S t = false; rw [hS0]; simp; omega
      clear hS0
      have hw1 := hide (most_weak HMO.out (by rw [hpl.out.1]; exact fun i hi => by have := hends.out i hi; rw [hpl.out.1] at this; exact this) (by rw [hpl.out.1]; exact hsl) hst S hSs.out hSt.out)
      have hw2 := hide (most_over HMO.out (by rw [hpl.out.1]; exact fun i hi => by have := hends.out i hi; rw [hpl.out.1] at this; exact this) (by rw [hpl.out.1]; exact hsl) hst S hSs.out hSt.out)
      go_wp2
      go_loopw [22, 23, 24, 25, 26, 27] (fun ca go i p f g wr => ∃ (k : Nat), k ≤ an ∧ i = .int .i64 k ∧ ca = .int .i64 (capK S gs k) ∧ go = .int .i64 (goK S gs fl k) ∧ wr.cell? ⟨mb, 1, none⟩ = some (.slice ab an ad) ∧ Below w5.heap.size w5 wr ∧ mb < wr.heap.size) (fun _ _ i _ _ _ _ => an - (intOf i).toNat)
      case atStart => exact ⟨0, Nat.zero_le _, rfl, rfl, rfl, l1, Below.refl _ _, hlm5⟩
      case round =>
        clear l1
        obtain ⟨k, hk, rfl, rfl, rfl, l1, hb, hlmr⟩ := hrel
        have hyb : Hid (∀ i, i < an → 0 ≤ fl.getD i 0 ∧ fl.getD i 0 ≤ ((gs).getD i zA).cap) := fun i hi => HMO.out.bd i (by rw [hpl.out.2]; exact hi)
        have hkb := capK_bd S gs an hcapb.out k hk
        have hgb := goK_bd S gs fl an hcapb.out hyb.out k hk
        by_cases hlt : k < an
        · have hlt3 : (k : Int) < (an : Int) := by omega
          obtain ⟨b, off, fr, tt, lo, cp, cst, rfl, hA, hbb, e0, e1, e2, e3, e4⟩ := (HA5.out.below hb).get hlt
          obtain ⟨fb, foff, y, rfl, hY, hfb, ey⟩ := (HFL.out.below hb).get hlt
          have he := hends.out k (by rw [hpl.out.2]; exact hlt)
          have hcb := hcapb.out k hlt
          have hyy := hyb.out k hlt
          rw [hA] at he hcb hyy
          rw [hY] at hyy
          simp only [] at he hcb hyy
          obtain ⟨frn, rfl⟩ := nat_of he.1
          obtain ⟨ttn, rfl⟩ := nat_of he.2.2.1
          have hnc : Hid (capK S gs (k + 1) = capK S gs k + (if S frn = true ∧ S ttn = false then cp else 0)) := by
            show capK S gs (k + 1) = _
            simp only [capK, sumTo, frN, toN, hA, Int.toNat_natCast]
          have hng : Hid (goK S gs fl (k + 1) = goK S gs fl k + ((if S frn = true ∧ S ttn = false then y else 0) - (if S ttn = true ∧ S frn = false then y else 0))) := by
            show goK S gs fl (k + 1) = _
            simp only [goK, sumTo, frN, toN, hA, hY, Int.toNat_natCast]
          generalize capK S gs k = cK at *
          generalize goK S gs fl k = gK at *
          have HSf := hide (HS.out frn)
          have HSt := hide (HS.out ttn)
          obtain ⟨w6, hw6⟩ : ∃ w6, wr.alloc (.cells #[.int .i64 (frn : Int), .int .i64 (ttn : Int), .int .i64 lo, .int .i64 cp, .int .i64 cst] 32) = w6 := ⟨_, rfl⟩
          have hb6 : Below wr.heap.size wr w6 := by rw [← hw6]; exact Joins.below_alloc1 _ _
          have a0 : w6.cell? ⟨wr.heap.size, 0, none⟩ = some (.int .i64 (frn : Int)) := by rw [← hw6]; simp
          have a1 : w6.cell? ⟨wr.heap.size, 1, none⟩ = some (.int .i64 (ttn : Int)) := by rw [← hw6]; simp
          have a3 : w6.cell? ⟨wr.heap.size, 3, none⟩ = some (.int .i64 cp) := by rw [← hw6]; simp
          have l6 := (hb6.cell (p := ⟨mb, 1, none⟩) hlmr).trans l1
          have y6 := (hb6.cell (p := ⟨fb, foff + k, none⟩) hfb).trans ey
          have hb7 : Below w5.heap.size w5 w6 := hb.trans (hb6.mono hb.size)
          have hlm6 : mb < w6.heap.size := Nat.lt_of_lt_of_le hlmr hb6.size
          clear hA hY he
          go_upto_region 21 with fail
          clear e0 e1 e2 e3 e4 ey l1
          go_cut [26] (fun v wx => v = .bool (S frn) ∧ wx = w6)
          case first =>
            by_cases h1 : frn = s
            · subst h1
              go_wp2_with fail
              go_meet
              case rel => exact ⟨by rw [HSf.out]; simp, rfl⟩
            · have d1 : ((frn : Int) == (s : Int)) = false := by simp only [beq_eq_false_iff_ne, ne_eq]; omega
              by_cases h2 : frn = t
              · subst h2
                go_wp2_with fail
                go_meet
                case rel => exact ⟨by rw [HSf.out]; simp [h1], rfl⟩
              · have d2 : ((frn : Int) != (t : Int)) = true := by simp only [bne_iff_ne, ne_eq]; omega
                go_wp2_with fail
                go_meet
                case rel => exact ⟨by rw [HSf.out]; simp [h1, h2], rfl⟩
          case rest =>
          obtain ⟨rfl, rfl⟩ := hcut
          go_upto_region 22 with fail
          go_cut [27] (fun v wx => v = .bool (S ttn) ∧ wx = wc)
          case first =>
            by_cases h1 : ttn = s
            · subst h1
              go_wp2_with fail
              go_meet
              case rel => exact ⟨by rw [HSt.out]; simp, rfl⟩
            · have d1 : ((ttn : Int) == (s : Int)) = false := by simp only [beq_eq_false_iff_ne, ne_eq]; omega
              by_cases h2 : ttn = t
              · subst h2
                go_wp2_with fail
                go_meet
                case rel => exact ⟨by rw [HSt.out]; simp [h1], rfl⟩
              · have d2 : ((ttn : Int) != (t : Int)) = true := by simp only [bne_iff_ne, ne_eq]; omega
                go_wp2_with fail
                go_meet
                case rel => exact ⟨by rw [HSt.out]; simp [h1, h2], rfl⟩
          case rest =>
          obtain ⟨rfl, rfl⟩ := hcut
          clear HSf HSt HS
          generalize S frn = F at *
          generalize S ttn = G at *
          obtain ⟨cb1, cb2⟩ := hcb
          obtain ⟨yb1, yb2⟩ := hyy
          obtain ⟨kb1, kb2⟩ := hkb
          obtain ⟨gb1, gb2⟩ := hgb
          have kb3 : cK ≤ 2000 := by omega
          have gb3 : -2000 ≤ gK := by omega
          have gb4 : gK ≤ 2000 := by omega
          have yb3 : y ≤ 60 := by omega
          clear kb2 gb1 gb2 yb2
          cases F <;> cases G
          all_goals
            go_wp2
            go_roundw
            case rel =>
              refine ⟨k + 1, by omega, by go_num, ?_, ?_, l6, hb7, hlm6⟩
              · rw [hnc.out]; simp
              · rw [hng.out]
                first | (simp; done) | (simp; omega)
            case measure => simp [intOf]; omega
        · have hkn : k = an := by omega
          subst hkn
          have h1 : much ≤ capK S gs k := by have := hw1.out; rw [hpl.out.2] at this; exact this
          have h2 : goK S gs fl k = much := by have := hw2.out; rw [hpl.out.2] at this; exact this
          rw [h2]
          generalize capK S gs k = cK at *
          have hBf : Below w.heap.size w wr := hB5.trans (hb.mono hB5.size)
          clear h2 hkb hgb
          go_wp2
          go_ret
          exact ⟨ret_b (by simp), hBf⟩
end Go.Proofs.Ytnbccoflcoaoaab

namespace Go.Proofs.Ytnbccoflcoaoaab
open Go.RowKit Go.Deep
set_option linter.unusedSimpArgs false
set_option linter.unusedVariables false

theorem caps_sum (es : List A5) (cu : List Int) (S : Nat → Bool) (m : Nat) (hS : ∀ v : Nat, v < m → S v = inB cu (v : Int)) (he : ∀ i, i < es.length → 0 ≤ (es.getD i zA).fr ∧ (es.getD i zA).fr < m ∧ 0 ≤ (es.getD i zA).to ∧ (es.getD i zA).to < m) (hc : ∀ i, i < es.length → (es.getD i zA).cap ≠ -1) (k : Nat) (hk : k ≤ es.length) :
    capsTo es cu false k = sumTo (fun i => if S (frN es i) = true ∧ S (toN es i) = false then (es.getD i zA).cap else 0) k := by
  induction k with
  | zero => rfl
  | succ k ih =>
    simp only [capsTo, sumTo, ih (by omega)]
    have e := he k (by omega)
    have h1 := hS (frN es k) (by unfold frN; omega)
    have h2 := hS (toN es k) (by unfold toN; omega)
    rw [show ((frN es k : Nat) : Int) = (es.getD k zA).fr from by unfold frN; omega] at h1
    rw [show ((toN es k : Nat) : Int) = (es.getD k zA).to from by unfold toN; omega] at h2
    rw [h1, h2]
    unfold crossB
    simp only [Bool.false_eq_true, if_false, Bool.and_eq_true, Bool.not_eq_true']
    congr 1
    have := hc k (by omega)
    by_cases hx : inB cu (es.getD k zA).fr = true ∧ inB cu (es.getD k zA).to = false
    · rw [if_pos ⟨hx, this⟩, if_pos hx]
    · rw [if_neg (fun h => hx h.1), if_neg hx]
theorem back_ok {xs : List Int} {es : List A5} (hn : NetOK xs es) (h23 : es.length ≤ 23) {s t : Nat} (hs : s < xs.length) (ht : t < xs.length) : NetOK xs (backE es s t) where
  one := hn.one
  ten := hn.ten
  arcs := by rw [backE_len]; omega
  sup := hn.sup
  arc := fun j hj => by
    rw [backE_len] at hj
    by_cases h : j < es.length
    · rw [backE_at _ _ _ _ h]; exact hn.arc j h
    · rw [show j = es.length from by omega, backE_last]
      exact decide_eq_true ⟨by show (0 : Int) ≤ (t : Int); omega, by show (t : Int) < _; omega, by show (0 : Int) ≤ (s : Int); omega, by show (s : Int) < _; omega, by show (0 : Int) ≤ 0; omega, by show (0 : Int) ≤ 60; omega, Or.inl rfl, by show (-50 : Int) ≤ -1; omega, by show (-1 : Int) ≤ 50; omega⟩
/-- What Most tells of a net of pipes, and what an accepted answer of the net with the arc back costs. -/
theorem returned_ans {xs : List Int} {es : List A5} {s t : Nat} {much : Int} {fl cu : List Int} {err : Int} (h : MostAns xs es (s : Int) (t : Int) much fl cu err) (h0 : mostErr xs es (s : Int) (t : Int) = 0) (h23 : es.length ≤ 23) {a : A6} (ha : okB xs (backE es s t) a = true) : a.kind = 1 ∧ a.cost = -much := by
  obtain ⟨hn, hab, hz, hpb⟩ := mostErr_ok h0
  have hab2 := of_decide_eq_true hab
  have hmo := (most_ok_of h h0).2.2
  rcases h with ⟨h1, _⟩ | ⟨_, _, _, _, _, _, h6, h7, h8⟩
  · exact absurd h0 h1
  · have hpp : ∀ i, i < es.length → (es.getD i zA).lo = 0 ∧ (es.getD i zA).cost = 0 ∧ (es.getD i zA).cap ≠ -1 := fun i hi => of_decide_eq_true (of_all hpb i hi)
    exact returned_core hn h23 (fun k hk => of_decide_eq_true (of_all hz k hk)) hpp (by omega) (by omega) (by omega) hmo (fun v => inB cu (v : Int)) h6 h7 (by rw [← caps_sum es cu (fun v => inB cu (v : Int)) xs.length (fun _ _ => rfl) hn.ends (fun i hi => (hpp i hi).2.2) es.length (Nat.le_refl _)]; exact h8) ha (back_ok hn h23 (by omega) (by omega))

/-- Rows of ints that are one's own, for append. -/
theorem RowI.owns {w : World} {lo n g c : Nat} {f : Nat → Int} (h : RowI w lo n (some ⟨g, 0, none⟩) c f) (hn : 0 < n) (hc : c ≤ maxLen) {l : List Int} (hl : l.length = n) (hf : ∀ i, i < n → f i = l.getD i 0) : w.ownsRow lo 3 1 (.slice (some ⟨g, 0, none⟩) n c) n (intCells l) := by
  rcases h with h | ⟨g', F, e, hlo, ⟨cur, hh, hs, hcur⟩, hnc, hF⟩
  · omega
  · cases e
    refine ⟨by rw [intCells_length, hl]; omega, .inr ⟨g, c, cur, rfl, hlo, hh, hnc, hc, by omega, ?_⟩⟩
    apply List.ext_getElem?
    intro j
    rw [List.getElem?_take]
    by_cases hj : j < n
    · rw [if_pos (by omega), Array.getElem?_toList, hcur j (by omega), hF j hj, hf j hj, intCells_at' l j (by omega)]
    · rw [if_neg (by omega), List.getElem?_eq_none (by rw [intCells_length]; omega)]
theorem RowA.less {w : World} {lo n n1 : Nat} {a : Option Addr} {c : Nat} {f : Nat → A5} (h : RowA w lo n a c f) (hn : n1 ≤ n) : RowA w lo n1 a c f := by
  rcases h with h | ⟨g, F, h1, h2, h3, h4, h5⟩
  · exact .inl ⟨by omega, h.2⟩
  · exact .inr ⟨g, F, h1, h2, h3, by omega, fun i hi => h5 i (by omega)⟩

def boxF (a b : Value) (i : Nat) : Value := if i = 0 then a else b
/-- The net on its way: its two rows and its box. -/
structure Pip (W : World) (L mb : Nat) (gs sn sd : Nat) (ab : Option Addr) (an ad : Nat) (ys : List Int) (es : List A5) : Prop where
  ri : RowI W L sn (some ⟨gs, 0, none⟩) sd (fun i => ys.getD i 0)
  ra : RowA W L an ab ad (fun i => es.getD i zA)
  rb : W.rowIs mb 25 2 (boxF (.slice (some ⟨gs, 0, none⟩) sn sd) (.slice ab an ad))
  lenI : ys.length = sn
  lenA : es.length = an
  mxI : sd ≤ maxLen
  mxA : ad ≤ maxLen
theorem rowIs_ne {w : World} {g g' : Nat} {t t' : TypeId} {n n' : Nat} {f f' : Nat → Value} (h : w.rowIs g t n f) (h' : w.rowIs g' t' n' f') (ht : t ≠ t') : g ≠ g' := by
  intro e
  subst e
  obtain ⟨c, e1, _⟩ := h
  obtain ⟨c', e2, _⟩ := h'
  rw [e1] at e2
  cases e2
  exact ht rfl
theorem RowI.keep2 {w w' : World} {lo n : Nat} {a : Option Addr} {c : Nat} {f : Nat → Int} (h : RowI w lo n a c f) (hb : ∀ g F, a = some ⟨g, 0, none⟩ → w.rowIs g 3 c F → w'.heap[g]? = w.heap[g]?) : RowI w' lo n a c f :=
  h.imp id fun ⟨g, F, h1, h2, h3, r⟩ => ⟨g, F, h1, h2, h3.of_block (hb g F h1 h3), r⟩
theorem RowA.keep2 {w w' : World} {lo n : Nat} {a : Option Addr} {c : Nat} {f : Nat → A5} (h : RowA w lo n a c f) (hb : ∀ g F, a = some ⟨g, 0, none⟩ → w.rowIs g 32 (c * 5) F → w'.heap[g]? = w.heap[g]?) : RowA w' lo n a c f :=
  h.imp id fun ⟨g, F, h1, h2, h3, r⟩ => ⟨g, F, h1, h2, h3.of_block (hb g F h1 h3), r⟩
theorem RowI.row {w : World} {lo n g c : Nat} {f : Nat → Int} (h : RowI w lo n (some ⟨g, 0, none⟩) c f) (hn : 0 < n) : ∃ F, w.rowIs g 3 c F := by
  rcases h with h | ⟨g', F, e, _, h3, _⟩
  · omega
  · cases e; exact ⟨F, h3⟩
theorem RowA.row {w : World} {lo n g c : Nat} {f : Nat → A5} (h : RowA w lo n (some ⟨g, 0, none⟩) c f) (hn : 0 < n) : ∃ F, w.rowIs g 32 (c * 5) F := by
  rcases h with h | ⟨g', F, e, _, h3, _⟩
  · omega
  · cases e; exact ⟨F, h3⟩
theorem box_new (w : World) (a b : Value) : (w.alloc (.cells #[a, b] 25)).rowIs w.heap.size 25 2 (boxF a b) := by
  have h := World.rowIs_alloc w #[a, b] 25 (boxF a b) (fun i hi => by
    match i, hi with
    | 0, _ => rfl
    | 1, _ => rfl)
  simpa using h
theorem Pip.net {W : World} {L mb gs sn sd : Nat} {ab : Option Addr} {an ad : Nat} {ys : List Int} {es : List A5} (h : Pip W L mb gs sn sd ab an ad ys es) (hn : NetOK ys es) : Ints W (some ⟨gs, 0, none⟩) sn ys ∧ Arcs W ab an es := by
  have := hn.ten
  have := hn.arcs
  have := h.lenI
  have := h.lenA
  exact ⟨h.ri.ints h.lenI (fun i _ => rfl) (by omega) (fun i _ => by have := getD_bd hn i; omega), h.ra.arcs h.lenA (fun i _ => rfl) (by omega) (fun i hi j => arc_wf (hn.arc i (by omega)) (by omega) j)⟩

end Go.Proofs.Ytnbccoflcoaoaab

namespace Go.Proofs.Ytnbccoflcoaoaab
open Go.RowKit Go.Deep
set_option linter.unusedSimpArgs false
set_option linter.unusedVariables false

theorem own_ne_row {w : World} {base : Nat} {e t : TypeId} {s n k : Nat} {v : Value} {xs : List Value} {f : Nat → Value} {mb : Nat} (h : w.ownsRow base e s v n xs) (hr : w.rowIs mb t k f) (hne : e ≠ t) : v.ownBlock ≠ some mb := by
  rcases h.2 with ⟨rfl, _⟩ | ⟨g, c, cur, rfl, _, hh, _⟩
  · simp [Value.ownBlock]
  · intro e'
    simp only [Value.ownBlock, Option.some.injEq] at e'
    subst e'
    obtain ⟨c', h2, _⟩ := hr
    rw [hh] at h2
    cases h2
    exact hne rfl
theorem Pip.below {W W' : World} {L mb gs sn sd : Nat} {ab : Option Addr} {an ad : Nat} {ys : List Int} {es : List A5} (h : Pip W L mb gs sn sd ab an ad ys es) (hb : Below W.heap.size W W') : Pip W' L mb gs sn sd ab an ad ys es :=
  ⟨h.ri.below hb, h.ra.below hb, h.rb.of_block (hb.block mb h.rb.lt), h.lenI, h.lenA, h.mxI, h.mxA⟩
/-- The row of arcs, for append: none yet, or one's own. -/
theorem Pip.arcs_own {W : World} {L mb gs sn sd : Nat} {ab : Option Addr} {an ad : Nat} {ys : List Int} {es : List A5} (h : Pip W L mb gs sn sd ab an ad ys es) : W.ownsRow L 32 5 (.slice ab an ad) an (arcCells es) := by
  by_cases h0 : an = 0
  · rcases h.ra with ⟨_, rfl, rfl⟩ | ⟨g, F, rfl, hL, hr, hle, _⟩
    · subst h0
      have : es = [] := List.eq_nil_of_length_eq_zero h.lenA
      subst this
      exact World.ownsRow_nil _ _ _ _
    · subst h0
      have : es = [] := List.eq_nil_of_length_eq_zero h.lenA
      subst this
      obtain ⟨cur, hh, hs, hc⟩ := hr
      exact ⟨by simp [arcCells], .inr ⟨g, ad, cur, rfl, hL, hh, Nat.zero_le _, h.mxA, hs, by simp [arcCells]⟩⟩
  · rcases h.ra with ⟨h1, _⟩ | ⟨g, F, rfl, hL, hr, hle, hF⟩
    · omega
    · exact RowA.owns (f := fun i => es.getD i zA) (.inr ⟨g, F, rfl, hL, hr, hle, hF⟩) (by omega) h.mxA h.lenA (fun i _ => rfl)
theorem grown_setC (w : World) (b o : Nat) (u : Value) : w.grownBy (w.setCell ⟨b, o, none⟩ u) (some b) :=
  ⟨rfl, rfl, rfl, by simp [World.setCell], fun k hk hne => Below.heap_setCell _ _ _ _ (fun e => hne (by rw [e]))⟩

set_option maxRecDepth 100000 in
set_option maxHeartbeats 8000000 in
theorem keepReturned_any (hS : SolveC) (hM : SomeC) (hT : MostC) (sa aa : Option Addr) (sn sc an ac : Nat) (fm tm : Int) (xs : List Int) (es : List A5) (w : World) (hx : Ints w sa sn xs) (he : Arcs w aa an es) (hfm : -9223372036854775808 ≤ fm ∧ fm ≤ 9223372036854775807) (htm : -9223372036854775808 ≤ tm ∧ tm ≤ 9223372036854775807) :
    Calls Try.prog 6 #[.agg #[.slice sa sn sc, .slice aa an ac], .int .i64 fm, .int .i64 tm] w fun e w' => e = .returned (.bool true) ∧ Below w.heap.size w w' := by
  have HX := hide hx
  have HE := hide he
  have hxl : Hid (xs.length = sn ∧ es.length = an) := ⟨hx.len, he.len⟩
  have hb0 : Below w.heap.size w (w.alloc (.cells #[.slice sa sn sc, .slice aa an ac] 25)) := (Below.refl _ _).alloc (Nat.le_refl _) _
  clear hx he
  go_enter Try.func6, Try.ntmps6
  go_wp2_with fail
  refine (refused_any hS hM sa aa sn sc an ac xs es _ (HX.out.below hb0) (HE.out.below hb0)).mono ?_
  rintro e v1 ⟨rfl, hb1⟩
  have k0 : v1.cell? ⟨w.heap.size, 0, none⟩ = some (.slice sa sn sc) := (hb1.cell (by simp)).trans (by go_simp)
  have k1 : v1.cell? ⟨w.heap.size, 1, none⟩ = some (.slice aa an ac) := (hb1.cell (by simp)).trans (by go_simp)
  have hz1 : w.heap.size < v1.heap.size := by have := hb1.size; simp at this; omega
  have hB1 : Below w.heap.size w v1 := hb0.trans (hb1.mono (by simp))
  clear hb0 hb1
  cases hck : ((checkS xs es).1 == 0) with
  | false =>
    go_wp2
    go_ret
    exact ⟨rfl, hB1⟩
  | true =>
    have hn := netOK_of (show (checkS xs es).1 = 0 by simpa using hck)
    have h1s : 1 ≤ sn := by rw [← hxl.out.1]; exact hn.one
    have h10 : sn ≤ 10 := by rw [← hxl.out.1]; exact hn.ten
    have h24 : an ≤ 24 := by rw [← hxl.out.2]; exact hn.arcs
    clear hck
    have hnp := pipe_ok hn
    go_wp2_with fail
    refine (pipes_any sa aa sn sc an ac xs es _ (HX.out.below hB1) (HE.out.below hB1) hn).mono ?_
    rintro e w2 ⟨sb, sd, ab, ad, rfl, ⟨m, hO, hR, hLm, hsm, hmA, hmI⟩, hb2⟩
    obtain ⟨gs, rfl, hgs1, hgs2⟩ : ∃ gs, sb = some ⟨gs, 0, none⟩ ∧ v1.heap.size ≤ gs ∧ gs < m := by
      rcases hO with h | ⟨g, F, e, h1, _⟩
      · omega
      · exact ⟨g, e, h1, hsm _ (by omega) e⟩
    have hga : Hid (0 < an → ∃ ga, ab = some ⟨ga, 0, none⟩ ∧ an ≤ ad ∧ m ≤ ga ∧ ga < w2.heap.size) := fun h0 => by
      rcases hR with h | ⟨g, F, e, h1, h2, h3, _⟩
      · omega
      · exact ⟨g, e, h3, h1, h2.lt⟩
    have hB2 : Below w.heap.size w w2 := hB1.trans (hb2.mono hB1.size)
    have HO := hide hO.rowI
    have HR := hide (RowA.less (n1 := an) (ArcRow.rowA (hR.mono hLm)) (Nat.le_refl _))
    obtain ⟨n1, hn1⟩ : ∃ n1, n1 = (if 23 < an then 23 else an) := ⟨_, rfl⟩
    have hn1a : n1 ≤ an := by rw [hn1]; split <;> omega
    have hn23 : n1 ≤ 23 := by rw [hn1]; split <;> omega
    have HN1 := hide hn1
    have hpl : Hid ((pipeX xs).length = sn ∧ (pipeE es).length = an) := ⟨by rw [pipeX_len]; exact hxl.out.1, by rw [pipeE_len]; exact hxl.out.2⟩
    have HPZ := hide (pipe_zero xs)
    have HPP := hide (pipe_pipes hn)
    have hv12 : v1.heap.size ≤ w2.heap.size := hb2.size
    have HB2 := hide hB2
    have pipn : n0 (∀ (W : World), Below w2.heap.size w2 W → W.rowIs w2.heap.size 25 2 (boxF (.slice (some ⟨gs, 0, none⟩) sn sd) (.slice ab n1 ad)) → Pip W v1.heap.size w2.heap.size gs sn sd ab n1 ad (pipeX xs) ((pipeE es).take n1)) := fun W hb hr =>
      ⟨HO.out.below hb, ((HR.out.below hb).less hn1a).congr (fun i hi => by simp [List.getD, List.getElem?_take, hi]), hr, hpl.out.1, by rw [List.length_take, hpl.out.2]; omega, hmI, hmA⟩
    clear hn1 k0 k1 hb2 hO hR hB2 hB1
    go_upto_if 31 with fail
    go_cut [9] (fun p wx => p = .pointer (some ⟨w2.heap.size, 0, none⟩) ∧ Pip wx v1.heap.size w2.heap.size gs sn sd ab n1 ad (pipeX xs) ((pipeE es).take n1) ∧ Below w2.heap.size w2 wx)
    case first =>
      by_cases h23 : 23 < an
      · obtain ⟨ga, rfl, hca, -⟩ := hga.out (by omega)
        have h23b : (23 : Int) < (an : Int) := by omega
        have hca2 : (23 : Int) ≤ (ad : Int) := by omega
        go_wp2_with fail
        go_meet
        case rel =>
          have e : n1 = 23 := by rw [HN1.out, if_pos h23]
          subst e
          exact ⟨rfl, pipn.out _ ((Below.refl _ _).alloc (Nat.le_refl _) _) (box_new _ _ _), (Below.refl _ _).alloc (Nat.le_refl _) _⟩
      · have h23b : decide ((23 : Int) < (an : Int)) = false := decide_eq_false (by omega)
        go_wp2_with fail
        all_goals first
          | (exfalso; omega)
          | (go_meet
             case rel =>
               have e : n1 = an := by rw [HN1.out, if_neg h23]
               subst e
               exact ⟨rfl, pipn.out _ ((Below.refl _ _).alloc (Nat.le_refl _) _) (box_new _ _ _), (Below.refl _ _).alloc (Nat.le_refl _) _⟩)
    case rest =>
    obtain ⟨rfl, hP, hbw⟩ := hcut
    obtain ⟨wm, hwm⟩ : ∃ wm, wm = wc := ⟨_, rfl⟩
    subst hwm
    have hBm : Below w.heap.size w wm := HB2.out.trans (hbw.mono HB2.out.size)
    obtain ⟨es1, hes1⟩ : ∃ es1, (pipeE es).take n1 = es1 := ⟨_, rfl⟩
    have hz0 : ∀ i, (pipeX xs).getD i 0 = 0 := pipeX_at xs
    have hP1 : pipeB es1 = true := by
      rw [← hes1]
      refine all_t (fun i hi => ?_)
      rw [List.length_take, hpl.out.2] at hi
      rw [show ((pipeE es).take n1).getD i zA = (pipeE es).getD i zA from by simp [List.getD, List.getElem?_take, show i < n1 by omega]]
      exact of_all HPP.out i (by rw [hpl.out.2]; omega)
    have hne1 : ∀ ys : List Int, 1 ≤ ys.length → ys.length ≤ 10 → (∀ i, ys.getD i 0 = 0) → sn ≤ ys.length → NetOK ys es1 := by
      intro ys h1 h2 h3 h4
      have ht := take_ok hnp n1
      rw [hes1] at ht
      refine ⟨h1, h2, ht.arcs, fun j _ => by rw [h3]; rfl, fun j hj => ?_⟩
      have h5 := arcB_out (ht.arc j hj)
      rw [hpl.out.1] at h5
      exact decide_eq_true ⟨h5.1, by omega, h5.2.2.1, by omega, h5.2.2.2.2⟩
    obtain ⟨mb, hmb⟩ : ∃ mb, w2.heap.size = mb := ⟨_, rfl⟩
    rw [hes1, hmb] at hP
    rw [hmb]
    have HP1 := hide hP1
    have HNE := hide hne1
    have hmbv : Hid (v1.heap.size ≤ mb) := by show v1.heap.size ≤ mb; rw [← hmb]; exact hv12
    have hwmv : v1.heap.size ≤ wm.heap.size := by have := hbw.size; omega
    generalize hyy : pipeX xs = ys at *
    have HPi := hide hP
    clear hyy hmb hbw hes1 HPP HPZ HO HR pipn hga HB2 HN1 hP1 hne1 hP hnp HX HE hn
    have m0 : wm.cell? ⟨mb, 0, none⟩ = some (.slice (some ⟨gs, 0, none⟩) sn sd) := HPi.out.rb.cell (i := 0) (by omega)
    have m1 : wm.cell? ⟨mb, 1, none⟩ = some (.slice ab n1 ad) := HPi.out.rb.cell (i := 1) (by omega)
    have f0 := HPi.out.rb.frozen 0
    have HZ0 := hide hz0
    clear hz0
    go_upto_if 39 with fail
    go_cut [9] (fun p wx => p = .pointer (some ⟨mb, 0, none⟩) ∧ ∃ gs' sn' sd' ys', Pip wx v1.heap.size mb gs' sn' sd' ab n1 ad ys' es1 ∧ Below w.heap.size w wx ∧ 2 ≤ sn' ∧ sn' ≤ 10 ∧ sn ≤ sn' ∧ (∀ i, ys'.getD i 0 = 0))
    case first =>
      by_cases hs2 : sn < 2
      · have hs2b : (sn : Int) < 2 := by omega
        have hown := HPi.out.ri.owns (by omega) HPi.out.mxI HPi.out.lenI (fun i _ => rfl)
        have hlen := HPi.out.lenI
        have HOW := hide hown
        clear hown
        go_wp2_with (at_builtin; refine wpList_push_int rfl (.tmp 41) (.tmp 42) rfl v1.heap.size (some ⟨gs, 0, none⟩) sd ys ?_ ?_ wm.heap.size 0 1 rfl ?_ (by omega) ?_ ?_)
        · show _ = Value.slice _ ys.length sd
          rw [hlen]
          rfl
        · rw [hlen]; exact HOW.out.alloc _
        · go_simp
        · simp; omega
        intro g' c' w3 hown hgr
        have hal := Joins.below_alloc1 wm (.cells #[.int .i64 0] 3)
        obtain ⟨Fs, hFs⟩ := HPi.out.ri.row (by omega)
        have hne := rowIs_ne HPi.out.rb hFs (by decide)
        have hlmb := HPi.out.rb.lt
        have hkeep : Hid (∀ b, b < wm.heap.size → b ≠ gs → w3.heap[b]? = wm.heap[b]?) := fun b hb hn => (hgr.block b (by simp; omega) (by simp [Value.ownBlock]; exact hn)).trans (hal.block b hb)
        have rb3 := HPi.out.rb.of_block (hkeep.out mb hlmb hne)
        have ra3 := HPi.out.ra.keep2 (w' := w3) (fun g F e hr => hkeep.out g hr.lt (rowIs_ne hr hFs (by decide)))
        obtain ⟨a3, c3, e3, hm3, hO3⟩ := own_row2 hown (by simp [hlen])
        cases e3
        have ri3 := hO3.rowI
        obtain ⟨F3, hF3⟩ := RowI.row ri3 (by omega)
        have hne3 := rowIs_ne hF3 rb3 (by decide)
        have hB3 : Below w.heap.size w w3 := hBm.trans ⟨hgr.os, hgr.tape, hgr.output, by have := hgr.size; simp at this; omega, fun b hb => hkeep.out b (by have := hBm.size; omega) (by have := hgs1; omega)⟩
        have q0 : w3.cell? ⟨mb, 0, none⟩ = some (.slice (some ⟨gs, 0, none⟩) sn sd) := rb3.cell (i := 0) (by omega)
        have fq0 := rb3.frozen 0
        have hmbw : w.heap.size ≤ mb := by
          have h1 := hv12
          have h2 := hmbv.out
          omega
        have hPf : Pip (w3.setCell ⟨mb, 0, none⟩ (.slice (some ⟨g', 0, none⟩) (sn + 1) c')) v1.heap.size mb g' (sn + 1) c' ab n1 ad (ys ++ [0]) es1 :=
          ⟨ri3.keep2 (fun g F e hr => Below.heap_setCell _ ⟨mb, 0, none⟩ _ _ (rowIs_ne hr rb3 (show (3 : TypeId) ≠ 25 from by decide))), ra3.keep2 (fun g F e hr => Below.heap_setCell _ ⟨mb, 0, none⟩ _ _ (rowIs_ne hr rb3 (show (32 : TypeId) ≠ 25 from by decide))), (rb3.set 0 _).congr (fun i hi => by unfold boxF; split <;> rfl), by simp [hlen], HPi.out.lenA, hm3, HPi.out.mxA⟩
        have HPf := hide hPf
        have HBf := hide (hB3.setCell (p := ⟨mb, 0, none⟩) hmbw (.slice (some ⟨g', 0, none⟩) (sn + 1) c'))
        have hz' : Hid (∀ i, (ys ++ [0]).getD i 0 = 0) := fun i => by
          rw [getD_snoc]
          split
          · exact HZ0.out i
          · split <;> rfl
        clear hown hgr hFs rb3 ra3 hO3 ri3 hF3 hPf hB3 HOW hal hkeep m0 m1 f0
        go_wp2_with fail
        go_meet
        case rel => exact ⟨rfl, g', sn + 1, c', ys ++ [0], HPf.out, HBf.out, by omega, by omega, by omega, hz'.out⟩
      · have hs2b : decide ((sn : Int) < 2) = false := decide_eq_false (by omega)
        have hs3 : ¬ ((sn : Int) < 2) := by omega
        go_wp2_with fail
        all_goals first
          | (exfalso; omega)
          | (go_meet
             case rel => exact ⟨rfl, gs, sn, sd, ys, HPi.out, hBm, by omega, h10, Nat.le_refl _, HZ0.out⟩)
    case rest =>
    obtain ⟨rfl, gs2, sn2, sd2, ys2, hP2, hB2, h2s, h2t, h2u, hz2⟩ := hcut
    have hlI := hP2.lenI
    have hlA := hP2.lenA
    have hnok := HNE.out ys2 (by omega) (by omega) hz2 (by omega)
    obtain ⟨hI2, hA2⟩ := hP2.net hnok
    have HI2 := hide hI2
    have HA2 := hide hA2
    have HP2 := hide hP2
    have HNK := hide hnok
    have HZ2 := hide hz2
    have n0c : wc.cell? ⟨mb, 0, none⟩ = some (.slice (some ⟨gs2, 0, none⟩) sn2 sd2) := hP2.rb.cell (i := 0) (by omega)
    have n1c : wc.cell? ⟨mb, 1, none⟩ = some (.slice ab n1 ad) := hP2.rb.cell (i := 1) (by omega)
    have hlm : mb < wc.heap.size := hP2.rb.lt
    clear hI2 hA2 hP2 hnok hz2 HNE HPi HZ0 m0 m1 f0
    obtain ⟨w3, hw3⟩ : ∃ w3, w3 = wc := ⟨_, rfl⟩
    subst hw3
    have cP : n0 (Calls Try.prog 12 #[.int .i64 fm, .int .i64 sn2] w3 fun e w' => e = .returned (.int .i64 (pickS fm sn2)) ∧ w' = w3) := pick_any fm sn2 w3 hfm.1 hfm.2 (by omega) (by omega)
    have cQ : n0 (Calls Try.prog 12 #[.int .i64 tm, .int .i64 ((sn2 : Int) - 1)] w3 fun e w' => e = .returned (.int .i64 (pickS tm ((sn2 : Int) - 1))) ∧ w' = w3) := pick_any tm ((sn2 : Int) - 1) w3 htm.1 htm.2 (by omega) (by omega)
    have hp1 := pickS_bd fm sn2 (by omega)
    have hp2 := pickS_bd tm ((sn2 : Int) - 1) (by omega)
    generalize pickS fm sn2 = s0 at *
    generalize pickS tm ((sn2 : Int) - 1) = t0 at *
    obtain ⟨s, rfl⟩ := nat_of hp1.1
    obtain ⟨q1, q2⟩ := hp2
    have hsl : s < sn2 := by omega
    go_wp2_with fail
    refine Calls.mono cP.out ?_
    rintro e v3 ⟨rfl, rfl⟩
    clear cP
    go_wp2_with fail
    refine Calls.mono cQ.out ?_
    rintro e v3 ⟨rfl, rfl⟩
    clear cQ
    go_upto_if 58 with fail
    go_cut [10, 11] (fun a b wx => a = .int .i64 s ∧ wx = v3 ∧ ∃ t : Nat, b = .int .i64 t ∧ t < sn2 ∧ s ≠ t)
    case first =>
      obtain ⟨t1, rfl⟩ := nat_of q1
      by_cases hst : (s : Int) ≤ (t1 : Int)
      · go_wp2_with fail
        go_meet
        case rel => exact ⟨rfl, rfl, t1 + 1, by go_num, by omega, by omega⟩
      · have hstb : decide ((s : Int) ≤ (t1 : Int)) = false := decide_eq_false hst
        go_wp2_with fail
        all_goals first
          | (exfalso; omega)
          | (go_meet
             case rel => exact ⟨rfl, rfl, t1, rfl, by omega, by omega⟩)
    case rest =>
    obtain ⟨rfl, rfl, t, rfl, htl, hst⟩ := hcut
    have hme : Hid (mostErr ys2 es1 (s : Int) (t : Int) = 0) := mostErr_fine HNK.out (decide_eq_true (by rw [hlI]; omega)) (all_t (fun i _ => decide_eq_true (HZ2.out i))) HP1.out
    clear q1 q2 hp1
    go_wp2_with fail
    refine (refCopy_any (some ⟨gs2, 0, none⟩) ab sn2 sd2 n1 ad ys2 es1 _ HI2.out HA2.out).mono ?_
    rintro e w4 ⟨sb2, sd3, ab2, ad2, rfl, hI, hA, -, -, hb4⟩
    clear n0c n1c
    go_wp2_with fail
    refine (hT sb2 ab2 sn2 sd3 n1 ad2 (s : Int) (t : Int) ys2 es1 _ hI hA (by omega) (by omega)).mono ?_
    rintro e w5 ⟨much, fv, cv, fl, cu, err, rfl, -, -, hans, hb5⟩
    obtain ⟨he0, -, -⟩ := most_ok_of hans hme.out
    subst he0
    have hmu : 0 ≤ much ∧ much ≤ 1440 := by
      rcases hans with ⟨h1, _⟩ | ⟨_, _, _, _, _, _, _, _, h9⟩
      · exact absurd hme.out h1
      · have := caps_bd HNK.out cu false es1.length (Nat.le_refl _)
        have := HNK.out.arcs
        omega
    have h23 : es1.length ≤ 23 := by omega
    have HRA : Hid (∀ a, okB ys2 (backE es1 s t) a = true → a.kind = 1 ∧ a.cost = -much) := fun a ha => returned_ans hans hme.out h23 ha
    have hb45 := hb4.trans (hb5.mono hb4.size)
    have hB5 : Below w.heap.size w w5 := hB2.trans (hb45.mono hB2.size)
    have hP5 := HP2.out.below hb45
    have l1 : w5.cell? ⟨mb, 1, none⟩ = some (.slice ab n1 ad) := hP5.rb.cell (i := 1) (by omega)
    have hown := hide (hP5.arcs_own.alloc (.cells #[.int .i64 (t : Int), .int .i64 (s : Int), .int .i64 0, .int .i64 (-1), .int .i64 (-1)] 32))
    have hbk : Hid (backE es1 s t = es1 ++ [⟨(t : Int), (s : Int), 0, -1, -1⟩]) := rfl
    have HP5 := hide hP5
    have hvz5 : v1.heap.size ≤ w5.heap.size := by have h1 := hb45.size; have h2 := hmbv.out; omega
    obtain ⟨mu1, mu2⟩ := hmu
    clear hI hA hans hb4 hb5 hb45 hP5 HP2
    go_wp2_with (at_builtin; refine wpList_push_arc rfl (.tmp 72) (.tmp 76) rfl v1.heap.size ab ad es1 n1 hlA rfl ?_ w5.heap.size ⟨(t : Int), (s : Int), 0, -1, -1⟩ 1 rfl ?_ (by omega) ?_ ?_)
    · exact hown.out
    · intro j hj
      match j, hj with
      | 0, _ => go_simp <;> rfl
      | 1, _ => go_simp <;> rfl
      | 2, _ => go_simp <;> rfl
      | 3, _ => go_simp <;> rfl
      | 4, _ => go_simp <;> rfl
    · simp; omega
    intro g' c' w6 hown6 hgr
    have hal := Joins.below_alloc1 w5 (.cells #[.int .i64 (t : Int), .int .i64 (s : Int), .int .i64 0, .int .i64 (-1), .int .i64 (-1)] 32)
    have hPa := HP5.out.below hal
    have hnb := own_ne_row hown.out hPa.rb (by decide)
    have rb6 := hPa.rb.of_block (hgr.block mb hPa.rb.lt (fun e => hnb e.symm))
    have ri6 := hPa.ri.keep2 (w' := w6) (fun g F e hr => hgr.block g hr.lt (fun e2 => own_ne_row hown.out hr (by decide) e2.symm))
    have hnb6 := own_ne_row hown6 rb6 (by decide)
    have p0 : w6.cell? ⟨mb, 0, none⟩ = some (.slice (some ⟨gs2, 0, none⟩) sn2 sd2) := rb6.cell (i := 0) (by omega)
    have p1 : w6.cell? ⟨mb, 1, none⟩ = some (.slice ab n1 ad) := rb6.cell (i := 1) (by omega)
    have pf1 := rb6.frozen 1
    have hB6 : Below w.heap.size w w6 := (hB5.alloc hB5.size _).grown hgr (by have := hB5.size; simp; omega) (fun b hb' => by have := hown.out.lt b hb'; omega)
    obtain ⟨w7, hw7⟩ : ∃ w7, w6.setCell ⟨mb, 1, none⟩ (.slice (some ⟨g', 0, none⟩) (n1 + 1) c') = w7 := ⟨_, rfl⟩
    have hg7 : w6.grownBy w7 (some mb) := by rw [← hw7]; exact grown_setC _ _ _ _
    have hown7 := hown6.kept hg7 (.inr hnb6)
    have ri7 := ri6.keep2 (w' := w7) (fun g F e hr => hg7.block g hr.lt (fun e2 => rowIs_ne hr rb6 (by decide) (by cases e2; rfl)))
    have hmbw : w.heap.size ≤ mb := by have h1 := hmbv.out; omega
    have hB7 : Below w.heap.size w w7 := by rw [← hw7]; exact hB6.setCell (p := ⟨mb, 1, none⟩) hmbw _
    have c0z : w7.cell? ⟨mb, 0, none⟩ = some (.slice (some ⟨gs2, 0, none⟩) sn2 sd2) := by rw [← hw7]; exact (rb6.set 1 _).cell (i := 0) (by omega)
    have c1z : w7.cell? ⟨mb, 1, none⟩ = some (.slice (some ⟨g', 0, none⟩) (n1 + 1) c') := by rw [← hw7]; exact (rb6.set 1 _).cell (i := 1) (by omega)
    have hbok := back_ok HNK.out h23 (s := s) (t := t) (by omega) (by omega)
    have hI7 := ri7.ints (l := ys2) hlI (fun i _ => rfl) (by omega) (fun i _ => by have := getD_bd HNK.out i; omega)
    have hA7 : Arcs w7 (some ⟨g', 0, none⟩) (n1 + 1) (backE es1 s t) := by
      have h := hown7
      rw [← hbk.out] at h
      obtain ⟨a', c'', e, hA', _⟩ := arcs_of_own h (by rw [backE_len]; omega) (by omega) (fun x hx j => by
        obtain ⟨i, hi, rfl⟩ := mem_of_getD zA _ x hx
        exact arc_wf (hbok.arc i hi) (by have := hbok.ten; omega) j)
      cases e
      exact hA'
    have cV : n0 (Calls Try.prog 15 #[.agg #[.slice (some ⟨gs2, 0, none⟩) sn2 sd2, .slice (some ⟨g', 0, none⟩) (n1 + 1) c']] w7 fun e w' => ∃ (a : A6) (v : Value), e = .returned (.tuple #[v, .bool true]) ∧ OwnA w' w7.heap.size v a ∧ okB ys2 (backE es1 s t) a = true ∧ Below w7.heap.size w7 w') :=
      solved_any hS (some ⟨gs2, 0, none⟩) (some ⟨g', 0, none⟩) sn2 sd2 (n1 + 1) c' ys2 (backE es1 s t) w7 hI7 hA7 hbok
    have HW7 := hide hw7
    have HB7 := hide hB7
    clear hown hgr hown6 hnb rb6 ri6 hnb6 hB6 hg7 hown7 ri7 hI7 hA7 hbok hPa hal hw7 HP5 l1 hB7 c0z c1z
    go_wp2_with fail
    rw [HW7.out]
    refine Calls.mono cV.out ?_
    rintro e w8 ⟨a, v8, rfl, hO8, hok, hb8⟩
    clear cV HW7 p0 p1 pf1
    obtain ⟨g1, g2⟩ := HRA.out a hok
    obtain ⟨fa, fc, pa, pc, ca2, cc2, ra2, rc2, rfl, -⟩ := hO8
    have hB8 : Below w.heap.size w w8 := HB7.out.trans (hb8.mono HB7.out.size)
    have HB9 := hide (hB8.alloc hB8.size (.cells #[.int .i64 a.kind, .int .i64 a.cost, .slice fa a.flow.length fc, .slice pa a.pots.length pc, .slice ca2 a.cut.length cc2, .slice ra2 a.circ.length rc2] 39))
    rw [g1, g2] at HB9 ⊢
    clear g1 g2 hok hb8 hB8 HRA
    go_wp2
    go_ret
    exact ⟨ret_b (by simp), HB9.out⟩
end Go.Proofs.Ytnbccoflcoaoaab
