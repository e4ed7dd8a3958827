import Derived.Test.YtnbccoflcoaoaaaGreatGAca
import Derived.Deep.OwnRows
namespace Go.Proofs.YtnbccoflcoaoaaaGreat
open Go.RowKit
set_option linter.unusedSimpArgs false
set_option linter.unusedVariables false

set_option maxHeartbeats 2000000 in
theorem gDrift_any (pa : Option Addr) (pn pc : Nat) (f t : Nat) (l c q : Int) (p : List Int) (w : World) (hp : Ints w pa pn p) (hf : f < pn) (ht : t < pn) (hq : -50 ≤ q ∧ q ≤ 50) (hpot : ∀ i, i < pn → -1000000 ≤ p.getD i 0 ∧ p.getD i 0 ≤ 1000000) :
    Calls Tryz.prog 110 #[.agg #[.int .i64 (f : Int), .int .i64 (t : Int), .int .i64 l, .int .i64 c, .int .i64 q], .slice pa pn pc] w fun e w' => e = .returned (.int .i64 (q + p.getD f 0 - p.getD t 0)) ∧ Below w.heap.size w w' := by
  have bf := hpot f hf
  have bt := hpot t ht
  obtain ⟨b2, off2, pf, rfl, hF, hb2, ef⟩ := hp.get hf
  obtain ⟨b3, off3, pt, e5, hT, hb3, et⟩ := hp.get ht
  obtain ⟨rfl, rfl⟩ : b2 = b3 ∧ off2 = off3 := by simpa using e5
  rw [hF] at bf
  rw [hT] at bt
  rw [hF, hT]
  clear hF hT e5 hp hpot
  obtain ⟨q1, q2⟩ := hq
  obtain ⟨f1, f2⟩ := bf
  obtain ⟨t1, t2⟩ := bt
  have hlt4 : (f : Int) < (pn : Int) := by omega
  have hlt5 : (t : Int) < (pn : Int) := by omega
  obtain ⟨wa, hwa⟩ : ∃ wa, w.alloc (.cells #[.int .i64 (f : Int), .int .i64 (t : Int), .int .i64 l, .int .i64 c, .int .i64 q] 67) = wa := ⟨_, rfl⟩
  have ef' : wa.cell? ⟨b2, off2 + f, none⟩ = some (.int .i64 pf) := by rw [← hwa]; exact (World.cell?_alloc_lt _ _ _ hb2).trans ef
  have et' : wa.cell? ⟨b2, off2 + t, none⟩ = some (.int .i64 pt) := by rw [← hwa]; exact (World.cell?_alloc_lt _ _ _ hb3).trans et
  have n0' : wa.cell? ⟨w.heap.size, 0, none⟩ = some (.int .i64 (f : Int)) := by rw [← hwa]; simp
  have n1 : wa.cell? ⟨w.heap.size, 1, none⟩ = some (.int .i64 (t : Int)) := by rw [← hwa]; simp
  have n4 : wa.cell? ⟨w.heap.size, 4, none⟩ = some (.int .i64 q) := by rw [← hwa]; simp
  have hba : Below w.heap.size w wa := by rw [← hwa]; exact (Below.refl _ _).alloc (Nat.le_refl _) _
  have HWA := hide hwa
  clear hwa ef et
  go_enter Tryz.func110, Tryz.ntmps110
  go_wp2_with fail
  rw [HWA.out]
  go_quiet (fail)
  go_wp2
  go_ret
  exact ⟨rfl, hba.trans (Joins.below_draws w.heap.size wa nq)⟩

set_option maxHeartbeats 2000000 in
theorem gHold_any (sa aa fa pa : Option Addr) (sn sc an ac fc pn pc : Nat) (xs : List Int) (es : List A5) (fl p : List Int) (w : World) (he : Arcs w aa an es) (hf : Ints w fa an fl) (hp : Ints w pa pn p) (hn : NetOK xs es) (hlen : xs.length = pn) (hpot : potB p = true) :
    Calls Tryz.prog 97 #[.agg #[.slice sa sn sc, .slice aa an ac], .slice pa pn pc, .slice fa an fc] w fun e w' => e = .returned (.bool (holdB es fl p)) ∧ Below w.heap.size w w' := by
  have hL : Hid (xs.length = pn ∧ es.length = an ∧ p.length = pn) := ⟨hlen, he.len, hp.len⟩
  have hN := hide hn
  have HP := hide hpot
  have h24 : an ≤ 24 := by rw [← he.len]; exact hn.arcs
  have h10 : pn ≤ 10 := by rw [← hlen]; exact hn.ten
  clear hn hpot hlen
  go_enter Tryz.func97, Tryz.ntmps97
  go_wp2
  go_loopw [13] (fun i wr => ∃ m : Nat, m ≤ an ∧ i = .int .i64 m ∧ Hid (∀ j, j < m → heldAt es fl p j = true) ∧ Below w.heap.size w wr) (fun i _ => an - (intOf i).toNat)
  case atStart => exact ⟨0, Nat.zero_le _, rfl, fun j hj => absurd hj (Nat.not_lt_zero j), (Below.refl _ _).alloc (Nat.le_refl _) _⟩
  case round =>
    obtain ⟨m, hm, rfl, hg, hbel⟩ := hrel
    by_cases hlt : m < an
    · have ba := arcB_out (hN.out.arc m (by rw [hL.out.2.1]; exact hlt))
      rw [hL.out.1] at ba
      obtain ⟨b, off, f, t, l, c, q, rfl, hA, hb, e0, e1, e2, e3, e4⟩ := (he.below hbel).get hlt
      rw [hA] at ba
      simp only [] at ba
      obtain ⟨f, rfl⟩ := nat_of ba.1
      obtain ⟨t, rfl⟩ := nat_of ba.2.2.1
      obtain ⟨-, ba1, -, ba2, -, -, -, ba3, ba4⟩ := ba
      obtain ⟨b', off', x, rfl, hX, hb', ex⟩ := (hf.below hbel).get hlt
      obtain ⟨b2, off2, pf, rfl, hF, hb2, ef⟩ := (hp.below hbel).get (show f < pn by omega)
      obtain ⟨b3, off3, pt, e5, hT, hb3, et⟩ := (hp.below hbel).get (show t < pn by omega)
      obtain ⟨rfl, rfl⟩ : b2 = b3 ∧ off2 = off3 := by simpa using e5
      have bf := pot_out HP.out (i := f) (by rw [hL.out.2.2]; omega)
      have bt := pot_out HP.out (i := t) (by rw [hL.out.2.2]; omega)
      rw [hF] at bf
      rw [hT] at bt
      have hlt4' : f < pn := by omega
      have hlt5' : t < pn := by omega
      have hlt3 : (m : Int) < (an : Int) := by omega
      have hlt4 : (f : Int) < (pn : Int) := by omega
      have hlt5 : (t : Int) < (pn : Int) := by omega
      have cD : n0 (∀ w0, Ints w0 (some ⟨b2, off2, none⟩) pn p → Calls Tryz.prog 110 #[.agg #[.int .i64 (f : Int), .int .i64 (t : Int), .int .i64 l, .int .i64 c, .int .i64 q], .slice (some ⟨b2, off2, none⟩) pn pc] w0 fun e w' => e = .returned (.int .i64 (q + pf - pt)) ∧ Below w0.heap.size w0 w') := by
        intro w0 h0
        have h1 := gDrift_any (some ⟨b2, off2, none⟩) pn pc f t l c q p w0 h0 hlt4' hlt5' ⟨ba3, ba4⟩ (fun i hi => pot_out HP.out (by rw [hL.out.2.2]; exact hi))
        rw [hF, hT] at h1
        exact h1
      have HH := hide (heldAt_eq hA hX hF hT)
      clear hA hX hF hT e5
      obtain ⟨wa, hwa⟩ : ∃ wa, wr.alloc (.cells #[.int .i64 (f : Int), .int .i64 (t : Int), .int .i64 l, .int .i64 c, .int .i64 q] 67) = wa := ⟨_, rfl⟩
      have hba : Below w.heap.size w wa := by rw [← hwa]; exact hbel.alloc hbel.size _
      have hpa := hp.below hba
      have HWA := hide hwa
      clear hwa
      go_wp2_with fail
      rw [HWA.out]
      refine (cD.out _ hpa).mono ?_
      rintro e wb ⟨rfl, hbd⟩
      have hszz : wa.heap.size = wr.heap.size + 1 := by rw [← HWA.out]; simp
      have kx0 : wb.cell? ⟨b', off' + m, none⟩ = some (.int .i64 x) := by rw [hbd.cell (p := ⟨b', off' + m, none⟩) (by show b' < wa.heap.size; omega), ← HWA.out]; exact (World.cell?_alloc_lt _ _ _ hb').trans ex
      have n0' : wb.cell? ⟨wr.heap.size, 0, none⟩ = some (.int .i64 (f : Int)) := by rw [hbd.cell (p := ⟨wr.heap.size, 0, none⟩) (by show wr.heap.size < wa.heap.size; omega), ← HWA.out]; simp
      have n1 : wb.cell? ⟨wr.heap.size, 1, none⟩ = some (.int .i64 (t : Int)) := by rw [hbd.cell (p := ⟨wr.heap.size, 1, none⟩) (by show wr.heap.size < wa.heap.size; omega), ← HWA.out]; simp
      have n2 : wb.cell? ⟨wr.heap.size, 2, none⟩ = some (.int .i64 l) := by rw [hbd.cell (p := ⟨wr.heap.size, 2, none⟩) (by show wr.heap.size < wa.heap.size; omega), ← HWA.out]; simp
      have n3 : wb.cell? ⟨wr.heap.size, 3, none⟩ = some (.int .i64 c) := by rw [hbd.cell (p := ⟨wr.heap.size, 3, none⟩) (by show wr.heap.size < wa.heap.size; omega), ← HWA.out]; simp
      have n4 : wb.cell? ⟨wr.heap.size, 4, none⟩ = some (.int .i64 q) := by rw [hbd.cell (p := ⟨wr.heap.size, 4, none⟩) (by show wr.heap.size < wa.heap.size; omega), ← HWA.out]; simp
      have hba' : Below w.heap.size w wb := hba.trans (hbd.mono hba.size)
      have kx := cell_regrown (w := wb) (a := ⟨b', off' + m, none⟩) (v := .int .i64 x) kx0
      have l0 := cell_regrown (w := wb) (a := ⟨wr.heap.size, 0, none⟩) (v := .int .i64 (f : Int)) n0'
      have l1 := cell_regrown (w := wb) (a := ⟨wr.heap.size, 1, none⟩) (v := .int .i64 (t : Int)) n1
      have l2 := cell_regrown (w := wb) (a := ⟨wr.heap.size, 2, none⟩) (v := .int .i64 l) n2
      have l3 := cell_regrown (w := wb) (a := ⟨wr.heap.size, 3, none⟩) (v := .int .i64 c) n3
      have l4 := cell_regrown (w := wb) (a := ⟨wr.heap.size, 4, none⟩) (v := .int .i64 q) n4
      clear n0' n1 n2 n3 n4 bf bt ba3 ba4 hba hbd HWA hpa cD kx0 e0 e1 e2 e3 e4 ex ef et hbel
      go_wp2_with fail
      generalize q + pf - pt = d at *
      obtain ⟨B, hB⟩ : ∃ B, heldB ⟨f, t, l, c, q⟩ d x = B := ⟨_, rfl⟩
      have cQ : ∀ d' os, Calls Tryz.prog 111 #[.agg #[.int .i64 (f : Int), .int .i64 (t : Int), .int .i64 l, .int .i64 c, .int .i64 q], .int .i64 d, .int .i64 x] (Sort.grow (redrawn wb d') os) fun e w'' => e = .returned (.bool B) ∧ ∃ p : Regrown, w'' = Sort.grow (redrawn wb p.d) p.os := fun d' os => Calls.regrown_of (by rw [← hB]; exact gHeld_any f t l c q d x _)
      have HB := hide hB
      clear hB
      refine wp_region_quiet_below (by kernel_rfl) (by kernel_rfl) ?_
      repeat (quiet_step (first | exact cQ _ _))
      refine wpQuiet_nil ?_
      intro _ hw'
      obtain ⟨⟨dq, osq⟩, hw''⟩ := hw'
      subst hw''
      have hbr := below_regrown wb dq osq
      generalize Sort.grow (redrawn wb dq) osq = w2 at *
      clear kx l0 l1 l2 l3 l4 cQ
      have hb2 : Below w.heap.size w w2 := hba'.trans (hbr.mono hba'.size)
      clear hbr
      cases B with
      | true =>
        go_wp2
        go_roundw
        case rel =>
          refine ⟨m + 1, by omega, by go_num, ?_, hb2⟩
          intro j hj
          by_cases hjk : j = m
          · subst hjk; rw [HH.out]; exact HB.out
          · exact hg.out j (by omega)
        case measure => simp [intOf]; omega
      | false =>
        go_wp2
        go_ret
        exact ⟨ret_b (all_f (k := m) (by rw [hL.out.2.1]; exact hlt) (by rw [HH.out]; exact HB.out)).symm, hb2⟩
    · have hkn : m = an := by omega
      subst hkn
      go_wp2
      go_ret
      exact ⟨ret_b (all_t (by rw [hL.out.2.1]; exact hg.out)).symm, hbel⟩

end Go.Proofs.YtnbccoflcoaoaaaGreat

namespace Go.Proofs.YtnbccoflcoaoaaaGreat
open Go.RowKit Go.Deep
set_option linter.unusedSimpArgs false
set_option linter.unusedVariables false

theorem infoBool : (Tryz.prog.info? 4).map (fun i => (i.zero, i.size, i.bytes)) = some (some (.bool false), 1, 1) := by kernel_rfl

theorem inB_take_succ {l : List Int} {k : Nat} (hk : k < l.length) (v : Int) : inB (l.take (k + 1)) v = (inB (l.take k) v || (l.getD k 0 == v)) := by
  unfold inB
  rw [List.take_succ_eq_append_getElem hk, List.any_append]
  simp [List.getD, hk]

set_option maxHeartbeats 1000000 in
theorem gMembersOf_any (ca : Option Addr) (cn cc m : Nat) (cut : List Int) (w : World) (hc : Ints w ca cn cut) (hr : risB cut m = true) (hm : m ≤ 10) :
    Calls Tryz.prog 112 #[.int .i64 m, .slice ca cn cc] w fun e w' => e = .returned (.slice (some ⟨w.heap.size, 0, none⟩) m m) ∧ w'.rowIs w.heap.size 4 m (fun i => .bool (inB cut i)) ∧ Below w.heap.size w w' := by
  have hL : Hid (cut.length = cn) := hc.len
  have hR := hide hr
  have hsm := hc.small
  have hmk := run_make_row' (P := Tryz.prog) 113 4 (.bool false) 1 Tryz.underlying113 infoBool rfl .i64 .i64 m (by omega) (by omega)
  clear hr
  go_enter Tryz.func112, Tryz.ntmps112
  go_wp2
  go_loopw [12] (fun i wr => ∃ k : Nat, k ≤ cn ∧ i = .int .i64 k ∧ Hid (wr.rowIs w.heap.size 4 m (fun i => .bool (inB (cut.take k) i))) ∧ Below w.heap.size w wr) (fun i _ => cn - (intOf i).toNat)
  case atStart => exact ⟨0, Nat.zero_le _, rfl, World.rowIs_made _ _ _ _, (Below.refl _ _).alloc (Nat.le_refl _) _⟩
  case round =>
    clear hmk
    obtain ⟨k, hk, rfl, hrow, hbel⟩ := hrel
    by_cases hlt : k < cn
    · have hri := ris_out hR.out (i := k) (by rw [hL.out]; exact hlt)
      obtain ⟨b, off, x, rfl, hX, hb, ex⟩ := (hc.below hbel).get hlt
      rw [hX] at hri
      obtain ⟨v, rfl⟩ := nat_of hri.1
      have hvm : v < m := by omega
      have cv := hrow.out.cell hvm
      have fv := hrow.out.frozen v
      have HX := hide hX
      clear hX hri
      have hlt3 : (k : Int) < (cn : Int) := by omega
      have hlt4 : (v : Int) < (m : Int) := by omega
      go_wp2
      refine ⟨⟨k + 1, by omega, by go_num, ?_, hbel.setCell (Nat.le_refl _) _⟩, by simp [intOf]; omega⟩
      refine (hrow.out.set v (.bool true)).congr ?_
      intro i hi
      rw [inB_take_succ (by rw [hL.out]; exact hlt), HX.out]
      by_cases hiv : i = v
      · subst hiv; simp
      · simp [hiv]; omega
    · have hkn : k = cn := by omega
      subst hkn
      go_wp2
      go_ret
      refine ⟨rfl, hrow.out.congr ?_, hbel⟩
      intro i hi
      rw [List.take_of_length_le (by rw [hL.out]; exact Nat.le_refl _)]

set_option maxHeartbeats 1000000 in
theorem gNeedOf_any (sa aa ca : Option Addr) (sn sc an ac cn cc : Nat) (xs : List Int) (es : List A5) (cut : List Int) (w : World) (hx : Ints w sa sn xs) (hc : Ints w ca cn cut) (hn : NetOK xs es) (hr : risB cut xs.length = true) :
    Calls Tryz.prog 113 #[.agg #[.slice sa sn sc, .slice aa an ac], .slice ca cn cc] w fun e w' => e = .returned (.int .i64 (needTo xs cut cut.length)) ∧ Below w.heap.size w w' := by
  have hL : Hid (xs.length = sn ∧ cut.length = cn) := ⟨hx.len, hc.len⟩
  have hN := hide hn
  have hR := hide hr
  have hsm := hc.small
  have h10 : sn ≤ 10 := by rw [← hx.len]; exact hn.ten
  clear hn hr
  go_enter Tryz.func113, Tryz.ntmps113
  go_wp2
  go_loop [5, 10] (fun v i => ∃ k : Nat, k ≤ cn ∧ i = .int .i64 k ∧ v = .int .i64 (needTo xs cut k)) (fun _ i => cn - (intOf i).toNat)
  case atStart => exact ⟨0, Nat.zero_le _, rfl, rfl⟩
  case round =>
    obtain ⟨k, hk, rfl, rfl⟩ := hrel
    have bd := need_bd hN.out cut k
    by_cases hlt : k < cn
    · have hri := ris_out hR.out (i := k) (by rw [hL.out.2]; exact hlt)
      rw [hL.out.1] at hri
      obtain ⟨b, off, x, rfl, hX, hb, ex⟩ := hc.get hlt
      rw [hX] at hri
      obtain ⟨v, rfl⟩ := nat_of hri.1
      have hvs : v < sn := by omega
      obtain ⟨b', off', y, rfl, hY, hb', ey⟩ := hx.get hvs
      have by1 := getD_bd hN.out v
      rw [hY] at by1
      have HS := hide (need_step hX hY)
      clear hX hY hri
      generalize needTo xs cut k = nd at *
      have hlt3 : (k : Int) < (cn : Int) := by omega
      have hlt4 : (v : Int) < (sn : Int) := by omega
      go_wp2
      exact ⟨⟨k + 1, by omega, by go_num, val_i HS.out.symm⟩, by simp [intOf]; omega⟩
    · have hkn : k = cn := by omega
      subst hkn
      go_wp2
      go_ret
      exact ⟨ret_i (by rw [hL.out.2]), (Below.refl _ _).alloc (Nat.le_refl _) _⟩

set_option maxHeartbeats 1000000 in
theorem gWidened_any (lo ca : Int) (op : Bool) (f t l c q : Int) (w : World) (h1 : 0 ≤ lo) (h2 : lo ≤ 100000) (h3 : 0 ≤ ca) (h4 : ca ≤ 100000) (h5 : 0 ≤ l) (h6 : l ≤ 60) (h7 : c = -1 ∨ (0 ≤ c ∧ c ≤ 60)) :
    Calls Tryz.prog 117 #[.agg #[.int .i64 lo, .int .i64 ca, .bool op], .agg #[.int .i64 f, .int .i64 t, .int .i64 l, .int .i64 c, .int .i64 q]] w fun e w' =>
      e = .returned (.agg #[.int .i64 (lo + l), .int .i64 (if c = -1 then ca else ca + c), .bool (op || (c == -1))]) ∧ Below w.heap.size w w' := by
  by_cases hc : c = -1
  · subst hc
    clear h7
    go_enter Tryz.func117, Tryz.ntmps117
    go_wp2
    exact bodyPost_ret (v := .agg #[.int .i64 (lo + l), .int .i64 ca, .bool true]) (by simp [results, Tryz.results117, go_sem]) rfl ⟨by simp, (((Joins.below_alloc3 _ _ _ _).alloc (by simp; omega) _))⟩
  · have hcc : (c == -1) = false := by simpa using hc
    have h8 : 0 ≤ c := by omega
    have h9 : c ≤ 60 := by omega
    have HC := hide hc
    clear h7 hc
    go_enter Tryz.func117, Tryz.ntmps117
    go_wp2
    exact bodyPost_ret (v := .agg #[.int .i64 (lo + l), .int .i64 (ca + c), .bool op]) (by simp [results, Tryz.results117, go_sem]) rfl ⟨by simp [HC.out, hcc], (((Joins.below_alloc3 _ _ _ _).alloc (by simp; omega) _))⟩

/-- The three cells of a sum over what crosses. -/
def crossRow (lo ca : Int) (op : Bool) : Nat → Value
  | 0 => .int .i64 lo
  | 1 => .int .i64 ca
  | _ => .bool op
theorem crossRow_alloc (w : World) (lo ca : Int) (op : Bool) (t : TypeId) : (w.alloc (.cells #[.int .i64 lo, .int .i64 ca, .bool op] t)).rowIs w.heap.size t 3 (crossRow lo ca op) := by
  have := World.rowIs_alloc w #[.int .i64 lo, .int .i64 ca, .bool op] t (crossRow lo ca op) (fun i hi => by
    match i, hi with
    | 0, _ => rfl
    | 1, _ => rfl
    | 2, _ => rfl)
  simpa using this
theorem crossRow_set {w : World} {g : Nat} {t : TypeId} {f : Nat → Value} (h : w.rowIs g t 3 f) (lo ca : Int) (op : Bool) : (((w.setCell ⟨g, 0, none⟩ (.int .i64 lo)).setCell ⟨g, 1, none⟩ (.int .i64 ca)).setCell ⟨g, 2, none⟩ (.bool op)).rowIs g t 3 (crossRow lo ca op) := by
  refine (((h.set 0 (.int .i64 lo)).set 1 (.int .i64 ca)).set 2 (.bool op)).congr ?_
  intro i hi
  match i, hi with
  | 0, _ => rfl
  | 1, _ => rfl
  | 2, _ => rfl

theorem blockBelow {B : Nat} {w w' : World} (h : Below B w w') {g : Nat} (hg : g < B) {t : TypeId} {n : Nat} {f : Nat → Value} (hr : w.rowIs g t n f) : w'.rowIs g t n f := hr.of_block (h.block g hg)

set_option maxHeartbeats 2000000 in
theorem gCrossingOf_any (sa aa : Option Addr) (g sn sc an ac : Nat) (xs : List Int) (es : List A5) (cut : List Int) (outward : Bool) (w : World) (he : Arcs w aa an es) (hrow : w.rowIs g 4 sn (fun i => .bool (inB cut i))) (hn : NetOK xs es) (hsn : xs.length = sn) :
    Calls Tryz.prog 114 #[.agg #[.slice sa sn sc, .slice aa an ac], .slice (some ⟨g, 0, none⟩) sn sn, .bool outward] w fun e w' =>
      e = .returned (.agg #[.int .i64 (lowsTo es cut (!outward) es.length), .int .i64 (capsTo es cut (!outward) es.length), .bool (openTo es cut (!outward) es.length)]) ∧ Below w.heap.size w w' := by
  have hL : Hid (xs.length = sn ∧ es.length = an) := ⟨hsn, he.len⟩
  have hN := hide hn
  have HR := hide hrow
  have hgw : g < w.heap.size := hrow.lt
  have h24 : an ≤ 24 := by rw [← he.len]; exact hn.arcs
  have h10 : sn ≤ 10 := by rw [← hsn]; exact hn.ten
  clear hn hrow hsn
  obtain ⟨back, hback⟩ : ∃ b, (!outward) = b := ⟨_, rfl⟩
  rw [hback]
  have HBK := hide hback
  clear hback
  go_enter Tryz.func114, Tryz.ntmps114
  go_wp2
  go_loopw [14] (fun i wr => ∃ k : Nat, k ≤ an ∧ i = .int .i64 k ∧ Hid (wr.rowIs (w.heap.size + 1 + 1) 139 3 (crossRow (lowsTo es cut back k) (capsTo es cut back k) (openTo es cut back k))) ∧ Hid (wr.rowIs (w.heap.size + 1) 139 3 (crossRow 0 0 false)) ∧ Below w.heap.size w wr) (fun i _ => an - (intOf i).toNat)
  case atStart =>
    refine ⟨0, Nat.zero_le _, rfl, ?_, ?_, Joins.below_alloc3 _ _ _ _⟩
    · have := crossRow_alloc ((w.alloc (.cells #[.slice sa sn sc, .slice aa an ac] 48)).alloc (.cells #[.int .i64 0, .int .i64 0, .bool false] 139)) 0 0 false 139
      simp at this
      exact this
    · have := (crossRow_alloc (w.alloc (.cells #[.slice sa sn sc, .slice aa an ac] 48)) 0 0 false 139).alloc (.cells #[.int .i64 0, .int .i64 0, .bool false] 139)
      simp at this
      exact this
  case round =>
    obtain ⟨k, hk, rfl, hS, hZ, hbel⟩ := hrel
    have hsS := hS.out.lt
    have cS0 := hS.out.cell (i := 0) (by omega)
    have cS1 := hS.out.cell (i := 1) (by omega)
    have cS2 := hS.out.cell (i := 2) (by omega)
    have fS0 := hS.out.frozen 0
    have fS1 := hS.out.frozen 1
    have fS2 := hS.out.frozen 2
    simp only [crossRow] at cS0 cS1 cS2
    by_cases hlt : k < an
    · have bl := lows_bd hN.out cut back k (by rw [hL.out.2]; exact hk)
      have bc := caps_bd hN.out cut back k (by rw [hL.out.2]; exact hk)
      have ba := arcB_out (hN.out.arc k (by rw [hL.out.2]; exact hlt))
      rw [hL.out.1] at ba
      obtain ⟨b, off, f, t, l, c, q, rfl, hA, hb, e0, e1, e2, e3, e4⟩ := (he.below hbel).get hlt
      rw [hA] at ba
      simp only [] at ba
      obtain ⟨f, rfl⟩ := nat_of ba.1
      obtain ⟨t, rfl⟩ := nat_of ba.2.2.1
      obtain ⟨-, ba1, -, ba2, ba5, ba6, ba7, ba3, ba4⟩ := ba
      have hrow := blockBelow hbel hgw HR.out
      have cF := hrow.cell (i := f) (by omega)
      have cT := hrow.cell (i := t) (by omega)
      have hgr : g < wr.heap.size := hrow.lt
      obtain ⟨B, hB⟩ : ∃ B, crossB cut back ⟨f, t, l, c, q⟩ = B := ⟨_, rfl⟩
      have HS := hide (lows_step hA hB)
      unfold crossB at hB
      clear hA hrow
      generalize lowsTo es cut back k = LO at *
      generalize capsTo es cut back k = CA at *
      generalize openTo es cut back k = OP at *
      generalize inB cut f = F at *
      generalize inB cut t = T at *
      have hlt3 : (k : Int) < (an : Int) := by omega
      have hlt4 : (f : Int) < (sn : Int) := by omega
      have hlt5 : (t : Int) < (sn : Int) := by omega
      by_cases hcr : F = outward ∧ T = !outward
      · obtain ⟨rfl, rfl⟩ := hcr
        have hBt : B = true := by rw [← hB, ← HBK.out]; cases F <;> simp
        subst hBt
        clear hB
        have fin : Hid (lowsTo es cut back (k + 1) = LO + l ∧ capsTo es cut back (k + 1) = (if c = -1 then CA else CA + c) ∧ openTo es cut back (k + 1) = (OP || (c == -1))) := by
          obtain ⟨g1, g2, g3⟩ := HS.out
          refine ⟨by rw [g1]; simp, ?_, by rw [g3]; simp⟩
          rw [g2]; by_cases hc : c = -1 <;> simp [hc]
        clear HS
        have go2 : ∀ w2 : World, Below wr.heap.size wr w2 → Hid (w2.rowIs (w.heap.size + 1 + 1) 139 3 (crossRow LO CA OP) ∧ w2.rowIs (w.heap.size + 1) 139 3 (crossRow 0 0 false) ∧ Below w.heap.size w w2) := fun w2 h2 => ⟨blockBelow h2 hsS hS.out, blockBelow h2 hZ.out.lt hZ.out, hbel.trans (h2.mono hbel.size)⟩
        cases F
        all_goals
          go_wp2_with fail
          refine (gWidened_any LO CA OP f t l c q _ bl.1 (by omega) bc.1 (by omega) ba5 ba6 (by omega)).mono ?_
          rintro e w2 ⟨rfl, hb2⟩
          obtain ⟨r1, r2, r3⟩ := (go2 w2 (((Below.refl _ _).alloc (Nat.le_refl _) _).trans (hb2.mono (by simp)))).out
          have R1 := hide r1
          have R2 := hide r2
          have cS0' := r1.cell (i := 0) (by omega)
          have cS1' := r1.cell (i := 1) (by omega)
          have cS2' := r1.cell (i := 2) (by omega)
          have fS0' := r1.frozen 0
          have fS1' := r1.frozen 1
          have fS2' := r1.frozen 2
          have ls2 := r1.lt
          simp only [crossRow] at cS0' cS1' cS2'
          obtain ⟨ca2, hca2⟩ : ∃ v, (if c = -1 then CA else CA + c) = v := ⟨_, rfl⟩
          obtain ⟨op2, hop2⟩ : ∃ v, (OP || (c == -1)) = v := ⟨_, rfl⟩
          rw [hca2, hop2]
          have HC2 := hide hca2
          have HO2 := hide hop2
          clear r1 r2 hb2 cS0 cS1 cS2 fS0 fS1 fS2 e0 e1 e2 e3 e4 cF cT hca2 hop2 go2
          go_wp2
          refine ⟨⟨k + 1, by omega, by go_num, ?_, ?_, ?_⟩, by simp [intOf]; omega⟩
          · obtain ⟨g1, g2, g3⟩ := fin.out
            rw [g1, g2, g3, HC2.out, HO2.out]
            exact crossRow_set R1.out _ _ _
          · exact ((R2.out.setOther (by show w.heap.size + 1 ≠ w.heap.size + 1 + 1; omega) _).setOther (by show w.heap.size + 1 ≠ w.heap.size + 1 + 1; omega) _).setOther (by show w.heap.size + 1 ≠ w.heap.size + 1 + 1; omega) _
          · exact ((r3.setCell (by show w.heap.size ≤ w.heap.size + 1 + 1; omega) _).setCell (by show w.heap.size ≤ w.heap.size + 1 + 1; omega) _).setCell (by show w.heap.size ≤ w.heap.size + 1 + 1; omega) _
      · have hBf : B = false := by
          rw [← hB, ← HBK.out]
          revert hcr
          cases outward <;> cases F <;> cases T <;> simp
        subst hBf
        clear hB
        have fin : Hid (lowsTo es cut back (k + 1) = LO ∧ capsTo es cut back (k + 1) = CA ∧ openTo es cut back (k + 1) = OP) := by
          obtain ⟨g1, g2, g3⟩ := HS.out
          exact ⟨by rw [g1]; simp, by rw [g2]; simp, by rw [g3]; simp⟩
        clear HS
        have HCR := hide hcr
        clear hcr
        cases outward <;> cases F <;> cases T <;> first | exact absurd ⟨rfl, rfl⟩ HCR.out | skip
        all_goals
          go_wp2
          refine ⟨⟨k + 1, by omega, by go_num, ?_, hZ.out.alloc _, hbel.alloc hbel.size _⟩, by simp [intOf]; omega⟩
          obtain ⟨g1, g2, g3⟩ := fin.out
          rw [g1, g2, g3]
          exact hS.out.alloc _
    · have hkn : k = an := by omega
      subst hkn
      have cZ0 := hZ.out.cell (i := 0) (by omega)
      have cZ1 := hZ.out.cell (i := 1) (by omega)
      have cZ2 := hZ.out.cell (i := 2) (by omega)
      have fZ0 := hZ.out.frozen 0
      have fZ1 := hZ.out.frozen 1
      have fZ2 := hZ.out.frozen 2
      simp only [crossRow] at cZ0 cZ1 cZ2
      have lz := hZ.out.lt
      go_wp2
      have R := crossRow_set hZ.out (lowsTo es cut back k) (capsTo es cut back k) (openTo es cut back k)
      have q0 := R.cell (i := 0) (by omega)
      have q1 := R.cell (i := 1) (by omega)
      have q2 := R.cell (i := 2) (by omega)
      simp only [crossRow] at q0 q1 q2
      refine bodyPost_ret (v := .agg #[.int .i64 (lowsTo es cut back k), .int .i64 (capsTo es cut back k), .bool (openTo es cut back k)]) (by simp [results, Tryz.results114, go_sem, q0, q1, q2]) rfl ⟨by rw [hL.out.2], ?_⟩
      exact ((hbel.setCell (by show w.heap.size ≤ w.heap.size + 1; omega) _).setCell (by show w.heap.size ≤ w.heap.size + 1; omega) _).setCell (by show w.heap.size ≤ w.heap.size + 1; omega) _

set_option maxHeartbeats 2000000 in
theorem gViolated_any (sa aa ca : Option Addr) (sn sc an ac cn cc : Nat) (xs : List Int) (es : List A5) (cut : List Int) (w : World) (hx : Ints w sa sn xs) (he : Arcs w aa an es) (hc : Ints w ca cn cut) (hn : NetOK xs es) (hr : risB cut xs.length = true) :
    Calls Tryz.prog 99 #[.agg #[.slice sa sn sc, .slice aa an ac], .slice ca cn cc] w fun e w' => e = .returned (.bool (violB xs es cut)) ∧ Below w.heap.size w w' := by
  have hL : Hid (xs.length = sn) := hx.len
  have hN := hide hn
  have hR := hide hr
  have h10 : sn ≤ 10 := by rw [← hx.len]; exact hn.ten
  have h24 : es.length ≤ 24 := hn.arcs
  have hb0 : Below w.heap.size w (w.alloc (.cells #[.slice sa sn sc, .slice aa an ac] 48)) := (Below.refl _ _).alloc (Nat.le_refl _) _
  clear hn hr
  go_enter Tryz.func99, Tryz.ntmps99
  go_wp2_with fail
  refine (gMembersOf_any ca cn cc sn cut _ (hc.below hb0) (by rw [← hL.out]; exact hR.out) h10).mono ?_
  rintro e w1 ⟨rfl, hrow, hb1⟩
  have k0 : w1.cell? ⟨w.heap.size, 0, none⟩ = some (.slice sa sn sc) := (hb1.cell (by simp)).trans (by go_simp)
  have k1 : w1.cell? ⟨w.heap.size, 1, none⟩ = some (.slice aa an ac) := (hb1.cell (by simp)).trans (by go_simp)
  have hz1 : w.heap.size < w1.heap.size := by have := hb1.size; simp at this; omega
  have hB1 : Below w.heap.size w w1 := hb0.trans (hb1.mono (by simp))
  have hrow1 : Hid (w1.rowIs (w.heap.size + 1) 4 sn (fun i => .bool (inB cut i))) := by simpa using hide hrow
  clear hb1 hb0 hrow
  go_wp2_with fail
  refine (gNeedOf_any sa aa ca sn sc an ac cn cc xs es cut _ (hx.below hB1) (hc.below hB1) hN.out hR.out).mono ?_
  rintro e w2 ⟨rfl, hb2⟩
  have l0 := (hb2.cell (p := ⟨w.heap.size, 0, none⟩) hz1).trans k0
  have l1 := (hb2.cell (p := ⟨w.heap.size, 1, none⟩) hz1).trans k1
  have hB2 : Below w.heap.size w w2 := hB1.trans (hb2.mono (by omega))
  have hrow2 : Hid (w2.rowIs (w.heap.size + 1) 4 sn (fun i => .bool (inB cut i))) := blockBelow hb2 hrow1.out.lt hrow1.out
  have hz2 : w.heap.size + 1 < w2.heap.size := hrow2.out.lt
  clear hb2 k0 k1 hrow1 hz1 hB1
  go_wp2_with fail
  refine (gCrossingOf_any sa aa (w.heap.size + 1) sn sc an ac xs es cut true _ (he.below hB2) hrow2.out hN.out hL.out).mono ?_
  rintro e w3 ⟨rfl, hb3⟩
  have m0 := (hb3.cell (p := ⟨w.heap.size, 0, none⟩) (show w.heap.size < w2.heap.size by omega)).trans l0
  have m1 := (hb3.cell (p := ⟨w.heap.size, 1, none⟩) (show w.heap.size < w2.heap.size by omega)).trans l1
  have hB3 : Below w.heap.size w w3 := hB2.trans (hb3.mono (by omega))
  have hrow3 : Hid (w3.rowIs (w.heap.size + 1) 4 sn (fun i => .bool (inB cut i))) := blockBelow hb3 hrow2.out.lt hrow2.out
  have hz3 : w.heap.size + 1 < w3.heap.size := hrow3.out.lt
  have hz3' : w.heap.size < w3.heap.size := by omega
  clear hb3 l0 l1 hrow2 hz2 hB2
  simp only [Bool.not_true]
  go_wp2_with fail
  refine (gCrossingOf_any sa aa (w.heap.size + 1) sn sc an ac xs es cut false _ (he.below (hB3.alloc hB3.size _)) (hrow3.out.alloc _) hN.out hL.out).mono ?_
  rintro e w4 ⟨rfl, hb4⟩
  simp only [Bool.not_false]
  have hB4 : Below w.heap.size w w4 := (hB3.alloc hB3.size _).trans (hb4.mono (by simp; omega))
  have x0 : w4.cell? ⟨w3.heap.size, 0, none⟩ = some (.int .i64 (lowsTo es cut false es.length)) := (hb4.cell (by simp)).trans (by go_simp)
  have x1 : w4.cell? ⟨w3.heap.size, 1, none⟩ = some (.int .i64 (capsTo es cut false es.length)) := (hb4.cell (by simp)).trans (by go_simp)
  have x2 : w4.cell? ⟨w3.heap.size, 2, none⟩ = some (.bool (openTo es cut false es.length)) := (hb4.cell (by simp)).trans (by go_simp)
  have hz4 : w3.heap.size < w4.heap.size := by have := hb4.size; simp at this; omega
  have b1 := lows_bd hN.out cut false es.length (Nat.le_refl _)
  have b2 := lows_bd hN.out cut true es.length (Nat.le_refl _)
  have b3 := caps_bd hN.out cut false es.length (Nat.le_refl _)
  have b4 := caps_bd hN.out cut true es.length (Nat.le_refl _)
  have HV := hide (violV_eq xs es cut)
  clear hx he hc hN hR hL m0 m1 hrow3 hb4 hB3
  generalize needTo xs cut cut.length = nd at *
  generalize lowsTo es cut false es.length = lo at *
  generalize lowsTo es cut true es.length = li at *
  generalize capsTo es cut false es.length = cap at *
  generalize capsTo es cut true es.length = ci at *
  generalize openTo es cut false es.length = oo at *
  generalize openTo es cut true es.length = oi at *
  cases oo <;> cases oi <;> go_wp2
  all_goals
    go_ret
    refine ⟨ret_b ?_, hB4.alloc hB4.size _⟩
    rw [HV.out]
    simp [violV, *] <;> omega
end Go.Proofs.YtnbccoflcoaoaaaGreat

namespace Go.Proofs.YtnbccoflcoaoaaaGreat
open Go.RowKit Go.Deep
set_option linter.unusedSimpArgs false
set_option linter.unusedVariables false

theorem onceAt_eq {m : Nat} {l : List Int} {k : Nat} {x : Int} (hX : l.getD k 0 = x) : onceAt m l k = (decide (0 ≤ x ∧ x < m) && !inB (l.take k) x) := by
  simp only [onceAt, hX]

set_option maxHeartbeats 1000000 in
theorem gNamesArcsOnce_any (ca : Option Addr) (cn cc m : Nat) (l : List Int) (w : World) (hc : Ints w ca cn l) (hm : m ≤ 24) :
    Calls Tryz.prog 115 #[.int .i64 m, .slice ca cn cc] w fun e w' => e = .returned (.bool (onceB m l)) ∧ Below w.heap.size w w' := by
  have hL : Hid (l.length = cn) := hc.len
  have hsm := hc.small
  have hmk := run_make_row' (P := Tryz.prog) 113 4 (.bool false) 1 Tryz.underlying113 infoBool rfl .i64 .i64 m (by omega) (by omega)
  go_enter Tryz.func115, Tryz.ntmps115
  go_wp2
  go_loopw [12] (fun i wr => ∃ k : Nat, k ≤ cn ∧ i = .int .i64 k ∧ Hid (wr.rowIs w.heap.size 4 m (fun i => .bool (inB (l.take k) i))) ∧ Hid (∀ j, j < k → onceAt m l j = true) ∧ Below w.heap.size w wr) (fun i _ => cn - (intOf i).toNat)
  case atStart => exact ⟨0, Nat.zero_le _, rfl, World.rowIs_made _ _ _ _, fun j hj => absurd hj (Nat.not_lt_zero j), (Below.refl _ _).alloc (Nat.le_refl _) _⟩
  case round =>
    clear hmk
    obtain ⟨k, hk, rfl, hrow, hg, hbel⟩ := hrel
    by_cases hlt : k < cn
    · obtain ⟨b, off, x, rfl, hX, hb, ex⟩ := (hc.below hbel).get hlt
      have hO := onceAt_eq (m := m) hX
      have HX := hide hX
      have bad : (decide (0 ≤ x ∧ x < (m : Int)) && !inB (l.take k) x) = false → Hid (onceB m l = false) := fun h => all_f (k := k) (by rw [hL.out]; exact hlt) (by rw [hO]; exact h)
      have good : (decide (0 ≤ x ∧ x < (m : Int)) && !inB (l.take k) x) = true → Hid (∀ j, j < k + 1 → onceAt m l j = true) := by
        intro h j hj
        by_cases hjk : j = k
        · subst hjk; rw [hO]; exact h
        · exact hg.out j (by omega)
      clear hX hO
      have hlt3 : (k : Int) < (cn : Int) := by omega
      by_cases hr : 0 ≤ x ∧ x < (m : Int)
      · obtain ⟨h1, h2⟩ := hr
        obtain ⟨v, rfl⟩ := nat_of h1
        have hvm : v < m := by omega
        have cv := hrow.out.cell hvm
        have fv := hrow.out.frozen v
        cases hin : inB (l.take k) (v : Int) with
        | true =>
          rw [hin] at cv bad
          have HB := bad (by simp)
          clear bad good
          go_wp2
          all_goals first
            | (go_ret
               exact ⟨ret_b HB.out.symm, hbel⟩)
            | (exfalso; omega)
        | false =>
          rw [hin] at cv good
          have HG := good (by simp; omega)
          clear bad good hin
          go_wp2
          refine ⟨⟨k + 1, by omega, by go_num, ?_, HG.out, hbel.setCell (Nat.le_refl _) _⟩, by simp [intOf]; omega⟩
          refine (hrow.out.set v (.bool true)).congr ?_
          intro i hi
          rw [inB_take_succ (by rw [hL.out]; exact hlt), HX.out]
          by_cases hiv : i = v
          · subst hiv; simp
          · simp [hiv]; omega
      · have HB := bad (by rw [decide_eq_false hr]; rfl)
        clear bad good
        go_wp2
        all_goals first
          | (go_ret
             exact ⟨ret_b HB.out.symm, hbel⟩)
          | (exfalso; omega)
    · have hkn : k = cn := by omega
      subst hkn
      go_wp2
      go_ret
      exact ⟨ret_b (all_t (by rw [hL.out]; exact hg.out)).symm, hbel⟩

theorem once_out {m : Nat} {l : List Int} (h : onceB m l = true) {i : Nat} (hi : i < l.length) : 0 ≤ l.getD i 0 ∧ l.getD i 0 < m := by
  have := of_all h i hi
  simp only [onceAt, Bool.and_eq_true, decide_eq_true_eq] at this
  exact this.1

/-- The place ahead, round. -/
def prv (n i : Nat) : Nat := if i = 0 then n - 1 else i - 1
def prevAt (es : List A5) (l : List Int) (i : Nat) : Bool := (arcOf es l i).fr == (arcOf es l (prv l.length i)).to
def prevB (es : List A5) (l : List Int) : Bool := (List.range l.length).all (prevAt es l)
theorem next_prev (es : List A5) (l : List Int) : nextB es l = prevB es l := by
  have h1 : nextB es l = true → prevB es l = true := by
    intro h
    refine all_t (fun i hi => ?_)
    have := of_all h (prv l.length i) (by unfold prv; split <;> omega)
    simp only [nextAt] at this
    rw [show (prv l.length i + 1) % l.length = i from by
      unfold prv
      split
      · rename_i h0; subst h0; rw [show l.length - 1 + 1 = l.length from by omega]; exact Nat.mod_self _
      · rw [show i - 1 + 1 = i from by omega]; exact Nat.mod_eq_of_lt hi] at this
    simp only [prevAt]
    simp at this ⊢
    exact this.symm
  have h2 : prevB es l = true → nextB es l = true := by
    intro h
    refine all_t (fun i hi => ?_)
    have := of_all h ((i + 1) % l.length) (Nat.mod_lt _ (by omega))
    simp only [prevAt] at this
    rw [show prv l.length ((i + 1) % l.length) = i from by
      by_cases h0 : i + 1 = l.length
      · rw [h0, Nat.mod_self]; unfold prv; simp; omega
      · rw [Nat.mod_eq_of_lt (by omega)]; unfold prv; simp] at this
    simp only [nextAt]
    simp at this ⊢
    exact this.symm
  cases h3 : nextB es l <;> cases h4 : prevB es l <;> simp_all

/-- An arc by the number that a list names. -/
theorem arcOf_get {es : List A5} {l : List Int} {k v : Nat} (h : l.getD k 0 = (v : Int)) : arcOf es l k = es.getD v zA := by
  unfold arcOf; rw [h]; rfl

set_option maxHeartbeats 1000000 in
theorem gGood_any (sa aa ca : Option Addr) (sn sc an ac cn cc : Nat) (xs : List Int) (es : List A5) (l : List Int) (w : World) (he : Arcs w aa an es) (hc : Ints w ca cn l) (hn : NetOK xs es) (ho : onceB es.length l = true) :
    Calls Tryz.prog 101 #[.agg #[.slice sa sn sc, .slice aa an ac], .slice ca cn cc] w fun e w' => e = .returned (.bool (unlB es l && decide (circTo es l l.length < 0))) ∧ Below w.heap.size w w' := by
  have hL : Hid (es.length = an ∧ l.length = cn) := ⟨he.len, hc.len⟩
  have hN := hide hn
  have hO := hide ho
  have hsm := hc.small
  have h24 : an ≤ 24 := by rw [← he.len]; exact hn.arcs
  clear hn ho
  go_enter Tryz.func101, Tryz.ntmps101
  go_wp2
  go_loopw [5, 11] (fun s i wr => ∃ k : Nat, k ≤ cn ∧ i = .int .i64 k ∧ s = .int .i64 (circTo es l k) ∧ Hid (∀ j, j < k → unlAt es l j = true) ∧ wr.cell? ⟨w.heap.size, 1, none⟩ = some (.slice aa an ac) ∧ Below w.heap.size w wr ∧ w.heap.size < wr.heap.size) (fun _ i _ => cn - (intOf i).toNat)
  case atStart => exact ⟨0, Nat.zero_le _, rfl, rfl, fun j hj => absurd hj (Nat.not_lt_zero j), by simp, (Below.refl _ _).alloc (Nat.le_refl _) _, by simp⟩
  case round =>
    obtain ⟨k, hk, rfl, rfl, hg, c1, hbel, hsize⟩ := hrel
    have bd := circ_bd hN.out l k
    by_cases hlt : k < cn
    · have hri := once_out hO.out (i := k) (by rw [hL.out.2]; exact hlt)
      rw [hL.out.1] at hri
      obtain ⟨b, off, x, rfl, hX, hb, ex⟩ := (hc.below hbel).get hlt
      rw [hX] at hri
      obtain ⟨v, rfl⟩ := nat_of hri.1
      have hvs : v < an := by omega
      have hq := cost_bd1 hN.out v
      obtain ⟨b', off', f, t, lo, c, q, rfl, hA, hb', e0, e1, e2, e3, e4⟩ := (he.below hbel).get hvs
      rw [hA] at hq
      simp only [] at hq
      have hAr := (arcOf_get (es := es) hX).trans hA
      have HS : Hid (circTo es l (k + 1) = circTo es l k + q) := by show circTo es l (k + 1) = _; simp only [circTo, hAr]
      have HU : Hid (unlAt es l k = (c == -1)) := by show unlAt es l k = _; simp only [unlAt, hAr]
      clear hX hA hAr hri
      generalize circTo es l k = S at *
      have hlt3 : (k : Int) < (cn : Int) := by omega
      have hlt4 : (v : Int) < (an : Int) := by omega
      go_wp2_with fail
      refine (gUnlimited_any f t lo c q _).mono ?_
      rintro e w1 ⟨rfl, hb1⟩
      have c1' := (hb1.cell (p := ⟨w.heap.size, 1, none⟩) (by simp; omega)).trans ((World.cell?_alloc_lt _ _ _ hsize).trans c1)
      have hB1 : Below w.heap.size w w1 := (hbel.alloc hbel.size _).trans (hb1.mono (by simp; omega))
      have hs1 : w.heap.size < w1.heap.size := by have := hb1.size; simp at this; omega
      have n4 : w1.cell? ⟨wr.heap.size, 4, none⟩ = some (.int .i64 q) := (hb1.cell (by simp)).trans (by simp)
      clear hb1 c1 e0 e1 e2 e3 e4 ex
      cases hcc : (c == -1) with
      | true =>
        go_wp2
        refine ⟨⟨k + 1, by omega, by go_num, val_i HS.out.symm, ?_, c1', hB1, hs1⟩, by simp [intOf]; omega⟩
        intro j hj
        by_cases hjk : j = k
        · subst hjk; rw [HU.out]; exact hcc
        · exact hg.out j (by omega)
      | false =>
        have HF : Hid (unlB es l = false) := all_f (k := k) (by rw [hL.out.2]; exact hlt) (by rw [HU.out]; exact hcc)
        go_wp2
        go_ret
        exact ⟨ret_b (by rw [HF.out]; rfl), hB1⟩
    · have hkn : k = cn := by omega
      subst hkn
      have HT : Hid (unlB es l = true) := all_t (by rw [hL.out.2]; exact hg.out)
      go_wp2
      go_ret
      exact ⟨ret_b (by rw [HT.out, hL.out.2]; rfl), hbel⟩
end Go.Proofs.YtnbccoflcoaoaaaGreat

namespace Go.Proofs.YtnbccoflcoaoaaaGreat
open Go.RowKit Go.Deep
set_option linter.unusedSimpArgs false
set_option linter.unusedVariables false

set_option maxHeartbeats 2000000 in
theorem gIsCircle_any (sa aa ca : Option Addr) (sn sc an ac cn cc : Nat) (xs : List Int) (es : List A5) (l : List Int) (w : World) (he : Arcs w aa an es) (hc : Ints w ca cn l) (hn : NetOK xs es) :
    Calls Tryz.prog 100 #[.agg #[.slice sa sn sc, .slice aa an ac], .slice ca cn cc] w fun e w' => e = .returned (.bool (decide (0 < l.length) && onceB es.length l && prevB es l)) ∧ Below w.heap.size w w' := by
  have hL : Hid (es.length = an ∧ l.length = cn) := ⟨he.len, hc.len⟩
  have hN := hide hn
  have hsm := hc.small
  have h24 : an ≤ 24 := by rw [← he.len]; exact hn.arcs
  have hb0 : Below w.heap.size w (w.alloc (.cells #[.slice sa sn sc, .slice aa an ac] 48)) := (Below.refl _ _).alloc (Nat.le_refl _) _
  clear hn
  by_cases hz : cn = 0
  · subst hz
    have h0 : Hid (decide (0 < l.length) = false) := decide_eq_false (by rw [hL.out.2]; omega)
    go_enter Tryz.func100, Tryz.ntmps100
    go_wp2
    go_ret
    exact ⟨ret_b (by rw [h0.out]; rfl), hb0⟩
  · have h0 : Hid (decide (0 < l.length) = true) := decide_eq_true (by rw [hL.out.2]; omega)
    have hz0 : ((cn : Int) == 0) = false := by simp; omega
    go_enter Tryz.func100, Tryz.ntmps100
    go_wp2_with fail
    refine (gNamesArcsOnce_any ca cn cc an l _ (hc.below hb0) h24).mono ?_
    rintro e w1 ⟨rfl, hb1⟩
    have k1 : w1.cell? ⟨w.heap.size, 1, none⟩ = some (.slice aa an ac) := (hb1.cell (by simp)).trans (by go_simp)
    have hz1 : w.heap.size < w1.heap.size := by have := hb1.size; simp at this; omega
    have hB1 : Below w.heap.size w w1 := hb0.trans (hb1.mono (by simp))
    clear hb1 hb0
    cases hO : onceB an l with
    | false =>
      have HO : Hid (onceB es.length l = false) := by show onceB es.length l = false; rw [hL.out.1]; exact hO
      clear hO
      go_wp2
      go_ret
      exact ⟨ret_b (by rw [HO.out]; simp), hB1⟩
    | true =>
      have HO : Hid (onceB es.length l = true) := by show onceB es.length l = true; rw [hL.out.1]; exact hO
      clear hO
      have hri := once_out HO.out (i := cn - 1) (by rw [hL.out.2]; omega)
      rw [hL.out.1] at hri
      obtain ⟨b, off, x, rfl, hX, hb, ex⟩ := (hc.below hB1).get (k := cn - 1) (by omega)
      rw [hX] at hri
      obtain ⟨v, rfl⟩ := nat_of hri.1
      have hvs : v < an := by omega
      obtain ⟨b', off', f, t, lo, c, q, rfl, hA, hb', e0, e1, e2, e3, e4⟩ := (he.below hB1).get hvs
      have HL : Hid ((arcOf es l (cn - 1)).to = t) := by show (arcOf es l (cn - 1)).to = t; rw [(arcOf_get (es := es) hX).trans hA]
      obtain ⟨cm, rfl⟩ : ∃ cm, cn = cm + 1 := ⟨cn - 1, by omega⟩
      rw [show cm + 1 - 1 = cm from by omega] at ex HL
      clear hX hA hri hz
      have hlt4 : (v : Int) < (an : Int) := by omega
      go_wp2
      go_region
      go_wp2
      have c1 : ((w1.alloc (.cells #[.int .i64 f, .int .i64 t, .int .i64 lo, .int .i64 c, .int .i64 q] 67)).drew).cell? ⟨w.heap.size, 1, none⟩ = some (.slice (some ⟨b', off', none⟩) an ac) := by
        simpa using (World.cell?_alloc_lt _ _ _ hz1).trans k1
      have hB2 : Below w.heap.size w ((w1.alloc (.cells #[.int .i64 f, .int .i64 t, .int .i64 lo, .int .i64 c, .int .i64 q] 67)).drew) := (hB1.alloc hB1.size _).drew
      have hz2 : w.heap.size < ((w1.alloc (.cells #[.int .i64 f, .int .i64 t, .int .i64 lo, .int .i64 c, .int .i64 q] 67)).drew).heap.size := by simp; omega
      clear e0 e1 e2 e3 e4 ex k1 hB1 hz1
      generalize (w1.alloc (.cells #[.int .i64 f, .int .i64 t, .int .i64 lo, .int .i64 c, .int .i64 q] 67)).drew = w3 at *
      go_loopw [6, 35] (fun a i wr => ∃ (k : Nat) (at' : Int), k ≤ cm + 1 ∧ i = .int .i64 k ∧ a = .int .i64 at' ∧ Hid ((arcOf es l (prv (cm + 1) k)).to = at') ∧ Hid (∀ j, j < k → prevAt es l j = true) ∧ wr.cell? ⟨w.heap.size, 1, none⟩ = some (.slice (some ⟨b', off', none⟩) an ac) ∧ Below w.heap.size w wr ∧ w.heap.size < wr.heap.size) (fun _ i _ => cm + 1 - (intOf i).toNat)
      case atStart => exact ⟨0, t, Nat.zero_le _, rfl, rfl, by simpa [prv] using HL, fun j hj => absurd hj (Nat.not_lt_zero j), c1, hB2, hz2⟩
      case round =>
        clear c1 hB2 hz2 HL
        obtain ⟨k, at', hk, rfl, rfl, hat, hg, c1, hbel, hsize⟩ := hrel
        by_cases hlt : k < cm + 1
        · have hri := once_out HO.out (i := k) (by rw [hL.out.2]; exact hlt)
          rw [hL.out.1] at hri
          obtain ⟨b2, off2, y, e5, hY, hb2, ey⟩ := (hc.below hbel).get hlt
          obtain ⟨rfl, rfl⟩ : b = b2 ∧ off = off2 := by simpa using e5
          rw [hY] at hri
          obtain ⟨u, rfl⟩ := nat_of hri.1
          have hus : u < an := by omega
          obtain ⟨b3, off3, f2, t2, lo2, c2, q2, e6, hA, hb3, g0, g1, g2, g3, g4⟩ := (he.below hbel).get hus
          obtain ⟨rfl, rfl⟩ : b' = b3 ∧ off' = off3 := by simpa using e6
          have hAr := (arcOf_get (es := es) hY).trans hA
          have HP : Hid (prevAt es l k = (f2 == at')) := by
            show prevAt es l k = (f2 == at')
            simp only [prevAt, hAr, hL.out.2, hat.out]
          have HT : Hid ((arcOf es l (prv (cm + 1) (k + 1))).to = t2) := by
            show (arcOf es l (prv (cm + 1) (k + 1))).to = t2
            simp only [prv, Nat.add_one_ne_zero, if_false, Nat.add_sub_cancel, hAr]
          clear e5 e6 hY hA hAr hri
          have hlt3 : (k : Int) < (cm : Int) + 1 := by omega
          have hlt5 : (u : Int) < (an : Int) := by omega
          cases hd : (f2 != at') with
          | true =>
            have HF : Hid (prevB es l = false) := all_f (k := k) (by rw [hL.out.2]; exact hlt) (by rw [HP.out]; simpa using hd)
            go_wp2
            go_ret
            exact ⟨ret_b (by rw [HF.out]; simp), hbel.alloc hbel.size _⟩
          | false =>
            go_wp2
            refine ⟨⟨k + 1, t2, by omega, by go_num, rfl, HT.out, ?_, (World.cell?_alloc_lt _ _ _ hsize).trans c1, hbel.alloc hbel.size _, by simp; omega⟩, by simp [intOf]; omega⟩
            intro j hj
            by_cases hjk : j = k
            · subst hjk; rw [HP.out]; simpa using hd
            · exact hg.out j (by omega)
        · have hkn : k = cm + 1 := by omega
          subst hkn
          have HT : Hid (prevB es l = true) := all_t (by rw [hL.out.2]; exact hg.out)
          go_wp2
          go_ret
          exact ⟨ret_b (by rw [h0.out, HO.out, HT.out]; rfl), hbel⟩
end Go.Proofs.YtnbccoflcoaoaaaGreat
