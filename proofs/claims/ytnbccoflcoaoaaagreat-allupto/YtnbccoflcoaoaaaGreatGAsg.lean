import Derived.Test.YtnbccoflcoaoaaaGreatGTab
import Derived.Test.YtnbccoflcoaoaaaGreatGAcc
import Derived.Test.YtnbccoflcoaoaaaGreatGAca
namespace Go.Proofs.YtnbccoflcoaoaaaGreat
open Go.RowKit Go.Deep
set_option linter.unusedSimpArgs false
set_option linter.unusedVariables false

theorem colCost_bd {t : List (List Int)} {l : List Int} (ht : tabB t = true) (hc : colsB t l = true) (k : Nat) (hk : k ≤ t.length) : -(50 * (k : Int)) ≤ colCost t l k ∧ colCost t l k ≤ 50 * (k : Int) := by
  obtain ⟨t1, t2, t3, t4⟩ := tab_out ht
  unfold colsB at hc
  simp only [Bool.and_eq_true, decide_eq_true_eq] at hc
  unfold colCost
  induction k with
  | zero => simp [sumTo]
  | succ k ih =>
    have h1 := ih (by omega)
    have h2 := of_all hc.2 k (by omega)
    simp only [colAt, Bool.and_eq_true, decide_eq_true_eq] at h2
    have h3 := t4 k (l.getD k 0).toNat (by omega) (by omega)
    simp only [sumTo]
    omega

set_option maxHeartbeats 2000000 in
theorem refColumns_ok (ta ca : Option Addr) (tn tc cc : Nat) (t : List (List Int)) (l : List Int) (w : World) (ht : Tab w ta tn t) (hl : Ints w ca l.length l) (hle : l.length ≤ cc) (hT : tabB t = true) (hC : colsB t l = true) :
    Calls Tryz.prog 45 #[.slice ta tn tc, .slice ca l.length cc] w fun e w' => e = .returned (.tuple #[.int .i64 (colCost t l l.length), .bool true]) ∧ Below w.heap.size w w' := by
  have hlen := ht.len
  obtain ⟨t1, t2, t3, t4⟩ := tab_out hT
  have hC2 := hC
  unfold colsB at hC2
  simp only [Bool.and_eq_true, decide_eq_true_eq] at hC2
  obtain ⟨hcl, hcol⟩ := hC2
  have hln : l.length = tn := by omega
  have HCB := hide (fun k hk => colCost_bd hT hC k hk)
  have HT := hide ht
  have HL := hide hl
  have H3 := hide t3
  have H4 := hide t4
  have HCOL := hide (fun k hk => of_all hcol k hk)
  have HLEN := hide hlen
  rw [hln] at hl hle HCOL
  rw [hln]
  have HL2 := hide hl
  clear ht hl t3 t4 hcol hC hT hlen HL hcl hln
  rw [HLEN.out] at t1 t2 H3 H4 HCB
  go_enter Tryz.func45, Tryz.ntmps45
  go_wp2
  go_loopw [6, 7, 8] (fun c i tw wr => ∃ k : Nat, k ≤ tn ∧ i = .int .i64 k ∧ c = .int .i64 (colCost t l k) ∧ Below w.heap.size w wr) (fun _ i _ _ => tn - (intOf i).toNat)
  case atStart => exact ⟨0, Nat.zero_le _, rfl, rfl, Below.refl _ _⟩
  case round =>
    obtain ⟨k, hk, rfl, rfl, hb⟩ := hrel
    by_cases hlt : k < tn
    · have hlt3 : (k : Int) < (tn : Int) := by omega
      have hlt6 : (k : Int) ≤ (cc : Int) := by omega
      have hco := HCOL.out k hlt
      simp only [colAt, Bool.and_eq_true, decide_eq_true_eq, Bool.not_eq_true'] at hco
      obtain ⟨⟨hc1, hc2⟩, hc3⟩ := hco
      obtain ⟨b, off, x, rfl, hX, hbb, ex⟩ := (HL2.out.below hb).get hlt
      rw [hX] at hc1 hc2 hc3
      obtain ⟨v, rfl⟩ := nat_of hc1.1
      rw [Int.toNat_natCast] at hc3
      have hvn : v < tn := by have := HLEN.out; omega
      have hv2 : (v : Int) < (tn : Int) := by omega
      obtain ⟨b2, off2, ra, rn, rc, rfl, hrn, hb2, cr, hI⟩ := (HT.out.below hb).get hlt
      have hrn2 : rn = tn := by rw [← hrn]; exact H3.out k hlt
      subst hrn2
      obtain ⟨b3, off3, y, rfl, hY, hb3, ey⟩ := hI.get hvn
      have hye : tAt t k v = y := hY
      rw [hye] at hc3
      have hnx : Hid (colCost t l (k + 1) = colCost t l k + y) := by
        show colCost t l (k + 1) = _
        unfold colCost
        simp only [sumTo, hX, Int.toNat_natCast, hye]
      have hcb := HCB.out k hk
      have h4 := H4.out k v hlt hvn
      rw [hye] at h4
      have hT : Hid (Ints wr (some ⟨b, off, none⟩) k (l.take k)) := (HL2.out.below hb).take hk
      have cI : n0 (∀ (c' n' : Nat), Calls Tryz.prog 60 #[.slice (some ⟨b, off, none⟩) k c', .int .i64 (v : Int)] (wr.drewN n') fun e w' => e = .returned (.bool false) ∧ w' = wr.drewN n') := fun c' n' => by rw [← hc2]; exact refIn_any (some ⟨b, off, none⟩) k c' v (l.take k) _ (hT.out.below (Joins.below_draws _ _ _))
      generalize hg : colCost t l k = cs at *
      clear hX hY hye hg hc1 hc2 hI hrn
      obtain ⟨cb1, cb2⟩ := hcb
      have hcb1 : -400 ≤ cs := by omega
      have hcb2 : cs ≤ 400 := by omega
      have hy1 : -1 ≤ y := by omega
      have hy2 : y ≤ 50 := by omega
      have hyb : (y == -1) = false := by simpa using hc3
      clear h4 hc3 cb1 cb2
      go_wp2
      go_quiet ((go_at_call 60; exact Calls.quiet_of_same (cI.out _ _)))
      go_wp2
      have hB1 : Below w.heap.size w (wr.drewN nq) := hb.trans (Joins.below_draws _ _ _)
      have ex' : (wr.drewN nq).cell? ⟨b, off + k, none⟩ = some (.int .i64 (v : Int)) := by simpa using ex
      have cr' : (wr.drewN nq).cell? ⟨b2, off2 + k, none⟩ = some (.slice (some ⟨b3, off3, none⟩) rn rc) := by simpa using cr
      have ey' : (wr.drewN nq).cell? ⟨b3, off3 + v, none⟩ = some (.int .i64 y) := by simpa using ey
      clear ex cr ey hb hT cI
      generalize wr.drewN nq = wb at *
      go_quiet (fail)
      go_wp2
      have hB2 : Below w.heap.size w (wb.drewN nq) := hB1.trans (Joins.below_draws _ _ _)
      have ex2 : (wb.drewN nq).cell? ⟨b, off + k, none⟩ = some (.int .i64 (v : Int)) := by simpa using ex'
      have cr2 : (wb.drewN nq).cell? ⟨b2, off2 + k, none⟩ = some (.slice (some ⟨b3, off3, none⟩) rn rc) := by simpa using cr'
      have ey2 : (wb.drewN nq).cell? ⟨b3, off3 + v, none⟩ = some (.int .i64 y) := by simpa using ey'
      clear ex' cr' ey' hB1
      generalize wb.drewN nq = wd at *
      go_quiet (fail)
      go_wp2
      go_roundw
      case rel => exact ⟨k + 1, by omega, by go_num, by rw [hnx.out], hB2.trans (Joins.below_draws _ _ _)⟩
      case measure => simp [intOf]; omega
    · have hkn : k = tn := by omega
      subst hkn
      go_wp2
      go_ret2
      exact ⟨rfl, hb⟩

set_option maxHeartbeats 1000000 in
theorem refModest_ok (a : Option Addr) (c n : Nat) (l : List Int) (w : World) (hl : Ints w a l.length l) (hm : modB l n = true) :
    Calls Tryz.prog 67 #[.slice a l.length c, .int .i64 n] w fun e w' => e = .returned (.bool true) ∧ w' = w := by
  unfold modB at hm
  simp only [Bool.and_eq_true, decide_eq_true_eq] at hm
  obtain ⟨h1, h2⟩ := hm
  have HL := hide hl
  have hsm := hl.small
  have H1 := hide (fun k hk => of_decide_eq_true (of_all h1 k hk))
  clear hl h1
  go_enter Tryz.func67, Tryz.ntmps67
  go_wp2
  go_loop [5] (fun i => ∃ k : Nat, k ≤ l.length ∧ i = .int .i64 k) (fun i => l.length - (intOf i).toNat)
  case atStart => exact ⟨0, Nat.zero_le _, rfl⟩
  case round =>
    obtain ⟨k, hk, rfl⟩ := hrel
    by_cases hlt : k < l.length
    · have hlt3 : (k : Int) < (l.length : Int) := by omega
      obtain ⟨b, off, x, rfl, hX, hbb, ex⟩ := HL.out.get hlt
      have hx := H1.out k hlt
      rw [hX] at hx
      obtain ⟨x1, x2⟩ := hx
      clear hX
      go_wp2
      exact ⟨⟨k + 1, by omega, by go_num⟩, by simp [intOf]; omega⟩
    · have hkn : k = l.length := by omega
      subst hkn
      have HN := hide h2
      clear h2
      go_wp2
      go_ret
      exact ⟨ret_b (by rw [HN.out]; simp), rfl⟩
end Go.Proofs.YtnbccoflcoaoaaaGreat

namespace Go.Proofs.YtnbccoflcoaoaaaGreat
open Go.RowKit Go.Deep
set_option linter.unusedSimpArgs false
set_option linter.unusedVariables false

/-- The box of a plan. -/
def planBox (p : P6) (ca : Option Addr) (cc : Nat) (ra : Option Addr) (rc : Nat) (wa : Option Addr) (wc : Nat) (sa : Option Addr) (sc : Nat) : Obj :=
  .cells #[.bool p.fits, .slice ca p.cols.length cc, .int .i64 p.cost, .slice ra p.rw.length rc, .slice wa p.cw.length wc, .slice sa p.short.length sc] 59

set_option maxRecDepth 100000 in
set_option maxHeartbeats 4000000 in
theorem refWorths_ok (ta ca ra wa sa : Option Addr) (tn tc cc rc wc sc : Nat) (t : List (List Int)) (p : P6) (w : World) (ht : Tab w ta tn t) (hp : Pla w ca ra wa sa p) (hT : tabB t = true) (hC : p.cols.length = t.length) (hW : worB t p = true) :
    Calls Tryz.prog 46 #[.slice ta tn tc, .agg #[.bool p.fits, .slice ca p.cols.length cc, .int .i64 p.cost, .slice ra p.rw.length rc, .slice wa p.cw.length wc, .slice sa p.short.length sc]] w fun e w' => e = .returned (.bool true) ∧ Below w.heap.size w w' := by
  have hlen := ht.len
  obtain ⟨t1, t2, t3, t4⟩ := tab_out hT
  unfold worB at hW
  simp only [Bool.and_eq_true] at hW
  obtain ⟨⟨hm1, hm2⟩, hw⟩ := hW
  have hm1' := hm1
  have hm2' := hm2
  simp only [modB, Bool.and_eq_true, decide_eq_true_eq] at hm1' hm2'
  obtain ⟨hb1, hl1⟩ := hm1'
  obtain ⟨hb2, hl2⟩ := hm2'
  have HT := hide ht
  have H3 := hide t3
  have H4 := hide t4
  have l1 : p.rw.length = tn := by omega
  have l2 : p.cw.length = tn := by omega
  have l3 : p.cols.length = tn := by omega
  have HB1 := hide (fun k hk => of_decide_eq_true (of_all hb1 k hk))
  have HB2 := hide (fun k hk => of_decide_eq_true (of_all hb2 k hk))
  have HW := hide (fun i j hi hj => of_decide_eq_true (of_all (of_all hw i hi) j hj))
  have HLEN := hide hlen
  obtain ⟨W0, hW0⟩ : ∃ W0, w.alloc (planBox p ca cc ra rc wa wc sa sc) = W0 := ⟨_, rfl⟩
  have hb0 : Below w.heap.size w W0 := by rw [← hW0]; exact Joins.below_alloc1 _ _
  have hz0 : w.heap.size < W0.heap.size := by rw [← hW0]; simp
  have q1 : W0.cell? ⟨w.heap.size, 1, none⟩ = some (.slice ca p.cols.length cc) := by rw [← hW0]; simp [planBox]
  have q3 : W0.cell? ⟨w.heap.size, 3, none⟩ = some (.slice ra p.rw.length rc) := by rw [← hW0]; simp [planBox]
  have q4 : W0.cell? ⟨w.heap.size, 4, none⟩ = some (.slice wa p.cw.length wc) := by rw [← hW0]; simp [planBox]
  have cM1 : n0 (Calls Tryz.prog 67 #[.slice ra p.rw.length rc, .int .i64 tn] W0 fun e w' => e = .returned (.bool true) ∧ w' = W0) := refModest_ok ra rc tn p.rw W0 (hp.rl.below hb0) (by rw [← hlen]; exact hm1)
  have cM2 : n0 (Calls Tryz.prog 67 #[.slice wa p.cw.length wc, .int .i64 tn] W0 fun e w' => e = .returned (.bool true) ∧ w' = W0) := refModest_ok wa wc tn p.cw W0 (hp.wl.below hb0) (by rw [← hlen]; exact hm2)
  have hrl := hp.rl
  have hwl := hp.wl
  have hcl := hp.cl
  unfold planBox at hW0
  rw [l1] at hrl q3 cM1 hW0 HB1
  rw [l2] at hwl q4 cM2 hW0 HB2
  rw [l3] at hcl q1 hW0
  rw [l1, l2, l3]
  have HRL := hide hrl
  have HWL := hide hwl
  have HCL := hide hcl
  have HW0 := hide hW0
  have Hb0 := hide hb0
  clear ht hp t3 t4 hT hC hw hm1 hm2 hb1 hb2 hW0 hb0 hlen hl1 hl2 hrl hwl hcl l1 l2 l3
  rw [HLEN.out] at t1 t2
  go_enter Tryz.func46, Tryz.ntmps46
  go_wp2_with fail
  rw [HW0.out]
  refine Calls.mono cM1.out ?_
  rintro e w1 ⟨rfl, rfl⟩
  go_wp2_with fail
  refine Calls.mono cM2.out ?_
  rintro e w1 ⟨rfl, rfl⟩
  clear cM1 cM2 HW0
  go_wp2
  go_loopw [7, 8, 9] (fun i j s wr => ∃ k : Nat, k ≤ tn ∧ i = .int .i64 k ∧ Below w1.heap.size w1 wr) (fun i _ _ _ => tn - (intOf i).toNat)
  case atStart => exact ⟨0, Nat.zero_le _, rfl, Below.refl _ _⟩
  case round =>
    obtain ⟨k, hk, rfl, hb⟩ := hrel
    by_cases hlt : k < tn
    · have hlt3 : (k : Int) < (tn : Int) := by omega
      obtain ⟨wo, hwo⟩ : ∃ wo, wo = wr := ⟨_, rfl⟩
      subst hwo
      go_wp2
      go_loopw [8, 9] (fun j s wr => ∃ m : Nat, m ≤ tn ∧ j = .int .i64 m ∧ Below w1.heap.size w1 wr) (fun j _ _ => tn - (intOf j).toNat)
      case atStart => exact ⟨0, Nat.zero_le _, rfl, hb⟩
      case round =>
        clear hb
        obtain ⟨m, hm, rfl, hb⟩ := hrel
        by_cases hlt2 : m < tn
        · have hlt4 : (m : Int) < (tn : Int) := by omega
          have hB := Hb0.out.trans (hb.mono Hb0.out.size)
          obtain ⟨b2, off2, ra', rn, rc', rfl, hrn, hb2, cr, hI⟩ := (HT.out.below hB).get hlt
          have hrn2 : rn = tn := by rw [← hrn, H3.out k (by rw [HLEN.out]; exact hlt)]; exact HLEN.out
          subst hrn2
          obtain ⟨b3, off3, y, rfl, hY, hb3, ey⟩ := hI.get hlt2
          have hye : tAt t k m = y := hY
          have hw := HW.out k m (by rw [HLEN.out]; exact hlt) (by rw [HLEN.out]; exact hlt2)
          have hyb := H4.out k m (by rw [HLEN.out]; exact hlt) (by rw [HLEN.out]; exact hlt2)
          rw [hye] at hw hyb
          clear hI hY hye hrn
          by_cases hy1 : y = -1
          · subst hy1
            clear hw hyb
            go_wp2
            go_roundw
            case rel => exact ⟨m + 1, by omega, by go_num, hb⟩
            case measure => simp [intOf]; omega
          · have hyf : (y == -1) = false := by simpa using hy1
            have hw2 := hw hy1
            obtain ⟨b4, off4, u, e4, hU, hb4, eu⟩ := (HRL.out.below hB).get hlt
            obtain ⟨b5, off5, v, e5, hV, hb5, ev⟩ := (HWL.out.below hB).get hlt2
            obtain ⟨b6, off6, z, e6, hZ, hb6, ez⟩ := (HCL.out.below hB).get hlt
            subst e4 e5 e6
            have bu := HB1.out k hlt
            have bv := HB2.out m hlt2
            rw [hU] at bu hw2
            rw [hV] at bv hw2
            rw [hZ] at hw2
            obtain ⟨u1, u2⟩ := bu
            obtain ⟨v1, v2⟩ := bv
            obtain ⟨hwa, hwb⟩ := hw2
            have k1 := (hb.cell (p := ⟨w.heap.size, 1, none⟩) hz0).trans q1
            have k3 := (hb.cell (p := ⟨w.heap.size, 3, none⟩) hz0).trans q3
            have k4 := (hb.cell (p := ⟨w.heap.size, 4, none⟩) hz0).trans q4
            have HY1 := hide hy1
            clear hU hV hZ hw hyb hy1
            go_wp2_with fail
            go_quiet (fail)
            have hB2 : Below w1.heap.size w1 (wr.drewN nq) := hb.trans (Joins.below_draws _ _ _)
            have k1' : (wr.drewN nq).cell? ⟨w.heap.size, 1, none⟩ = some (.slice (some ⟨b6, off6, none⟩) rn cc) := by simpa using k1
            have cr' : (wr.drewN nq).cell? ⟨b2, off2 + k, none⟩ = some (.slice (some ⟨b3, off3, none⟩) rn rc') := by simpa using cr
            have ey' : (wr.drewN nq).cell? ⟨b3, off3 + m, none⟩ = some (.int .i64 y) := by simpa using ey
            have ez' : (wr.drewN nq).cell? ⟨b6, off6 + k, none⟩ = some (.int .i64 z) := by simpa using ez
            clear k1 k3 k4 cr ey ez eu ev hb
            generalize wr.drewN nq = wb at *
            generalize hS : u + v = S at *
            clear hS
            have hgt : decide (y < S) = false := decide_eq_false (by omega)
            by_cases hz : z = (m : Int)
            · have hSy : S = y := hwb hz
              subst hSy
              subst hz
              clear hwb
              go_wp2
              all_goals first
                | (go_roundw
                   case rel => exact ⟨m + 1, by omega, by go_num, hB2⟩
                   case measure => simp [intOf]; omega)
                | (exfalso; simp at *; done)
            · have hzb : (z == (m : Int)) = false := by simpa using hz
              clear hwb hz
              go_wp2
              all_goals first
                | (go_roundw
                   case rel => exact ⟨m + 1, by omega, by go_num, hB2⟩
                   case measure => simp [intOf]; omega)
                | (exfalso; omega)
        · have hmn : m = tn := by omega
          subst hmn
          go_wp2
          go_roundw
          case rel => exact ⟨k + 1, by omega, by go_num, hb⟩
          case measure => simp [intOf]; omega
    · have hkn : k = tn := by omega
      subst hkn
      go_wp2
      go_ret
      exact ⟨rfl, Hb0.out.trans (hb.mono Hb0.out.size)⟩

def openK (t : List (List Int)) (l : List Int) (j : Nat) (k : Nat) : Bool := (List.range k).any (fun i => decide (tAt t (l.getD i 0).toNat j ≠ -1))
theorem openK_succ (t : List (List Int)) (l : List Int) (j k : Nat) : openK t l j (k + 1) = (openK t l j k || decide (tAt t (l.getD k 0).toNat j ≠ -1)) := by
  simp [openK, List.range_succ]
theorem openN_bd (t : List (List Int)) (l : List Int) (k : Nat) : 0 ≤ openN t l k ∧ openN t l k ≤ k := by
  unfold openN
  induction k with
  | zero => simp [sumTo]
  | succ k ih => simp only [sumTo]; split <;> omega

set_option maxHeartbeats 2000000 in
theorem refShort_ok (ta la : Option Addr) (tn tc lc : Nat) (t : List (List Int)) (l : List Int) (w : World) (ht : Tab w ta tn t) (hl : Ints w la l.length l) (hT : tabB t = true) (hR : risB l t.length = true) (hS : shortB t l = true) :
    Calls Tryz.prog 44 #[.slice ta tn tc, .slice la l.length lc] w fun e w' => e = .returned (.bool true) ∧ w' = w := by
  have hlen := hide ht.len
  obtain ⟨t1, t2, t3, t4⟩ := tab_out hT
  have HT := hide ht
  have HL := hide hl
  have H3 := hide t3
  have hls := hl.small
  have HR := hide (fun i hi => of_decide_eq_true (of_all hR i hi))
  have HS : Hid (openN t l tn < l.length) := by
    show openN t l tn < l.length
    rw [← hlen.out]; exact of_decide_eq_true hS
  clear ht hl t3 t4 hT hR hS
  rw [hlen.out] at t1 t2
  go_enter Tryz.func44, Tryz.ntmps44
  go_wp2
  go_loop [5, 6, 7, 8] (fun n j o i => ∃ k : Nat, k ≤ tn ∧ j = .int .i64 k ∧ n = .int .i64 (openN t l k)) (fun _ j _ _ => tn - (intOf j).toNat)
  case atStart => exact ⟨0, Nat.zero_le _, rfl, rfl⟩
  case round =>
    obtain ⟨k, hk, rfl, rfl⟩ := hrel
    have hob := openN_bd t l k
    by_cases hlt : k < tn
    · have hlt3 : (k : Int) < (tn : Int) := by omega
      have hnx : Hid (openN t l (k + 1) = openN t l k + (if openK t l k l.length = true then 1 else 0)) := rfl
      generalize openN t l k = nn at *
      obtain ⟨nn1, nn2⟩ := hob
      have nn3 : nn ≤ 8 := by omega
      clear nn2
      go_wp2
      go_loop [7, 8] (fun o i => ∃ m : Nat, m ≤ l.length ∧ i = .int .i64 m ∧ o = .bool (openK t l k m)) (fun _ i => l.length - (intOf i).toNat)
      case atStart => exact ⟨0, Nat.zero_le _, rfl, rfl⟩
      case round =>
        obtain ⟨m, hm, rfl, rfl⟩ := hrel
        by_cases hlt2 : m < l.length
        · have hlt4 : (m : Int) < (l.length : Int) := by omega
          have hst := openK_succ t l k m
          have hr := HR.out m hlt2
          obtain ⟨b, off, x, rfl, hX, hbb, ex⟩ := HL.out.get hlt2
          rw [hX] at hr hst
          obtain ⟨v, rfl⟩ := nat_of hr.1
          rw [Int.toNat_natCast] at hst
          have hvn : v < tn := by have := hlen.out; omega
          have hv2 : (v : Int) < (tn : Int) := by omega
          obtain ⟨b2, off2, ra, rn, rc, rfl, hrn, hb2, cr, hI⟩ := HT.out.get hvn
          have hrn2 : rn = tn := by rw [← hrn, H3.out v (by rw [hlen.out]; exact hvn)]; exact hlen.out
          subst hrn2
          obtain ⟨b3, off3, y, rfl, hY, hb3, ey⟩ := hI.get hlt
          have hye : tAt t v k = y := hY
          rw [hye] at hst
          have HST := hide hst
          clear hX hY hye hI hr hst hrn
          cases hok : openK t l k m with
          | true =>
            rw [hok] at HST
            go_wp2
            exact ⟨⟨m + 1, by omega, by go_num, by rw [HST.out]; rfl⟩, by simp [intOf]; omega⟩
          | false =>
            rw [hok] at HST
            by_cases hy1 : y = -1
            · subst hy1
              go_wp2
              exact ⟨⟨m + 1, by omega, by go_num, by rw [HST.out]; rfl⟩, by simp [intOf]; omega⟩
            · have hyb : (y != -1) = true := by simpa using hy1
              have hyd : decide (y ≠ -1) = true := decide_eq_true hy1
              rw [hyd] at HST
              clear hy1 hyd
              go_wp2
              exact ⟨⟨m + 1, by omega, by go_num, by rw [HST.out]; rfl⟩, by simp [intOf]; omega⟩
        · have hmn : m = l.length := by omega
          subst hmn
          cases hok : openK t l k l.length with
          | true =>
            rw [hok, if_pos rfl] at hnx
            go_wp2
            exact ⟨⟨k + 1, by omega, by go_num, by rw [hnx.out]⟩, by simp [intOf]; omega⟩
          | false =>
            rw [hok, if_neg (by simp)] at hnx
            go_wp2
            exact ⟨⟨k + 1, by omega, by go_num, by rw [hnx.out]; simp⟩, by simp [intOf] <;> omega⟩
    · have hkn : k = tn := by omega
      subst hkn
      have hlt := HS.out
      generalize openN t l k = nn at *
      clear HS
      go_wp2
      go_ret
      exact ⟨ret_b (by simp <;> omega), rfl⟩
end Go.Proofs.YtnbccoflcoaoaaaGreat

namespace Go.Proofs.YtnbccoflcoaoaaaGreat
open Go.RowKit Go.Deep
set_option linter.unusedSimpArgs false
set_option linter.unusedVariables false

set_option maxRecDepth 100000 in
set_option maxHeartbeats 4000000 in
theorem refAssignFits_ok (ta ca ra wa sa : Option Addr) (tn tc cc rc wc sc : Nat) (t : List (List Int)) (p : P6) (err : Int) (w : World) (ht : Tab w ta tn t) (hp : Pla w ca ra wa sa p) (hle : p.cols.length ≤ cc) (hS : planS t p err = true) :
    Calls Tryz.prog 22 #[.slice ta tn tc, .agg #[.bool p.fits, .slice ca p.cols.length cc, .int .i64 p.cost, .slice ra p.rw.length rc, .slice wa p.cw.length wc, .slice sa p.short.length sc], .int .i64 err] w fun e w' => e = .returned (.bool true) ∧ Below w.heap.size w w' := by
  have HT := hide ht
  have hlen := hide ht.len
  have HP := hide hp
  obtain ⟨ft, co, cs, rl, wl, sh⟩ := p
  simp only [] at hle HP ⊢
  obtain ⟨W0, hW0⟩ : ∃ W0, w.alloc (planBox ⟨ft, co, cs, rl, wl, sh⟩ ca cc ra rc wa wc sa sc) = W0 := ⟨_, rfl⟩
  have hb0 : Below w.heap.size w W0 := by rw [← hW0]; exact Joins.below_alloc1 _ _
  have hz0 : w.heap.size < W0.heap.size := by rw [← hW0]; simp
  have q0 : W0.cell? ⟨w.heap.size, 0, none⟩ = some (.bool ft) := by rw [← hW0]; simp [planBox]
  have q1 : W0.cell? ⟨w.heap.size, 1, none⟩ = some (.slice ca co.length cc) := by rw [← hW0]; simp [planBox]
  have q2 : W0.cell? ⟨w.heap.size, 2, none⟩ = some (.int .i64 cs) := by rw [← hW0]; simp [planBox]
  have q3 : W0.cell? ⟨w.heap.size, 3, none⟩ = some (.slice ra rl.length rc) := by rw [← hW0]; simp [planBox]
  have q4 : W0.cell? ⟨w.heap.size, 4, none⟩ = some (.slice wa wl.length wc) := by rw [← hW0]; simp [planBox]
  have q5 : W0.cell? ⟨w.heap.size, 5, none⟩ = some (.slice sa sh.length sc) := by rw [← hW0]; simp [planBox]
  unfold planBox at hW0
  simp only [] at hW0
  have HW0 := hide hW0
  have Hb0 := hide hb0
  have cT : n0 (Calls Tryz.prog 42 #[.slice ta tn tc] W0 fun e w' => e = .returned (.bool (tabB t)) ∧ w' = W0) := refTableFits_any ta tn tc t W0 (ht.below hb0)
  clear ht hp hW0 hb0
  unfold planS at hS
  cases htb : tabB t with
  | false =>
    rw [htb, if_pos rfl] at hS
    simp only [emptyB, Bool.and_eq_true, decide_eq_true_eq, Bool.not_eq_true'] at hS
    obtain ⟨⟨⟨rfl, rfl⟩, ⟨⟨h1, rfl⟩, h3⟩, h4⟩, h5⟩ := hS
    have e1 : co = [] := List.eq_nil_of_length_eq_zero h1
    have e3 : rl = [] := List.eq_nil_of_length_eq_zero h3
    have e4 : wl = [] := List.eq_nil_of_length_eq_zero h4
    have e5 : sh = [] := List.eq_nil_of_length_eq_zero h5
    subst e1 e3 e4 e5
    rw [htb] at cT
    simp only [List.length_nil] at *
    go_enter Tryz.func22, Tryz.ntmps22
    go_wp2_with fail
    rw [HW0.out]
    refine Calls.mono cT.out ?_
    rintro e w1 ⟨rfl, rfl⟩
    clear cT HW0
    go_wp2
    go_ret
    exact ⟨rfl, Hb0.out⟩
  | true =>
    rw [htb, if_neg (by simp)] at hS
    have HTB := hide htb
    rw [htb] at cT
    split at hS
    · cases hS
    · rename_i herr
      have he0 : err = 0 := by omega
      subst he0
      clear herr htb
      cases ft with
      | false =>
        simp only [if_true, emptyB, Bool.and_eq_true, decide_eq_true_eq] at hS
        obtain ⟨⟨hr, ⟨⟨h1, rfl⟩, h3⟩, h4⟩, hsh⟩ := hS
        have e1 : co = [] := List.eq_nil_of_length_eq_zero h1
        have e3 : rl = [] := List.eq_nil_of_length_eq_zero h3
        have e4 : wl = [] := List.eq_nil_of_length_eq_zero h4
        subst e1 e3 e4
        have cR : n0 (∀ w0, Below W0.heap.size W0 w0 → Calls Tryz.prog 43 #[.slice sa sh.length sc, .int .i64 tn] w0 fun e w' => e = .returned (.bool true) ∧ Below w0.heap.size w0 w') := fun w0 h0 => by
          have h := refRising_any sa sh.length sc tn sh w0 ((HP.out.sl.below Hb0.out).below h0)
          rw [hlen.out] at hr
          rw [hr] at h
          exact h
        have cS : n0 (∀ w0, Below W0.heap.size W0 w0 → Calls Tryz.prog 44 #[.slice ta tn tc, .slice sa sh.length sc] w0 fun e w' => e = .returned (.bool true) ∧ w' = w0) := fun w0 h0 =>
          refShort_ok ta sa tn tc sc t sh w0 ((HT.out.below Hb0.out).below h0) ((HP.out.sl.below Hb0.out).below h0) HTB.out hr hsh
        simp only [List.length_nil] at *
        clear hr hsh
        go_enter Tryz.func22, Tryz.ntmps22
        go_wp2_with fail
        rw [HW0.out]
        refine Calls.mono cT.out ?_
        rintro e w1 ⟨rfl, rfl⟩
        clear cT HW0
        go_wp2_with fail
        refine (cR.out _ (Below.refl _ _)).mono ?_
        rintro e w2 ⟨rfl, hb2⟩
        have k5 := (hb2.cell (p := ⟨w.heap.size, 5, none⟩) hz0).trans q5
        clear q0 q1 q2 q3 q4 q5 cR
        go_wp2_with fail
        refine (cS.out _ hb2).mono ?_
        rintro e w3 ⟨rfl, rfl⟩
        clear cS k5
        go_wp2
        go_ret
        exact ⟨rfl, Hb0.out.trans (hb2.mono Hb0.out.size)⟩
      | true =>
        simp only [Bool.true_eq_false, if_false, Bool.and_eq_true, decide_eq_true_eq] at hS
        obtain ⟨⟨⟨hc, hcs⟩, h5⟩, hw⟩ := hS
        have e5 : sh = [] := List.eq_nil_of_length_eq_zero h5
        subst e5
        have hcl : co.length = t.length := by unfold colsB at hc; simp only [Bool.and_eq_true, decide_eq_true_eq] at hc; exact hc.1
        have hn1 := (tab_out HTB.out).1
        have hn2 := (tab_out HTB.out).2.1
        have cC : n0 (∀ w0, Below W0.heap.size W0 w0 → Calls Tryz.prog 45 #[.slice ta tn tc, .slice ca co.length cc] w0 fun e w' => e = .returned (.tuple #[.int .i64 cs, .bool true]) ∧ Below w0.heap.size w0 w') := fun w0 h0 => by
          have h := refColumns_ok ta ca tn tc cc t co w0 ((HT.out.below Hb0.out).below h0) ((HP.out.cl.below Hb0.out).below h0) hle HTB.out hc
          rw [hcs] at h
          exact h
        have cW : n0 (∀ w0, Below W0.heap.size W0 w0 → Calls Tryz.prog 46 #[.slice ta tn tc, .agg #[.bool true, .slice ca co.length cc, .int .i64 cs, .slice ra rl.length rc, .slice wa wl.length wc, .slice sa 0 sc]] w0 fun e w' => e = .returned (.bool true) ∧ Below w0.heap.size w0 w') := fun w0 h0 =>
          refWorths_ok ta ca ra wa sa tn tc cc rc wc sc t ⟨true, co, cs, rl, wl, []⟩ w0 ((HT.out.below Hb0.out).below h0) ((HP.out.below Hb0.out).below h0) HTB.out hcl hw
        have hcz : ((co.length : Int) == 0) = false := by rw [beq_eq_false_iff_ne]; omega
        have hcp : (0 : Int) < (co.length : Int) := by omega
        simp only [List.length_nil] at *
        clear hc hcs hw hcl h5
        go_enter Tryz.func22, Tryz.ntmps22
        go_wp2_with fail
        rw [HW0.out]
        refine Calls.mono cT.out ?_
        rintro e w1 ⟨rfl, rfl⟩
        clear cT HW0
        go_wp2_with fail
        refine (cC.out _ (Below.refl _ _)).mono ?_
        rintro e w2 ⟨rfl, hb2⟩
        have k0 := (hb2.cell (p := ⟨w.heap.size, 0, none⟩) hz0).trans q0
        have k1 := (hb2.cell (p := ⟨w.heap.size, 1, none⟩) hz0).trans q1
        have k2 := (hb2.cell (p := ⟨w.heap.size, 2, none⟩) hz0).trans q2
        have k3 := (hb2.cell (p := ⟨w.heap.size, 3, none⟩) hz0).trans q3
        have k4 := (hb2.cell (p := ⟨w.heap.size, 4, none⟩) hz0).trans q4
        have k5 := (hb2.cell (p := ⟨w.heap.size, 5, none⟩) hz0).trans q5
        clear q0 q1 q2 q3 q4 q5 cC
        go_wp2_with fail
        refine (cW.out _ hb2).mono ?_
        rintro e w3 ⟨rfl, hb3⟩
        have hb4 := hb2.trans (hb3.mono hb2.size)
        clear cW k0 k1 k2 k3 k4 k5
        go_wp2
        go_ret
        exact ⟨rfl, Hb0.out.trans (hb4.mono Hb0.out.size)⟩

end Go.Proofs.YtnbccoflcoaoaaaGreat
