import Derived.Test.YtojiemadoogjlaaSomE
namespace Go.Proofs.Ytojiemadoogjlaa
open Go.RowKit Go.Deep
set_option linter.unusedSimpArgs false
set_option linter.unusedVariables false

set_option maxHeartbeats 2000000 in
theorem rSpread_any (K G rb sb tb ab n : Nat) (oa : Option Addr) (oc : Nat) (seen start : Nat → Bool) (order : List Int) (last : Nat → St) (pos : Nat → Nat) (lb fb vb : Nat) (sa aa : Option Addr) (sn sc an ac : Nat) (xs fl lf : List Int) (es : List A5) (node : Nat) (wz w : World)
    (hn : NetOK xs es) (hxn : xs.length = n) (hL : Load w lb fb vb sa sn sc aa an ac fl lf) (hlk : lb < K ∧ fb < K ∧ vb < K) (hA0 : Arcs wz aa an es) (hB0 : Below wz.heap.size wz w) (hk0 : wz.heap.size ≤ K) (hm : Mild fl es.length) (hrm : ∀ s : St, s.arc < es.length → 0 ≤ roomOf es fl s)
    (hR : Reach w K G rb sb tb ab n oa oc seen start order last) (hI : RInv es fl lf n seen start order last pos) (hnd : node < n) (hsn : seen node = true) :
    Calls Try.prog 65 #[.pointer (some ⟨lb, 0, none⟩), .pointer (some ⟨rb, 0, none⟩), .int .i64 node] w fun e w' => e = .returned (.tuple #[]) ∧
      Seen es fl lf K G rb sb tb ab n seen start order w w' (fun seen' => Shut es fl seen' node es.length) := by
  have k1 := hL.c1
  have HL := hide hL
  have HA := hide hA0
  have hal : Hid (es.length = an) := hA0.len
  have h24 : an ≤ 24 := by rw [← hal.out]; exact hn.arcs
  have HS : Hid (Seen es fl lf K G rb sb tb ab n seen start order w w (fun seen' => Shut es fl seen' node 0)) := ⟨oa, oc, seen, order, last, pos, hR, hI, Ext.refl _ _, Below.refl _ _, Shut.zero _ _ _ _⟩
  have HSN := hide hsn
  have hKw : K ≤ w.heap.size := Nat.le_trans hR.kg hR.size
  clear hL hA0 hR hI hsn
  go_enter Try.func65, Try.ntmps65
  go_wp2
  go_loopw [6, 13] (fun nm i wr => ∃ k : Nat, k ≤ an ∧ i = .int .i64 k ∧ Hid (Seen es fl lf K G rb sb tb ab n seen start order w wr (fun seen' => Shut es fl seen' node k))) (fun _ i _ => an - (intOf i).toNat)
  case atStart => exact ⟨0, Nat.zero_le _, rfl, HS.out⟩
  case round =>
    clear k1 HS
    obtain ⟨k, hk, rfl, hS⟩ := hrel
    by_cases hlt : k < an
    · obtain ⟨oa1, oc1, seen1, order1, last1, pos1, hR1, hI1, hE1, hb1, hP1⟩ := hS.out
      have hlt3 : (k : Int) < (an : Int) := by omega
      have hL1 := HL.out.below hb1 hlk.1 hlk.2.1 hlk.2.2
      have hA1 := HA.out.below (hB0.trans (hb1.mono hk0))
      have cA : n0 (Calls Try.prog 70 #[.pointer (some ⟨lb, 0, none⟩), .pointer (some ⟨rb, 0, none⟩), .int .i64 node, .agg #[.int .i64 k, .bool false]] wr fun e w' => e = .returned (.tuple #[]) ∧
        Seen es fl lf K G rb sb tb ab n seen1 start order1 wr w' (fun seen' => (St.mk k false).src es = node → seen' ((St.mk k false).dst es).toNat = true ∨ roomOf es fl ⟨k, false⟩ = 0)) :=
        rExplore_any K G rb sb tb ab n oa1 oc1 seen1 start order1 last1 pos1 lb fb vb sa aa sn sc an ac xs fl lf es node k false wr hn hxn hL1 hlk hA1 hm hrm hR1 hI1 hnd (hE1.1 _ HSN.out) hlt
      clear hL1 hA1 hR1 hI1 hS
      go_wp2_with fail
      refine Calls.mono cA.out ?_
      rintro e w2 ⟨rfl, oa2, oc2, seen2, order2, last2, pos2, hR2, hI2, hE2, hb2, hP2⟩
      clear cA
      have hL2 := HL.out.below (hb1.trans hb2) hlk.1 hlk.2.1 hlk.2.2
      have hA2 := HA.out.below (hB0.trans ((hb1.trans hb2).mono hk0))
      have cB : n0 (Calls Try.prog 70 #[.pointer (some ⟨lb, 0, none⟩), .pointer (some ⟨rb, 0, none⟩), .int .i64 node, .agg #[.int .i64 k, .bool true]] w2 fun e w' => e = .returned (.tuple #[]) ∧
        Seen es fl lf K G rb sb tb ab n seen2 start order2 w2 w' (fun seen' => (St.mk k true).src es = node → seen' ((St.mk k true).dst es).toNat = true ∨ roomOf es fl ⟨k, true⟩ = 0)) :=
        rExplore_any K G rb sb tb ab n oa2 oc2 seen2 start order2 last2 pos2 lb fb vb sa aa sn sc an ac xs fl lf es node k true w2 hn hxn hL2 hlk hA2 hm hrm hR2 hI2 hnd (hE2.1 _ (hE1.1 _ HSN.out)) hlt
      clear hL2 hA2 hR2 hI2
      go_wp2_with fail
      refine Calls.mono cB.out ?_
      rintro e w3 ⟨rfl, oa3, oc3, seen3, order3, last3, pos3, hR3, hI3, hE3, hb3, hP3⟩
      clear cB
      go_wp2
      go_roundw
      case rel =>
        refine ⟨k + 1, by omega, by go_num, oa3, oc3, seen3, order3, last3, pos3, hR3, hI3, (hE1.trans hE2).trans hE3, (hb1.trans hb2).trans hb3, ?_⟩
        refine ((hP1.ext hE2).ext hE3).succ (fun back => ?_)
        cases back with
        | true => exact hP3
        | false => exact fun h => (hP2 h).imp (fun h => hE3.1 _ h) id
      case measure => simp [intOf]; omega
    · have hkn : k = an := by omega
      subst hkn
      go_wp2
      go_end0
      exact ⟨rfl, by rw [hal.out]; exact hS.out⟩

/-! ### goods that are left, added up -/
set_option maxHeartbeats 1000000 in
theorem rUnsent_any (lb fb vb : Nat) (sa aa : Option Addr) (sn sc an ac : Nat) (fl lf : List Int) (w : World) (hL : Load w lb fb vb sa sn sc aa an ac fl lf) (hl : sn ≤ 10) (hb : ∀ v, v < sn → -24000100 ≤ lf.getD v 0 ∧ lf.getD v 0 ≤ 24000100) :
    Calls Try.prog 54 #[.pointer (some ⟨lb, 0, none⟩)] w fun e w' => e = .returned (.int .i64 (posTo lf sn)) ∧ w' = w := by
  have k3 := hL.c3
  have HL := hide hL
  have HB := hide hb
  clear hL hb
  go_enter Try.func54, Try.ntmps54
  go_wp2
  go_loop [3, 5, 11] (fun s lft i => ∃ k : Nat, k ≤ sn ∧ i = .int .i64 k ∧ s = .int .i64 (posTo lf k)) (fun _ _ i => sn - (intOf i).toNat)
  case atStart => exact ⟨0, Nat.zero_le _, rfl, rfl⟩
  case round =>
    clear k3
    obtain ⟨k, hk, rfl, rfl⟩ := hrel
    by_cases hlt : k < sn
    · have hlt3 : (k : Int) < (sn : Int) := by omega
      have cv := HL.out.rl.cell hlt
      have hbd := HB.out k hlt
      have hp0 := pos_nonneg lf k
      have hp1 := pos_le lf k 24000100 (by omega) (fun v hv => (HB.out v (by omega)).2)
      have hnx : Hid (posTo lf (k + 1) = posTo lf k + (if 0 < lf.getD k 0 then lf.getD k 0 else 0)) := rfl
      generalize lf.getD k 0 = x at *
      generalize posTo lf k = p at *
      obtain ⟨hx0, hx1⟩ := hbd
      have hp2 : p ≤ 300000000 := by omega
      clear hp1
      by_cases hpos : 0 < x
      · go_wp2
        refine ⟨⟨k + 1, by omega, by go_num, ?_⟩, by simp [intOf]; omega⟩
        rw [hnx.out, if_pos hpos]
      · have hpf : decide (0 < x) = false := decide_eq_false hpos
        go_wp2
        all_goals first
          | (exfalso; omega)
          | (refine ⟨⟨k + 1, by omega, by go_num, ?_⟩, by simp [intOf]; omega⟩
             rw [hnx.out, if_neg hpos]; simp)
    · have hkn : k = sn := by omega
      subst hkn
      go_wp2
      go_ret
      exact ⟨rfl, rfl⟩
end Go.Proofs.Ytojiemadoogjlaa
