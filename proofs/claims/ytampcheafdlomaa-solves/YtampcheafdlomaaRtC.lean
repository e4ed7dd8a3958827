import Derived.Test.YtampcheafdlomaaRtA
namespace Go.Proofs.Ytampcheafdlomaa
open Go.RowKit Go.Deep
set_option linter.unusedSimpArgs false
set_option linter.unusedVariables false

/-! ### goods that are left, added up -/
set_option maxHeartbeats 1000000 in
theorem rUnsent_any (lb fb vb : Nat) (sa aa : Option Addr) (sn sc an ac : Nat) (fl lf : List Int) (w : World) (hL : Load w lb fb vb sa sn sc aa an ac fl lf) (hl : sn ≤ 10) (hb : ∀ v, v < sn → -24000100 ≤ lf.getD v 0 ∧ lf.getD v 0 ≤ 24000100) :
    Calls Try.prog 72 #[.pointer (some ⟨lb, 0, none⟩)] w fun e w' => e = .returned (.int .i64 (posTo lf sn)) ∧ w' = w := by
  have k3 := hL.c3
  have HL := hide hL
  have HB := hide hb
  clear hL hb
  go_enter Try.func72, Try.ntmps72
  go_wp2
  go_loop [3, 5, 11] (fun s lft i => ∃ k : Nat, k ≤ sn ∧ i = .int .i64 k ∧ s = .int .i64 (posTo lf k)) (fun _ _ i => sn - (intOf i).toNat)
  case atStart => exact ⟨0, Nat.zero_le _, rfl, rfl⟩
  case round =>
    clear k3
    obtain ⟨k, hk, rfl, rfl⟩ := hrel
    by_cases hlt : k < sn
    · have hlt3 : (k : Int) < (sn : Int) := by omega
      have cv := HL.out.rl.cell hlt
      have hbd := HB.out k hlt
      have hp0 := pos_nonneg lf k
      have hp1 := pos_le lf k 24000100 (by omega) (fun v hv => (HB.out v (by omega)).2)
      have hnx : Hid (posTo lf (k + 1) = posTo lf k + (if 0 < lf.getD k 0 then lf.getD k 0 else 0)) := rfl
      generalize lf.getD k 0 = x at *
      generalize posTo lf k = p at *
      obtain ⟨hx0, hx1⟩ := hbd
      have hp2 : p ≤ 300000000 := by omega
      clear hp1
      by_cases hpos : 0 < x
      · go_wp2
        refine ⟨⟨k + 1, by omega, by go_num, ?_⟩, by simp [intOf]; omega⟩
        rw [hnx.out, if_pos hpos]
      · have hpf : decide (0 < x) = false := decide_eq_false hpos
        go_wp2
        all_goals first
          | (exfalso; omega)
          | (refine ⟨⟨k + 1, by omega, by go_num, ?_⟩, by simp [intOf]; omega⟩
             rw [hnx.out, if_neg hpos]; simp)
    · have hkn : k = sn := by omega
      subst hkn
      go_wp2
      go_ret
      exact ⟨rfl, rfl⟩

set_option maxHeartbeats 1000000 in
theorem rSum_any (sa : Option Addr) (sn sc : Nat) (xs : List Int) (w : World) (hx : Ints w sa sn xs) (hl : sn ≤ 10) (hb : ∀ v, v < sn → -100 ≤ xs.getD v 0 ∧ xs.getD v 0 ≤ 100) :
    Calls Try.prog 50 #[.slice sa sn sc] w fun e w' => e = .returned (.int .i64 (sumTo (fun v => xs.getD v 0) sn)) ∧ w' = w := by
  have HX := hide hx
  have HB := hide hb
  clear hx hb
  go_enter Try.func50, Try.ntmps50
  go_wp2
  go_loop [3, 5, 8] (fun s lft i => ∃ k : Nat, k ≤ sn ∧ i = .int .i64 k ∧ s = .int .i64 (sumTo (fun v => xs.getD v 0) k) ∧ Hid (-(100 * (k : Int)) ≤ sumTo (fun v => xs.getD v 0) k ∧ sumTo (fun v => xs.getD v 0) k ≤ 100 * (k : Int))) (fun _ _ i => sn - (intOf i).toNat)
  case atStart => exact ⟨0, Nat.zero_le _, rfl, rfl, by simp [Hid, sumTo]⟩
  case round =>
    obtain ⟨k, hk, rfl, rfl, hbd⟩ := hrel
    by_cases hlt : k < sn
    · have hlt3 : (k : Int) < (sn : Int) := by omega
      obtain ⟨b, off, x, rfl, hX, hbb, cx⟩ := HX.out.get hlt
      have hx1 := HB.out k hlt
      rw [hX] at hx1
      have hnx : Hid (sumTo (fun v => xs.getD v 0) (k + 1) = sumTo (fun v => xs.getD v 0) k + x) := by simp only [Hid, sumTo, hX]
      have hb2 := hbd.out
      clear hX
      generalize sumTo (fun v => xs.getD v 0) k = p at *
      obtain ⟨b1, b2⟩ := hb2
      obtain ⟨x1, x2⟩ := hx1
      have b3 : -1000 ≤ p := by omega
      have b4 : p ≤ 1000 := by omega
      go_wp2
      refine ⟨⟨k + 1, by omega, by go_num, ?_, ?_⟩, by simp [intOf]; omega⟩
      · rw [hnx.out]
      · rw [hnx.out]; simp only [Hid]; omega
    · have hkn : k = sn := by omega
      subst hkn
      go_wp2
      go_ret
      exact ⟨rfl, rfl⟩

theorem seenTo_yes {seen : Nat → Bool} {k : Nat} (h : seen k = true) : seenTo seen (k + 1) = seenTo seen k ++ [(k : Int)] := by simp only [seenTo, h, if_true]
theorem seenTo_no {seen : Nat → Bool} {k : Nat} (h : seen k = false) : seenTo seen (k + 1) = seenTo seen k := by simp [seenTo, h]

set_option maxHeartbeats 1000000 in
theorem rEvery_any (m : Nat) (w : World) (hm : m ≤ 10) :
    Calls Try.prog 51 #[.int .i64 m] w fun e w' => ∃ v, e = .returned v ∧ OwnL w' w.heap.size v (seenTo (fun _ => true) m) ∧ Below w.heap.size w w' := by
  go_enter Try.func51, Try.ntmps51
  go_wp2
  go_loopw [3, 4] (fun v i wr => ∃ k : Nat, k ≤ m ∧ i = .int .i64 k ∧ Hid (OwnL wr w.heap.size v (seenTo (fun _ => true) k)) ∧ Below w.heap.size w wr) (fun _ i _ => m - (intOf i).toNat)
  case atStart => exact ⟨0, Nat.zero_le _, rfl, OwnL.lit w, (Below.refl _ _).alloc (Nat.le_refl _) _⟩
  case round =>
    obtain ⟨k, hk, rfl, hO, hb⟩ := hrel
    obtain ⟨oa, oc, rfl, hown⟩ := hO.out
    have HO := hide hown
    have hsz := hb.size
    have hlen : (seenTo (fun _ => true) k).length ≤ 1000 := by have := seen_len (fun _ => true) k; omega
    have hnx : Hid (seenTo (fun _ => true) (k + 1) = seenTo (fun _ => true) k ++ [(k : Int)]) := seenTo_yes rfl
    clear hown
    by_cases hlt : k < m
    · have hlt3 : (k : Int) < (m : Int) := by omega
      generalize hLL : seenTo (fun _ => true) k = L at *
      clear hLL
      go_wp2_with (at_builtin; refine wpList_push_int rfl (.tmp 11) (.tmp 13) rfl w.heap.size oa oc L rfl ?_ wr.heap.size k 1 rfl ?_ hlen ?_ ?_)
      · exact HO.out.alloc _
      · go_simp
      · simp; omega
      intro g' c' w2 hown2 hgr
      have hblk := (HO.out.alloc (.cells #[.int .i64 k] 3)).lt
      have hb2 : Below w.heap.size w w2 := (hb.alloc hsz _).grown hgr (by simp; omega) (fun b hb' => (hblk b hb').1)
      go_wp2
      go_roundw
      case rel =>
        refine ⟨k + 1, by omega, by go_num, ?_, hb2⟩
        rw [hnx.out]
        exact OwnL.push hown2
      case measure => simp [intOf]; omega
    · have hkn : k = m := by omega
      subst hkn
      go_wp2
      go_ret
      exact ⟨_, rfl, hO.out, hb⟩


/-! ### lists of nodes -/
set_option maxHeartbeats 1000000 in
theorem rNodes_any (K rb sb cb ab n : Nat) (seen : Nat → Bool) (cost : Nat → Int) (last : Nat → St) (nw : Int) (w : World) (hW : Ways w K rb sb cb ab n seen cost last nw) (hn : n ≤ 10) :
    Calls Try.prog 75 #[.pointer (some ⟨rb, 0, none⟩)] w fun e w' => ∃ v, e = .returned v ∧ OwnL w' w.heap.size v (seenTo seen n) ∧ Below w.heap.size w w' := by
  have k0 := hW.c0
  have hrb := hW.rr.lt
  have hsb := hW.rs.lt
  have HW := hide hW
  clear hW
  go_enter Try.func75, Try.ntmps75
  go_wp2
  go_loopw [3, 4, 5, 12] (fun v nd sn i wr => ∃ k : Nat, k ≤ n ∧ i = .int .i64 k ∧ Hid (OwnL wr w.heap.size v (seenTo seen k)) ∧ Below w.heap.size w wr) (fun _ _ _ i _ => n - (intOf i).toNat)
  case atStart => exact ⟨0, Nat.zero_le _, rfl, OwnL.lit w, (Below.refl _ _).alloc (Nat.le_refl _) _⟩
  case round =>
    clear k0
    obtain ⟨k, hk, rfl, hO, hb⟩ := hrel
    obtain ⟨la, lc, rfl, hown⟩ := hO.out
    have HO := hide hown
    have hsz := hb.size
    have hlen : (seenTo seen k).length ≤ 1000 := by have := seen_len seen k; omega
    clear hown
    by_cases hlt : k < n
    · have hlt3 : (k : Int) < (n : Int) := by omega
      have cs := (below_blk hb hsb).trans (HW.out.rs.cell hlt)
      cases hs : seen k with
      | true =>
        have hnx : Hid (seenTo seen (k + 1) = seenTo seen k ++ [(k : Int)]) := seenTo_yes hs
        rw [hs] at cs
        generalize hLL : seenTo seen k = L at *
        clear hLL hs
        go_wp2_with (at_builtin; refine wpList_push_int rfl (.tmp 18) (.tmp 20) rfl w.heap.size la lc L rfl ?_ wr.heap.size k 1 rfl ?_ hlen ?_ ?_)
        · exact HO.out.alloc _
        · go_simp
        · simp; omega
        intro g' c' w2 hown2 hgr
        have hblk := (HO.out.alloc (.cells #[.int .i64 k] 3)).lt
        have hb2 : Below w.heap.size w w2 := (hb.alloc hsz _).grown hgr (by simp; omega) (fun b hb' => (hblk b hb').1)
        go_wp2
        go_roundw
        case rel =>
          refine ⟨k + 1, by omega, by go_num, ?_, hb2⟩
          rw [hnx.out]
          exact OwnL.push hown2
        case measure => simp [intOf]; omega
      | false =>
        have hnx : Hid (seenTo seen (k + 1) = seenTo seen k) := seenTo_no hs
        rw [hs] at cs
        go_wp2
        go_roundw
        case rel => exact ⟨k + 1, by omega, by go_num, by rw [hnx.out]; exact hO.out, hb⟩
        case measure => simp [intOf]; omega
    · have hkn : k = n := by omega
      subst hkn
      go_wp2
      go_ret
      exact ⟨_, rfl, hO.out, hb⟩

set_option maxHeartbeats 1000000 in
theorem rWanting_any (K rb sb cb ab : Nat) (seen : Nat → Bool) (cost : Nat → Int) (last : Nat → St) (nw : Int) (lb fb vb : Nat) (sa aa : Option Addr) (sn sc an ac : Nat) (fl lf : List Int) (w : World) (hL : Load w lb fb vb sa sn sc aa an ac fl lf)
    (hW : Ways w K rb sb cb ab sn seen cost last nw) (hn : sn ≤ 10) :
    Calls Try.prog 74 #[.pointer (some ⟨lb, 0, none⟩), .pointer (some ⟨rb, 0, none⟩)] w fun e w' => w' = w ∧
      ((∃ v : Nat, v < sn ∧ seen v = true ∧ lf.getD v 0 < 0 ∧ e = .returned (.tuple #[.int .i64 v, .bool true])) ∨ (e = .returned (.tuple #[.int .i64 0, .bool false]) ∧ ∀ v, v < sn → seen v = true → 0 ≤ lf.getD v 0)) := by
  have k0 := hW.c0
  have k3 := hL.c3
  have HL := hide hL
  have HW := hide hW
  clear hL hW
  go_enter Try.func74, Try.ntmps74
  go_wp2
  go_loop [6, 7, 13] (fun nd lft i => ∃ k : Nat, k ≤ sn ∧ i = .int .i64 k ∧ Hid (∀ j, j < k → seen j = true → 0 ≤ lf.getD j 0)) (fun _ _ i => sn - (intOf i).toNat)
  case atStart => exact ⟨0, Nat.zero_le _, rfl, fun j hj => by omega⟩
  case round =>
    clear k3
    obtain ⟨k, hk, rfl, hG⟩ := hrel
    by_cases hlt : k < sn
    · have hlt3 : (k : Int) < (sn : Int) := by omega
      have cv := HL.out.rl.cell hlt
      have cs := HW.out.rs.cell hlt
      by_cases hneg : lf.getD k 0 < 0
      · have HN := hide hneg
        cases hs : seen k with
        | true =>
          rw [hs] at cs
          generalize hxx : lf.getD k 0 = x at cv hneg
          clear hxx
          go_wp2
          go_ret2
          exact ⟨rfl, .inl ⟨k, hlt, hs, HN.out, rfl⟩⟩
        | false =>
          rw [hs] at cs
          have HS := hide hs
          generalize hxx : lf.getD k 0 = x at cv hneg
          clear hxx hs
          go_wp2
          refine ⟨⟨k + 1, by omega, by go_num, ?_⟩, by simp [intOf]; omega⟩
          intro j hj hsj
          by_cases e : j = k
          · subst e; rw [HS.out] at hsj; cases hsj
          · exact hG.out j (by omega) hsj
      · have HN := hide hneg
        have hnf : decide (lf.getD k 0 < 0) = false := decide_eq_false hneg
        clear hneg
        generalize hxx : lf.getD k 0 = x at cv hnf
        clear hxx
        go_wp2
        all_goals first
          | (exfalso; simp at hnf; omega)
          | (refine ⟨⟨k + 1, by omega, by go_num, ?_⟩, by simp [intOf]; omega⟩
             intro j hj hsj
             by_cases e : j = k
             · subst e; have := HN.out; omega
             · exact hG.out j (by omega) hsj)
    · have hkn : k = sn := by omega
      subst hkn
      go_wp2
      go_ret2
      exact ⟨rfl, .inr ⟨rfl, fun v hv hs => hG.out v hv hs⟩⟩

/-- Where goods are left. -/
def readyF (lf : List Int) (v : Nat) : Bool := decide (0 < lf.getD v 0)

set_option maxHeartbeats 1000000 in
theorem rReady_any (lb fb vb : Nat) (sa aa : Option Addr) (sn sc an ac : Nat) (fl lf : List Int) (w : World) (hL : Load w lb fb vb sa sn sc aa an ac fl lf) (hn : sn ≤ 10) :
    Calls Try.prog 73 #[.pointer (some ⟨lb, 0, none⟩)] w fun e w' => ∃ tb, e = .returned (.slice (some ⟨tb, 0, none⟩) sn sn) ∧ w'.rowIs tb 4 sn (fun i => .bool (readyF lf i)) ∧ w.heap.size ≤ tb ∧ Below w.heap.size w w' := by
  have k3 := hL.c3
  have hvb := hL.flt.2
  have HL := hide hL
  have hlb := hL.lt
  have hmb := run_make_row' (P := Try.prog) 75 4 (.bool false) 1 Try.underlying75 infoBool rfl .i64 .i64 sn (by omega) (by omega)
  clear hL
  go_enter Try.func73, Try.ntmps73
  go_wp2
  go_loopw [4, 5, 17] (fun nd lft i wr => ∃ k : Nat, k ≤ sn ∧ i = .int .i64 k ∧ Hid (wr.rowIs w.heap.size 4 sn (fun i => .bool (if i < k then readyF lf i else false))) ∧ Below w.heap.size w wr) (fun _ _ i _ => sn - (intOf i).toNat)
  case atStart => exact ⟨0, Nat.zero_le _, rfl, (World.rowIs_made w (.bool false) sn 4).congr (fun i _ => by simp), (Below.refl _ _).alloc (Nat.le_refl _) _⟩
  case round =>
    clear k3 hmb
    obtain ⟨k, hk, rfl, hR, hb⟩ := hrel
    by_cases hlt : k < sn
    · have hlt3 : (k : Int) < (sn : Int) := by omega
      have cv := (below_blk hb hvb).trans (HL.out.rl.cell hlt)
      have ct := hR.out.cell hlt
      have ft := hR.out.frozen k
      obtain ⟨x, hx⟩ : ∃ x, lf.getD k 0 = x := ⟨_, rfl⟩
      rw [hx] at cv
      have HRD : Hid (readyF lf k = decide (0 < x)) := by show _ = _; unfold readyF; rw [hx]
      have HR1 := hide (hR.out.set k (.bool (decide (0 < x))))
      have HB1 := hide (hb.setCell (p := ⟨w.heap.size, k, none⟩) (Nat.le_refl _) (.bool (decide (0 < x))))
      clear hR hb hx
      go_wp2
      go_roundw
      case rel =>
        refine ⟨k + 1, by omega, by go_num, ?_, HB1.out⟩
        refine HR1.out.congr ?_
        intro i hi
        by_cases e : i = k
        · subst e; rw [if_pos rfl, if_pos (by omega), HRD.out]
        · rw [if_neg e]
          by_cases e2 : i < k
          · rw [if_pos e2, if_pos (by omega)]
          · rw [if_neg e2, if_neg (by omega)]
      case measure => simp [intOf]; omega
    · have hkn : k = sn := by omega
      subst hkn
      go_wp2
      go_ret
      exact ⟨_, rfl, hR.out.congr (fun i hi => by rw [if_pos hi]), Nat.le_refl _, hb⟩

set_option maxHeartbeats 1000000 in
theorem rEverywhere_any (sa aa : Option Addr) (sn sc an ac : Nat) (w : World) (hn : sn ≤ 10) :
    Calls Try.prog 58 #[.agg #[.slice sa sn sc, .slice aa an ac]] w fun e w' => ∃ tb, e = .returned (.slice (some ⟨tb, 0, none⟩) sn sn) ∧ w'.rowIs tb 4 sn (fun _ => .bool true) ∧ w.heap.size ≤ tb ∧ Below w.heap.size w w' := by
  have hmb := run_make_row' (P := Try.prog) 75 4 (.bool false) 1 Try.underlying75 infoBool rfl .i64 .i64 sn (by omega) (by omega)
  go_enter Try.func58, Try.ntmps58
  go_wp2
  go_loopw [4, 11] (fun nd i wr => ∃ k : Nat, k ≤ sn ∧ i = .int .i64 k ∧ Hid (wr.rowIs (w.heap.size + 1) 4 sn (fun i => .bool (decide (i < k)))) ∧ Below w.heap.size w wr) (fun _ i _ => sn - (intOf i).toNat)
  case atStart =>
    refine ⟨0, Nat.zero_le _, rfl, ?_, Joins.below_alloc2 _ _ _⟩
    have h := World.rowIs_made (w.alloc (.cells #[.slice sa sn sc, .slice aa an ac] 25)) (.bool false) sn 4
    rw [show (w.alloc (.cells #[.slice sa sn sc, .slice aa an ac] 25)).heap.size = w.heap.size + 1 from by simp] at h
    exact h.congr (fun i _ => by simp)
  case round =>
    clear hmb
    obtain ⟨k, hk, rfl, hR, hb⟩ := hrel
    by_cases hlt : k < sn
    · have hlt3 : (k : Int) < (sn : Int) := by omega
      have ct := hR.out.cell hlt
      have ft := hR.out.frozen k
      have HR1 := hide (hR.out.set k (.bool true))
      have HB1 := hide (hb.setCell (p := ⟨w.heap.size + 1, k, none⟩) (by show w.heap.size ≤ w.heap.size + 1; omega) (.bool true))
      clear hR hb
      go_wp2
      go_roundw
      case rel =>
        refine ⟨k + 1, by omega, by go_num, ?_, HB1.out⟩
        refine HR1.out.congr ?_
        intro i hi
        by_cases e : i = k
        · subst e; rw [if_pos rfl, decide_eq_true (by omega)]
        · rw [if_neg e, show decide (i < k) = decide (i < k + 1) from decide_eq_decide.2 (by omega)]
      case measure => simp [intOf]; omega
    · have hkn : k = sn := by omega
      subst hkn
      go_wp2
      go_ret
      exact ⟨_, rfl, hR.out.congr (fun i hi => by rw [decide_eq_true hi]), by omega, hb⟩
end Go.Proofs.Ytampcheafdlomaa
