import Derived.Test.YtojiemadoogjlaaSomG
namespace Go.Proofs.Ytojiemadoogjlaa
open Go.RowKit Go.Deep
set_option linter.unusedSimpArgs false
set_option linter.unusedVariables false

set_option maxHeartbeats 1000000 in
theorem rSum_any (sa : Option Addr) (sn sc : Nat) (xs : List Int) (w : World) (hx : Ints w sa sn xs) (hl : sn ≤ 10) (hb : ∀ v, v < sn → -100 ≤ xs.getD v 0 ∧ xs.getD v 0 ≤ 100) :
    Calls Try.prog 39 #[.slice sa sn sc] w fun e w' => e = .returned (.int .i64 (sumTo (fun v => xs.getD v 0) sn)) ∧ w' = w := by
  have HX := hide hx
  have HB := hide hb
  clear hx hb
  go_enter Try.func39, Try.ntmps39
  go_wp2
  go_loop [3, 5, 8] (fun s lft i => ∃ k : Nat, k ≤ sn ∧ i = .int .i64 k ∧ s = .int .i64 (sumTo (fun v => xs.getD v 0) k) ∧ Hid (-(100 * (k : Int)) ≤ sumTo (fun v => xs.getD v 0) k ∧ sumTo (fun v => xs.getD v 0) k ≤ 100 * (k : Int))) (fun _ _ i => sn - (intOf i).toNat)
  case atStart => exact ⟨0, Nat.zero_le _, rfl, rfl, by simp [Hid, sumTo]⟩
  case round =>
    obtain ⟨k, hk, rfl, rfl, hbd⟩ := hrel
    by_cases hlt : k < sn
    · have hlt3 : (k : Int) < (sn : Int) := by omega
      obtain ⟨b, off, x, rfl, hX, hbb, cx⟩ := HX.out.get hlt
      have hx1 := HB.out k hlt
      rw [hX] at hx1
      have hnx : Hid (sumTo (fun v => xs.getD v 0) (k + 1) = sumTo (fun v => xs.getD v 0) k + x) := by simp only [Hid, sumTo, hX]
      have hb2 := hbd.out
      clear hX
      generalize sumTo (fun v => xs.getD v 0) k = p at *
      obtain ⟨b1, b2⟩ := hb2
      obtain ⟨x1, x2⟩ := hx1
      have b3 : -1000 ≤ p := by omega
      have b4 : p ≤ 1000 := by omega
      go_wp2
      refine ⟨⟨k + 1, by omega, by go_num, ?_, ?_⟩, by simp [intOf]; omega⟩
      · rw [hnx.out]
      · rw [hnx.out]; simp only [Hid]; omega
    · have hkn : k = sn := by omega
      subst hkn
      go_wp2
      go_ret
      exact ⟨rfl, rfl⟩

theorem seenTo_yes {seen : Nat → Bool} {k : Nat} (h : seen k = true) : seenTo seen (k + 1) = seenTo seen k ++ [(k : Int)] := by simp only [seenTo, h, if_true]
theorem seenTo_no {seen : Nat → Bool} {k : Nat} (h : seen k = false) : seenTo seen (k + 1) = seenTo seen k := by simp [seenTo, h]

/-- A list of the call's own. -/
def OwnL (w : World) (base : Nat) (v : Value) (l : List Int) : Prop := ∃ oa oc, v = .slice oa l.length oc ∧ w.ownsRow base 3 1 (.slice oa l.length oc) l.length (intCells l)
theorem OwnL.lit (w : World) : OwnL (w.alloc (.cells #[] 3)) w.heap.size (.slice (some ⟨w.heap.size, 0, none⟩) 0 0) [] :=
  ⟨_, _, rfl, World.ownsRow_lit w #[] 0 (Nat.le_refl _) (by unfold maxLen; omega) rfl⟩

theorem OwnL.push {w : World} {base g c : Nat} {l : List Int} {y : Int} (h : w.ownsRow base 3 1 (.slice (some ⟨g, 0, none⟩) (l.length + 1) c) (l.length + 1) (intCells (l ++ [y]))) : OwnL w base (.slice (some ⟨g, 0, none⟩) (l.length + 1) c) (l ++ [y]) := by
  have e : (l ++ [y]).length = l.length + 1 := by simp
  refine ⟨some ⟨g, 0, none⟩, c, by rw [e], by rw [e]; exact h⟩

set_option maxHeartbeats 1000000 in
theorem rEvery_any (m : Nat) (w : World) (hm : m ≤ 10) :
    Calls Try.prog 40 #[.int .i64 m] w fun e w' => ∃ v, e = .returned v ∧ OwnL w' w.heap.size v (seenTo (fun _ => true) m) ∧ Below w.heap.size w w' := by
  go_enter Try.func40, Try.ntmps40
  go_wp2
  go_loopw [3, 4] (fun v i wr => ∃ k : Nat, k ≤ m ∧ i = .int .i64 k ∧ Hid (OwnL wr w.heap.size v (seenTo (fun _ => true) k)) ∧ Below w.heap.size w wr) (fun _ i _ => m - (intOf i).toNat)
  case atStart => exact ⟨0, Nat.zero_le _, rfl, OwnL.lit w, (Below.refl _ _).alloc (Nat.le_refl _) _⟩
  case round =>
    obtain ⟨k, hk, rfl, hO, hb⟩ := hrel
    obtain ⟨oa, oc, rfl, hown⟩ := hO.out
    have HO := hide hown
    have hsz := hb.size
    have hlen : (seenTo (fun _ => true) k).length ≤ 1000 := by have := seen_len (fun _ => true) k; omega
    have hnx : Hid (seenTo (fun _ => true) (k + 1) = seenTo (fun _ => true) k ++ [(k : Int)]) := seenTo_yes rfl
    clear hown
    by_cases hlt : k < m
    · have hlt3 : (k : Int) < (m : Int) := by omega
      generalize hLL : seenTo (fun _ => true) k = L at *
      clear hLL
      go_wp2_with (at_builtin; refine wpList_push_int rfl (.tmp 11) (.tmp 13) rfl w.heap.size oa oc L rfl ?_ wr.heap.size k 1 rfl ?_ hlen ?_ ?_)
      · exact HO.out.alloc _
      · go_simp
      · simp; omega
      intro g' c' w2 hown2 hgr
      have hblk := (HO.out.alloc (.cells #[.int .i64 k] 3)).lt
      have hb2 : Below w.heap.size w w2 := (hb.alloc hsz _).grown hgr (by simp; omega) (fun b hb' => (hblk b hb').1)
      go_wp2
      go_roundw
      case rel =>
        refine ⟨k + 1, by omega, by go_num, ?_, hb2⟩
        rw [hnx.out]
        exact OwnL.push hown2
      case measure => simp [intOf]; omega
    · have hkn : k = m := by omega
      subst hkn
      go_wp2
      go_ret
      exact ⟨_, rfl, hO.out, hb⟩

set_option maxHeartbeats 1000000 in
theorem rNodes_any (K G rb sb tb ab n : Nat) (oa : Option Addr) (oc : Nat) (seen start : Nat → Bool) (order : List Int) (last : Nat → St) (w : World) (hR : Reach w K G rb sb tb ab n oa oc seen start order last) (hn : n ≤ 10) :
    Calls Try.prog 57 #[.pointer (some ⟨rb, 0, none⟩)] w fun e w' => ∃ v, e = .returned v ∧ OwnL w' w.heap.size v (seenTo seen n) ∧ Below w.heap.size w w' := by
  have k0 := hR.c0
  have hrb := hR.rr.lt
  have hsb := hR.rs.lt
  have HR := hide hR
  clear hR
  go_enter Try.func57, Try.ntmps57
  go_wp2
  go_loopw [3, 4, 5, 12] (fun v nd sn i wr => ∃ k : Nat, k ≤ n ∧ i = .int .i64 k ∧ Hid (OwnL wr w.heap.size v (seenTo seen k)) ∧ Below w.heap.size w wr) (fun _ _ _ i _ => n - (intOf i).toNat)
  case atStart => exact ⟨0, Nat.zero_le _, rfl, OwnL.lit w, (Below.refl _ _).alloc (Nat.le_refl _) _⟩
  case round =>
    clear k0
    obtain ⟨k, hk, rfl, hO, hb⟩ := hrel
    obtain ⟨la, lc, rfl, hown⟩ := hO.out
    have HO := hide hown
    have hsz := hb.size
    have hlen : (seenTo seen k).length ≤ 1000 := by have := seen_len seen k; omega
    clear hown
    by_cases hlt : k < n
    · have hlt3 : (k : Int) < (n : Int) := by omega
      have cs := (below_blk hb hsb).trans (HR.out.rs.cell hlt)
      cases hs : seen k with
      | true =>
        have hnx : Hid (seenTo seen (k + 1) = seenTo seen k ++ [(k : Int)]) := seenTo_yes hs
        rw [hs] at cs
        generalize hLL : seenTo seen k = L at *
        clear hLL hs
        go_wp2_with (at_builtin; refine wpList_push_int rfl (.tmp 18) (.tmp 20) rfl w.heap.size la lc L rfl ?_ wr.heap.size k 1 rfl ?_ hlen ?_ ?_)
        · exact HO.out.alloc _
        · go_simp
        · simp; omega
        intro g' c' w2 hown2 hgr
        have hblk := (HO.out.alloc (.cells #[.int .i64 k] 3)).lt
        have hb2 : Below w.heap.size w w2 := (hb.alloc hsz _).grown hgr (by simp; omega) (fun b hb' => (hblk b hb').1)
        go_wp2
        go_roundw
        case rel =>
          refine ⟨k + 1, by omega, by go_num, ?_, hb2⟩
          rw [hnx.out]
          exact OwnL.push hown2
        case measure => simp [intOf]; omega
      | false =>
        have hnx : Hid (seenTo seen (k + 1) = seenTo seen k) := seenTo_no hs
        rw [hs] at cs
        go_wp2
        go_roundw
        case rel => exact ⟨k + 1, by omega, by go_num, by rw [hnx.out]; exact hO.out, hb⟩
        case measure => simp [intOf]; omega
    · have hkn : k = n := by omega
      subst hkn
      go_wp2
      go_ret
      exact ⟨_, rfl, hO.out, hb⟩

set_option maxHeartbeats 1000000 in
theorem rWanting_any (K G rb sb tb ab : Nat) (oa : Option Addr) (oc : Nat) (seen start : Nat → Bool) (order : List Int) (last : Nat → St) (pos : Nat → Nat) (lb fb vb : Nat) (sa aa : Option Addr) (sn sc an ac : Nat) (fl lf : List Int) (es : List A5) (w : World) (hL : Load w lb fb vb sa sn sc aa an ac fl lf)
    (hR : Reach w K G rb sb tb ab sn oa oc seen start order last) (hI : RInv es fl lf sn seen start order last pos) (hn : sn ≤ 10) :
    Calls Try.prog 56 #[.pointer (some ⟨lb, 0, none⟩), .pointer (some ⟨rb, 0, none⟩)] w fun e w' => w' = w ∧
      ((∃ v : Nat, v < sn ∧ seen v = true ∧ lf.getD v 0 < 0 ∧ e = .returned (.tuple #[.int .i64 v, .bool true])) ∨ (e = .returned (.tuple #[.int .i64 0, .bool false]) ∧ ∀ v, v < sn → seen v = true → 0 ≤ lf.getD v 0)) := by
  have k1 := hR.c1
  have k3 := hL.c3
  have hsm := hI.small
  have hO := hide (own_ints hR.ro (by omega) (hI.ints hn))
  have HL := hide hL
  have HI := hide hI
  clear hL hR hI
  go_enter Try.func56, Try.ntmps56
  go_wp2
  go_loop [7, 13] (fun nd i => ∃ k : Nat, k ≤ order.length ∧ i = .int .i64 k ∧ Hid (∀ j, j < k → 0 ≤ lf.getD (order.getD j 0).toNat 0)) (fun _ i => order.length - (intOf i).toNat)
  case atStart => exact ⟨0, Nat.zero_le _, rfl, fun j hj => by omega⟩
  case round =>
    clear k1
    obtain ⟨k, hk, rfl, hG⟩ := hrel
    by_cases hlt : k < order.length
    · have hlt3 : (k : Int) < (order.length : Int) := by omega
      obtain ⟨bo, oo, x, rfl, hX, hbo, cx⟩ := hO.out.get hlt
      obtain ⟨o1, o2, o3⟩ := HI.out.ord k hlt
      rw [hX] at o1 o2 o3
      obtain ⟨v, rfl⟩ := nat_of o1
      rw [Int.toNat_natCast] at o3
      have hvk : v < sn := by omega
      have cv := HL.out.rl.cell hvk
      have HX := hide hX
      have HO3 := hide o3
      clear hX o1 o3
      by_cases hneg : lf.getD v 0 < 0
      · have HN := hide hneg
        generalize hxx : lf.getD v 0 = x at cv hneg
        clear hxx
        go_wp2
        go_ret2
        exact ⟨rfl, .inl ⟨v, hvk, HO3.out, HN.out, rfl⟩⟩
      · have HN := hide hneg
        have hnf : decide (lf.getD v 0 < 0) = false := decide_eq_false hneg
        clear hneg
        generalize hxx : lf.getD v 0 = x at cv hnf
        clear hxx
        go_wp2
        all_goals first
          | (exfalso; simp at hnf; omega)
          | (refine ⟨⟨k + 1, by omega, by go_num, ?_⟩, by simp [intOf]; omega⟩
             intro j hj
             by_cases e : j = k
             · subst e; rw [HX.out, Int.toNat_natCast]; have := HN.out; omega
             · exact hG.out j (by omega))
    · have hkn : k = order.length := by omega
      subst hkn
      go_wp2
      go_ret2
      refine ⟨rfl, .inr ⟨rfl, fun v hv hs => ?_⟩⟩
      obtain ⟨j, hj, e⟩ := inB_iff.1 (HI.out.cover v hv hs)
      have := hG.out j hj
      rw [e, Int.toNat_natCast] at this
      exact this
end Go.Proofs.Ytojiemadoogjlaa
