import Derived.Test.YtojiemadoogjlaaSomM
namespace Go.Proofs.Ytojiemadoogjlaa
open Go.RowKit Go.Deep
set_option linter.unusedSimpArgs false
set_option linter.unusedVariables false

set_option maxHeartbeats 2000000 in
theorem rRoom_any (lb fb vb : Nat) (sa aa : Option Addr) (sn sc an ac : Nat) (fl lf : List Int) (es : List A5) (a : Nat) (bk : Bool) (m : Int) (w : World) (hL : Load w lb fb vb sa sn sc aa an ac fl lf) (he : Arcs w aa an es) (ha : a < an) (hok : arcB (es.getD a zA) m = true) (hfl : 0 ≤ fl.getD a 0 ∧ fl.getD a 0 ≤ 1000000) :
    Calls Try.prog 67 #[.pointer (some ⟨lb, 0, none⟩), .agg #[.int .i64 a, .bool bk]] w fun e w' => e = .returned (.int .i64 (roomOf es fl ⟨a, bk⟩)) ∧ Below w.heap.size w w' := by
  have k1 := hL.c1
  have k2 := hL.c2
  have hlt := hL.lt
  have cf := hL.rf.cell ha
  have hfb := hL.flt.1
  obtain ⟨b, off, f, t, l, c, q, rfl, hA, hb, e0, e1, e2, e3, e4⟩ := he.get ha
  have hok2 := arcB_out hok
  have hS : Hid (roomOf es fl ⟨a, bk⟩ = (if bk = true then fl.getD a 0 - l else if c = -1 then 1000000 - fl.getD a 0 else c - fl.getD a 0)) := by
    simp only [Hid, roomOf, hA]
  rw [hA] at hok2
  simp only [] at hok2
  clear hL he hA hok
  generalize fl.getD a 0 = x at *
  obtain ⟨hx0, hx1⟩ := hfl
  have hl0 : 0 ≤ l := by omega
  have hl1 : l ≤ 60 := by omega
  have hc0 : -1 ≤ c := by omega
  have hc1 : c ≤ 60 := by omega
  clear hok2
  have ha2 : (a : Int) < (an : Int) := by omega
  go_enter Try.func67, Try.ntmps67
  rw [hS.out]
  clear hS
  go_wp2
  go_region
  cases bk with
  | true =>
    go_wp2
    go_ret
    exact ⟨rfl, (Joins.below_alloc2 _ _ _).drew⟩
  | false =>
    have cU : n0 (∀ w0, Calls Try.prog 44 #[.agg #[.int .i64 f, .int .i64 t, .int .i64 l, .int .i64 c, .int .i64 q]] w0 fun e w' => e = .returned (.bool (c == -1)) ∧ Below w0.heap.size w0 w') := fun w0 => gUnlimited_any f t l c q w0
    go_wp2_with fail
    refine (cU.out _).mono ?_
    rintro e w1 ⟨rfl, hb1⟩
    have hB : Below w.heap.size w w1 := ((Joins.below_alloc2 _ _ _).drew).trans (hb1.mono (by simp; omega))
    have d3 := (hb1.cell (p := ⟨w.heap.size + 1, 3, none⟩) (by simp)).trans (show _ = some (Value.int .i64 c) by go_simp)
    clear hb1 e0 e1 e2 e3 e4 k1 k2 cU cf
    by_cases hcc : c = -1
    · subst hcc
      go_wp2
      go_ret
      exact ⟨rfl, hB⟩
    · have hcb : (c == -1) = false := by simpa using hcc
      have HC := hide hcc
      clear hcc
      go_wp2
      go_ret
      exact ⟨rfl, hB⟩

set_option maxHeartbeats 2000000 in
theorem rTake_any (lb fb vb : Nat) (sa aa : Option Addr) (sn sc an ac : Nat) (fl lf : List Int) (a : Nat) (bk : Bool) (x : Int) (w : World) (hL : Load w lb fb vb sa sn sc aa an ac fl lf) (hl : fl.length = an) (ha : a < an) (hfl : 0 ≤ fl.getD a 0 ∧ fl.getD a 0 ≤ 1000000) (hx : 0 ≤ x ∧ x ≤ 1000000) :
    Calls Try.prog 68 #[.pointer (some ⟨lb, 0, none⟩), .agg #[.int .i64 a, .bool bk], .int .i64 x] w fun e w' => e = .returned (.tuple #[]) ∧ Load w' lb fb vb sa sn sc aa an ac (addAt fl a (stD ⟨a, bk⟩ x)) lf ∧ w.grownBy w' (some fb) := by
  have k2 := hL.c2
  have hlt := hL.lt
  have cf := hL.rf.cell ha
  have ff := hL.rf.frozen a
  have hfb := hL.flt.1
  have HL := hide hL
  have hne := hL.ne.1
  clear hL
  have hS := HL.out.setFlow ha hl (stD ⟨a, bk⟩ x)
  have HFin : Hid (∀ o, Load ((w.setCell ⟨fb, a, none⟩ (.int .i64 (fl.getD a 0 + stD ⟨a, bk⟩ x))).alloc o).drew lb fb vb sa sn sc aa an ac (addAt fl a (stD ⟨a, bk⟩ x)) lf ∧ w.grownBy ((w.setCell ⟨fb, a, none⟩ (.int .i64 (fl.getD a 0 + stD ⟨a, bk⟩ x))).alloc o).drew (some fb)) := by
    intro o
    refine ⟨hS.grow ((Joins.below_alloc1 _ o).drew), ⟨rfl, rfl, rfl, by simp [World.drew, World.setCell], fun k hk hne => ?_⟩⟩
    show ((w.setCell ⟨fb, a, none⟩ _).alloc o).heap[k]? = _
    rw [Below.heap_alloc _ _ _ (by simpa [World.setCell] using hk), Below.heap_setCell _ _ _ _ (fun e => hne (by rw [e]))]
  clear hS HL
  generalize fl.getD a 0 = y at *
  obtain ⟨hx0, hx1⟩ := hx
  obtain ⟨hy0, hy1⟩ := hfl
  have ha2 : (a : Int) < (an : Int) := by omega
  cases bk with
  | true =>
    have hE : y + stD ⟨a, true⟩ x = y - x := by simp [stD]; omega
    rw [hE] at HFin
    clear hE
    go_enter Try.func68, Try.ntmps68
    go_wp2
    go_region
    go_wp2
    (try simp only [Exit.inBlock, Exit.then]); refine bodyPost_ret (results_none rfl _ _ _) rfl ?_
    exact ⟨rfl, (HFin.out _).1, (HFin.out _).2⟩
  | false =>
    have hE : y + stD ⟨a, false⟩ x = y + x := by simp [stD]
    rw [hE] at HFin
    clear hE
    go_enter Try.func68, Try.ntmps68
    go_wp2
    go_region
    go_wp2
    go_end0
    exact ⟨rfl, (HFin.out _).1, (HFin.out _).2⟩
end Go.Proofs.Ytojiemadoogjlaa
