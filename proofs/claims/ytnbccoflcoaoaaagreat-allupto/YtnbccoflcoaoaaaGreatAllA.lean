import Derived.Test.YtnbccoflcoaoaaaGreatGSol
import Derived.BigRegion
namespace Go.Proofs.YtnbccoflcoaoaaaGreat
open Go.RowKit Go.Deep
set_option linter.unusedSimpArgs false
set_option linter.unusedVariables false

/-! ### All's small helpers -/
def pickS (c : Int) (n : Nat) : Nat := ((if c < 0 then -(c + 1) else c) % (n : Int)).toNat
theorem pickS_lt (c : Int) {n : Nat} (h : 0 < n) : pickS c n < n := by
  unfold pickS
  have h1 := Int.emod_lt_of_pos (if c < 0 then -(c + 1) else c) (show (0 : Int) < n by omega)
  have h2 := Int.emod_nonneg (if c < 0 then -(c + 1) else c) (show (n : Int) ≠ 0 by omega)
  omega

theorem aPick_any (c : Int) (n : Nat) (hn : 0 < n) (hn2 : n ≤ 17592186044416) (h0 : -9223372036854775808 ≤ c) (h1 : c ≤ 9223372036854775807) (w : World) :
    Calls Tryz.prog 10 #[.int .i64 c, .int .i64 n] w fun e w' => e = .returned (.int .i64 (pickS c n)) ∧ w' = w := by
  have hp : Hid ((pickS c n : Int) = (if c < 0 then -(c + 1) else c) % (n : Int)) := by
    have h2 := Int.emod_nonneg (if c < 0 then -(c + 1) else c) (show (n : Int) ≠ 0 by omega)
    unfold pickS Hid; omega
  have hnz : (n : Int) ≠ 0 := by omega
  go_enter Tryz.func10, Tryz.ntmps10
  by_cases hc : c < 0
  · go_wp2
    go_ret
    refine ⟨?_, rfl⟩
    rw [hp.out, if_pos hc, ← Int.tmod_eq_emod_of_nonneg (show 0 ≤ -(c + 1) by omega), Int.neg_tmod]
    rfl
  · go_wp2
    go_ret
    refine ⟨?_, rfl⟩
    rw [hp.out, if_neg (by omega)]
    rfl

def sameA (x y : A5) : Bool := x.fr == y.fr && (x.to == y.to && (x.lo == y.lo && (x.cap == y.cap && x.cost == y.cost)))
theorem sameA_self (x : A5) : sameA x x = true := by simp [sameA]

set_option maxHeartbeats 1000000 in
theorem aSameArc_any (x y : A5) (w : World) :
    Calls Tryz.prog 40 #[.agg #[.int .i64 x.fr, .int .i64 x.to, .int .i64 x.lo, .int .i64 x.cap, .int .i64 x.cost], .agg #[.int .i64 y.fr, .int .i64 y.to, .int .i64 y.lo, .int .i64 y.cap, .int .i64 y.cost]] w fun e w' => e = .returned (.bool (sameA x y)) ∧ Below w.heap.size w w' := by
  unfold sameA
  go_enter Tryz.func40, Tryz.ntmps40
  cases d0 : (x.fr == y.fr) with
  | false => go_wp2; go_ret; exact ⟨rfl, Joins.below_alloc2 _ _ _⟩
  | true =>
  cases d1 : (x.to == y.to) with
  | false => go_wp2; go_ret; exact ⟨rfl, Joins.below_alloc2 _ _ _⟩
  | true =>
  cases d2 : (x.lo == y.lo) with
  | false => go_wp2; go_ret; exact ⟨rfl, Joins.below_alloc2 _ _ _⟩
  | true =>
  cases d3 : (x.cap == y.cap) with
  | false => go_wp2; go_ret; exact ⟨rfl, Joins.below_alloc2 _ _ _⟩
  | true =>
  cases d4 : (x.cost == y.cost) with
  | false => go_wp2; go_ret; exact ⟨rfl, Joins.below_alloc2 _ _ _⟩
  | true => go_wp2; go_ret; exact ⟨rfl, Joins.below_alloc2 _ _ _⟩

/-- A list as All hands it in: two of spare room, in which the mark lies. -/
def Roomy (w : World) (base : Nat) (v : Value) (xs : List Int) : Prop := ∃ g cap, v = .slice (some ⟨g, 0, none⟩) xs.length cap ∧ w.ownsRow base 3 1 (.slice (some ⟨g, 0, none⟩) (xs.length + 2) cap) (xs.length + 2) (intCells (xs ++ [-3000000, -3000000]))

set_option maxHeartbeats 400000 in
theorem own_own (a : Option Addr) (n c : Nat) (xs : List Int) (w : World) (hx : Ints w a n xs) :
    Calls Tryz.prog 4 #[.slice a n c] w fun e w' => ∃ v, e = .returned v ∧ w'.ownsRow w.heap.size 3 1 v n (intCells xs) ∧ Below w.heap.size w w' := by
  obtain ⟨i0, hi, hz0, hz1, hz2⟩ := info_parts infoInt
  have hsm := hx.small
  go_enter Tryz.func4, Tryz.ntmps4
  go_wp2_with (at_builtin; refine wpList_append_copy w rfl _ _ 32 rfl 3 i0 _ 1 8 Tryz.underlying32 hi hz0 hz1 hz2 rfl (by decide) rfl a n c rfl (intCells xs) (by rw [intCells_length, hx.len]; omega) hx.src (intCells_one xs) (by unfold maxLen; omega) (by omega) ?_)
  intro v' w1 hown hgr
  have hb : Below w.heap.size w w1 := (Below.refl _ _).grown hgr (Nat.le_refl _) (fun k hk => by cases hk)
  clear hgr hi hz0 hz1 hz2
  go_wp2
  go_ret
  exact ⟨v', rfl, hown, hb⟩

set_option maxHeartbeats 1000000 in
theorem aRoomy_any (a : Option Addr) (n c : Nat) (xs : List Int) (w : World) (hx : Ints w a n xs) (hn : n + 2 ≤ 17592186044416) :
    Calls Tryz.prog 20 #[.slice a n c] w fun e w' => ∃ v, e = .returned v ∧ Roomy w' w.heap.size v xs ∧ Below w.heap.size w w' := by
  have hL : Hid (xs.length = n) := hx.len
  go_enter Tryz.func20, Tryz.ntmps20
  go_wp2_with fail
  refine (own_own a n c xs _ hx).mono ?_
  rintro e w1 ⟨v, rfl, hown, hb⟩
  obtain ⟨i0, hi, hz0, hz1, hz2⟩ := info_parts infoInt
  have hbs := hb.size
  go_wp2_with (at_builtin; refine wpList_append_own _ rfl _ _ 32 rfl w.heap.size 3 i0 _ 1 8 Tryz.underlying32 hi hz0 hz1 hz2 rfl (by decide) v n (intCells xs) rfl (hown.alloc _) ⟨w1.heap.size, 0, none⟩ 2 2 (intCells [-3000000, -3000000]) rfl rfl ?_ (intCells_one _) (by unfold maxLen; omega) (by omega) (by simp; omega) ?_)
  · intro j u hj
    match j, hj with
    | 0, hj => simp [intCells] at hj; subst hj; go_simp
    | 1, hj => simp [intCells] at hj; subst hj; go_simp
    | j + 2, hj => simp [intCells] at hj
  intro v' w2 hown2 hgr _
  have hb2 : Below w.heap.size w w2 := by
    refine (hb.trans ((Below.refl _ _).alloc hbs _)).grown hgr (by simp; omega) ?_
    intro k hk
    exact (hown.lt k hk).1
  rcases hown2.2 with ⟨_, h0⟩ | ⟨g', cap, cur, rfl, hg1, hg2, hg3, hg4, hg5⟩
  · omega
  have hc : (n : Int) ≤ (cap : Int) := by omega
  clear hgr hi hz0 hz1 hz2 hown hb
  go_wp2
  go_ret
  refine ⟨_, rfl, ⟨g', cap, ?_, ?_⟩, hb2⟩
  · rw [hL.out]; simp
  · rw [hL.out]
    simpa [intCells] using hown2

end Go.Proofs.YtnbccoflcoaoaaaGreat
