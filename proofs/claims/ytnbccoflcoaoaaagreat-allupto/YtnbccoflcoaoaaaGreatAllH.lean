import Derived.Test.YtnbccoflcoaoaaaGreatAllG
namespace Go.Proofs.YtnbccoflcoaoaaaGreat
open Go.RowKit Go.Deep
set_option linter.unusedSimpArgs false
set_option linter.unusedVariables false

/-! ### whole: every list reads as its owner wrote it -/
/-- A list that came out, written full by its owner; its memory is among P. -/
def ListAt (w : World) (base : Nat) (P : Nat → Prop) (v : Value) (mk : Int) : Prop :=
  ∃ xb n X, v = .slice (some ⟨xb, 0, none⟩) 4 4 ∧ w.rowIs xb 32 4 X ∧ P xb ∧ n ≤ 1000 ∧ ∀ q, q < 4 → Slot w base (X q) (n + q) (n + q) mk ∧ ∀ b, (X q).ownBlock = some b → P b
theorem ListAt.keep {w w' : World} {base : Nat} {P P' : Nat → Prop} {v : Value} {mk : Int} (h : ListAt w base P v mk) (hk : ∀ b, P b → w'.heap[b]? = w.heap[b]?) (hP : ∀ b, P b → P' b) : ListAt w' base P' v mk := by
  obtain ⟨xb, n, X, h1, h2, h3, h4, h5⟩ := h
  exact ⟨xb, n, X, h1, h2.of_block (hk xb h3), hP _ h3, h4, fun q hq => ⟨(h5 q hq).1.blk (fun k hk' => hk k ((h5 q hq).2 k hk')), fun b hb => hP b ((h5 q hq).2 b hb)⟩⟩
theorem Slot.cell {w : World} {base : Nat} {v : Value} {m : Nat} {mk : Int} (h : Slot w base v m m mk) : ∃ a c, v = .slice a m c ∧ (0 < m → ∃ g, a = some ⟨g, 0, none⟩ ∧ ∀ j, j < m → w.cell? ⟨g, j, none⟩ = some (.int .i64 mk)) := by
  obtain ⟨xs, h1, h2⟩ := h
  rcases h1.2 with ⟨e1, h0⟩ | ⟨g, cap, cur, e1, a1, a2, a3, a4, a5, a6⟩
  · exact ⟨none, 0, by rw [e1, h0], fun hp => by omega⟩
  · refine ⟨_, _, e1, fun _ => ⟨g, rfl, fun j hj => ?_⟩⟩
    rw [e1] at h1
    exact own_cellAt h1 j _ (h2 j hj)

set_option maxRecDepth 100000 in
set_option maxHeartbeats 2000000 in
theorem aWhole_any (wb base0 base : Nat) (P : Nat → Prop) (fw : Nat → Value) (la : Option Addr) (nl lc : Nat) (lcs : List Value) (w : World) (hbox : w.rowIs wb 31 6 fw) (h4 : fw 4 = .slice la nl lc) (hls : w.ownsRow base0 57 1 (.slice la nl lc) nl lcs) (hnl : nl ≤ 1099511627776)
    (hall : ∀ p, p < nl → ∃ v, lcs[p]? = some v ∧ ListAt w base P v (-3000000 - p)) :
    Calls Tryz.prog 7 #[.pointer (some ⟨wb, 0, none⟩)] w fun e w' => e = .returned (.bool true) ∧ w' = w := by
  have c4 := hbox.cell (i := 4) (by omega)
  rw [h4] at c4
  have hlen := hls.1
  have HALL := hide hall
  have HLS := hide hls
  clear hbox hall hls
  go_enter Tryz.func7, Tryz.ntmps7
  go_wp2
  go_loop [3, 4, 5, 6] (fun pp x kk ii => ∃ p : Nat, p ≤ nl ∧ pp = .int .i64 p) (fun pp _ _ _ => nl - (intOf pp).toNat)
  case atStart => exact ⟨0, Nat.zero_le _, rfl⟩
  case round =>
    obtain ⟨p, hp, rfl⟩ := hrel
    by_cases hlt : p < nl
    · have hlt3 : (p : Int) < (nl : Int) := by omega
      obtain ⟨v, hv, xb, n, X, rfl, hrow, _, hn, hsl⟩ := HALL.out p hlt
      obtain ⟨lg, lz, ela⟩ := own_some HLS.out (by omega)
      cases ela
      have cp := own_cellAt HLS.out p _ hv
      have HSL := hide hsl
      have HRW := hide hrow
      clear hsl hrow hv
      go_wp2
      go_loop [5, 6] (fun kk ii => ∃ k : Nat, k ≤ 4 ∧ kk = .int .i64 k) (fun kk _ => 4 - (intOf kk).toNat)
      case atStart => exact ⟨0, Nat.zero_le _, rfl⟩
      case round =>
        obtain ⟨k, hk, rfl⟩ := hrel
        by_cases hlt2 : k < 4
        · have hlt4 : (k : Int) < 4 := by omega
          obtain ⟨xa, xc, eX, hcells⟩ := (HSL.out k hlt2).1.cell
          have cX := HRW.out.cell hlt2
          rw [eX] at cX
          have HC := hide hcells
          clear hcells
          go_wp2
          go_loop [6] (fun ii => ∃ i : Nat, i ≤ n + k ∧ ii = .int .i64 i) (fun ii => n + k - (intOf ii).toNat)
          case atStart => exact ⟨0, Nat.zero_le _, rfl⟩
          case round =>
            obtain ⟨i, hi, rfl⟩ := hrel
            by_cases hlt5 : i < n + k
            · obtain ⟨g, rfl, hcl⟩ := HC.out (by omega)
              have ci := hcl i hlt5
              have hlt6 : (i : Int) < (n : Int) + (k : Int) := by omega
              obtain ⟨mk, hmk⟩ : ∃ mk : Int, -3000000 - (p : Int) = mk := ⟨_, rfl⟩
              have hm2 : -1099514627777 ≤ mk := by omega
              rw [hmk] at ci
              have hmkb : (mk != mk) = false := by simp
              clear hcl
              go_wp2
              all_goals first
                | (exfalso; simp at *; done)
                | exact ⟨⟨i + 1, by omega, by go_num⟩, by simp [intOf]; omega⟩
            · have hin : i = n + k := by omega
              subst hin
              have hlt7 : ¬ ((n : Int) + (k : Int) < (n : Int) + (k : Int)) := by omega
              go_wp2
              all_goals first
                | (exfalso; omega)
                | exact ⟨⟨k + 1, by omega, by go_num⟩, by simp [intOf]; omega⟩
        · have hk4 : k = 4 := by omega
          subst hk4
          go_wp2
          exact ⟨⟨p + 1, by omega, by go_num⟩, by simp [intOf]; omega⟩
    · have hpn : p = nl := by omega
      subst hpn
      go_wp2
      go_ret
      exact ⟨rfl, rfl⟩
end Go.Proofs.YtnbccoflcoaoaaaGreat
