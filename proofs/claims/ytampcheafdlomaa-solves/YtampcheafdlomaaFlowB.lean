import Derived.Test.YtampcheafdlomaaFlowA
namespace Go.Proofs.Ytampcheafdlomaa
open Go.RowKit
set_option linter.unusedSimpArgs false
set_option linter.unusedVariables false

theorem ret_i {a b : Int} (h : a = b) : Ending.returned (.int .i64 a) = .returned (.int .i64 b) := by rw [h]
theorem val_i {a b : Int} (h : a = b) : Value.int .i64 a = .int .i64 b := by rw [h]

theorem netTo_step {es : List A5} {fl : List Int} {node : Int} {k : Nat} {f t l c q x : Int} (hA : es.getD k zA = ⟨f, t, l, c, q⟩) (hX : fl.getD k 0 = x) :
    netTo es fl node (k + 1) = netTo es fl node k + (if f = node then x else 0) - (if t = node then x else 0) := by
  simp only [netTo, hA, hX]

set_option maxHeartbeats 1000000 in
theorem refNet_any (sa aa fa : Option Addr) (sn sc an ac fc : Nat) (es : List A5) (fl : List Int) (node : Int) (w : World) (he : Arcs w aa an es) (hf : Ints w fa an fl) (h24 : an ≤ 24) (hm : Mild fl an) :
    Calls Try.prog 44 #[.agg #[.slice sa sn sc, .slice aa an ac], .slice fa an fc, .int .i64 node] w fun e w' => e = .returned (.int .i64 (netTo es fl node es.length)) ∧ Below w.heap.size w w' := by
  have hL : Hid (es.length = an) := he.len
  have hM : Hid (Mild fl an) := hm
  clear hm
  go_enter Try.func44, Try.ntmps44
  go_wp2
  go_loop [7, 8] (fun v i => ∃ k : Nat, k ≤ an ∧ i = .int .i64 k ∧ v = .int .i64 (netTo es fl node k)) (fun _ i => an - (intOf i).toNat)
  case atStart => exact ⟨0, Nat.zero_le _, rfl, rfl⟩
  case round =>
    obtain ⟨k, hk, rfl, rfl⟩ := hrel
    have hbd := netTo_bd es fl node an hM.out k hk
    by_cases hlt : k < an
    · have hxm := hM.out k hlt
      obtain ⟨b, off, f, t, l, c, q, rfl, hA, hb, e0, e1, e2, e3, e4⟩ := he.get hlt
      obtain ⟨b', off', x, rfl, hX, hb', ex⟩ := hf.get hlt
      rw [hX] at hxm
      have HS := hide (netTo_step (node := node) hA hX)
      clear hA hX e2 e3 e4
      generalize netTo es fl node k = v at *
      have hlt3 : (k : Int) < (an : Int) := by omega
      cases hfn : (f == node) <;> cases htn : (t == node) <;> go_wp2
      all_goals
        refine ⟨⟨k + 1, by omega, by go_num, ?_⟩, by simp [intOf]; omega⟩
        rw [HS.out]
        simp only [beq_iff_eq, beq_eq_false_iff_ne] at hfn htn
        simp [hfn, htn]
    · have hkn : k = an := by omega
      subst hkn
      go_wp2
      go_ret
      exact ⟨ret_i (by rw [hL.out]), (Below.refl _ _).alloc (Nat.le_refl _) _⟩

set_option maxHeartbeats 1000000 in
theorem gSurplus_any (sa aa fa : Option Addr) (sn sc an ac fc : Nat) (es : List A5) (fl : List Int) (node : Int) (w : World) (he : Arcs w aa an es) (hf : Ints w fa an fl) (h24 : an ≤ 24) (hm : Mild fl an) :
    Calls Try.prog 63 #[.agg #[.slice sa sn sc, .slice aa an ac], .slice fa an fc, .int .i64 node] w fun e w' => e = .returned (.int .i64 (netTo es fl node es.length)) ∧ Below w.heap.size w w' := by
  have hL : Hid (es.length = an) := he.len
  have hM : Hid (Mild fl an) := hm
  clear hm
  go_enter Try.func63, Try.ntmps63
  go_wp2
  go_loopw [7, 13] (fun v i wr => ∃ k : Nat, k ≤ an ∧ i = .int .i64 k ∧ v = .int .i64 (netTo es fl node k) ∧ Below w.heap.size w wr) (fun _ i _ => an - (intOf i).toNat)
  case atStart => exact ⟨0, Nat.zero_le _, rfl, rfl, (Below.refl _ _).alloc (Nat.le_refl _) _⟩
  case round =>
    obtain ⟨k, hk, rfl, rfl, hbel⟩ := hrel
    have hbd := netTo_bd es fl node an hM.out k hk
    by_cases hlt : k < an
    · have hxm := hM.out k hlt
      obtain ⟨b, off, f, t, l, c, q, rfl, hA, hb, e0, e1, e2, e3, e4⟩ := (he.below hbel).get hlt
      obtain ⟨b', off', x, rfl, hX, hb', ex⟩ := (hf.below hbel).get hlt
      rw [hX] at hxm
      have HS := hide (netTo_step (node := node) hA hX)
      clear hA hX
      generalize netTo es fl node k = v at *
      have hlt3 : (k : Int) < (an : Int) := by omega
      cases hfn : (f == node) <;> cases htn : (t == node) <;> go_wp2
      all_goals
        refine ⟨⟨k + 1, by omega, by go_num, ?_, hbel.alloc hbel.size _⟩, by simp [intOf]; omega⟩
        rw [HS.out]
        simp only [beq_iff_eq, beq_eq_false_iff_ne] at hfn htn
        simp [hfn, htn]
    · have hkn : k = an := by omega
      subst hkn
      go_wp2
      go_ret
      exact ⟨ret_i (by rw [hL.out]), hbel⟩
end Go.Proofs.Ytampcheafdlomaa
