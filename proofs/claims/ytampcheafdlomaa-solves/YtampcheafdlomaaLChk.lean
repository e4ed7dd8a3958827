import Derived.Test.YtampcheafdlomaaChkB
import Derived.Test.YtampcheafdlomaaCopy
namespace Go.Proofs.Ytampcheafdlomaa
open Go.RowKit
set_option linter.unusedSimpArgs false
set_option linter.unusedVariables false

theorem bcell {W w1 : World} (hb : Below W.heap.size W w1) : (∀ b o, b < W.heap.size → w1.cell? ⟨b, o, none⟩ = W.cell? ⟨b, o, none⟩) ∧ (∀ b o, b < W.heap.size → w1.frozen? ⟨b, o, none⟩ = W.frozen? ⟨b, o, none⟩) :=
  ⟨fun b o h => hb.cell (p := ⟨b, o, none⟩) h, fun b o h => hb.frozen (p := ⟨b, o, none⟩) h⟩

set_option maxHeartbeats 400000 in
theorem check_any (sa aa : Option Addr) (sn sc an ac : Nat) (xs : List Int) (es : List A5) (w : World) (hx : Ints w sa sn xs) (he : Arcs w aa an es) :
    Calls Try.prog 12 #[.agg #[.slice sa sn sc, .slice aa an ac]] w fun e w' => e = .returned (.tuple #[.int .i64 (checkS xs es).1, .int .i64 (checkS xs es).2]) ∧ Below w.heap.size w w' := by
  go_enter Try.func12, Try.ntmps12
  go_wp2_with fail
  refine (gCheck_any sa aa sn sc an ac xs es _ (hx.below ((Below.refl _ _).alloc (Nat.le_refl _) _)) (he.below ((Below.refl _ _).alloc (Nat.le_refl _) _))).mono ?_
  rintro e w1 ⟨rfl, hb⟩
  go_wp2
  go_ret2
  exact ⟨rfl, ((Below.refl _ _).alloc (Nat.le_refl _) _).trans (hb.mono (by simp))⟩

set_option maxHeartbeats 400000 in
theorem lawChecks_any (sa aa : Option Addr) (sn sc an ac : Nat) (xs : List Int) (es : List A5) (w : World) (hx : Ints w sa sn xs) (he : Arcs w aa an es) :
    Calls Try.prog 3 #[.agg #[.slice sa sn sc, .slice aa an ac]] w fun e w' => e = .returned (.bool true) ∧ Below w.heap.size w w' := by
  have HX : Hid (Ints w sa sn xs ∧ Arcs w aa an es) := ⟨hx, he⟩
  clear hx he
  go_enter Try.func3, Try.ntmps3
  go_wp2_with fail
  have hb0 : Below w.heap.size w (w.alloc (.cells #[.slice sa sn sc, .slice aa an ac] 25)) := (Below.refl _ _).alloc (Nat.le_refl _) _
  refine (refCopy_any sa aa sn sc an ac xs es _ (HX.out.1.below hb0) (HX.out.2.below hb0)).mono ?_
  rintro e w1 ⟨sa', sc', aa', ac', rfl, hI, hA, -, -, hb1⟩
  have k0 : w1.cell? ⟨w.heap.size, 0, none⟩ = some (.slice sa sn sc) := (hb1.cell (by simp)).trans (by go_simp)
  have k1 : w1.cell? ⟨w.heap.size, 1, none⟩ = some (.slice aa an ac) := (hb1.cell (by simp)).trans (by go_simp)
  have hz1 : w.heap.size < w1.heap.size := by have := hb1.size; simp at this; omega
  have hB1 : Below w.heap.size w w1 := hb0.trans (hb1.mono (by simp))
  go_wp2_with fail
  refine (check_any sa' aa' sn sc' an ac' xs es _ hI hA).mono ?_
  rintro e w2 ⟨rfl, hb2⟩
  have l0 := (hb2.cell (p := ⟨w.heap.size, 0, none⟩) hz1).trans k0
  have l1 := (hb2.cell (p := ⟨w.heap.size, 1, none⟩) hz1).trans k1
  have hB2 : Below w.heap.size w w2 := hB1.trans (hb2.mono (by omega))
  clear k0 k1 hb1 hb2 hI hA
  go_wp2_with fail
  refine (refCheck_any sa aa sn sc an ac xs es _ (HX.out.1.below hB2) (HX.out.2.below hB2)).mono ?_
  rintro e w3 ⟨rfl, hb3⟩
  have hB3 : Below w.heap.size w w3 := hB2.trans (hb3.mono hB2.size)
  clear l0 l1 HX
  generalize checkS xs es = r
  obtain ⟨p, q⟩ := r
  go_wp2
  go_ret
  exact ⟨rfl, hB3⟩

end Go.Proofs.Ytampcheafdlomaa
