/-
  No cell of these rows narrows 'for every input' (looked for: loops, veiled, ifaces, maps, wideKeys, modest, calm, conditions, laid).
  DERIVED. THE GIVEN ROWS OF THIS SEAT. 11 by the template 'for every input the law returns true; each argument reads behind the call as it read before'; 0 by the template 'total and deterministic' (their statements: YtnbccoflcoaoaaaTotals.lean).
  GIVEN WITH THE SEED: the statements are not yours to turn. If you find one false, say at which input.
  Laid BY PROGRAM, IN A SANDBOX (cutbox-rows.mjs): the forced cells as the released guide's own fill.sh prints them over the translation 11b16171b3c9d0a2… (all of the seat's roots in one cut). By AI agents, Wed Nov 11 2026. No macro, syntax, notation, axiom, sorry.
-/
import Derived.Test.YtnbccoflcoaoaaaChecked
import GoSem.Claim
import GoSem.ClaimJoined
import GoSem.ClaimMapViews
import Derived.JoinedTies
import Derived.KernelRfl
namespace Go.Proofs.Ytnbccoflcoaoaaa
/- THE CELL 'sum', in the pinned program and in every row, IS THE sha256 OF THE DUMP (.gsa) THAT YtnbccoflcoaoaaaProg.lean LOADS. Nothing in Lean hashes anything: it is a label: what it is worth is what the hold of that sum in a sandbox is worth. -/
noncomputable def Try.pinned : Pinned := { name := "ytnbccoflcoaoaaa", sum := "11b16171b3c9d0a2b79355849b25b2f9af9642b5fbd80c8bac0cbdec7db240f5", checked := Try.checked }
namespace Rows
def none {H : Type} : Left H := { results := [], args := [] }

/-- 'freightlaw.Checks': WHATEVER THE INPUT: true; the input reads as it did. -/
def checksSpec : ChangeSpec := { name := "checks", fn := fun _ => fun
  | [d] => { results := [.lit (.bool true)], args := [d] }
  | _ => none }
def checksRow : OpenClaim := { program := "ytnbccoflcoaoaaa", sum := "11b16171b3c9d0a2b79355849b25b2f9af9642b5fbd80c8bac0cbdec7db240f5", func := "freight/freightlaw.Checks", spec := "checks", apart := false }
def ChecksSaid : Prop := checksRow.holds Try.pinned (OpenSpec.ofChange checksSpec)

/-- ITS FALSE NEIGHBOUR: 'it returns false'. Refute it at one input. -/
def checksWrong : ChangeSpec := { name := "checks", fn := fun _ => fun
  | [d] => { results := [.lit (.bool false)], args := [d] }
  | _ => none }
def ChecksWrongFalsely : Prop := checksRow.holds Try.pinned (OpenSpec.ofChange checksWrong)

/-- 'freightlaw.Costs': WHATEVER THE INPUT: true; the input reads as it did. -/
def costsSpec : ChangeSpec := { name := "costs", fn := fun _ => fun
  | [d1, d2] => { results := [.lit (.bool true)], args := [d1, d2] }
  | _ => none }
def costsRow : OpenClaim := { program := "ytnbccoflcoaoaaa", sum := "11b16171b3c9d0a2b79355849b25b2f9af9642b5fbd80c8bac0cbdec7db240f5", func := "freight/freightlaw.Costs", spec := "costs", apart := false }
def CostsSaid : Prop := costsRow.holds Try.pinned (OpenSpec.ofChange costsSpec)

/-- ITS FALSE NEIGHBOUR: 'it returns false'. Refute it at one input. -/
def costsWrong : ChangeSpec := { name := "costs", fn := fun _ => fun
  | [d1, d2] => { results := [.lit (.bool false)], args := [d1, d2] }
  | _ => none }
def CostsWrongFalsely : Prop := costsRow.holds Try.pinned (OpenSpec.ofChange costsWrong)

/-- 'freightlaw.Accepts': WHATEVER THE INPUT: true; the input reads as it did. -/
def acceptsSpec : ChangeSpec := { name := "accepts", fn := fun _ => fun
  | [d1, d2] => { results := [.lit (.bool true)], args := [d1, d2] }
  | _ => none }
def acceptsRow : OpenClaim := { program := "ytnbccoflcoaoaaa", sum := "11b16171b3c9d0a2b79355849b25b2f9af9642b5fbd80c8bac0cbdec7db240f5", func := "freight/freightlaw.Accepts", spec := "accepts", apart := false }
def AcceptsSaid : Prop := acceptsRow.holds Try.pinned (OpenSpec.ofChange acceptsSpec)

/-- ITS FALSE NEIGHBOUR: 'it returns false'. Refute it at one input. -/
def acceptsWrong : ChangeSpec := { name := "accepts", fn := fun _ => fun
  | [d1, d2] => { results := [.lit (.bool false)], args := [d1, d2] }
  | _ => none }
def AcceptsWrongFalsely : Prop := acceptsRow.holds Try.pinned (OpenSpec.ofChange acceptsWrong)

/-- 'freightlaw.Somes': WHATEVER THE INPUT: true; the input reads as it did. -/
def somesSpec : ChangeSpec := { name := "somes", fn := fun _ => fun
  | [d] => { results := [.lit (.bool true)], args := [d] }
  | _ => none }
def somesRow : OpenClaim := { program := "ytnbccoflcoaoaaa", sum := "11b16171b3c9d0a2b79355849b25b2f9af9642b5fbd80c8bac0cbdec7db240f5", func := "freight/freightlaw.Somes", spec := "somes", apart := false }
def SomesSaid : Prop := somesRow.holds Try.pinned (OpenSpec.ofChange somesSpec)

/-- ITS FALSE NEIGHBOUR: 'it returns false'. Refute it at one input. -/
def somesWrong : ChangeSpec := { name := "somes", fn := fun _ => fun
  | [d] => { results := [.lit (.bool false)], args := [d] }
  | _ => none }
def SomesWrongFalsely : Prop := somesRow.holds Try.pinned (OpenSpec.ofChange somesWrong)

/-- 'freightlaw.Solves': WHATEVER THE INPUT: true; the input reads as it did. -/
def solvesSpec : ChangeSpec := { name := "solves", fn := fun _ => fun
  | [d] => { results := [.lit (.bool true)], args := [d] }
  | _ => none }
def solvesRow : OpenClaim := { program := "ytnbccoflcoaoaaa", sum := "11b16171b3c9d0a2b79355849b25b2f9af9642b5fbd80c8bac0cbdec7db240f5", func := "freight/freightlaw.Solves", spec := "solves", apart := false }
def SolvesSaid : Prop := solvesRow.holds Try.pinned (OpenSpec.ofChange solvesSpec)

/-- ITS FALSE NEIGHBOUR: 'it returns false'. Refute it at one input. -/
def solvesWrong : ChangeSpec := { name := "solves", fn := fun _ => fun
  | [d] => { results := [.lit (.bool false)], args := [d] }
  | _ => none }
def SolvesWrongFalsely : Prop := solvesRow.holds Try.pinned (OpenSpec.ofChange solvesWrong)

/-- 'freightlaw.Mosts': WHATEVER THE INPUT: true; the input reads as it did. -/
def mostsSpec : ChangeSpec := { name := "mosts", fn := fun _ => fun
  | [d1, d2, d3] => { results := [.lit (.bool true)], args := [d1, d2, d3] }
  | _ => none }
def mostsRow : OpenClaim := { program := "ytnbccoflcoaoaaa", sum := "11b16171b3c9d0a2b79355849b25b2f9af9642b5fbd80c8bac0cbdec7db240f5", func := "freight/freightlaw.Mosts", spec := "mosts", apart := false }
def MostsSaid : Prop := mostsRow.holds Try.pinned (OpenSpec.ofChange mostsSpec)

/-- ITS FALSE NEIGHBOUR: 'it returns false'. Refute it at one input. -/
def mostsWrong : ChangeSpec := { name := "mosts", fn := fun _ => fun
  | [d1, d2, d3] => { results := [.lit (.bool false)], args := [d1, d2, d3] }
  | _ => none }
def MostsWrongFalsely : Prop := mostsRow.holds Try.pinned (OpenSpec.ofChange mostsWrong)

/-- 'freightlaw.Assigns': WHATEVER THE INPUT: true; the input reads as it did. -/
def assignsSpec : ChangeSpec := { name := "assigns", fn := fun _ => fun
  | [d] => { results := [.lit (.bool true)], args := [d] }
  | _ => none }
def assignsRow : OpenClaim := { program := "ytnbccoflcoaoaaa", sum := "11b16171b3c9d0a2b79355849b25b2f9af9642b5fbd80c8bac0cbdec7db240f5", func := "freight/freightlaw.Assigns", spec := "assigns", apart := false }
def AssignsSaid : Prop := assignsRow.holds Try.pinned (OpenSpec.ofChange assignsSpec)

/-- ITS FALSE NEIGHBOUR: 'it returns false'. Refute it at one input. -/
def assignsWrong : ChangeSpec := { name := "assigns", fn := fun _ => fun
  | [d] => { results := [.lit (.bool false)], args := [d] }
  | _ => none }
def AssignsWrongFalsely : Prop := assignsRow.holds Try.pinned (OpenSpec.ofChange assignsWrong)

/-- 'freightkeep.Least': WHATEVER THE INPUT: true; the input reads as it did. -/
def leastSpec : ChangeSpec := { name := "least", fn := fun _ => fun
  | [d1, d2] => { results := [.lit (.bool true)], args := [d1, d2] }
  | _ => none }
def leastRow : OpenClaim := { program := "ytnbccoflcoaoaaa", sum := "11b16171b3c9d0a2b79355849b25b2f9af9642b5fbd80c8bac0cbdec7db240f5", func := "freight/freightkeep.Least", spec := "least", apart := false }
def LeastSaid : Prop := leastRow.holds Try.pinned (OpenSpec.ofChange leastSpec)

/-- ITS FALSE NEIGHBOUR: 'it returns false'. Refute it at one input. -/
def leastWrong : ChangeSpec := { name := "least", fn := fun _ => fun
  | [d1, d2] => { results := [.lit (.bool false)], args := [d1, d2] }
  | _ => none }
def LeastWrongFalsely : Prop := leastRow.holds Try.pinned (OpenSpec.ofChange leastWrong)

/-- 'freightkeep.Sound': WHATEVER THE INPUT: true; the input reads as it did. -/
def soundSpec : ChangeSpec := { name := "sound", fn := fun _ => fun
  | [d1, d2, d3] => { results := [.lit (.bool true)], args := [d1, d2, d3] }
  | _ => none }
def soundRow : OpenClaim := { program := "ytnbccoflcoaoaaa", sum := "11b16171b3c9d0a2b79355849b25b2f9af9642b5fbd80c8bac0cbdec7db240f5", func := "freight/freightkeep.Sound", spec := "sound", apart := false }
def SoundSaid : Prop := soundRow.holds Try.pinned (OpenSpec.ofChange soundSpec)

/-- ITS FALSE NEIGHBOUR: 'it returns false'. Refute it at one input. -/
def soundWrong : ChangeSpec := { name := "sound", fn := fun _ => fun
  | [d1, d2, d3] => { results := [.lit (.bool false)], args := [d1, d2, d3] }
  | _ => none }
def SoundWrongFalsely : Prop := soundRow.holds Try.pinned (OpenSpec.ofChange soundWrong)

/-- 'freightkeep.Reversed': WHATEVER THE INPUT: true; the input reads as it did. -/
def reversedSpec : ChangeSpec := { name := "reversed", fn := fun _ => fun
  | [d] => { results := [.lit (.bool true)], args := [d] }
  | _ => none }
def reversedRow : OpenClaim := { program := "ytnbccoflcoaoaaa", sum := "11b16171b3c9d0a2b79355849b25b2f9af9642b5fbd80c8bac0cbdec7db240f5", func := "freight/freightkeep.Reversed", spec := "reversed", apart := false }
def ReversedSaid : Prop := reversedRow.holds Try.pinned (OpenSpec.ofChange reversedSpec)

/-- ITS FALSE NEIGHBOUR: 'it returns false'. Refute it at one input. -/
def reversedWrong : ChangeSpec := { name := "reversed", fn := fun _ => fun
  | [d] => { results := [.lit (.bool false)], args := [d] }
  | _ => none }
def ReversedWrongFalsely : Prop := reversedRow.holds Try.pinned (OpenSpec.ofChange reversedWrong)

/-- 'freightkeep.Moved': WHATEVER THE INPUT: true; the input reads as it did. -/
def movedSpec : ChangeSpec := { name := "moved", fn := fun _ => fun
  | [d1, d2, d3] => { results := [.lit (.bool true)], args := [d1, d2, d3] }
  | _ => none }
def movedRow : OpenClaim := { program := "ytnbccoflcoaoaaa", sum := "11b16171b3c9d0a2b79355849b25b2f9af9642b5fbd80c8bac0cbdec7db240f5", func := "freight/freightkeep.Moved", spec := "moved", apart := false }
def MovedSaid : Prop := movedRow.holds Try.pinned (OpenSpec.ofChange movedSpec)

/-- ITS FALSE NEIGHBOUR: 'it returns false'. Refute it at one input. -/
def movedWrong : ChangeSpec := { name := "moved", fn := fun _ => fun
  | [d1, d2, d3] => { results := [.lit (.bool false)], args := [d1, d2, d3] }
  | _ => none }
def MovedWrongFalsely : Prop := movedRow.holds Try.pinned (OpenSpec.ofChange movedWrong)

/- THE SECOND FORM. 'bulk': how many values and letters a reading holds, each counted each time it is reached (what is shared counts as often as it is met; a slice's spare places count too). A statement '..UptoSaid' is the law's where the arguments, and the package variables that the reading takes, are together of bulk at most 1048576: NARROWER than '..Said'. Prove '..Said' where nothing that the law and all that it calls make is longer than what came in: it says more and counts as full. Else prove '..UptoSaid'. A law counts once. -/
mutual
def uptoBulk {H : Type} : DataW H → Nat
  | .lit (.string bytes) => bytes.length + 1
  | .lit _ => 1
  | .nil => 1
  | .ptr d => uptoBulk d + 1
  | .slice elems spare => uptoBulkAll elems + uptoBulkAll spare + 1
  | .agg parts => uptoBulkAll parts + 1
  | .iface _ d => uptoBulk d + 1
  | .map entries => uptoBulkEntries entries + 1
  | .held _ => 1
def uptoBulkAll {H : Type} : List (DataW H) → Nat
  | [] => 0
  | d :: r => uptoBulk d + uptoBulkAll r
def uptoBulkEntries {H : Type} : List (Lit × DataW H) → Nat
  | [] => 0
  | x :: r => uptoBulkEntry x + uptoBulkEntries r
def uptoBulkEntry {H : Type} : Lit × DataW H → Nat
  | (.string bytes, d) => bytes.length + uptoBulk d + 1
  | (_, d) => uptoBulk d + 1
 end
def uptoSmall : (H : Type) → List (DataW H) → Bool := fun _ ds => decide (uptoBulkAll ds ≤ 1048576)
def OpenSpec.upto (s : _root_.Go.ChangeSpec) : _root_.Go.OpenSpec := { _root_.Go.OpenSpec.ofChange s with cond := some uptoSmall }

/-- 'freightlaw.Checks', WHERE WHAT IT READS IS OF BULK AT MOST 1048576: true; the input reads as it did. -/
def checksUptoRow : OpenClaim := { program := "ytnbccoflcoaoaaa", sum := "11b16171b3c9d0a2b79355849b25b2f9af9642b5fbd80c8bac0cbdec7db240f5", func := "freight/freightlaw.Checks", spec := "checks", apart := false, narrowed := true }
def ChecksUptoSaid : Prop := checksUptoRow.holds Try.pinned (OpenSpec.upto checksSpec)

/-- 'freightlaw.Costs', WHERE WHAT IT READS IS OF BULK AT MOST 1048576: true; the input reads as it did. -/
def costsUptoRow : OpenClaim := { program := "ytnbccoflcoaoaaa", sum := "11b16171b3c9d0a2b79355849b25b2f9af9642b5fbd80c8bac0cbdec7db240f5", func := "freight/freightlaw.Costs", spec := "costs", apart := false, narrowed := true }
def CostsUptoSaid : Prop := costsUptoRow.holds Try.pinned (OpenSpec.upto costsSpec)

/-- 'freightlaw.Accepts', WHERE WHAT IT READS IS OF BULK AT MOST 1048576: true; the input reads as it did. -/
def acceptsUptoRow : OpenClaim := { program := "ytnbccoflcoaoaaa", sum := "11b16171b3c9d0a2b79355849b25b2f9af9642b5fbd80c8bac0cbdec7db240f5", func := "freight/freightlaw.Accepts", spec := "accepts", apart := false, narrowed := true }
def AcceptsUptoSaid : Prop := acceptsUptoRow.holds Try.pinned (OpenSpec.upto acceptsSpec)

/-- 'freightlaw.Somes', WHERE WHAT IT READS IS OF BULK AT MOST 1048576: true; the input reads as it did. -/
def somesUptoRow : OpenClaim := { program := "ytnbccoflcoaoaaa", sum := "11b16171b3c9d0a2b79355849b25b2f9af9642b5fbd80c8bac0cbdec7db240f5", func := "freight/freightlaw.Somes", spec := "somes", apart := false, narrowed := true }
def SomesUptoSaid : Prop := somesUptoRow.holds Try.pinned (OpenSpec.upto somesSpec)

/-- 'freightlaw.Solves', WHERE WHAT IT READS IS OF BULK AT MOST 1048576: true; the input reads as it did. -/
def solvesUptoRow : OpenClaim := { program := "ytnbccoflcoaoaaa", sum := "11b16171b3c9d0a2b79355849b25b2f9af9642b5fbd80c8bac0cbdec7db240f5", func := "freight/freightlaw.Solves", spec := "solves", apart := false, narrowed := true }
def SolvesUptoSaid : Prop := solvesUptoRow.holds Try.pinned (OpenSpec.upto solvesSpec)

/-- 'freightlaw.Mosts', WHERE WHAT IT READS IS OF BULK AT MOST 1048576: true; the input reads as it did. -/
def mostsUptoRow : OpenClaim := { program := "ytnbccoflcoaoaaa", sum := "11b16171b3c9d0a2b79355849b25b2f9af9642b5fbd80c8bac0cbdec7db240f5", func := "freight/freightlaw.Mosts", spec := "mosts", apart := false, narrowed := true }
def MostsUptoSaid : Prop := mostsUptoRow.holds Try.pinned (OpenSpec.upto mostsSpec)

/-- 'freightlaw.Assigns', WHERE WHAT IT READS IS OF BULK AT MOST 1048576: true; the input reads as it did. -/
def assignsUptoRow : OpenClaim := { program := "ytnbccoflcoaoaaa", sum := "11b16171b3c9d0a2b79355849b25b2f9af9642b5fbd80c8bac0cbdec7db240f5", func := "freight/freightlaw.Assigns", spec := "assigns", apart := false, narrowed := true }
def AssignsUptoSaid : Prop := assignsUptoRow.holds Try.pinned (OpenSpec.upto assignsSpec)

/-- 'freightkeep.Least', WHERE WHAT IT READS IS OF BULK AT MOST 1048576: true; the input reads as it did. -/
def leastUptoRow : OpenClaim := { program := "ytnbccoflcoaoaaa", sum := "11b16171b3c9d0a2b79355849b25b2f9af9642b5fbd80c8bac0cbdec7db240f5", func := "freight/freightkeep.Least", spec := "least", apart := false, narrowed := true }
def LeastUptoSaid : Prop := leastUptoRow.holds Try.pinned (OpenSpec.upto leastSpec)

/-- 'freightkeep.Sound', WHERE WHAT IT READS IS OF BULK AT MOST 1048576: true; the input reads as it did. -/
def soundUptoRow : OpenClaim := { program := "ytnbccoflcoaoaaa", sum := "11b16171b3c9d0a2b79355849b25b2f9af9642b5fbd80c8bac0cbdec7db240f5", func := "freight/freightkeep.Sound", spec := "sound", apart := false, narrowed := true }
def SoundUptoSaid : Prop := soundUptoRow.holds Try.pinned (OpenSpec.upto soundSpec)

/-- 'freightkeep.Reversed', WHERE WHAT IT READS IS OF BULK AT MOST 1048576: true; the input reads as it did. -/
def reversedUptoRow : OpenClaim := { program := "ytnbccoflcoaoaaa", sum := "11b16171b3c9d0a2b79355849b25b2f9af9642b5fbd80c8bac0cbdec7db240f5", func := "freight/freightkeep.Reversed", spec := "reversed", apart := false, narrowed := true }
def ReversedUptoSaid : Prop := reversedUptoRow.holds Try.pinned (OpenSpec.upto reversedSpec)

/-- 'freightkeep.Moved', WHERE WHAT IT READS IS OF BULK AT MOST 1048576: true; the input reads as it did. -/
def movedUptoRow : OpenClaim := { program := "ytnbccoflcoaoaaa", sum := "11b16171b3c9d0a2b79355849b25b2f9af9642b5fbd80c8bac0cbdec7db240f5", func := "freight/freightkeep.Moved", spec := "moved", apart := false, narrowed := true }
def MovedUptoSaid : Prop := movedUptoRow.holds Try.pinned (OpenSpec.upto movedSpec)

end Rows
end Go.Proofs.Ytnbccoflcoaoaaa
