/-
  No cell of these rows narrows 'for every input' (looked for: loops, veiled, ifaces, maps, wideKeys, modest, calm, conditions, laid).
  DERIVED. THE GIVEN ROWS OF THIS SEAT. 6 by the template 'for every input the law returns true; each argument reads behind the call as it read before'; 0 by the template 'total and deterministic' (their statements: YtnbccoflcoaoaabTotals.lean).
  GIVEN WITH THE SEED: the statements are not yours to turn. If you find one false, say at which input.
  Laid BY PROGRAM, IN A SANDBOX (cutbox-rows.mjs): the forced cells as the released guide's own fill.sh prints them over the translation 9e915bff44799395… (all of the seat's roots in one cut). By AI agents, Wed Nov 11 2026. No macro, syntax, notation, axiom, sorry.
-/
import Derived.Test.YtnbccoflcoaoaabChecked
import GoSem.Claim
import GoSem.ClaimJoined
import GoSem.ClaimMapViews
import Derived.JoinedTies
import Derived.KernelRfl
namespace Go.Proofs.Ytnbccoflcoaoaab
/- THE CELL 'sum', in the pinned program and in every row, IS THE sha256 OF THE DUMP (.gsa) THAT YtnbccoflcoaoaabProg.lean LOADS. Nothing in Lean hashes anything: it is a label: what it is worth is what the hold of that sum in a sandbox is worth. -/
noncomputable def Try.pinned : Pinned := { name := "ytnbccoflcoaoaab", sum := "9e915bff44799395d2d98b36c5e6e5704acf679058ca52de581bcf2f52c635f5", checked := Try.checked }
namespace Rows
def none {H : Type} : Left H := { results := [], args := [] }

/-- 'freightkeep.Split': WHATEVER THE INPUT: true; the input reads as it did. -/
def splitSpec : ChangeSpec := { name := "split", fn := fun _ => fun
  | [d1, d2, d3, d4] => { results := [.lit (.bool true)], args := [d1, d2, d3, d4] }
  | _ => none }
def splitRow : OpenClaim := { program := "ytnbccoflcoaoaab", sum := "9e915bff44799395d2d98b36c5e6e5704acf679058ca52de581bcf2f52c635f5", func := "freight/freightkeep.Split", spec := "split", apart := false }
def SplitSaid : Prop := splitRow.holds Try.pinned (OpenSpec.ofChange splitSpec)

/-- ITS FALSE NEIGHBOUR: 'it returns false'. Refute it at one input. -/
def splitWrong : ChangeSpec := { name := "split", fn := fun _ => fun
  | [d1, d2, d3, d4] => { results := [.lit (.bool false)], args := [d1, d2, d3, d4] }
  | _ => none }
def SplitWrongFalsely : Prop := splitRow.holds Try.pinned (OpenSpec.ofChange splitWrong)

/-- 'freightkeep.Twofold': WHATEVER THE INPUT: true; the input reads as it did. -/
def twofoldSpec : ChangeSpec := { name := "twofold", fn := fun _ => fun
  | [d] => { results := [.lit (.bool true)], args := [d] }
  | _ => none }
def twofoldRow : OpenClaim := { program := "ytnbccoflcoaoaab", sum := "9e915bff44799395d2d98b36c5e6e5704acf679058ca52de581bcf2f52c635f5", func := "freight/freightkeep.Twofold", spec := "twofold", apart := false }
def TwofoldSaid : Prop := twofoldRow.holds Try.pinned (OpenSpec.ofChange twofoldSpec)

/-- ITS FALSE NEIGHBOUR: 'it returns false'. Refute it at one input. -/
def twofoldWrong : ChangeSpec := { name := "twofold", fn := fun _ => fun
  | [d] => { results := [.lit (.bool false)], args := [d] }
  | _ => none }
def TwofoldWrongFalsely : Prop := twofoldRow.holds Try.pinned (OpenSpec.ofChange twofoldWrong)

/-- 'freightkeep.Weak': WHATEVER THE INPUT: true; the input reads as it did. -/
def weakSpec : ChangeSpec := { name := "weak", fn := fun _ => fun
  | [d1, d2, d3, d4] => { results := [.lit (.bool true)], args := [d1, d2, d3, d4] }
  | _ => none }
def weakRow : OpenClaim := { program := "ytnbccoflcoaoaab", sum := "9e915bff44799395d2d98b36c5e6e5704acf679058ca52de581bcf2f52c635f5", func := "freight/freightkeep.Weak", spec := "weak", apart := false }
def WeakSaid : Prop := weakRow.holds Try.pinned (OpenSpec.ofChange weakSpec)

/-- ITS FALSE NEIGHBOUR: 'it returns false'. Refute it at one input. -/
def weakWrong : ChangeSpec := { name := "weak", fn := fun _ => fun
  | [d1, d2, d3, d4] => { results := [.lit (.bool false)], args := [d1, d2, d3, d4] }
  | _ => none }
def WeakWrongFalsely : Prop := weakRow.holds Try.pinned (OpenSpec.ofChange weakWrong)

/-- 'freightkeep.Returned': WHATEVER THE INPUT: true; the input reads as it did. -/
def returnedSpec : ChangeSpec := { name := "returned", fn := fun _ => fun
  | [d1, d2, d3] => { results := [.lit (.bool true)], args := [d1, d2, d3] }
  | _ => none }
def returnedRow : OpenClaim := { program := "ytnbccoflcoaoaab", sum := "9e915bff44799395d2d98b36c5e6e5704acf679058ca52de581bcf2f52c635f5", func := "freight/freightkeep.Returned", spec := "returned", apart := false }
def ReturnedSaid : Prop := returnedRow.holds Try.pinned (OpenSpec.ofChange returnedSpec)

/-- ITS FALSE NEIGHBOUR: 'it returns false'. Refute it at one input. -/
def returnedWrong : ChangeSpec := { name := "returned", fn := fun _ => fun
  | [d1, d2, d3] => { results := [.lit (.bool false)], args := [d1, d2, d3] }
  | _ => none }
def ReturnedWrongFalsely : Prop := returnedRow.holds Try.pinned (OpenSpec.ofChange returnedWrong)

/-- 'freightkeep.Cheapest': WHATEVER THE INPUT: true; the input reads as it did. -/
def cheapestSpec : ChangeSpec := { name := "cheapest", fn := fun _ => fun
  | [d1, d2, d3] => { results := [.lit (.bool true)], args := [d1, d2, d3] }
  | _ => none }
def cheapestRow : OpenClaim := { program := "ytnbccoflcoaoaab", sum := "9e915bff44799395d2d98b36c5e6e5704acf679058ca52de581bcf2f52c635f5", func := "freight/freightkeep.Cheapest", spec := "cheapest", apart := false }
def CheapestSaid : Prop := cheapestRow.holds Try.pinned (OpenSpec.ofChange cheapestSpec)

/-- ITS FALSE NEIGHBOUR: 'it returns false'. Refute it at one input. -/
def cheapestWrong : ChangeSpec := { name := "cheapest", fn := fun _ => fun
  | [d1, d2, d3] => { results := [.lit (.bool false)], args := [d1, d2, d3] }
  | _ => none }
def CheapestWrongFalsely : Prop := cheapestRow.holds Try.pinned (OpenSpec.ofChange cheapestWrong)

/-- 'freightkeep.Bridged': WHATEVER THE INPUT: true; the input reads as it did. -/
def bridgedSpec : ChangeSpec := { name := "bridged", fn := fun _ => fun
  | [d1, d2] => { results := [.lit (.bool true)], args := [d1, d2] }
  | _ => none }
def bridgedRow : OpenClaim := { program := "ytnbccoflcoaoaab", sum := "9e915bff44799395d2d98b36c5e6e5704acf679058ca52de581bcf2f52c635f5", func := "freight/freightkeep.Bridged", spec := "bridged", apart := false }
def BridgedSaid : Prop := bridgedRow.holds Try.pinned (OpenSpec.ofChange bridgedSpec)

/-- ITS FALSE NEIGHBOUR: 'it returns false'. Refute it at one input. -/
def bridgedWrong : ChangeSpec := { name := "bridged", fn := fun _ => fun
  | [d1, d2] => { results := [.lit (.bool false)], args := [d1, d2] }
  | _ => none }
def BridgedWrongFalsely : Prop := bridgedRow.holds Try.pinned (OpenSpec.ofChange bridgedWrong)

/- THE SECOND FORM. 'bulk': how many values and letters a reading holds, each counted each time it is reached (what is shared counts as often as it is met; a slice's spare places count too). A statement '..UptoSaid' is the law's where the arguments, and the package variables that the reading takes, are together of bulk at most 1048576: NARROWER than '..Said'. Prove '..Said' where nothing that the law and all that it calls make is longer than what came in: it says more and counts as full. Else prove '..UptoSaid'. A law counts once. -/
mutual
def uptoBulk {H : Type} : DataW H → Nat
  | .lit (.string bytes) => bytes.length + 1
  | .lit _ => 1
  | .nil => 1
  | .ptr d => uptoBulk d + 1
  | .slice elems spare => uptoBulkAll elems + uptoBulkAll spare + 1
  | .agg parts => uptoBulkAll parts + 1
  | .iface _ d => uptoBulk d + 1
  | .map entries => uptoBulkEntries entries + 1
  | .held _ => 1
def uptoBulkAll {H : Type} : List (DataW H) → Nat
  | [] => 0
  | d :: r => uptoBulk d + uptoBulkAll r
def uptoBulkEntries {H : Type} : List (Lit × DataW H) → Nat
  | [] => 0
  | x :: r => uptoBulkEntry x + uptoBulkEntries r
def uptoBulkEntry {H : Type} : Lit × DataW H → Nat
  | (.string bytes, d) => bytes.length + uptoBulk d + 1
  | (_, d) => uptoBulk d + 1
 end
def uptoSmall : (H : Type) → List (DataW H) → Bool := fun _ ds => decide (uptoBulkAll ds ≤ 1048576)
def OpenSpec.upto (s : _root_.Go.ChangeSpec) : _root_.Go.OpenSpec := { _root_.Go.OpenSpec.ofChange s with cond := some uptoSmall }

/-- 'freightkeep.Split', WHERE WHAT IT READS IS OF BULK AT MOST 1048576: true; the input reads as it did. -/
def splitUptoRow : OpenClaim := { program := "ytnbccoflcoaoaab", sum := "9e915bff44799395d2d98b36c5e6e5704acf679058ca52de581bcf2f52c635f5", func := "freight/freightkeep.Split", spec := "split", apart := false, narrowed := true }
def SplitUptoSaid : Prop := splitUptoRow.holds Try.pinned (OpenSpec.upto splitSpec)

/-- 'freightkeep.Twofold', WHERE WHAT IT READS IS OF BULK AT MOST 1048576: true; the input reads as it did. -/
def twofoldUptoRow : OpenClaim := { program := "ytnbccoflcoaoaab", sum := "9e915bff44799395d2d98b36c5e6e5704acf679058ca52de581bcf2f52c635f5", func := "freight/freightkeep.Twofold", spec := "twofold", apart := false, narrowed := true }
def TwofoldUptoSaid : Prop := twofoldUptoRow.holds Try.pinned (OpenSpec.upto twofoldSpec)

/-- 'freightkeep.Weak', WHERE WHAT IT READS IS OF BULK AT MOST 1048576: true; the input reads as it did. -/
def weakUptoRow : OpenClaim := { program := "ytnbccoflcoaoaab", sum := "9e915bff44799395d2d98b36c5e6e5704acf679058ca52de581bcf2f52c635f5", func := "freight/freightkeep.Weak", spec := "weak", apart := false, narrowed := true }
def WeakUptoSaid : Prop := weakUptoRow.holds Try.pinned (OpenSpec.upto weakSpec)

/-- 'freightkeep.Returned', WHERE WHAT IT READS IS OF BULK AT MOST 1048576: true; the input reads as it did. -/
def returnedUptoRow : OpenClaim := { program := "ytnbccoflcoaoaab", sum := "9e915bff44799395d2d98b36c5e6e5704acf679058ca52de581bcf2f52c635f5", func := "freight/freightkeep.Returned", spec := "returned", apart := false, narrowed := true }
def ReturnedUptoSaid : Prop := returnedUptoRow.holds Try.pinned (OpenSpec.upto returnedSpec)

/-- 'freightkeep.Cheapest', WHERE WHAT IT READS IS OF BULK AT MOST 1048576: true; the input reads as it did. -/
def cheapestUptoRow : OpenClaim := { program := "ytnbccoflcoaoaab", sum := "9e915bff44799395d2d98b36c5e6e5704acf679058ca52de581bcf2f52c635f5", func := "freight/freightkeep.Cheapest", spec := "cheapest", apart := false, narrowed := true }
def CheapestUptoSaid : Prop := cheapestUptoRow.holds Try.pinned (OpenSpec.upto cheapestSpec)

/-- 'freightkeep.Bridged', WHERE WHAT IT READS IS OF BULK AT MOST 1048576: true; the input reads as it did. -/
def bridgedUptoRow : OpenClaim := { program := "ytnbccoflcoaoaab", sum := "9e915bff44799395d2d98b36c5e6e5704acf679058ca52de581bcf2f52c635f5", func := "freight/freightkeep.Bridged", spec := "bridged", apart := false, narrowed := true }
def BridgedUptoSaid : Prop := bridgedUptoRow.holds Try.pinned (OpenSpec.upto bridgedSpec)

end Rows
end Go.Proofs.Ytnbccoflcoaoaab
