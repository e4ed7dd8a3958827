/-
  No cell of these rows narrows 'for every input' (looked for: loops, veiled, ifaces, maps, wideKeys, modest, calm, conditions, laid).
  DERIVED. THE GIVEN ROWS OF THIS SEAT. 5 by the template 'for every input the law returns true; each argument reads behind the call as it read before'; 0 by the template 'total and deterministic' (their statements: YtojiemadoogjlaaTotals.lean).
  GIVEN WITH THE SEED: the statements are not yours to turn. If you find one false, say at which input.
  Laid BY PROGRAM, IN A SANDBOX (cutbox-rows.mjs): the forced cells as the released guide's own fill.sh prints them over the translation dd3be341083a5b2f… (all of the seat's roots in one cut). By AI agents, Wed Nov 11 2026. No macro, syntax, notation, axiom, sorry.
-/
import Derived.Test.YtojiemadoogjlaaChecked
import GoSem.Claim
import GoSem.ClaimJoined
import GoSem.ClaimMapViews
import Derived.JoinedTies
import Derived.KernelRfl
namespace Go.Proofs.Ytojiemadoogjlaa
/- THE CELL 'sum', in the pinned program and in every row, IS THE sha256 OF THE DUMP (.gsa) THAT YtojiemadoogjlaaProg.lean LOADS. Nothing in Lean hashes anything: it is a label: what it is worth is what the hold of that sum in a sandbox is worth. -/
noncomputable def Try.pinned : Pinned := { name := "ytojiemadoogjlaa", sum := "dd3be341083a5b2f1e69d4f7940d2fc9cba347badd05c3ecdad260665a1eb691", checked := Try.checked }
namespace Rows
def none {H : Type} : Left H := { results := [], args := [] }

/-- 'freightlaw.Checks': WHATEVER THE INPUT: true; the input reads as it did. -/
def checksSpec : ChangeSpec := { name := "checks", fn := fun _ => fun
  | [d] => { results := [.lit (.bool true)], args := [d] }
  | _ => none }
def checksRow : OpenClaim := { program := "ytojiemadoogjlaa", sum := "dd3be341083a5b2f1e69d4f7940d2fc9cba347badd05c3ecdad260665a1eb691", func := "freight/freightlaw.Checks", spec := "checks", apart := false }
def ChecksSaid : Prop := checksRow.holds Try.pinned (OpenSpec.ofChange checksSpec)

/-- ITS FALSE NEIGHBOUR: 'it returns false'. Refute it at one input. -/
def checksWrong : ChangeSpec := { name := "checks", fn := fun _ => fun
  | [d] => { results := [.lit (.bool false)], args := [d] }
  | _ => none }
def ChecksWrongFalsely : Prop := checksRow.holds Try.pinned (OpenSpec.ofChange checksWrong)

/-- 'freightlaw.Costs': WHATEVER THE INPUT: true; the input reads as it did. -/
def costsSpec : ChangeSpec := { name := "costs", fn := fun _ => fun
  | [d1, d2] => { results := [.lit (.bool true)], args := [d1, d2] }
  | _ => none }
def costsRow : OpenClaim := { program := "ytojiemadoogjlaa", sum := "dd3be341083a5b2f1e69d4f7940d2fc9cba347badd05c3ecdad260665a1eb691", func := "freight/freightlaw.Costs", spec := "costs", apart := false }
def CostsSaid : Prop := costsRow.holds Try.pinned (OpenSpec.ofChange costsSpec)

/-- ITS FALSE NEIGHBOUR: 'it returns false'. Refute it at one input. -/
def costsWrong : ChangeSpec := { name := "costs", fn := fun _ => fun
  | [d1, d2] => { results := [.lit (.bool false)], args := [d1, d2] }
  | _ => none }
def CostsWrongFalsely : Prop := costsRow.holds Try.pinned (OpenSpec.ofChange costsWrong)

/-- 'freightlaw.Accepts': WHATEVER THE INPUT: true; the input reads as it did. -/
def acceptsSpec : ChangeSpec := { name := "accepts", fn := fun _ => fun
  | [d1, d2] => { results := [.lit (.bool true)], args := [d1, d2] }
  | _ => none }
def acceptsRow : OpenClaim := { program := "ytojiemadoogjlaa", sum := "dd3be341083a5b2f1e69d4f7940d2fc9cba347badd05c3ecdad260665a1eb691", func := "freight/freightlaw.Accepts", spec := "accepts", apart := false }
def AcceptsSaid : Prop := acceptsRow.holds Try.pinned (OpenSpec.ofChange acceptsSpec)

/-- ITS FALSE NEIGHBOUR: 'it returns false'. Refute it at one input. -/
def acceptsWrong : ChangeSpec := { name := "accepts", fn := fun _ => fun
  | [d1, d2] => { results := [.lit (.bool false)], args := [d1, d2] }
  | _ => none }
def AcceptsWrongFalsely : Prop := acceptsRow.holds Try.pinned (OpenSpec.ofChange acceptsWrong)

/-- 'freightlaw.Somes': WHATEVER THE INPUT: true; the input reads as it did. -/
def somesSpec : ChangeSpec := { name := "somes", fn := fun _ => fun
  | [d] => { results := [.lit (.bool true)], args := [d] }
  | _ => none }
def somesRow : OpenClaim := { program := "ytojiemadoogjlaa", sum := "dd3be341083a5b2f1e69d4f7940d2fc9cba347badd05c3ecdad260665a1eb691", func := "freight/freightlaw.Somes", spec := "somes", apart := false }
def SomesSaid : Prop := somesRow.holds Try.pinned (OpenSpec.ofChange somesSpec)

/-- ITS FALSE NEIGHBOUR: 'it returns false'. Refute it at one input. -/
def somesWrong : ChangeSpec := { name := "somes", fn := fun _ => fun
  | [d] => { results := [.lit (.bool false)], args := [d] }
  | _ => none }
def SomesWrongFalsely : Prop := somesRow.holds Try.pinned (OpenSpec.ofChange somesWrong)

/-- 'freightkeep.Sound': WHATEVER THE INPUT: true; the input reads as it did. -/
def soundSpec : ChangeSpec := { name := "sound", fn := fun _ => fun
  | [d1, d2, d3] => { results := [.lit (.bool true)], args := [d1, d2, d3] }
  | _ => none }
def soundRow : OpenClaim := { program := "ytojiemadoogjlaa", sum := "dd3be341083a5b2f1e69d4f7940d2fc9cba347badd05c3ecdad260665a1eb691", func := "freight/freightkeep.Sound", spec := "sound", apart := false }
def SoundSaid : Prop := soundRow.holds Try.pinned (OpenSpec.ofChange soundSpec)

/-- ITS FALSE NEIGHBOUR: 'it returns false'. Refute it at one input. -/
def soundWrong : ChangeSpec := { name := "sound", fn := fun _ => fun
  | [d1, d2, d3] => { results := [.lit (.bool false)], args := [d1, d2, d3] }
  | _ => none }
def SoundWrongFalsely : Prop := soundRow.holds Try.pinned (OpenSpec.ofChange soundWrong)

/- THE SECOND FORM. 'bulk': how many values and letters a reading holds, each counted each time it is reached (what is shared counts as often as it is met; a slice's spare places count too). A statement '..UptoSaid' is the law's where the arguments, and the package variables that the reading takes, are together of bulk at most 1048576: NARROWER than '..Said'. Prove '..Said' where nothing that the law and all that it calls make is longer than what came in: it says more and counts as full. Else prove '..UptoSaid'. A law counts once. -/
mutual
def uptoBulk {H : Type} : DataW H → Nat
  | .lit (.string bytes) => bytes.length + 1
  | .lit _ => 1
  | .nil => 1
  | .ptr d => uptoBulk d + 1
  | .slice elems spare => uptoBulkAll elems + uptoBulkAll spare + 1
  | .agg parts => uptoBulkAll parts + 1
  | .iface _ d => uptoBulk d + 1
  | .map entries => uptoBulkEntries entries + 1
  | .held _ => 1
def uptoBulkAll {H : Type} : List (DataW H) → Nat
  | [] => 0
  | d :: r => uptoBulk d + uptoBulkAll r
def uptoBulkEntries {H : Type} : List (Lit × DataW H) → Nat
  | [] => 0
  | x :: r => uptoBulkEntry x + uptoBulkEntries r
def uptoBulkEntry {H : Type} : Lit × DataW H → Nat
  | (.string bytes, d) => bytes.length + uptoBulk d + 1
  | (_, d) => uptoBulk d + 1
 end
def uptoSmall : (H : Type) → List (DataW H) → Bool := fun _ ds => decide (uptoBulkAll ds ≤ 1048576)
def OpenSpec.upto (s : _root_.Go.ChangeSpec) : _root_.Go.OpenSpec := { _root_.Go.OpenSpec.ofChange s with cond := some uptoSmall }

/-- 'freightlaw.Checks', WHERE WHAT IT READS IS OF BULK AT MOST 1048576: true; the input reads as it did. -/
def checksUptoRow : OpenClaim := { program := "ytojiemadoogjlaa", sum := "dd3be341083a5b2f1e69d4f7940d2fc9cba347badd05c3ecdad260665a1eb691", func := "freight/freightlaw.Checks", spec := "checks", apart := false, narrowed := true }
def ChecksUptoSaid : Prop := checksUptoRow.holds Try.pinned (OpenSpec.upto checksSpec)

/-- 'freightlaw.Costs', WHERE WHAT IT READS IS OF BULK AT MOST 1048576: true; the input reads as it did. -/
def costsUptoRow : OpenClaim := { program := "ytojiemadoogjlaa", sum := "dd3be341083a5b2f1e69d4f7940d2fc9cba347badd05c3ecdad260665a1eb691", func := "freight/freightlaw.Costs", spec := "costs", apart := false, narrowed := true }
def CostsUptoSaid : Prop := costsUptoRow.holds Try.pinned (OpenSpec.upto costsSpec)

/-- 'freightlaw.Accepts', WHERE WHAT IT READS IS OF BULK AT MOST 1048576: true; the input reads as it did. -/
def acceptsUptoRow : OpenClaim := { program := "ytojiemadoogjlaa", sum := "dd3be341083a5b2f1e69d4f7940d2fc9cba347badd05c3ecdad260665a1eb691", func := "freight/freightlaw.Accepts", spec := "accepts", apart := false, narrowed := true }
def AcceptsUptoSaid : Prop := acceptsUptoRow.holds Try.pinned (OpenSpec.upto acceptsSpec)

/-- 'freightlaw.Somes', WHERE WHAT IT READS IS OF BULK AT MOST 1048576: true; the input reads as it did. -/
def somesUptoRow : OpenClaim := { program := "ytojiemadoogjlaa", sum := "dd3be341083a5b2f1e69d4f7940d2fc9cba347badd05c3ecdad260665a1eb691", func := "freight/freightlaw.Somes", spec := "somes", apart := false, narrowed := true }
def SomesUptoSaid : Prop := somesUptoRow.holds Try.pinned (OpenSpec.upto somesSpec)

/-- 'freightkeep.Sound', WHERE WHAT IT READS IS OF BULK AT MOST 1048576: true; the input reads as it did. -/
def soundUptoRow : OpenClaim := { program := "ytojiemadoogjlaa", sum := "dd3be341083a5b2f1e69d4f7940d2fc9cba347badd05c3ecdad260665a1eb691", func := "freight/freightkeep.Sound", spec := "sound", apart := false, narrowed := true }
def SoundUptoSaid : Prop := soundUptoRow.holds Try.pinned (OpenSpec.upto soundSpec)

end Rows
end Go.Proofs.Ytojiemadoogjlaa
