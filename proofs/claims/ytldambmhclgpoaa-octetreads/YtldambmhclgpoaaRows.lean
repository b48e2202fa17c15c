/-
  No cell of these rows narrows 'for every input' (looked for: loops, veiled, ifaces, maps, wideKeys, modest, calm, conditions, laid).
  DERIVED. THE GIVEN ROWS OF THIS SEAT. 7 by the template 'for every input the law returns true; each argument reads behind the call as it read before'; 0 by the template 'total and deterministic' (their statements: YtldambmhclgpoaaTotals.lean).
  GIVEN WITH THE SEED: the statements are not yours to turn. If you find one false, say at which input.
  Laid BY PROGRAM, IN A SANDBOX (cutbox-rows.mjs): the forced cells as the released guide's own fill.sh prints them over the translation e6c0bac502dc70c9… (all of the seat's roots in one cut). By AI agents, Wed Nov 11 2026. No macro, syntax, notation, axiom, sorry.
-/
import Derived.Test.YtldambmhclgpoaaChecked
import GoSem.Claim
import GoSem.ClaimJoined
import GoSem.ClaimMapViews
import Derived.JoinedTies
import Derived.KernelRfl
namespace Go.Proofs.Ytldambmhclgpoaa
/- THE CELL 'sum', in the pinned program and in every row, IS THE sha256 OF THE DUMP (.gsa) THAT YtldambmhclgpoaaProg.lean LOADS. Nothing in Lean hashes anything: it is a label: what it is worth is what the hold of that sum in a sandbox is worth. -/
noncomputable def Try.pinned : Pinned := { name := "ytldambmhclgpoaa", sum := "e6c0bac502dc70c99013fa5e05b4646f1fc3de1d3ef6e990961e3a3b42179b40", checked := Try.checked }
namespace Rows
def none {H : Type} : Left H := { results := [], args := [] }

/-- 'portmanteaulaw01.OctetPuts': WHATEVER THE INPUT: true; the input reads as it did. -/
def octetPutsSpec : ChangeSpec := { name := "octetPuts", fn := fun _ => fun
  | [d1, d2, d3, d4, d5] => { results := [.lit (.bool true)], args := [d1, d2, d3, d4, d5] }
  | _ => none }
def octetPutsRow : OpenClaim := { program := "ytldambmhclgpoaa", sum := "e6c0bac502dc70c99013fa5e05b4646f1fc3de1d3ef6e990961e3a3b42179b40", func := "portmanteau/portmanteaulaw01.OctetPuts", spec := "octetPuts", recurses := true, apart := false }
def OctetPutsSaid : Prop := octetPutsRow.holds Try.pinned (OpenSpec.ofChange octetPutsSpec)

/-- ITS FALSE NEIGHBOUR: 'it returns false'. Refute it at one input. -/
def octetPutsWrong : ChangeSpec := { name := "octetPuts", fn := fun _ => fun
  | [d1, d2, d3, d4, d5] => { results := [.lit (.bool false)], args := [d1, d2, d3, d4, d5] }
  | _ => none }
def OctetPutsWrongFalsely : Prop := octetPutsRow.holds Try.pinned (OpenSpec.ofChange octetPutsWrong)

/-- 'portmanteaulaw01.OctetReads': WHATEVER THE INPUT: true; the input reads as it did. -/
def octetReadsSpec : ChangeSpec := { name := "octetReads", fn := fun _ => fun
  | [d1, d2] => { results := [.lit (.bool true)], args := [d1, d2] }
  | _ => none }
def octetReadsRow : OpenClaim := { program := "ytldambmhclgpoaa", sum := "e6c0bac502dc70c99013fa5e05b4646f1fc3de1d3ef6e990961e3a3b42179b40", func := "portmanteau/portmanteaulaw01.OctetReads", spec := "octetReads", apart := false }
def OctetReadsSaid : Prop := octetReadsRow.holds Try.pinned (OpenSpec.ofChange octetReadsSpec)

/-- ITS FALSE NEIGHBOUR: 'it returns false'. Refute it at one input. -/
def octetReadsWrong : ChangeSpec := { name := "octetReads", fn := fun _ => fun
  | [d1, d2] => { results := [.lit (.bool false)], args := [d1, d2] }
  | _ => none }
def OctetReadsWrongFalsely : Prop := octetReadsRow.holds Try.pinned (OpenSpec.ofChange octetReadsWrong)

/-- 'portmanteaulaw01.OctetLists': WHATEVER THE INPUT: true; the input reads as it did. -/
def octetListsSpec : ChangeSpec := { name := "octetLists", fn := fun _ => fun
  | [d1, d2] => { results := [.lit (.bool true)], args := [d1, d2] }
  | _ => none }
def octetListsRow : OpenClaim := { program := "ytldambmhclgpoaa", sum := "e6c0bac502dc70c99013fa5e05b4646f1fc3de1d3ef6e990961e3a3b42179b40", func := "portmanteau/portmanteaulaw01.OctetLists", spec := "octetLists", unfollowed := true, recurses := true, apart := false }
def OctetListsSaid : Prop := octetListsRow.holds Try.pinned (OpenSpec.ofChange octetListsSpec)

/-- ITS FALSE NEIGHBOUR: 'it returns false'. Refute it at one input. -/
def octetListsWrong : ChangeSpec := { name := "octetLists", fn := fun _ => fun
  | [d1, d2] => { results := [.lit (.bool false)], args := [d1, d2] }
  | _ => none }
def OctetListsWrongFalsely : Prop := octetListsRow.holds Try.pinned (OpenSpec.ofChange octetListsWrong)

/-- 'portmanteaulaw01.OctetOne': WHATEVER THE INPUT: true; the input reads as it did. -/
def octetOneSpec : ChangeSpec := { name := "octetOne", fn := fun _ => fun
  | [d] => { results := [.lit (.bool true)], args := [d] }
  | _ => none }
def octetOneRow : OpenClaim := { program := "ytldambmhclgpoaa", sum := "e6c0bac502dc70c99013fa5e05b4646f1fc3de1d3ef6e990961e3a3b42179b40", func := "portmanteau/portmanteaulaw01.OctetOne", spec := "octetOne", apart := false }
def OctetOneSaid : Prop := octetOneRow.holds Try.pinned (OpenSpec.ofChange octetOneSpec)

/-- ITS FALSE NEIGHBOUR: 'it returns false'. Refute it at one input. -/
def octetOneWrong : ChangeSpec := { name := "octetOne", fn := fun _ => fun
  | [d] => { results := [.lit (.bool false)], args := [d] }
  | _ => none }
def OctetOneWrongFalsely : Prop := octetOneRow.holds Try.pinned (OpenSpec.ofChange octetOneWrong)

/-- 'portmanteaulaw01.OctetNobody': WHATEVER THE INPUT: true; the input reads as it did. -/
def octetNobodySpec : ChangeSpec := { name := "octetNobody", fn := fun _ => fun
  | [d] => { results := [.lit (.bool true)], args := [d] }
  | _ => none }
def octetNobodyRow : OpenClaim := { program := "ytldambmhclgpoaa", sum := "e6c0bac502dc70c99013fa5e05b4646f1fc3de1d3ef6e990961e3a3b42179b40", func := "portmanteau/portmanteaulaw01.OctetNobody", spec := "octetNobody", unfollowed := true, recurses := true, apart := false }
def OctetNobodySaid : Prop := octetNobodyRow.holds Try.pinned (OpenSpec.ofChange octetNobodySpec)

/-- ITS FALSE NEIGHBOUR: 'it returns false'. Refute it at one input. -/
def octetNobodyWrong : ChangeSpec := { name := "octetNobody", fn := fun _ => fun
  | [d] => { results := [.lit (.bool false)], args := [d] }
  | _ => none }
def OctetNobodyWrongFalsely : Prop := octetNobodyRow.holds Try.pinned (OpenSpec.ofChange octetNobodyWrong)

/-- 'portmanteaulaw01.OctetFixes': WHATEVER THE INPUT: true; the input reads as it did. -/
def octetFixesSpec : ChangeSpec := { name := "octetFixes", fn := fun _ => fun
  | [d1, d2] => { results := [.lit (.bool true)], args := [d1, d2] }
  | _ => none }
def octetFixesRow : OpenClaim := { program := "ytldambmhclgpoaa", sum := "e6c0bac502dc70c99013fa5e05b4646f1fc3de1d3ef6e990961e3a3b42179b40", func := "portmanteau/portmanteaulaw01.OctetFixes", spec := "octetFixes", apart := false }
def OctetFixesSaid : Prop := octetFixesRow.holds Try.pinned (OpenSpec.ofChange octetFixesSpec)

/-- ITS FALSE NEIGHBOUR: 'it returns false'. Refute it at one input. -/
def octetFixesWrong : ChangeSpec := { name := "octetFixes", fn := fun _ => fun
  | [d1, d2] => { results := [.lit (.bool false)], args := [d1, d2] }
  | _ => none }
def OctetFixesWrongFalsely : Prop := octetFixesRow.holds Try.pinned (OpenSpec.ofChange octetFixesWrong)

/-- 'portmanteaulaw01.OctetWidths': WHATEVER THE INPUT: true; the input reads as it did. -/
def octetWidthsSpec : ChangeSpec := { name := "octetWidths", fn := fun _ => fun
  | [d] => { results := [.lit (.bool true)], args := [d] }
  | _ => none }
def octetWidthsRow : OpenClaim := { program := "ytldambmhclgpoaa", sum := "e6c0bac502dc70c99013fa5e05b4646f1fc3de1d3ef6e990961e3a3b42179b40", func := "portmanteau/portmanteaulaw01.OctetWidths", spec := "octetWidths", apart := false }
def OctetWidthsSaid : Prop := octetWidthsRow.holds Try.pinned (OpenSpec.ofChange octetWidthsSpec)

/-- ITS FALSE NEIGHBOUR: 'it returns false'. Refute it at one input. -/
def octetWidthsWrong : ChangeSpec := { name := "octetWidths", fn := fun _ => fun
  | [d] => { results := [.lit (.bool false)], args := [d] }
  | _ => none }
def OctetWidthsWrongFalsely : Prop := octetWidthsRow.holds Try.pinned (OpenSpec.ofChange octetWidthsWrong)

/- THE SECOND FORM. 'bulk': how many values and letters a reading holds, each counted each time it is reached (what is shared counts as often as it is met; a slice's spare places count too). A statement '..UptoSaid' is the law's where the arguments, and the package variables that the reading takes, are together of bulk at most 1048576: NARROWER than '..Said'. Prove '..Said' where nothing that the law and all that it calls make is longer than what came in: it says more and counts as full. Else prove '..UptoSaid'. A law counts once. -/
mutual
def uptoBulk {H : Type} : DataW H → Nat
  | .lit (.string bytes) => bytes.length + 1
  | .lit _ => 1
  | .nil => 1
  | .ptr d => uptoBulk d + 1
  | .slice elems spare => uptoBulkAll elems + uptoBulkAll spare + 1
  | .agg parts => uptoBulkAll parts + 1
  | .iface _ d => uptoBulk d + 1
  | .map entries => uptoBulkEntries entries + 1
  | .held _ => 1
def uptoBulkAll {H : Type} : List (DataW H) → Nat
  | [] => 0
  | d :: r => uptoBulk d + uptoBulkAll r
def uptoBulkEntries {H : Type} : List (Lit × DataW H) → Nat
  | [] => 0
  | x :: r => uptoBulkEntry x + uptoBulkEntries r
def uptoBulkEntry {H : Type} : Lit × DataW H → Nat
  | (.string bytes, d) => bytes.length + uptoBulk d + 1
  | (_, d) => uptoBulk d + 1
 end
def uptoSmall : (H : Type) → List (DataW H) → Bool := fun _ ds => decide (uptoBulkAll ds ≤ 1048576)
def OpenSpec.upto (s : _root_.Go.ChangeSpec) : _root_.Go.OpenSpec := { _root_.Go.OpenSpec.ofChange s with cond := some uptoSmall }

/-- 'portmanteaulaw01.OctetPuts', WHERE WHAT IT READS IS OF BULK AT MOST 1048576: true; the input reads as it did. -/
def octetPutsUptoRow : OpenClaim := { program := "ytldambmhclgpoaa", sum := "e6c0bac502dc70c99013fa5e05b4646f1fc3de1d3ef6e990961e3a3b42179b40", func := "portmanteau/portmanteaulaw01.OctetPuts", spec := "octetPuts", recurses := true, apart := false, narrowed := true }
def OctetPutsUptoSaid : Prop := octetPutsUptoRow.holds Try.pinned (OpenSpec.upto octetPutsSpec)

/-- 'portmanteaulaw01.OctetReads', WHERE WHAT IT READS IS OF BULK AT MOST 1048576: true; the input reads as it did. -/
def octetReadsUptoRow : OpenClaim := { program := "ytldambmhclgpoaa", sum := "e6c0bac502dc70c99013fa5e05b4646f1fc3de1d3ef6e990961e3a3b42179b40", func := "portmanteau/portmanteaulaw01.OctetReads", spec := "octetReads", apart := false, narrowed := true }
def OctetReadsUptoSaid : Prop := octetReadsUptoRow.holds Try.pinned (OpenSpec.upto octetReadsSpec)

/-- 'portmanteaulaw01.OctetLists', WHERE WHAT IT READS IS OF BULK AT MOST 1048576: true; the input reads as it did. -/
def octetListsUptoRow : OpenClaim := { program := "ytldambmhclgpoaa", sum := "e6c0bac502dc70c99013fa5e05b4646f1fc3de1d3ef6e990961e3a3b42179b40", func := "portmanteau/portmanteaulaw01.OctetLists", spec := "octetLists", unfollowed := true, recurses := true, apart := false, narrowed := true }
def OctetListsUptoSaid : Prop := octetListsUptoRow.holds Try.pinned (OpenSpec.upto octetListsSpec)

/-- 'portmanteaulaw01.OctetOne', WHERE WHAT IT READS IS OF BULK AT MOST 1048576: true; the input reads as it did. -/
def octetOneUptoRow : OpenClaim := { program := "ytldambmhclgpoaa", sum := "e6c0bac502dc70c99013fa5e05b4646f1fc3de1d3ef6e990961e3a3b42179b40", func := "portmanteau/portmanteaulaw01.OctetOne", spec := "octetOne", apart := false, narrowed := true }
def OctetOneUptoSaid : Prop := octetOneUptoRow.holds Try.pinned (OpenSpec.upto octetOneSpec)

/-- 'portmanteaulaw01.OctetNobody', WHERE WHAT IT READS IS OF BULK AT MOST 1048576: true; the input reads as it did. -/
def octetNobodyUptoRow : OpenClaim := { program := "ytldambmhclgpoaa", sum := "e6c0bac502dc70c99013fa5e05b4646f1fc3de1d3ef6e990961e3a3b42179b40", func := "portmanteau/portmanteaulaw01.OctetNobody", spec := "octetNobody", unfollowed := true, recurses := true, apart := false, narrowed := true }
def OctetNobodyUptoSaid : Prop := octetNobodyUptoRow.holds Try.pinned (OpenSpec.upto octetNobodySpec)

/-- 'portmanteaulaw01.OctetFixes', WHERE WHAT IT READS IS OF BULK AT MOST 1048576: true; the input reads as it did. -/
def octetFixesUptoRow : OpenClaim := { program := "ytldambmhclgpoaa", sum := "e6c0bac502dc70c99013fa5e05b4646f1fc3de1d3ef6e990961e3a3b42179b40", func := "portmanteau/portmanteaulaw01.OctetFixes", spec := "octetFixes", apart := false, narrowed := true }
def OctetFixesUptoSaid : Prop := octetFixesUptoRow.holds Try.pinned (OpenSpec.upto octetFixesSpec)

/-- 'portmanteaulaw01.OctetWidths', WHERE WHAT IT READS IS OF BULK AT MOST 1048576: true; the input reads as it did. -/
def octetWidthsUptoRow : OpenClaim := { program := "ytldambmhclgpoaa", sum := "e6c0bac502dc70c99013fa5e05b4646f1fc3de1d3ef6e990961e3a3b42179b40", func := "portmanteau/portmanteaulaw01.OctetWidths", spec := "octetWidths", apart := false, narrowed := true }
def OctetWidthsUptoSaid : Prop := octetWidthsUptoRow.holds Try.pinned (OpenSpec.upto octetWidthsSpec)

end Rows
end Go.Proofs.Ytldambmhclgpoaa
