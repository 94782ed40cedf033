/-
  No cell of these rows narrows 'for every input' (looked for: loops, veiled, ifaces, maps, wideKeys, modest, calm, conditions, laid).
  DERIVED. THE GIVEN ROWS OF THIS SEAT. 5 by the template 'for every input the law returns true; each argument reads behind the call as it read before'; 0 by the template 'total and deterministic' (their statements: YtnfipfgbckbaeaaTotals.lean).
  GIVEN WITH THE SEED: the statements are not yours to turn. If you find one false, say at which input.
  Laid BY PROGRAM, IN A SANDBOX (cutbox-rows.mjs): the forced cells as the released guide's own fill.sh prints them over the translation db8d4c6711ff0fdc… (all of the seat's roots in one cut). By AI agents, Wed Nov 11 2026. No macro, syntax, notation, axiom, sorry.
-/
import Derived.Test.YtnfipfgbckbaeaaChecked
import GoSem.Claim
import GoSem.ClaimJoined
import GoSem.ClaimMapViews
import Derived.JoinedTies
import Derived.KernelRfl
namespace Go.Proofs.Ytnfipfgbckbaeaa
/- THE CELL 'sum', in the pinned program and in every row, IS THE sha256 OF THE DUMP (.gsa) THAT YtnfipfgbckbaeaaProg.lean LOADS. Nothing in Lean hashes anything: it is a label: what it is worth is what the hold of that sum in a sandbox is worth. -/
noncomputable def Try.pinned : Pinned := { name := "ytnfipfgbckbaeaa", sum := "db8d4c6711ff0fdc2dd6200aba164d5f4461da598917b6939397beeaa97edde4", checked := Try.checked }
namespace Rows
def none {H : Type} : Left H := { results := [], args := [] }

/-- 'calliperlaw06.CmdPuts': WHATEVER THE INPUT: true; the input reads as it did. -/
def cmdPutsSpec : ChangeSpec := { name := "cmdPuts", fn := fun _ => fun
  | [d1, d2] => { results := [.lit (.bool true)], args := [d1, d2] }
  | _ => none }
def cmdPutsRow : OpenClaim := { program := "ytnfipfgbckbaeaa", sum := "db8d4c6711ff0fdc2dd6200aba164d5f4461da598917b6939397beeaa97edde4", func := "calliper/calliperlaw06.CmdPuts", spec := "cmdPuts", apart := false }
def CmdPutsSaid : Prop := cmdPutsRow.holds Try.pinned (OpenSpec.ofChange cmdPutsSpec)

/-- ITS FALSE NEIGHBOUR: 'it returns false'. Refute it at one input. -/
def cmdPutsWrong : ChangeSpec := { name := "cmdPuts", fn := fun _ => fun
  | [d1, d2] => { results := [.lit (.bool false)], args := [d1, d2] }
  | _ => none }
def CmdPutsWrongFalsely : Prop := cmdPutsRow.holds Try.pinned (OpenSpec.ofChange cmdPutsWrong)

/-- 'calliperlaw06.CmdTakes': WHATEVER THE INPUT: true; the input reads as it did. -/
def cmdTakesSpec : ChangeSpec := { name := "cmdTakes", fn := fun _ => fun
  | [d] => { results := [.lit (.bool true)], args := [d] }
  | _ => none }
def cmdTakesRow : OpenClaim := { program := "ytnfipfgbckbaeaa", sum := "db8d4c6711ff0fdc2dd6200aba164d5f4461da598917b6939397beeaa97edde4", func := "calliper/calliperlaw06.CmdTakes", spec := "cmdTakes", apart := false }
def CmdTakesSaid : Prop := cmdTakesRow.holds Try.pinned (OpenSpec.ofChange cmdTakesSpec)

/-- ITS FALSE NEIGHBOUR: 'it returns false'. Refute it at one input. -/
def cmdTakesWrong : ChangeSpec := { name := "cmdTakes", fn := fun _ => fun
  | [d] => { results := [.lit (.bool false)], args := [d] }
  | _ => none }
def CmdTakesWrongFalsely : Prop := cmdTakesRow.holds Try.pinned (OpenSpec.ofChange cmdTakesWrong)

/-- 'calliperlaw06.CmdBack': WHATEVER THE INPUT: true; the input reads as it did. -/
def cmdBackSpec : ChangeSpec := { name := "cmdBack", fn := fun _ => fun
  | [d1, d2, d3] => { results := [.lit (.bool true)], args := [d1, d2, d3] }
  | _ => none }
def cmdBackRow : OpenClaim := { program := "ytnfipfgbckbaeaa", sum := "db8d4c6711ff0fdc2dd6200aba164d5f4461da598917b6939397beeaa97edde4", func := "calliper/calliperlaw06.CmdBack", spec := "cmdBack", apart := false }
def CmdBackSaid : Prop := cmdBackRow.holds Try.pinned (OpenSpec.ofChange cmdBackSpec)

/-- ITS FALSE NEIGHBOUR: 'it returns false'. Refute it at one input. -/
def cmdBackWrong : ChangeSpec := { name := "cmdBack", fn := fun _ => fun
  | [d1, d2, d3] => { results := [.lit (.bool false)], args := [d1, d2, d3] }
  | _ => none }
def CmdBackWrongFalsely : Prop := cmdBackRow.holds Try.pinned (OpenSpec.ofChange cmdBackWrong)

/-- 'calliperlaw06.CmdOnce': WHATEVER THE INPUT: true; the input reads as it did. -/
def cmdOnceSpec : ChangeSpec := { name := "cmdOnce", fn := fun _ => fun
  | [d] => { results := [.lit (.bool true)], args := [d] }
  | _ => none }
def cmdOnceRow : OpenClaim := { program := "ytnfipfgbckbaeaa", sum := "db8d4c6711ff0fdc2dd6200aba164d5f4461da598917b6939397beeaa97edde4", func := "calliper/calliperlaw06.CmdOnce", spec := "cmdOnce", apart := false }
def CmdOnceSaid : Prop := cmdOnceRow.holds Try.pinned (OpenSpec.ofChange cmdOnceSpec)

/-- ITS FALSE NEIGHBOUR: 'it returns false'. Refute it at one input. -/
def cmdOnceWrong : ChangeSpec := { name := "cmdOnce", fn := fun _ => fun
  | [d] => { results := [.lit (.bool false)], args := [d] }
  | _ => none }
def CmdOnceWrongFalsely : Prop := cmdOnceRow.holds Try.pinned (OpenSpec.ofChange cmdOnceWrong)

/-- 'calliperlaw06.CmdShape': WHATEVER THE INPUT: true; the input reads as it did. -/
def cmdShapeSpec : ChangeSpec := { name := "cmdShape", fn := fun _ => fun
  | [d1, d2, d3, d4, d5] => { results := [.lit (.bool true)], args := [d1, d2, d3, d4, d5] }
  | _ => none }
def cmdShapeRow : OpenClaim := { program := "ytnfipfgbckbaeaa", sum := "db8d4c6711ff0fdc2dd6200aba164d5f4461da598917b6939397beeaa97edde4", func := "calliper/calliperlaw06.CmdShape", spec := "cmdShape", unfollowed := true, recurses := true, apart := false }
def CmdShapeSaid : Prop := cmdShapeRow.holds Try.pinned (OpenSpec.ofChange cmdShapeSpec)

/-- ITS FALSE NEIGHBOUR: 'it returns false'. Refute it at one input. -/
def cmdShapeWrong : ChangeSpec := { name := "cmdShape", fn := fun _ => fun
  | [d1, d2, d3, d4, d5] => { results := [.lit (.bool false)], args := [d1, d2, d3, d4, d5] }
  | _ => none }
def CmdShapeWrongFalsely : Prop := cmdShapeRow.holds Try.pinned (OpenSpec.ofChange cmdShapeWrong)

/- THE SECOND FORM. 'bulk': how many values and letters a reading holds, each counted each time it is reached (what is shared counts as often as it is met; a slice's spare places count too). A statement '..UptoSaid' is the law's where the arguments, and the package variables that the reading takes, are together of bulk at most 1048576: NARROWER than '..Said'. Prove '..Said' where nothing that the law and all that it calls make is longer than what came in: it says more and counts as full. Else prove '..UptoSaid'. A law counts once. -/
mutual
def uptoBulk {H : Type} : DataW H → Nat
  | .lit (.string bytes) => bytes.length + 1
  | .lit _ => 1
  | .nil => 1
  | .ptr d => uptoBulk d + 1
  | .slice elems spare => uptoBulkAll elems + uptoBulkAll spare + 1
  | .agg parts => uptoBulkAll parts + 1
  | .iface _ d => uptoBulk d + 1
  | .map entries => uptoBulkEntries entries + 1
  | .held _ => 1
def uptoBulkAll {H : Type} : List (DataW H) → Nat
  | [] => 0
  | d :: r => uptoBulk d + uptoBulkAll r
def uptoBulkEntries {H : Type} : List (Lit × DataW H) → Nat
  | [] => 0
  | x :: r => uptoBulkEntry x + uptoBulkEntries r
def uptoBulkEntry {H : Type} : Lit × DataW H → Nat
  | (.string bytes, d) => bytes.length + uptoBulk d + 1
  | (_, d) => uptoBulk d + 1
 end
def uptoSmall : (H : Type) → List (DataW H) → Bool := fun _ ds => decide (uptoBulkAll ds ≤ 1048576)
def OpenSpec.upto (s : _root_.Go.ChangeSpec) : _root_.Go.OpenSpec := { _root_.Go.OpenSpec.ofChange s with cond := some uptoSmall }

/-- 'calliperlaw06.CmdPuts', WHERE WHAT IT READS IS OF BULK AT MOST 1048576: true; the input reads as it did. -/
def cmdPutsUptoRow : OpenClaim := { program := "ytnfipfgbckbaeaa", sum := "db8d4c6711ff0fdc2dd6200aba164d5f4461da598917b6939397beeaa97edde4", func := "calliper/calliperlaw06.CmdPuts", spec := "cmdPuts", apart := false, narrowed := true }
def CmdPutsUptoSaid : Prop := cmdPutsUptoRow.holds Try.pinned (OpenSpec.upto cmdPutsSpec)

/-- 'calliperlaw06.CmdTakes', WHERE WHAT IT READS IS OF BULK AT MOST 1048576: true; the input reads as it did. -/
def cmdTakesUptoRow : OpenClaim := { program := "ytnfipfgbckbaeaa", sum := "db8d4c6711ff0fdc2dd6200aba164d5f4461da598917b6939397beeaa97edde4", func := "calliper/calliperlaw06.CmdTakes", spec := "cmdTakes", apart := false, narrowed := true }
def CmdTakesUptoSaid : Prop := cmdTakesUptoRow.holds Try.pinned (OpenSpec.upto cmdTakesSpec)

/-- 'calliperlaw06.CmdBack', WHERE WHAT IT READS IS OF BULK AT MOST 1048576: true; the input reads as it did. -/
def cmdBackUptoRow : OpenClaim := { program := "ytnfipfgbckbaeaa", sum := "db8d4c6711ff0fdc2dd6200aba164d5f4461da598917b6939397beeaa97edde4", func := "calliper/calliperlaw06.CmdBack", spec := "cmdBack", apart := false, narrowed := true }
def CmdBackUptoSaid : Prop := cmdBackUptoRow.holds Try.pinned (OpenSpec.upto cmdBackSpec)

/-- 'calliperlaw06.CmdOnce', WHERE WHAT IT READS IS OF BULK AT MOST 1048576: true; the input reads as it did. -/
def cmdOnceUptoRow : OpenClaim := { program := "ytnfipfgbckbaeaa", sum := "db8d4c6711ff0fdc2dd6200aba164d5f4461da598917b6939397beeaa97edde4", func := "calliper/calliperlaw06.CmdOnce", spec := "cmdOnce", apart := false, narrowed := true }
def CmdOnceUptoSaid : Prop := cmdOnceUptoRow.holds Try.pinned (OpenSpec.upto cmdOnceSpec)

/-- 'calliperlaw06.CmdShape', WHERE WHAT IT READS IS OF BULK AT MOST 1048576: true; the input reads as it did. -/
def cmdShapeUptoRow : OpenClaim := { program := "ytnfipfgbckbaeaa", sum := "db8d4c6711ff0fdc2dd6200aba164d5f4461da598917b6939397beeaa97edde4", func := "calliper/calliperlaw06.CmdShape", spec := "cmdShape", unfollowed := true, recurses := true, apart := false, narrowed := true }
def CmdShapeUptoSaid : Prop := cmdShapeUptoRow.holds Try.pinned (OpenSpec.upto cmdShapeSpec)

end Rows
end Go.Proofs.Ytnfipfgbckbaeaa
