/-
  No cell of these rows narrows 'for every input' (looked for: loops, veiled, ifaces, maps, wideKeys, modest, calm, conditions, laid).
  DERIVED. THE GIVEN ROWS OF THIS SEAT. 5 by the template 'for every input the law returns true; each argument reads behind the call as it read before'; 0 by the template 'total and deterministic' (their statements: YtjcacemijnlmhaaTotals.lean).
  GIVEN WITH THE SEED: the statements are not yours to turn. If you find one false, say at which input.
  Laid BY PROGRAM, IN A SANDBOX (cutbox-rows.mjs): the forced cells as the released guide's own fill.sh prints them over the translation 229b065e3581d26b… (all of the seat's roots in one cut). By AI agents, Wed Nov 11 2026. No macro, syntax, notation, axiom, sorry.
-/
import Derived.Test.YtjcacemijnlmhaaChecked
import GoSem.Claim
import GoSem.ClaimJoined
import GoSem.ClaimMapViews
import Derived.JoinedTies
import Derived.KernelRfl
namespace Go.Proofs.Ytjcacemijnlmhaa
/- THE CELL 'sum', in the pinned program and in every row, IS THE sha256 OF THE DUMP (.gsa) THAT YtjcacemijnlmhaaProg.lean LOADS. Nothing in Lean hashes anything: it is a label: what it is worth is what the hold of that sum in a sandbox is worth. -/
noncomputable def Try.pinned : Pinned := { name := "ytjcacemijnlmhaa", sum := "229b065e3581d26b33032c18f85ec821c9a0d7418bd2289e6d4d0462bf14c51c", checked := Try.checked }
namespace Rows
def none {H : Type} : Left H := { results := [], args := [] }

/-- 'calliperlaw07.RepPuts': WHATEVER THE INPUT: true; the input reads as it did. -/
def repPutsSpec : ChangeSpec := { name := "repPuts", fn := fun _ => fun
  | [d1, d2] => { results := [.lit (.bool true)], args := [d1, d2] }
  | _ => none }
def repPutsRow : OpenClaim := { program := "ytjcacemijnlmhaa", sum := "229b065e3581d26b33032c18f85ec821c9a0d7418bd2289e6d4d0462bf14c51c", func := "calliper/calliperlaw07.RepPuts", spec := "repPuts", apart := false }
def RepPutsSaid : Prop := repPutsRow.holds Try.pinned (OpenSpec.ofChange repPutsSpec)

/-- ITS FALSE NEIGHBOUR: 'it returns false'. Refute it at one input. -/
def repPutsWrong : ChangeSpec := { name := "repPuts", fn := fun _ => fun
  | [d1, d2] => { results := [.lit (.bool false)], args := [d1, d2] }
  | _ => none }
def RepPutsWrongFalsely : Prop := repPutsRow.holds Try.pinned (OpenSpec.ofChange repPutsWrong)

/-- 'calliperlaw07.RepTakes': WHATEVER THE INPUT: true; the input reads as it did. -/
def repTakesSpec : ChangeSpec := { name := "repTakes", fn := fun _ => fun
  | [d] => { results := [.lit (.bool true)], args := [d] }
  | _ => none }
def repTakesRow : OpenClaim := { program := "ytjcacemijnlmhaa", sum := "229b065e3581d26b33032c18f85ec821c9a0d7418bd2289e6d4d0462bf14c51c", func := "calliper/calliperlaw07.RepTakes", spec := "repTakes", apart := false }
def RepTakesSaid : Prop := repTakesRow.holds Try.pinned (OpenSpec.ofChange repTakesSpec)

/-- ITS FALSE NEIGHBOUR: 'it returns false'. Refute it at one input. -/
def repTakesWrong : ChangeSpec := { name := "repTakes", fn := fun _ => fun
  | [d] => { results := [.lit (.bool false)], args := [d] }
  | _ => none }
def RepTakesWrongFalsely : Prop := repTakesRow.holds Try.pinned (OpenSpec.ofChange repTakesWrong)

/-- 'calliperlaw07.RepBack': WHATEVER THE INPUT: true; the input reads as it did. -/
def repBackSpec : ChangeSpec := { name := "repBack", fn := fun _ => fun
  | [d] => { results := [.lit (.bool true)], args := [d] }
  | _ => none }
def repBackRow : OpenClaim := { program := "ytjcacemijnlmhaa", sum := "229b065e3581d26b33032c18f85ec821c9a0d7418bd2289e6d4d0462bf14c51c", func := "calliper/calliperlaw07.RepBack", spec := "repBack", apart := false }
def RepBackSaid : Prop := repBackRow.holds Try.pinned (OpenSpec.ofChange repBackSpec)

/-- ITS FALSE NEIGHBOUR: 'it returns false'. Refute it at one input. -/
def repBackWrong : ChangeSpec := { name := "repBack", fn := fun _ => fun
  | [d] => { results := [.lit (.bool false)], args := [d] }
  | _ => none }
def RepBackWrongFalsely : Prop := repBackRow.holds Try.pinned (OpenSpec.ofChange repBackWrong)

/-- 'calliperlaw07.RepOnce': WHATEVER THE INPUT: true; the input reads as it did. -/
def repOnceSpec : ChangeSpec := { name := "repOnce", fn := fun _ => fun
  | [d] => { results := [.lit (.bool true)], args := [d] }
  | _ => none }
def repOnceRow : OpenClaim := { program := "ytjcacemijnlmhaa", sum := "229b065e3581d26b33032c18f85ec821c9a0d7418bd2289e6d4d0462bf14c51c", func := "calliper/calliperlaw07.RepOnce", spec := "repOnce", apart := false }
def RepOnceSaid : Prop := repOnceRow.holds Try.pinned (OpenSpec.ofChange repOnceSpec)

/-- ITS FALSE NEIGHBOUR: 'it returns false'. Refute it at one input. -/
def repOnceWrong : ChangeSpec := { name := "repOnce", fn := fun _ => fun
  | [d] => { results := [.lit (.bool false)], args := [d] }
  | _ => none }
def RepOnceWrongFalsely : Prop := repOnceRow.holds Try.pinned (OpenSpec.ofChange repOnceWrong)

/-- 'calliperlaw07.RepKinds': WHATEVER THE INPUT: true; the input reads as it did. -/
def repKindsSpec : ChangeSpec := { name := "repKinds", fn := fun _ => fun
  | [d1, d2] => { results := [.lit (.bool true)], args := [d1, d2] }
  | _ => none }
def repKindsRow : OpenClaim := { program := "ytjcacemijnlmhaa", sum := "229b065e3581d26b33032c18f85ec821c9a0d7418bd2289e6d4d0462bf14c51c", func := "calliper/calliperlaw07.RepKinds", spec := "repKinds", apart := false }
def RepKindsSaid : Prop := repKindsRow.holds Try.pinned (OpenSpec.ofChange repKindsSpec)

/-- ITS FALSE NEIGHBOUR: 'it returns false'. Refute it at one input. -/
def repKindsWrong : ChangeSpec := { name := "repKinds", fn := fun _ => fun
  | [d1, d2] => { results := [.lit (.bool false)], args := [d1, d2] }
  | _ => none }
def RepKindsWrongFalsely : Prop := repKindsRow.holds Try.pinned (OpenSpec.ofChange repKindsWrong)

/- THE SECOND FORM. 'bulk': how many values and letters a reading holds, each counted each time it is reached (what is shared counts as often as it is met; a slice's spare places count too). A statement '..UptoSaid' is the law's where the arguments, and the package variables that the reading takes, are together of bulk at most 1048576: NARROWER than '..Said'. Prove '..Said' where nothing that the law and all that it calls make is longer than what came in: it says more and counts as full. Else prove '..UptoSaid'. A law counts once. -/
mutual
def uptoBulk {H : Type} : DataW H → Nat
  | .lit (.string bytes) => bytes.length + 1
  | .lit _ => 1
  | .nil => 1
  | .ptr d => uptoBulk d + 1
  | .slice elems spare => uptoBulkAll elems + uptoBulkAll spare + 1
  | .agg parts => uptoBulkAll parts + 1
  | .iface _ d => uptoBulk d + 1
  | .map entries => uptoBulkEntries entries + 1
  | .held _ => 1
def uptoBulkAll {H : Type} : List (DataW H) → Nat
  | [] => 0
  | d :: r => uptoBulk d + uptoBulkAll r
def uptoBulkEntries {H : Type} : List (Lit × DataW H) → Nat
  | [] => 0
  | x :: r => uptoBulkEntry x + uptoBulkEntries r
def uptoBulkEntry {H : Type} : Lit × DataW H → Nat
  | (.string bytes, d) => bytes.length + uptoBulk d + 1
  | (_, d) => uptoBulk d + 1
 end
def uptoSmall : (H : Type) → List (DataW H) → Bool := fun _ ds => decide (uptoBulkAll ds ≤ 1048576)
def OpenSpec.upto (s : _root_.Go.ChangeSpec) : _root_.Go.OpenSpec := { _root_.Go.OpenSpec.ofChange s with cond := some uptoSmall }

/-- 'calliperlaw07.RepPuts', WHERE WHAT IT READS IS OF BULK AT MOST 1048576: true; the input reads as it did. -/
def repPutsUptoRow : OpenClaim := { program := "ytjcacemijnlmhaa", sum := "229b065e3581d26b33032c18f85ec821c9a0d7418bd2289e6d4d0462bf14c51c", func := "calliper/calliperlaw07.RepPuts", spec := "repPuts", apart := false, narrowed := true }
def RepPutsUptoSaid : Prop := repPutsUptoRow.holds Try.pinned (OpenSpec.upto repPutsSpec)

/-- 'calliperlaw07.RepTakes', WHERE WHAT IT READS IS OF BULK AT MOST 1048576: true; the input reads as it did. -/
def repTakesUptoRow : OpenClaim := { program := "ytjcacemijnlmhaa", sum := "229b065e3581d26b33032c18f85ec821c9a0d7418bd2289e6d4d0462bf14c51c", func := "calliper/calliperlaw07.RepTakes", spec := "repTakes", apart := false, narrowed := true }
def RepTakesUptoSaid : Prop := repTakesUptoRow.holds Try.pinned (OpenSpec.upto repTakesSpec)

/-- 'calliperlaw07.RepBack', WHERE WHAT IT READS IS OF BULK AT MOST 1048576: true; the input reads as it did. -/
def repBackUptoRow : OpenClaim := { program := "ytjcacemijnlmhaa", sum := "229b065e3581d26b33032c18f85ec821c9a0d7418bd2289e6d4d0462bf14c51c", func := "calliper/calliperlaw07.RepBack", spec := "repBack", apart := false, narrowed := true }
def RepBackUptoSaid : Prop := repBackUptoRow.holds Try.pinned (OpenSpec.upto repBackSpec)

/-- 'calliperlaw07.RepOnce', WHERE WHAT IT READS IS OF BULK AT MOST 1048576: true; the input reads as it did. -/
def repOnceUptoRow : OpenClaim := { program := "ytjcacemijnlmhaa", sum := "229b065e3581d26b33032c18f85ec821c9a0d7418bd2289e6d4d0462bf14c51c", func := "calliper/calliperlaw07.RepOnce", spec := "repOnce", apart := false, narrowed := true }
def RepOnceUptoSaid : Prop := repOnceUptoRow.holds Try.pinned (OpenSpec.upto repOnceSpec)

/-- 'calliperlaw07.RepKinds', WHERE WHAT IT READS IS OF BULK AT MOST 1048576: true; the input reads as it did. -/
def repKindsUptoRow : OpenClaim := { program := "ytjcacemijnlmhaa", sum := "229b065e3581d26b33032c18f85ec821c9a0d7418bd2289e6d4d0462bf14c51c", func := "calliper/calliperlaw07.RepKinds", spec := "repKinds", apart := false, narrowed := true }
def RepKindsUptoSaid : Prop := repKindsUptoRow.holds Try.pinned (OpenSpec.upto repKindsSpec)

end Rows
end Go.Proofs.Ytjcacemijnlmhaa
