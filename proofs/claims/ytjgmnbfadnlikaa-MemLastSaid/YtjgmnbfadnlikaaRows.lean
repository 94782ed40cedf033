/-
  No cell of these rows narrows 'for every input' (looked for: loops, veiled, ifaces, maps, wideKeys, modest, calm, conditions, laid).
  DERIVED. THE GIVEN ROWS OF THIS SEAT. 6 by the template 'for every input the law returns true; each argument reads behind the call as it read before'; 0 by the template 'total and deterministic' (their statements: YtjgmnbfadnlikaaTotals.lean).
  GIVEN WITH THE SEED: the statements are not yours to turn. If you find one false, say at which input.
  Laid BY PROGRAM, IN A SANDBOX (cutbox-rows.mjs): the forced cells as the released guide's own fill.sh prints them over the translation 53dad9416fcb953d… (all of the seat's roots in one cut). By AI agents, Wed Nov 11 2026. No macro, syntax, notation, axiom, sorry.
-/
import Derived.Test.YtjgmnbfadnlikaaChecked
import GoSem.Claim
import GoSem.ClaimJoined
import GoSem.ClaimMapViews
import Derived.JoinedTies
import Derived.KernelRfl
namespace Go.Proofs.Ytjgmnbfadnlikaa
/- THE CELL 'sum', in the pinned program and in every row, IS THE sha256 OF THE DUMP (.gsa) THAT YtjgmnbfadnlikaaProg.lean LOADS. Nothing in Lean hashes anything: it is a label: what it is worth is what the hold of that sum in a sandbox is worth. -/
noncomputable def Try.pinned : Pinned := { name := "ytjgmnbfadnlikaa", sum := "53dad9416fcb953dc7b6a6d51072cdef7c61ceac80ce471d7daceaa4bb90b389", checked := Try.checked }
namespace Rows
def none {H : Type} : Left H := { results := [], args := [] }

/-- 'calliperlaw08.MemPlays': WHATEVER THE INPUT: true; the input reads as it did. -/
def memPlaysSpec : ChangeSpec := { name := "memPlays", fn := fun _ => fun
  | [d1, d2] => { results := [.lit (.bool true)], args := [d1, d2] }
  | _ => none }
def memPlaysRow : OpenClaim := { program := "ytjgmnbfadnlikaa", sum := "53dad9416fcb953dc7b6a6d51072cdef7c61ceac80ce471d7daceaa4bb90b389", func := "calliper/calliperlaw08.MemPlays", spec := "memPlays", apart := false }
def MemPlaysSaid : Prop := memPlaysRow.holds Try.pinned (OpenSpec.ofChange memPlaysSpec)

/-- ITS FALSE NEIGHBOUR: 'it returns false'. Refute it at one input. -/
def memPlaysWrong : ChangeSpec := { name := "memPlays", fn := fun _ => fun
  | [d1, d2] => { results := [.lit (.bool false)], args := [d1, d2] }
  | _ => none }
def MemPlaysWrongFalsely : Prop := memPlaysRow.holds Try.pinned (OpenSpec.ofChange memPlaysWrong)

/-- 'calliperlaw08.MemLast': WHATEVER THE INPUT: true; the input reads as it did. -/
def memLastSpec : ChangeSpec := { name := "memLast", fn := fun _ => fun
  | [d1, d2, d3] => { results := [.lit (.bool true)], args := [d1, d2, d3] }
  | _ => none }
def memLastRow : OpenClaim := { program := "ytjgmnbfadnlikaa", sum := "53dad9416fcb953dc7b6a6d51072cdef7c61ceac80ce471d7daceaa4bb90b389", func := "calliper/calliperlaw08.MemLast", spec := "memLast", apart := false }
def MemLastSaid : Prop := memLastRow.holds Try.pinned (OpenSpec.ofChange memLastSpec)

/-- ITS FALSE NEIGHBOUR: 'it returns false'. Refute it at one input. -/
def memLastWrong : ChangeSpec := { name := "memLast", fn := fun _ => fun
  | [d1, d2, d3] => { results := [.lit (.bool false)], args := [d1, d2, d3] }
  | _ => none }
def MemLastWrongFalsely : Prop := memLastRow.holds Try.pinned (OpenSpec.ofChange memLastWrong)

/-- 'calliperlaw08.MemFixed': WHATEVER THE INPUT: true; the input reads as it did. -/
def memFixedSpec : ChangeSpec := { name := "memFixed", fn := fun _ => fun
  | [d1, d2] => { results := [.lit (.bool true)], args := [d1, d2] }
  | _ => none }
def memFixedRow : OpenClaim := { program := "ytjgmnbfadnlikaa", sum := "53dad9416fcb953dc7b6a6d51072cdef7c61ceac80ce471d7daceaa4bb90b389", func := "calliper/calliperlaw08.MemFixed", spec := "memFixed", apart := false }
def MemFixedSaid : Prop := memFixedRow.holds Try.pinned (OpenSpec.ofChange memFixedSpec)

/-- ITS FALSE NEIGHBOUR: 'it returns false'. Refute it at one input. -/
def memFixedWrong : ChangeSpec := { name := "memFixed", fn := fun _ => fun
  | [d1, d2] => { results := [.lit (.bool false)], args := [d1, d2] }
  | _ => none }
def MemFixedWrongFalsely : Prop := memFixedRow.holds Try.pinned (OpenSpec.ofChange memFixedWrong)

/-- 'calliperlaw08.MemPages': WHATEVER THE INPUT: true; the input reads as it did. -/
def memPagesSpec : ChangeSpec := { name := "memPages", fn := fun _ => fun
  | [d1, d2, d3, d4, d5, d6] => { results := [.lit (.bool true)], args := [d1, d2, d3, d4, d5, d6] }
  | _ => none }
def memPagesRow : OpenClaim := { program := "ytjgmnbfadnlikaa", sum := "53dad9416fcb953dc7b6a6d51072cdef7c61ceac80ce471d7daceaa4bb90b389", func := "calliper/calliperlaw08.MemPages", spec := "memPages", apart := false }
def MemPagesSaid : Prop := memPagesRow.holds Try.pinned (OpenSpec.ofChange memPagesSpec)

/-- ITS FALSE NEIGHBOUR: 'it returns false'. Refute it at one input. -/
def memPagesWrong : ChangeSpec := { name := "memPages", fn := fun _ => fun
  | [d1, d2, d3, d4, d5, d6] => { results := [.lit (.bool false)], args := [d1, d2, d3, d4, d5, d6] }
  | _ => none }
def MemPagesWrongFalsely : Prop := memPagesRow.holds Try.pinned (OpenSpec.ofChange memPagesWrong)

/-- 'calliperlaw08.MemOwn': WHATEVER THE INPUT: true; the input reads as it did. -/
def memOwnSpec : ChangeSpec := { name := "memOwn", fn := fun _ => fun
  | [d1, d2] => { results := [.lit (.bool true)], args := [d1, d2] }
  | _ => none }
def memOwnRow : OpenClaim := { program := "ytjgmnbfadnlikaa", sum := "53dad9416fcb953dc7b6a6d51072cdef7c61ceac80ce471d7daceaa4bb90b389", func := "calliper/calliperlaw08.MemOwn", spec := "memOwn", apart := false }
def MemOwnSaid : Prop := memOwnRow.holds Try.pinned (OpenSpec.ofChange memOwnSpec)

/-- ITS FALSE NEIGHBOUR: 'it returns false'. Refute it at one input. -/
def memOwnWrong : ChangeSpec := { name := "memOwn", fn := fun _ => fun
  | [d1, d2] => { results := [.lit (.bool false)], args := [d1, d2] }
  | _ => none }
def MemOwnWrongFalsely : Prop := memOwnRow.holds Try.pinned (OpenSpec.ofChange memOwnWrong)

/-- 'calliperlaw08.MemSees': WHATEVER THE INPUT: true; the input reads as it did. -/
def memSeesSpec : ChangeSpec := { name := "memSees", fn := fun _ => fun
  | [d1, d2, d3, d4] => { results := [.lit (.bool true)], args := [d1, d2, d3, d4] }
  | _ => none }
def memSeesRow : OpenClaim := { program := "ytjgmnbfadnlikaa", sum := "53dad9416fcb953dc7b6a6d51072cdef7c61ceac80ce471d7daceaa4bb90b389", func := "calliper/calliperlaw08.MemSees", spec := "memSees", apart := false }
def MemSeesSaid : Prop := memSeesRow.holds Try.pinned (OpenSpec.ofChange memSeesSpec)

/-- ITS FALSE NEIGHBOUR: 'it returns false'. Refute it at one input. -/
def memSeesWrong : ChangeSpec := { name := "memSees", fn := fun _ => fun
  | [d1, d2, d3, d4] => { results := [.lit (.bool false)], args := [d1, d2, d3, d4] }
  | _ => none }
def MemSeesWrongFalsely : Prop := memSeesRow.holds Try.pinned (OpenSpec.ofChange memSeesWrong)

/- THE SECOND FORM. 'bulk': how many values and letters a reading holds, each counted each time it is reached (what is shared counts as often as it is met; a slice's spare places count too). A statement '..UptoSaid' is the law's where the arguments, and the package variables that the reading takes, are together of bulk at most 1048576: NARROWER than '..Said'. Prove '..Said' where nothing that the law and all that it calls make is longer than what came in: it says more and counts as full. Else prove '..UptoSaid'. A law counts once. -/
mutual
def uptoBulk {H : Type} : DataW H → Nat
  | .lit (.string bytes) => bytes.length + 1
  | .lit _ => 1
  | .nil => 1
  | .ptr d => uptoBulk d + 1
  | .slice elems spare => uptoBulkAll elems + uptoBulkAll spare + 1
  | .agg parts => uptoBulkAll parts + 1
  | .iface _ d => uptoBulk d + 1
  | .map entries => uptoBulkEntries entries + 1
  | .held _ => 1
def uptoBulkAll {H : Type} : List (DataW H) → Nat
  | [] => 0
  | d :: r => uptoBulk d + uptoBulkAll r
def uptoBulkEntries {H : Type} : List (Lit × DataW H) → Nat
  | [] => 0
  | x :: r => uptoBulkEntry x + uptoBulkEntries r
def uptoBulkEntry {H : Type} : Lit × DataW H → Nat
  | (.string bytes, d) => bytes.length + uptoBulk d + 1
  | (_, d) => uptoBulk d + 1
 end
def uptoSmall : (H : Type) → List (DataW H) → Bool := fun _ ds => decide (uptoBulkAll ds ≤ 1048576)
def OpenSpec.upto (s : _root_.Go.ChangeSpec) : _root_.Go.OpenSpec := { _root_.Go.OpenSpec.ofChange s with cond := some uptoSmall }

/-- 'calliperlaw08.MemPlays', WHERE WHAT IT READS IS OF BULK AT MOST 1048576: true; the input reads as it did. -/
def memPlaysUptoRow : OpenClaim := { program := "ytjgmnbfadnlikaa", sum := "53dad9416fcb953dc7b6a6d51072cdef7c61ceac80ce471d7daceaa4bb90b389", func := "calliper/calliperlaw08.MemPlays", spec := "memPlays", apart := false, narrowed := true }
def MemPlaysUptoSaid : Prop := memPlaysUptoRow.holds Try.pinned (OpenSpec.upto memPlaysSpec)

/-- 'calliperlaw08.MemLast', WHERE WHAT IT READS IS OF BULK AT MOST 1048576: true; the input reads as it did. -/
def memLastUptoRow : OpenClaim := { program := "ytjgmnbfadnlikaa", sum := "53dad9416fcb953dc7b6a6d51072cdef7c61ceac80ce471d7daceaa4bb90b389", func := "calliper/calliperlaw08.MemLast", spec := "memLast", apart := false, narrowed := true }
def MemLastUptoSaid : Prop := memLastUptoRow.holds Try.pinned (OpenSpec.upto memLastSpec)

/-- 'calliperlaw08.MemFixed', WHERE WHAT IT READS IS OF BULK AT MOST 1048576: true; the input reads as it did. -/
def memFixedUptoRow : OpenClaim := { program := "ytjgmnbfadnlikaa", sum := "53dad9416fcb953dc7b6a6d51072cdef7c61ceac80ce471d7daceaa4bb90b389", func := "calliper/calliperlaw08.MemFixed", spec := "memFixed", apart := false, narrowed := true }
def MemFixedUptoSaid : Prop := memFixedUptoRow.holds Try.pinned (OpenSpec.upto memFixedSpec)

/-- 'calliperlaw08.MemPages', WHERE WHAT IT READS IS OF BULK AT MOST 1048576: true; the input reads as it did. -/
def memPagesUptoRow : OpenClaim := { program := "ytjgmnbfadnlikaa", sum := "53dad9416fcb953dc7b6a6d51072cdef7c61ceac80ce471d7daceaa4bb90b389", func := "calliper/calliperlaw08.MemPages", spec := "memPages", apart := false, narrowed := true }
def MemPagesUptoSaid : Prop := memPagesUptoRow.holds Try.pinned (OpenSpec.upto memPagesSpec)

/-- 'calliperlaw08.MemOwn', WHERE WHAT IT READS IS OF BULK AT MOST 1048576: true; the input reads as it did. -/
def memOwnUptoRow : OpenClaim := { program := "ytjgmnbfadnlikaa", sum := "53dad9416fcb953dc7b6a6d51072cdef7c61ceac80ce471d7daceaa4bb90b389", func := "calliper/calliperlaw08.MemOwn", spec := "memOwn", apart := false, narrowed := true }
def MemOwnUptoSaid : Prop := memOwnUptoRow.holds Try.pinned (OpenSpec.upto memOwnSpec)

/-- 'calliperlaw08.MemSees', WHERE WHAT IT READS IS OF BULK AT MOST 1048576: true; the input reads as it did. -/
def memSeesUptoRow : OpenClaim := { program := "ytjgmnbfadnlikaa", sum := "53dad9416fcb953dc7b6a6d51072cdef7c61ceac80ce471d7daceaa4bb90b389", func := "calliper/calliperlaw08.MemSees", spec := "memSees", apart := false, narrowed := true }
def MemSeesUptoSaid : Prop := memSeesUptoRow.holds Try.pinned (OpenSpec.upto memSeesSpec)

end Rows
end Go.Proofs.Ytjgmnbfadnlikaa
