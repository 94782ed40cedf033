/-
  No cell of these rows narrows 'for every input' (looked for: loops, veiled, ifaces, maps, wideKeys, modest, calm, conditions, laid).
  DERIVED. THE GIVEN ROWS OF THIS SEAT. 5 by the template 'for every input the law returns true; each argument reads behind the call as it read before'; 0 by the template 'total and deterministic' (their statements: YtjdabmadpclbaaaTotals.lean).
  GIVEN WITH THE SEED: the statements are not yours to turn. If you find one false, say at which input.
  Laid BY PROGRAM, IN A SANDBOX (cutbox-rows.mjs): the forced cells as the released guide's own fill.sh prints them over the translation ef7c7b27afc9c25a… (all of the seat's roots in one cut). By AI agents, Wed Nov 11 2026. No macro, syntax, notation, axiom, sorry.
-/
import Derived.Test.YtjdabmadpclbaaaChecked
import GoSem.Claim
import GoSem.ClaimJoined
import GoSem.ClaimMapViews
import Derived.JoinedTies
import Derived.KernelRfl
namespace Go.Proofs.Ytjdabmadpclbaaa
/- THE CELL 'sum', in the pinned program and in every row, IS THE sha256 OF THE DUMP (.gsa) THAT YtjdabmadpclbaaaProg.lean LOADS. Nothing in Lean hashes anything: it is a label: what it is worth is what the hold of that sum in a sandbox is worth. -/
noncomputable def Try.pinned : Pinned := { name := "ytjdabmadpclbaaa", sum := "ef7c7b27afc9c25ac36c66bfbe7118bba77538f999eb0e5178450b8e521c83e2", checked := Try.checked }
namespace Rows
def none {H : Type} : Left H := { results := [], args := [] }

/-- 'calliperlaw03.BusPlays': WHATEVER THE INPUT: true; the input reads as it did. -/
def busPlaysSpec : ChangeSpec := { name := "busPlays", fn := fun _ => fun
  | [d1, d2] => { results := [.lit (.bool true)], args := [d1, d2] }
  | _ => none }
def busPlaysRow : OpenClaim := { program := "ytjdabmadpclbaaa", sum := "ef7c7b27afc9c25ac36c66bfbe7118bba77538f999eb0e5178450b8e521c83e2", func := "calliper/calliperlaw03.BusPlays", spec := "busPlays", apart := false }
def BusPlaysSaid : Prop := busPlaysRow.holds Try.pinned (OpenSpec.ofChange busPlaysSpec)

/-- ITS FALSE NEIGHBOUR: 'it returns false'. Refute it at one input. -/
def busPlaysWrong : ChangeSpec := { name := "busPlays", fn := fun _ => fun
  | [d1, d2] => { results := [.lit (.bool false)], args := [d1, d2] }
  | _ => none }
def BusPlaysWrongFalsely : Prop := busPlaysRow.holds Try.pinned (OpenSpec.ofChange busPlaysWrong)

/-- 'calliperlaw03.BusRanks': WHATEVER THE INPUT: true; the input reads as it did. -/
def busRanksSpec : ChangeSpec := { name := "busRanks", fn := fun _ => fun
  | [d] => { results := [.lit (.bool true)], args := [d] }
  | _ => none }
def busRanksRow : OpenClaim := { program := "ytjdabmadpclbaaa", sum := "ef7c7b27afc9c25ac36c66bfbe7118bba77538f999eb0e5178450b8e521c83e2", func := "calliper/calliperlaw03.BusRanks", spec := "busRanks", apart := false }
def BusRanksSaid : Prop := busRanksRow.holds Try.pinned (OpenSpec.ofChange busRanksSpec)

/-- ITS FALSE NEIGHBOUR: 'it returns false'. Refute it at one input. -/
def busRanksWrong : ChangeSpec := { name := "busRanks", fn := fun _ => fun
  | [d] => { results := [.lit (.bool false)], args := [d] }
  | _ => none }
def BusRanksWrongFalsely : Prop := busRanksRow.holds Try.pinned (OpenSpec.ofChange busRanksWrong)

/-- 'calliperlaw03.BusComes': WHATEVER THE INPUT: true; the input reads as it did. -/
def busComesSpec : ChangeSpec := { name := "busComes", fn := fun _ => fun
  | [d1, d2, d3, d4] => { results := [.lit (.bool true)], args := [d1, d2, d3, d4] }
  | _ => none }
def busComesRow : OpenClaim := { program := "ytjdabmadpclbaaa", sum := "ef7c7b27afc9c25ac36c66bfbe7118bba77538f999eb0e5178450b8e521c83e2", func := "calliper/calliperlaw03.BusComes", spec := "busComes", apart := false }
def BusComesSaid : Prop := busComesRow.holds Try.pinned (OpenSpec.ofChange busComesSpec)

/-- ITS FALSE NEIGHBOUR: 'it returns false'. Refute it at one input. -/
def busComesWrong : ChangeSpec := { name := "busComes", fn := fun _ => fun
  | [d1, d2, d3, d4] => { results := [.lit (.bool false)], args := [d1, d2, d3, d4] }
  | _ => none }
def BusComesWrongFalsely : Prop := busComesRow.holds Try.pinned (OpenSpec.ofChange busComesWrong)

/-- 'calliperlaw03.BusNone': WHATEVER THE INPUT: true; the input reads as it did. -/
def busNoneSpec : ChangeSpec := { name := "busNone", fn := fun _ => fun
  | [d1, d2] => { results := [.lit (.bool true)], args := [d1, d2] }
  | _ => none }
def busNoneRow : OpenClaim := { program := "ytjdabmadpclbaaa", sum := "ef7c7b27afc9c25ac36c66bfbe7118bba77538f999eb0e5178450b8e521c83e2", func := "calliper/calliperlaw03.BusNone", spec := "busNone", apart := false }
def BusNoneSaid : Prop := busNoneRow.holds Try.pinned (OpenSpec.ofChange busNoneSpec)

/-- ITS FALSE NEIGHBOUR: 'it returns false'. Refute it at one input. -/
def busNoneWrong : ChangeSpec := { name := "busNone", fn := fun _ => fun
  | [d1, d2] => { results := [.lit (.bool false)], args := [d1, d2] }
  | _ => none }
def BusNoneWrongFalsely : Prop := busNoneRow.holds Try.pinned (OpenSpec.ofChange busNoneWrong)

/-- 'calliperlaw03.BusOnce': WHATEVER THE INPUT: true; the input reads as it did. -/
def busOnceSpec : ChangeSpec := { name := "busOnce", fn := fun _ => fun
  | [d1, d2] => { results := [.lit (.bool true)], args := [d1, d2] }
  | _ => none }
def busOnceRow : OpenClaim := { program := "ytjdabmadpclbaaa", sum := "ef7c7b27afc9c25ac36c66bfbe7118bba77538f999eb0e5178450b8e521c83e2", func := "calliper/calliperlaw03.BusOnce", spec := "busOnce", apart := false }
def BusOnceSaid : Prop := busOnceRow.holds Try.pinned (OpenSpec.ofChange busOnceSpec)

/-- ITS FALSE NEIGHBOUR: 'it returns false'. Refute it at one input. -/
def busOnceWrong : ChangeSpec := { name := "busOnce", fn := fun _ => fun
  | [d1, d2] => { results := [.lit (.bool false)], args := [d1, d2] }
  | _ => none }
def BusOnceWrongFalsely : Prop := busOnceRow.holds Try.pinned (OpenSpec.ofChange busOnceWrong)

/- THE SECOND FORM. 'bulk': how many values and letters a reading holds, each counted each time it is reached (what is shared counts as often as it is met; a slice's spare places count too). A statement '..UptoSaid' is the law's where the arguments, and the package variables that the reading takes, are together of bulk at most 1048576: NARROWER than '..Said'. Prove '..Said' where nothing that the law and all that it calls make is longer than what came in: it says more and counts as full. Else prove '..UptoSaid'. A law counts once. -/
mutual
def uptoBulk {H : Type} : DataW H → Nat
  | .lit (.string bytes) => bytes.length + 1
  | .lit _ => 1
  | .nil => 1
  | .ptr d => uptoBulk d + 1
  | .slice elems spare => uptoBulkAll elems + uptoBulkAll spare + 1
  | .agg parts => uptoBulkAll parts + 1
  | .iface _ d => uptoBulk d + 1
  | .map entries => uptoBulkEntries entries + 1
  | .held _ => 1
def uptoBulkAll {H : Type} : List (DataW H) → Nat
  | [] => 0
  | d :: r => uptoBulk d + uptoBulkAll r
def uptoBulkEntries {H : Type} : List (Lit × DataW H) → Nat
  | [] => 0
  | x :: r => uptoBulkEntry x + uptoBulkEntries r
def uptoBulkEntry {H : Type} : Lit × DataW H → Nat
  | (.string bytes, d) => bytes.length + uptoBulk d + 1
  | (_, d) => uptoBulk d + 1
 end
def uptoSmall : (H : Type) → List (DataW H) → Bool := fun _ ds => decide (uptoBulkAll ds ≤ 1048576)
def OpenSpec.upto (s : _root_.Go.ChangeSpec) : _root_.Go.OpenSpec := { _root_.Go.OpenSpec.ofChange s with cond := some uptoSmall }

/-- 'calliperlaw03.BusPlays', WHERE WHAT IT READS IS OF BULK AT MOST 1048576: true; the input reads as it did. -/
def busPlaysUptoRow : OpenClaim := { program := "ytjdabmadpclbaaa", sum := "ef7c7b27afc9c25ac36c66bfbe7118bba77538f999eb0e5178450b8e521c83e2", func := "calliper/calliperlaw03.BusPlays", spec := "busPlays", apart := false, narrowed := true }
def BusPlaysUptoSaid : Prop := busPlaysUptoRow.holds Try.pinned (OpenSpec.upto busPlaysSpec)

/-- 'calliperlaw03.BusRanks', WHERE WHAT IT READS IS OF BULK AT MOST 1048576: true; the input reads as it did. -/
def busRanksUptoRow : OpenClaim := { program := "ytjdabmadpclbaaa", sum := "ef7c7b27afc9c25ac36c66bfbe7118bba77538f999eb0e5178450b8e521c83e2", func := "calliper/calliperlaw03.BusRanks", spec := "busRanks", apart := false, narrowed := true }
def BusRanksUptoSaid : Prop := busRanksUptoRow.holds Try.pinned (OpenSpec.upto busRanksSpec)

/-- 'calliperlaw03.BusComes', WHERE WHAT IT READS IS OF BULK AT MOST 1048576: true; the input reads as it did. -/
def busComesUptoRow : OpenClaim := { program := "ytjdabmadpclbaaa", sum := "ef7c7b27afc9c25ac36c66bfbe7118bba77538f999eb0e5178450b8e521c83e2", func := "calliper/calliperlaw03.BusComes", spec := "busComes", apart := false, narrowed := true }
def BusComesUptoSaid : Prop := busComesUptoRow.holds Try.pinned (OpenSpec.upto busComesSpec)

/-- 'calliperlaw03.BusNone', WHERE WHAT IT READS IS OF BULK AT MOST 1048576: true; the input reads as it did. -/
def busNoneUptoRow : OpenClaim := { program := "ytjdabmadpclbaaa", sum := "ef7c7b27afc9c25ac36c66bfbe7118bba77538f999eb0e5178450b8e521c83e2", func := "calliper/calliperlaw03.BusNone", spec := "busNone", apart := false, narrowed := true }
def BusNoneUptoSaid : Prop := busNoneUptoRow.holds Try.pinned (OpenSpec.upto busNoneSpec)

/-- 'calliperlaw03.BusOnce', WHERE WHAT IT READS IS OF BULK AT MOST 1048576: true; the input reads as it did. -/
def busOnceUptoRow : OpenClaim := { program := "ytjdabmadpclbaaa", sum := "ef7c7b27afc9c25ac36c66bfbe7118bba77538f999eb0e5178450b8e521c83e2", func := "calliper/calliperlaw03.BusOnce", spec := "busOnce", apart := false, narrowed := true }
def BusOnceUptoSaid : Prop := busOnceUptoRow.holds Try.pinned (OpenSpec.upto busOnceSpec)

end Rows
end Go.Proofs.Ytjdabmadpclbaaa
