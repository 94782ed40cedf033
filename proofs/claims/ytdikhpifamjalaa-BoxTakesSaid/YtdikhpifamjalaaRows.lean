/-
  No cell of these rows narrows 'for every input' (looked for: loops, veiled, ifaces, maps, wideKeys, modest, calm, conditions, laid).
  DERIVED. THE GIVEN ROWS OF THIS SEAT. 6 by the template 'for every input the law returns true; each argument reads behind the call as it read before'; 0 by the template 'total and deterministic' (their statements: YtdikhpifamjalaaTotals.lean).
  GIVEN WITH THE SEED: the statements are not yours to turn. If you find one false, say at which input.
  Laid BY PROGRAM, IN A SANDBOX (cutbox-rows.mjs): the forced cells as the released guide's own fill.sh prints them over the translation 0979c1a5df0f8061… (all of the seat's roots in one cut). By AI agents, Wed Nov 11 2026. No macro, syntax, notation, axiom, sorry.
-/
import Derived.Test.YtdikhpifamjalaaChecked
import GoSem.Claim
import GoSem.ClaimJoined
import GoSem.ClaimMapViews
import Derived.JoinedTies
import Derived.KernelRfl
namespace Go.Proofs.Ytdikhpifamjalaa
/- THE CELL 'sum', in the pinned program and in every row, IS THE sha256 OF THE DUMP (.gsa) THAT YtdikhpifamjalaaProg.lean LOADS. Nothing in Lean hashes anything: it is a label: what it is worth is what the hold of that sum in a sandbox is worth. -/
noncomputable def Try.pinned : Pinned := { name := "ytdikhpifamjalaa", sum := "0979c1a5df0f8061d41b9a80502f8e16df64afb8f6bee02fa08e92ba2b2c264e", checked := Try.checked }
namespace Rows
def none {H : Type} : Left H := { results := [], args := [] }

/-- 'calliperlaw02.BoxPlays': WHATEVER THE INPUT: true; the input reads as it did. -/
def boxPlaysSpec : ChangeSpec := { name := "boxPlays", fn := fun _ => fun
  | [d1, d2] => { results := [.lit (.bool true)], args := [d1, d2] }
  | _ => none }
def boxPlaysRow : OpenClaim := { program := "ytdikhpifamjalaa", sum := "0979c1a5df0f8061d41b9a80502f8e16df64afb8f6bee02fa08e92ba2b2c264e", func := "calliper/calliperlaw02.BoxPlays", spec := "boxPlays", apart := false }
def BoxPlaysSaid : Prop := boxPlaysRow.holds Try.pinned (OpenSpec.ofChange boxPlaysSpec)

/-- ITS FALSE NEIGHBOUR: 'it returns false'. Refute it at one input. -/
def boxPlaysWrong : ChangeSpec := { name := "boxPlays", fn := fun _ => fun
  | [d1, d2] => { results := [.lit (.bool false)], args := [d1, d2] }
  | _ => none }
def BoxPlaysWrongFalsely : Prop := boxPlaysRow.holds Try.pinned (OpenSpec.ofChange boxPlaysWrong)

/-- 'calliperlaw02.BoxSends': WHATEVER THE INPUT: true; the input reads as it did. -/
def boxSendsSpec : ChangeSpec := { name := "boxSends", fn := fun _ => fun
  | [d] => { results := [.lit (.bool true)], args := [d] }
  | _ => none }
def boxSendsRow : OpenClaim := { program := "ytdikhpifamjalaa", sum := "0979c1a5df0f8061d41b9a80502f8e16df64afb8f6bee02fa08e92ba2b2c264e", func := "calliper/calliperlaw02.BoxSends", spec := "boxSends", apart := false }
def BoxSendsSaid : Prop := boxSendsRow.holds Try.pinned (OpenSpec.ofChange boxSendsSpec)

/-- ITS FALSE NEIGHBOUR: 'it returns false'. Refute it at one input. -/
def boxSendsWrong : ChangeSpec := { name := "boxSends", fn := fun _ => fun
  | [d] => { results := [.lit (.bool false)], args := [d] }
  | _ => none }
def BoxSendsWrongFalsely : Prop := boxSendsRow.holds Try.pinned (OpenSpec.ofChange boxSendsWrong)

/-- 'calliperlaw02.BoxTakes': WHATEVER THE INPUT: true; the input reads as it did. -/
def boxTakesSpec : ChangeSpec := { name := "boxTakes", fn := fun _ => fun
  | [d1, d2] => { results := [.lit (.bool true)], args := [d1, d2] }
  | _ => none }
def boxTakesRow : OpenClaim := { program := "ytdikhpifamjalaa", sum := "0979c1a5df0f8061d41b9a80502f8e16df64afb8f6bee02fa08e92ba2b2c264e", func := "calliper/calliperlaw02.BoxTakes", spec := "boxTakes", apart := false }
def BoxTakesSaid : Prop := boxTakesRow.holds Try.pinned (OpenSpec.ofChange boxTakesSpec)

/-- ITS FALSE NEIGHBOUR: 'it returns false'. Refute it at one input. -/
def boxTakesWrong : ChangeSpec := { name := "boxTakes", fn := fun _ => fun
  | [d1, d2] => { results := [.lit (.bool false)], args := [d1, d2] }
  | _ => none }
def BoxTakesWrongFalsely : Prop := boxTakesRow.holds Try.pinned (OpenSpec.ofChange boxTakesWrong)

/-- 'calliperlaw02.BoxFilters': WHATEVER THE INPUT: true; the input reads as it did. -/
def boxFiltersSpec : ChangeSpec := { name := "boxFilters", fn := fun _ => fun
  | [d1, d2] => { results := [.lit (.bool true)], args := [d1, d2] }
  | _ => none }
def boxFiltersRow : OpenClaim := { program := "ytdikhpifamjalaa", sum := "0979c1a5df0f8061d41b9a80502f8e16df64afb8f6bee02fa08e92ba2b2c264e", func := "calliper/calliperlaw02.BoxFilters", spec := "boxFilters", apart := false }
def BoxFiltersSaid : Prop := boxFiltersRow.holds Try.pinned (OpenSpec.ofChange boxFiltersSpec)

/-- ITS FALSE NEIGHBOUR: 'it returns false'. Refute it at one input. -/
def boxFiltersWrong : ChangeSpec := { name := "boxFilters", fn := fun _ => fun
  | [d1, d2] => { results := [.lit (.bool false)], args := [d1, d2] }
  | _ => none }
def BoxFiltersWrongFalsely : Prop := boxFiltersRow.holds Try.pinned (OpenSpec.ofChange boxFiltersWrong)

/-- 'calliperlaw02.BoxNil': WHATEVER THE INPUT: true; the input reads as it did. -/
def boxNilSpec : ChangeSpec := { name := "boxNil", fn := fun _ => fun
  | [d] => { results := [.lit (.bool true)], args := [d] }
  | _ => none }
def boxNilRow : OpenClaim := { program := "ytdikhpifamjalaa", sum := "0979c1a5df0f8061d41b9a80502f8e16df64afb8f6bee02fa08e92ba2b2c264e", func := "calliper/calliperlaw02.BoxNil", spec := "boxNil", apart := false }
def BoxNilSaid : Prop := boxNilRow.holds Try.pinned (OpenSpec.ofChange boxNilSpec)

/-- ITS FALSE NEIGHBOUR: 'it returns false'. Refute it at one input. -/
def boxNilWrong : ChangeSpec := { name := "boxNil", fn := fun _ => fun
  | [d] => { results := [.lit (.bool false)], args := [d] }
  | _ => none }
def BoxNilWrongFalsely : Prop := boxNilRow.holds Try.pinned (OpenSpec.ofChange boxNilWrong)

/-- 'calliperlaw02.BoxRanks': WHATEVER THE INPUT: true; the input reads as it did. -/
def boxRanksSpec : ChangeSpec := { name := "boxRanks", fn := fun _ => fun
  | [d] => { results := [.lit (.bool true)], args := [d] }
  | _ => none }
def boxRanksRow : OpenClaim := { program := "ytdikhpifamjalaa", sum := "0979c1a5df0f8061d41b9a80502f8e16df64afb8f6bee02fa08e92ba2b2c264e", func := "calliper/calliperlaw02.BoxRanks", spec := "boxRanks", apart := false }
def BoxRanksSaid : Prop := boxRanksRow.holds Try.pinned (OpenSpec.ofChange boxRanksSpec)

/-- ITS FALSE NEIGHBOUR: 'it returns false'. Refute it at one input. -/
def boxRanksWrong : ChangeSpec := { name := "boxRanks", fn := fun _ => fun
  | [d] => { results := [.lit (.bool false)], args := [d] }
  | _ => none }
def BoxRanksWrongFalsely : Prop := boxRanksRow.holds Try.pinned (OpenSpec.ofChange boxRanksWrong)

/- THE SECOND FORM. 'bulk': how many values and letters a reading holds, each counted each time it is reached (what is shared counts as often as it is met; a slice's spare places count too). A statement '..UptoSaid' is the law's where the arguments, and the package variables that the reading takes, are together of bulk at most 1048576: NARROWER than '..Said'. Prove '..Said' where nothing that the law and all that it calls make is longer than what came in: it says more and counts as full. Else prove '..UptoSaid'. A law counts once. -/
mutual
def uptoBulk {H : Type} : DataW H → Nat
  | .lit (.string bytes) => bytes.length + 1
  | .lit _ => 1
  | .nil => 1
  | .ptr d => uptoBulk d + 1
  | .slice elems spare => uptoBulkAll elems + uptoBulkAll spare + 1
  | .agg parts => uptoBulkAll parts + 1
  | .iface _ d => uptoBulk d + 1
  | .map entries => uptoBulkEntries entries + 1
  | .held _ => 1
def uptoBulkAll {H : Type} : List (DataW H) → Nat
  | [] => 0
  | d :: r => uptoBulk d + uptoBulkAll r
def uptoBulkEntries {H : Type} : List (Lit × DataW H) → Nat
  | [] => 0
  | x :: r => uptoBulkEntry x + uptoBulkEntries r
def uptoBulkEntry {H : Type} : Lit × DataW H → Nat
  | (.string bytes, d) => bytes.length + uptoBulk d + 1
  | (_, d) => uptoBulk d + 1
 end
def uptoSmall : (H : Type) → List (DataW H) → Bool := fun _ ds => decide (uptoBulkAll ds ≤ 1048576)
def OpenSpec.upto (s : _root_.Go.ChangeSpec) : _root_.Go.OpenSpec := { _root_.Go.OpenSpec.ofChange s with cond := some uptoSmall }

/-- 'calliperlaw02.BoxPlays', WHERE WHAT IT READS IS OF BULK AT MOST 1048576: true; the input reads as it did. -/
def boxPlaysUptoRow : OpenClaim := { program := "ytdikhpifamjalaa", sum := "0979c1a5df0f8061d41b9a80502f8e16df64afb8f6bee02fa08e92ba2b2c264e", func := "calliper/calliperlaw02.BoxPlays", spec := "boxPlays", apart := false, narrowed := true }
def BoxPlaysUptoSaid : Prop := boxPlaysUptoRow.holds Try.pinned (OpenSpec.upto boxPlaysSpec)

/-- 'calliperlaw02.BoxSends', WHERE WHAT IT READS IS OF BULK AT MOST 1048576: true; the input reads as it did. -/
def boxSendsUptoRow : OpenClaim := { program := "ytdikhpifamjalaa", sum := "0979c1a5df0f8061d41b9a80502f8e16df64afb8f6bee02fa08e92ba2b2c264e", func := "calliper/calliperlaw02.BoxSends", spec := "boxSends", apart := false, narrowed := true }
def BoxSendsUptoSaid : Prop := boxSendsUptoRow.holds Try.pinned (OpenSpec.upto boxSendsSpec)

/-- 'calliperlaw02.BoxTakes', WHERE WHAT IT READS IS OF BULK AT MOST 1048576: true; the input reads as it did. -/
def boxTakesUptoRow : OpenClaim := { program := "ytdikhpifamjalaa", sum := "0979c1a5df0f8061d41b9a80502f8e16df64afb8f6bee02fa08e92ba2b2c264e", func := "calliper/calliperlaw02.BoxTakes", spec := "boxTakes", apart := false, narrowed := true }
def BoxTakesUptoSaid : Prop := boxTakesUptoRow.holds Try.pinned (OpenSpec.upto boxTakesSpec)

/-- 'calliperlaw02.BoxFilters', WHERE WHAT IT READS IS OF BULK AT MOST 1048576: true; the input reads as it did. -/
def boxFiltersUptoRow : OpenClaim := { program := "ytdikhpifamjalaa", sum := "0979c1a5df0f8061d41b9a80502f8e16df64afb8f6bee02fa08e92ba2b2c264e", func := "calliper/calliperlaw02.BoxFilters", spec := "boxFilters", apart := false, narrowed := true }
def BoxFiltersUptoSaid : Prop := boxFiltersUptoRow.holds Try.pinned (OpenSpec.upto boxFiltersSpec)

/-- 'calliperlaw02.BoxNil', WHERE WHAT IT READS IS OF BULK AT MOST 1048576: true; the input reads as it did. -/
def boxNilUptoRow : OpenClaim := { program := "ytdikhpifamjalaa", sum := "0979c1a5df0f8061d41b9a80502f8e16df64afb8f6bee02fa08e92ba2b2c264e", func := "calliper/calliperlaw02.BoxNil", spec := "boxNil", apart := false, narrowed := true }
def BoxNilUptoSaid : Prop := boxNilUptoRow.holds Try.pinned (OpenSpec.upto boxNilSpec)

/-- 'calliperlaw02.BoxRanks', WHERE WHAT IT READS IS OF BULK AT MOST 1048576: true; the input reads as it did. -/
def boxRanksUptoRow : OpenClaim := { program := "ytdikhpifamjalaa", sum := "0979c1a5df0f8061d41b9a80502f8e16df64afb8f6bee02fa08e92ba2b2c264e", func := "calliper/calliperlaw02.BoxRanks", spec := "boxRanks", apart := false, narrowed := true }
def BoxRanksUptoSaid : Prop := boxRanksUptoRow.holds Try.pinned (OpenSpec.upto boxRanksSpec)

end Rows
end Go.Proofs.Ytdikhpifamjalaa
