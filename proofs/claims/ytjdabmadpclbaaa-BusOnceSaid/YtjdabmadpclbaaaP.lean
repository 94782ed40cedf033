import Derived.Test.YtjdabmadpclbaaaO
set_option linter.unusedVariables false
set_option linter.unusedSimpArgs false
namespace Go.Proofs.Ytjdabmadpclbaaa
open Go.RowKit
end Go.Proofs.Ytjdabmadpclbaaa
