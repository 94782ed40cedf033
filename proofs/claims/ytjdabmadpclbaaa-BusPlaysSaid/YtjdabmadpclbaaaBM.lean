import Derived.Test.YtjdabmadpclbaaaBL
set_option linter.unusedVariables false
set_option linter.unusedSimpArgs false
namespace Go.Proofs.Ytjdabmadpclbaaa
open Go.RowKit
theorem BusPlays_law (w : World) (A0 A1 A2 : Option Addr) (n0 n1 n2 c0 c1 c2 : Nat) (l0 l1 l2 : List Fi) (hn : n0 ≤ c0 ∧ n1 ≤ c1 ∧ n2 ≤ c2) (hc : c0 ≤ maxLen ∧ c1 ≤ maxLen ∧ c2 ≤ maxLen) (hl : n0 = l0.length ∧ n1 = l1.length ∧ n2 = l2.length) (sh3 : Shows w 3 A0 n0 (fis l0) ∧ Shows w 3 A1 n1 (fis l1) ∧ Shows w 3 A2 n2 (fis l2)) (oa : ∀ a ∈ l0, a.ok) (ob : ∀ a ∈ l1, a.ok) (oc : ∀ a ∈ l2, a.ok)
    (A : Option Addr) (n c : Nat) (l : List A3) (hnc : n ≤ c) (hcm : c ≤ maxLen) (hnl : n = l.length) (sh : Shows w 13 A n (a3s l)) (ok : ∀ a ∈ l, a.ok) :
    Calls Try.prog 3 #[.agg #[.slice A0 n0 c0, .slice A1 n1 c1, .slice A2 n2 c2], .slice A n c] w fun e w' => e = .returned (.bool true) ∧ Ext w w' :=
  plays_law w #[.slice A0 n0 c0, .slice A1 n1 c1, .slice A2 n2 c2] (of3 A0 A1 A2) (of3 n0 n1 n2) (of3 c0 c1 c2) (of3 l0 l1 l2) (all3 rfl rfl rfl) rfl (all3 hn.1 hn.2.1 hn.2.2) (all3 hc.1 hc.2.1 hc.2.2) (all3 hl.1 hl.2.1 hl.2.2) (all3 sh3.1 sh3.2.1 sh3.2.2) (all3 oa ob oc) A n c l hnc hcm hnl sh ok
end Go.Proofs.Ytjdabmadpclbaaa
