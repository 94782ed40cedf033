import Derived.Test.YtpjficfmmfdbjaaR
import Derived.Test.YtpjficfmmfdbjaaO
set_option linter.unusedVariables false
namespace Go.Proofs.Ytpjficfmmfdbjaa
open Go.RowKit
theorem take_rev {bs : List Int} {k : Nat} (bg : Bool) (hl : bs.length = k) (hk : k = 1 ∨ k = 2 ∨ k = 4) : takeTo bs.reverse k (!bg) k = takeTo bs k bg k := by
  rcases hk with rfl | rfl | rfl
  · obtain ⟨b0, rfl⟩ : ∃ b0, bs = [b0] := List.length_eq_one_iff.1 hl
    cases bg <;> simp [takeTo, shf] <;> try omega
  · obtain ⟨b0, b1, rfl⟩ : ∃ b0 b1, bs = [b0, b1] := by
      match bs, hl with
      | [b0, b1], _ => exact ⟨b0, b1, rfl⟩
    cases bg <;> simp [takeTo, shf] <;> try omega
  · obtain ⟨b0, b1, b2, b3, rfl⟩ : ∃ b0 b1 b2 b3, bs = [b0, b1, b2, b3] := by
      match bs, hl with
      | [b0, b1, b2, b3], _ => exact ⟨b0, b1, b2, b3, rfl⟩
    cases bg <;> simp [takeTo, shf] <;> try omega
theorem takeV_rev {bs : List Int} {k : Nat} {mu ad : Int} (bg sg : Bool) (hl : bs.length = k) (hk : k = 1 ∨ k = 2 ∨ k = 4) : takeV bs.reverse k (!bg) sg mu ad = takeV bs k bg sg mu ad := by
  unfold takeV
  rw [take_rev bg hl hk]
theorem takeV_add (bs : List Int) (k : Nat) (bg sg : Bool) (mu ad ad' : Int) : takeV bs k bg sg mu ad' - takeV bs k bg sg mu ad = ad' - ad := by
  unfold takeV
  omega
theorem rev_snoc (bs : List Int) (i : Nat) (h : i < bs.length) : bs.reverse.take (i + 1) = bs.reverse.take i ++ [bs.getD (bs.length - 1 - i) 0] := by
  rw [List.take_succ_eq_append_getElem (by simpa using h), List.getElem_reverse, List.getD_eq_getElem?_getD, List.getElem?_eq_getElem (by omega)]
  rfl
end Go.Proofs.Ytpjficfmmfdbjaa
