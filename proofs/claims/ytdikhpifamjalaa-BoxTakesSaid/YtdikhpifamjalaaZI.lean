import Derived.Test.YtdikhpifamjalaaZG
import Derived.Deep.DeepCutAuto
set_option linter.unusedVariables false
set_option linter.unusedSimpArgs false
namespace Go.Proofs.Ytdikhpifamjalaa
open Go.RowKit
def bs1 (b : Bool) : List Value := [.bool b]
theorem bo_cells {H : Type} {enc : TypeId × Value → H} {W : World} {base : Nat} {spare : Nat → Bool} {held : Bool} (fuel : Nat) (cs : List Value) (x : DataW H × List MemPlace) (hf : DataW.trod enc Try.prog W base spare held fuel 4 cs = some x) : ∃ b : Bool, cs = bs1 b ∧ True := by
  obtain ⟨c, q, _⟩ := DataW.trod_bool Try.underlying4 hf
  exact ⟨c, q, trivial⟩
theorem open_bools {H : Type} {enc : TypeId × Value → H} {W : World} {base b0 : Nat} {spare : Nat → Bool} {held : Bool} {r : Reach} {v : Value} {d : DataW H} {p : List MemPlace}
    (hv : Value.okWide Try.prog W r b0 51 v) (h : DataW.Trod enc Try.prog W base spare held 51 v d p) :
    ∃ (A : Option Addr) (n c : Nat) (l : List Bool), v = .slice A n c ∧ n ≤ c ∧ c ≤ maxLen ∧ n = l.length ∧ Shows W 1 A n (l.flatMap bs1) ∧ ∀ a ∈ l, True :=
  open_rows (vals := bs1) (ok := fun _ => True) Try.underlying51 c4 (by omega) (fun _ => rfl) (fun n cs x _ h2 => bo_cells n cs x h2) hv h
def FL : List Fi := [⟨0, 0, true⟩, ⟨0, 0, false⟩]
theorem lets_all {s : BSt} (h : s.fl = FL) {f : Fr} (hf : f.ok) : s.lets f = true := by
  have e := and0 _ (xor_bd 0 f.id (by omega) hf)
  rcases f with ⟨id, ext, len, b0, b1, b2, b3, b4, b5, b6, b7⟩
  simp only at e
  cases ext <;> simp [BSt.lets, h, FL, fits, e]
theorem take_eq1 {s : BSt} {f : Fr} (h : f.may = false) : s.take f = (s, false) := by simp [BSt.take, h]
theorem take_eq2 {s : BSt} {f : Fr} (h : f.may = true) (hl : s.lets f = true) (h4 : 4 ≤ s.rx.length) : s.take f = ({ s with lost := true }, true) := by simp [BSt.take, h, hl, h4]
theorem take_eq3 {s : BSt} {f : Fr} (h : f.may = true) (hl : s.lets f = true) (h4 : ¬ 4 ≤ s.rx.length) : s.take f = ({ s with rx := s.rx ++ [f] }, true) := by simp [BSt.take, h, hl, h4]
theorem take_tells {s : BSt} (h : s.fl = FL) {f : Fr} (hf : f.ok) : ∃ s1, s.take f = (s1, f.may) := by
  have hl := lets_all h hf
  cases hm : f.may
  · exact ⟨_, take_eq1 hm⟩
  · by_cases h4 : 4 ≤ s.rx.length
    · exact ⟨_, take_eq2 hm hl h4⟩
    · exact ⟨_, take_eq3 hm hl h4⟩
theorem recv_fl (s : BSt) : s.recv.1.fl = s.fl := by unfold BSt.recv; split <;> rfl
theorem recv_lost (s : BSt) : s.recv.1.lost = s.lost := by unfold BSt.recv; split <;> rfl
theorem recv_zero {s : BSt} (h : s.rx = []) : s.recv = (s, Fr.zero, false) := by simp [BSt.recv, h]
theorem recv_one {s : BSt} {f : Fr} {l : List Fr} (h : s.rx = f :: l) : s.recv = ({ s with rx := l }, f, true) := by simp [BSt.recv, h]
end Go.Proofs.Ytdikhpifamjalaa
