import Derived.Test.YtnjiajogbadadaaI
set_option linter.unusedVariables false
set_option linter.unusedSimpArgs false
namespace Go.Proofs.Ytnjiajogbadadaa
open Go.RowKit
theorem str {w : World} {A : Option Addr} {n c : Nat} {bs : List Int} (hr : Rd w A n bs) : (convert 29 9 (.slice A n c)).run Try.prog w = .ok (.string (strOfNums bs)) w := run_str Try.underlying29 Try.underlying5 Try.underlying9 hr
theorem str_inj : ∀ {a b : List Int} (_ : Byts a) (_ : Byts b), strOfNums a = strOfNums b → a = b := by
  intro a b ha hb h
  have h2 : a.map (fun n => UInt8.ofNat n.toNat) = b.map (fun n => UInt8.ofNat n.toNat) := by
    rw [← strOfNums_data, ← strOfNums_data, h]
  clear h
  induction a generalizing b with
  | nil => cases b with
    | nil => rfl
    | cons y ys => simp at h2
  | cons x xs ih =>
    cases b with
    | nil => simp at h2
    | cons y ys =>
      simp only [List.map_cons, List.cons.injEq] at h2
      have hx := ha x (by simp)
      have hy := hb y (by simp)
      have e : x = y := by
        have := congrArg UInt8.toNat h2.1
        simp at this
        omega
      rw [e, ih (fun b h => ha b (by simp [h])) (fun b h => hb b (by simp [h])) h2.2]
theorem str_beq {a b : List Int} (ha : Byts a) (hb : Byts b) : ((strOfNums a).toList == (strOfNums b).toList) = decide (a = b) := by
  by_cases h : a = b
  · subst h; simp
  · rw [decide_eq_false h, beq_eq_false_iff_ne]
    intro e
    exact h (str_inj ha hb (ByteArray.ext (Array.ext' (by simpa [ByteArray.toList_eq] using e))))
theorem equal_any (A B : Option Addr) (n m c d : Nat) (xs ys : List Int) (w : World) (hx : Rd w A n xs) (hy : Rd w B m ys) :
    Calls Try.prog 29 #[.slice A n c, .slice B m d] w fun e w' => e = .returned (.bool (decide (xs = ys))) ∧ w = w' := by
  have s1 := str (c := c) hx
  have s2 := str (c := d) hy
  have HB := Lib.hid (str_beq hx.byts hy.byts)
  clear hx hy
  go_enter Try.func29, Try.ntmps29
  go_wp2
  go_ret
  rw [← HB.out]
  exact ⟨rfl, rfl⟩
end Go.Proofs.Ytnjiajogbadadaa
