import Derived.Test.YtnjiajogbadadaaD
set_option linter.unusedVariables false
set_option linter.unusedSimpArgs false
namespace Go.Proofs.Ytnjiajogbadadaa
open Go.RowKit
def mayC (sn told kn : Nat) (left : Int) (n : Nat) : Bool := decide (0 < sn) && told == sn && left == ((sn - kn : Nat) : Int) && (n : Int) == (if (6 : Int) < left then (6 : Int) else left)
theorem ret_b {a b : Bool} (h : a = b) : Ending.returned (.bool a) = .returned (.bool b) := by rw [h]
theorem mayCome_any (g : Nat) (all lk : Int) (sA : Option Addr) (sn sc : Nat) (res : Int) (told : Nat) (kA : Option Addr) (kn kc : Nat) (left : Int) (bA : Option Addr) (n c : Nat) (w : World) (K : w.heap[g]? = some (.cells #[.int .u8 all, .int .u8 lk, .slice sA sn sc, .int .u8 res, .int .i64 told, .slice kA kn kc] 48 (0, 0)))
    (hn : sn ≤ 1000) (hk : kn ≤ sn) :
    Calls Try.prog 28 #[.pointer (some ⟨g, 0, none⟩), .int .i64 left, .slice bA n c] w fun e w' => e = .returned (.bool (mayC sn told kn left n)) ∧ Ext w w' := by
  obtain ⟨f0, f1, f2, f3, f4, f5⟩ := cells6 K
  have hsub : (sn : Int) - kn = ((sn - kn : Nat) : Int) := by omega
  obtain ⟨d, hd⟩ : ∃ d, d = sn - kn := ⟨_, rfl⟩
  have hdn : d ≤ 1000 := by omega
  rw [← hd] at hsub
  unfold mayC
  rw [← hd]
  clear hd
  obtain ⟨mn, hmn⟩ : ∃ mn, (if (6 : Int) < left then (6 : Int) else left) = mn := ⟨_, rfl⟩
  rw [hmn]
  by_cases h1 : 0 < sn
  · by_cases h2 : told = sn
    · subst h2
      by_cases h3 : left = (d : Int)
      · subst h3
        go_enter Try.func28, Try.ntmps28
        go_upto_region 1 with (fail)
        go_quiet (fail)
        obtain ⟨w1, hWq⟩ : ∃ z : World, z = World.drewN w nq := ⟨_, rfl⟩
        rw [← hWq]
        have xw1 : Ext w w1 := by rw [hWq]; exact (Ext.refl _).drewN _
        clear hWq
        go_wp2
        go_ret
        exact ⟨(ret_b (by simp [h1])), xw1⟩
      · have b3 : (left == (d : Int)) = false := by simpa using h3
        go_enter Try.func28, Try.ntmps28
        go_upto_region 1 with (fail)
        go_quiet (fail)
        obtain ⟨w1, hWq⟩ : ∃ z : World, z = World.drewN w nq := ⟨_, rfl⟩
        rw [← hWq]
        have xw1 : Ext w w1 := by rw [hWq]; exact (Ext.refl _).drewN _
        clear hWq
        go_wp2
        go_ret
        exact ⟨(ret_b (by simp [b3])), xw1⟩
    · have b2 : (told == sn) = false := by simpa using h2
      have b2' : ((told : Int) == (sn : Int)) = false := by simp; omega
      go_enter Try.func28, Try.ntmps28
      go_upto_region 1 with (fail)
      go_quiet (fail)
      obtain ⟨w1, hWq⟩ : ∃ z : World, z = World.drewN w nq := ⟨_, rfl⟩
      rw [← hWq]
      have xw1 : Ext w w1 := by rw [hWq]; exact (Ext.refl _).drewN _
      clear hWq
      go_wp2
      go_ret
      exact ⟨(ret_b (by simp [b2])), xw1⟩
  · obtain rfl : sn = 0 := by omega
    go_enter Try.func28, Try.ntmps28
    go_upto_region 1 with (fail)
    go_quiet (fail)
    obtain ⟨w1, hWq⟩ : ∃ z : World, z = World.drewN w nq := ⟨_, rfl⟩
    rw [← hWq]
    have xw1 : Ext w w1 := by rw [hWq]; exact (Ext.refl _).drewN _
    clear hWq
    go_wp2
    go_ret
    exact ⟨(ret_b (by simp)), xw1⟩
end Go.Proofs.Ytnjiajogbadadaa
