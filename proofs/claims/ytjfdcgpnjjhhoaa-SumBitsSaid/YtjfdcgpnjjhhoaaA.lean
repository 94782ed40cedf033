import Derived.Test.YtjfdcgpnjjhhoaaNum
import Derived.Test.YtjfdcgpnjjhhoaaObj
import Derived.Test.YtjfdcgpnjjhhoaaM
import Derived.Laws.BitsAllLaws
import Derived.Laws.EntriesVeiled
set_option linter.unusedVariables false
set_option linter.unusedSimpArgs false
namespace Go.Proofs.Ytjfdcgpnjjhhoaa
open Go.RowKit
theorem and_m (a : Int) (k : Nat) (hk : k ≤ 32) (h0 : 0 ≤ a) (h1 : a < 4294967296) : bits .and .u32 a ((2 ^ k - 1 : Nat) : Int) = a % ((2 ^ k : Nat) : Int) := by
  have h2 : 2 ^ k ≤ 2 ^ 32 := Nat.pow_le_pow_right (by omega) hk
  have h3 : 0 < 2 ^ k := Nat.two_pow_pos k
  rw [u32_and a _ h0 h1 (by omega) (by omega)]
  rw [Int.toNat_natCast, Nat.and_two_pow_sub_one_eq_mod, Int.natCast_emod, Int.toNat_of_nonneg h0]
theorem and_255 (a : Int) (h0 : 0 ≤ a) (h1 : a < 4294967296) : bits .and .u32 a 255 = a % 256 := and_m a 8 (by omega) h0 h1
theorem and_65535 (a : Int) (h0 : 0 ≤ a) (h1 : a < 4294967296) : bits .and .u32 a 65535 = a % 65536 := and_m a 16 (by omega) h0 h1
theorem and_all (a : Int) (h0 : 0 ≤ a) (h1 : a < 4294967296) : bits .and .u32 a 4294967295 = a := by
  have := and_m a 32 (by omega) h0 h1
  rw [show (((2 ^ 32 - 1 : Nat)) : Int) = 4294967295 by decide] at this
  rw [this]; omega
theorem xor_bd {a b : Int} (ha : 0 ≤ a ∧ a < 4294967296) (hb : 0 ≤ b ∧ b < 4294967296) : 0 ≤ bits .xor .u32 a b ∧ bits .xor .u32 a b < 4294967296 := by
  rw [u32_xor a b ha.1 ha.2 hb.1 hb.2]
  have := Nat.xor_lt_two_pow (n := 32) (x := a.toNat) (y := b.toNat) (by omega) (by omega)
  omega
theorem hmf (fn : Fn) (first cap : Array Value) (w : World) : (Instr.makeFunc fn first cap).run Try.prog w = .ok (.func fn first cap) w := rfl
theorem adding_any (m : Int) (w : World) : Calls Try.prog 20 #[.int .u32 m] w fun e w' => e = .returned (.func (.func 27) #[] #[.pointer (some ⟨w.heap.size, 0, none⟩)]) ∧ w' = w.alloc (.cells #[.int .u32 m] 23) := by
  have h := hmf
  go_enter Try.func20, Try.ntmps20
  go_wp2
  go_ret
  exact ⟨rfl, rfl⟩
theorem halving_any (m : Int) (w : World) : Calls Try.prog 21 #[.int .u32 m] w fun e w' => e = .returned (.func (.func 28) #[] #[.pointer (some ⟨w.heap.size, 0, none⟩)]) ∧ w' = w.alloc (.cells #[.int .u32 m] 23) := by
  have h := hmf
  go_enter Try.func21, Try.ntmps21
  go_wp2
  go_ret
  exact ⟨rfl, rfl⟩
theorem doubling_any (m : Int) (w : World) : Calls Try.prog 22 #[.int .u32 m] w fun e w' => e = .returned (.func (.func 29) #[] #[.pointer (some ⟨w.heap.size, 0, none⟩)]) ∧ w' = w.alloc (.cells #[.int .u32 m] 23) := by
  have h := hmf
  go_enter Try.func22, Try.ntmps22
  go_wp2
  go_ret
  exact ⟨rfl, rfl⟩
def addS (m r x : Int) : Int := bits .and .u32 ((r + x) % 4294967296) m
theorem adding1_any (r x m : Int) (g : Nat) (w : World) (K : w.heap[g]? = some (.cells #[.int .u32 m] 23 (0, 0))) (r0 : 0 ≤ r ∧ r < 4294967296) (x0 : 0 ≤ x ∧ x < 4294967296) :
    Calls Try.prog 27 #[.int .u32 r, .int .u32 x, .pointer (some ⟨g, 0, none⟩)] w fun e w' => e = .returned (.int .u32 (addS m r x)) ∧ w = w' := by
  have f0 := blk_cell (i := 0) K rfl
  go_enter Try.func27, Try.ntmps27
  go_wp2
  go_ret
  exact ⟨rfl, rfl⟩
def it (f : Int → Int) : Nat → Int → Int
  | 0, x => x
  | n + 1, x => f (it f n x)
def half1 (by_ r : Int) : Int := if r % 2 = 1 then bits .xor .u32 (r / 2) by_ else r / 2
def halfS (by_ r x : Int) : Int := it (half1 by_) 8 (bits .xor .u32 r x)
theorem half1_bd {b r : Int} (hb : 0 ≤ b ∧ b < 4294967296) (hr : 0 ≤ r ∧ r < 4294967296) : 0 ≤ half1 b r ∧ half1 b r < 4294967296 := by
  unfold half1
  split
  · exact xor_bd (by omega) hb
  · omega
theorem it_bd {f : Int → Int} {M : Int} (hf : ∀ r, 0 ≤ r ∧ r < M → 0 ≤ f r ∧ f r < M) {x : Int} (hx : 0 ≤ x ∧ x < M) : ∀ n, 0 ≤ it f n x ∧ it f n x < M
  | 0 => hx
  | n + 1 => hf _ (it_bd hf hx n)
theorem halfS_bd {b r x : Int} (hb : 0 ≤ b ∧ b < 4294967296) (hr : 0 ≤ r ∧ r < 4294967296) (hx : 0 ≤ x ∧ x < 4294967296) : 0 ≤ halfS b r x ∧ halfS b r x < 4294967296 :=
  it_bd (fun r hr => half1_bd hb hr) (xor_bd hr hx) 8
theorem halving1_any (r x m : Int) (g : Nat) (w : World) (K : w.heap[g]? = some (.cells #[.int .u32 m] 23 (0, 0))) (m0 : 0 ≤ m ∧ m < 4294967296) (r0 : 0 ≤ r ∧ r < 4294967296) (x0 : 0 ≤ x ∧ x < 4294967296) :
    Calls Try.prog 28 #[.int .u32 r, .int .u32 x, .pointer (some ⟨g, 0, none⟩)] w fun e w' => e = .returned (.int .u32 (halfS m r x)) ∧ w = w' := by
  have f0 := blk_cell (i := 0) K rfl
  clear K
  go_enter Try.func28, Try.ntmps28
  go_wp2
  go_loop [0, 6, 10] (fun r0 _ i => ∃ k : Nat, k ≤ 8 ∧ i = .int .i64 k ∧ r0 = .int .u32 (it (half1 m) k (bits .xor .u32 r x))) (fun _ _ i => 8 - (intOf i).toNat)
  case atStart => exact ⟨0, by omega, rfl, rfl⟩
  case round =>
    obtain ⟨k, hk, rfl, rfl⟩ := hrel
    by_cases hlt : (k : Int) < 8
    · have hb := it_bd (M := 4294967296) (fun r hr => half1_bd m0 hr) (xor_bd r0 x0) k
      generalize hq : it (half1 m) k (bits .xor .u32 r x) = q at hb
      obtain ⟨q0, q1⟩ := hb
      have HQ := Lib.hid hq
      clear hq
      have ht : q.tmod 2 = q % 2 := Int.tmod_eq_emod_of_nonneg q0
      have hd : q.tdiv 2 = q / 2 := Int.tdiv_eq_ediv_of_nonneg q0
      rcases (by omega : q % 2 = 1 ∨ q % 2 = 0) with h1 | h1
      · have HS := Lib.hid (show it (half1 m) (k + 1) (bits .xor .u32 r x) = bits .xor .u32 (q / 2) m by show half1 m (it (half1 m) k (bits .xor .u32 r x)) = _; rw [HQ.out]; unfold half1; rw [if_pos h1])
        go_wp2
        go_round
        case rel => exact ⟨k + 1, by omega, by go_num, by rw [HS.out]⟩
        case measure => simp [intOf]; omega
      · have HS := Lib.hid (show it (half1 m) (k + 1) (bits .xor .u32 r x) = q / 2 by show half1 m (it (half1 m) k (bits .xor .u32 r x)) = _; rw [HQ.out]; unfold half1; rw [if_neg (by omega)])
        go_wp2
        go_round
        case rel => exact ⟨k + 1, by omega, by go_num, by rw [HS.out]⟩
        case measure => simp [intOf]; omega
    · obtain rfl : k = 8 := by omega
      go_wp2
      go_ret
      exact ⟨rfl, rfl⟩
end Go.Proofs.Ytjfdcgpnjjhhoaa
