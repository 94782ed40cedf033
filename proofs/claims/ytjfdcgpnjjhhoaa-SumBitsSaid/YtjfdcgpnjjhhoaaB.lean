import Derived.Test.YtjfdcgpnjjhhoaaA
set_option linter.unusedVariables false
set_option linter.unusedSimpArgs false
namespace Go.Proofs.Ytjfdcgpnjjhhoaa
open Go.RowKit
theorem xor_bd16 {a b : Int} (ha : 0 ≤ a ∧ a < 65536) (hb : 0 ≤ b ∧ b < 65536) : 0 ≤ bits .xor .u32 a b ∧ bits .xor .u32 a b < 65536 := by
  rw [u32_xor a b ha.1 (by omega) hb.1 (by omega)]
  have := Nat.xor_lt_two_pow (n := 16) (x := a.toNat) (y := b.toNat) (by omega) (by omega)
  omega
def dbl1 (b r : Int) : Int := if 32768 ≤ r then bits .xor .u32 (r * 2 % 65536) b else r * 2 % 65536
def dblS (b r x : Int) : Int := it (dbl1 b) 8 (bits .xor .u32 r (x * 256))
theorem dbl1_bd {b r : Int} (hb : 0 ≤ b ∧ b < 65536) (hr : 0 ≤ r ∧ r < 65536) : 0 ≤ dbl1 b r ∧ dbl1 b r < 65536 := by
  unfold dbl1
  split
  · exact xor_bd16 (by omega) hb
  · omega
theorem dblS_bd {b r x : Int} (hb : 0 ≤ b ∧ b < 65536) (hr : 0 ≤ r ∧ r < 65536) (hx : 0 ≤ x ∧ x < 256) : 0 ≤ dblS b r x ∧ dblS b r x < 65536 :=
  it_bd (fun r hr => dbl1_bd hb hr) (xor_bd16 hr (by omega)) 8
theorem doubling1_any (r x m : Int) (g : Nat) (w : World) (K : w.heap[g]? = some (.cells #[.int .u32 m] 23 (0, 0))) (m0 : 0 ≤ m ∧ m < 65536) (r0 : 0 ≤ r ∧ r < 65536) (x0 : 0 ≤ x ∧ x < 256) :
    Calls Try.prog 29 #[.int .u32 r, .int .u32 x, .pointer (some ⟨g, 0, none⟩)] w fun e w' => e = .returned (.int .u32 (dblS m r x)) ∧ w = w' := by
  have f0 := blk_cell (i := 0) K rfl
  clear K
  have hx0 := x0
  obtain ⟨x0a, x0b⟩ := x0
  go_enter Try.func29, Try.ntmps29
  go_wp2
  go_loop [0, 6, 11] (fun r0 _ i => ∃ k : Nat, k ≤ 8 ∧ i = .int .i64 k ∧ r0 = .int .u32 (it (dbl1 m) k (bits .xor .u32 r (x * 256)))) (fun _ _ i => 8 - (intOf i).toNat)
  case atStart => exact ⟨0, by omega, rfl, by simp [it]⟩
  case round =>
    obtain ⟨k, hk, rfl, rfl⟩ := hrel
    by_cases hlt : (k : Int) < 8
    · have hb := it_bd (M := 65536) (fun r hr => dbl1_bd m0 hr) (xor_bd16 r0 (show 0 ≤ x * 256 ∧ x * 256 < 65536 by omega)) k
      generalize hq : it (dbl1 m) k (bits .xor .u32 r (x * 256)) = q at hb
      obtain ⟨q0, q1⟩ := hb
      have HQ := Lib.hid hq
      clear hq
      have ha : bits .and .u32 (q * 2) 65535 = q * 2 % 65536 := and_65535 _ (by omega) (by omega)
      have ha2 : bits .and .u32 (q * 2 % 4294967296) 65535 = q * 2 % 65536 := by rw [and_65535 _ (by omega) (by omega)]; omega
      by_cases h1 : (32768 : Int) ≤ q
      · have HS := Lib.hid (show it (dbl1 m) (k + 1) (bits .xor .u32 r (x * 256)) = bits .xor .u32 (q * 2 % 65536) m by show dbl1 m (it (dbl1 m) k (bits .xor .u32 r (x * 256))) = _; rw [HQ.out]; unfold dbl1; rw [if_pos h1])
        go_wp2
        go_round
        case rel => exact ⟨k + 1, by omega, by go_num, by rw [HS.out]⟩
        case measure => simp [intOf]; omega
      · have HS := Lib.hid (show it (dbl1 m) (k + 1) (bits .xor .u32 r (x * 256)) = q * 2 % 65536 by show dbl1 m (it (dbl1 m) k (bits .xor .u32 r (x * 256))) = _; rw [HQ.out]; unfold dbl1; rw [if_neg h1])
        go_wp2
        go_round
        case rel => exact ⟨k + 1, by omega, by go_num, by rw [HS.out]⟩
        case measure => simp [intOf]; omega
    · obtain rfl : k = 8 := by omega
      go_wp2
      go_ret
      exact ⟨rfl, rfl⟩
/-- How a kind is made: word, start, closure, its number, what is turned at last. -/
structure Way where
  word : Nat
  start : Int
  fn : Nat
  m : Int
  turn : Int
def wayK (kind : Int) : Option Way :=
  if kind = 1 then some ⟨1, 0, 27, 255, 0⟩ else if kind = 2 then some ⟨1, 0, 27, 65535, 0⟩ else if kind = 3 then some ⟨1, 0, 27, 4294967295, 0⟩
  else if kind = 4 then some ⟨2, 0, 27, 65535, 0⟩ else if kind = 5 then some ⟨2, 0, 27, 4294967295, 0⟩ else if kind = 6 then some ⟨4, 0, 27, 4294967295, 0⟩
  else if kind = 7 then some ⟨1, 0, 28, 40961, 0⟩ else if kind = 9 then some ⟨1, 4294967295, 28, 3988292384, 4294967295⟩ else if kind = 8 then some ⟨1, 65535, 29, 4129, 0⟩ else none
def WayPost (kind : Int) (w : World) (e : Ending) (w' : World) : Prop :=
  match wayK kind with
  | none => e = .returned (.agg #[.int .i64 0, .int .u32 0, .nilFunc, .int .u32 0]) ∧ Ext w w'
  | some y => ∃ g, e = .returned (.agg #[.int .i64 y.word, .int .u32 y.start, .func (.func y.fn) #[] #[.pointer (some ⟨g, 0, none⟩)], .int .u32 y.turn]) ∧ Ext w w' ∧ w.heap.size ≤ g ∧ w'.heap[g]? = some (.cells #[.int .u32 y.m] 23 (0, 0))
end Go.Proofs.Ytjfdcgpnjjhhoaa
