import Derived.Test.YtafdbhajngoafaaQ
import Derived.Test.YtafdbhajngoafaaU
set_option linter.unusedVariables false
namespace Go.Proofs.Ytafdbhajngoafaa
open Go.RowKit
theorem el42 : Elem Try.prog 42 22 1 4 (.int .u32 0) := Elem.mk' Try.underlying42 (by kernel_rfl) rfl (by omega)
def u32s (xs : List Int) : List Value := xs.map (Value.int .u32)
theorem u32s_append (a b : List Int) : u32s (a ++ b) = u32s a ++ u32s b := by simp [u32s]
theorem hiL_succ (X : Int) (k : Nat) : hiL X (k + 1) = hiL X k ++ [bt X (28 - k)] := by simp [hiL, List.range_succ]
theorem loL_succ (X : Int) (k : Nat) : loL X (k + 1) = loL X k ++ [bt X (17 - k)] := by simp [loL, List.range_succ]
theorem bitX (X : Int) (i : Nat) (h0 : 0 ≤ X) (h1 : X < 4294967296) : bits .and .u32 (X / 2 ^ i) 1 = bt X i := by
  have hp : (0 : Int) < 2 ^ i := Int.pow_pos (by omega)
  have a := Int.ediv_nonneg h0 (Int.le_of_lt hp)
  have b : X / 2 ^ i ≤ X := Int.ediv_le_self _ h0
  exact and1_u32 _ a (by omega)
set_option maxHeartbeats 1000000 in
theorem bits_short (id : Int) (L b0 b1 b2 b3 b4 b5 b6 b7 : Int) (w : World) (h0 : 0 ≤ id) (h1 : id < 2048) :
    Calls Try.prog 22 #[.agg #[.int .u32 id, .bool false, .int .i64 L, .int .u8 b0, .int .u8 b1, .int .u8 b2, .int .u8 b3, .int .u8 b4, .int .u8 b5, .int .u8 b6, .int .u8 b7]] w fun e w' => ∃ A c, e = .returned (.slice A 30 c) ∧ 30 ≤ c ∧ Ext w w' ∧ Shows w' 1 A 30 (u32s (bitsL (rankI id false))) := by
  have hfin := Lib.hid (bitsL_of (id * 262144) 0 (rankI id false) (by simp [rankI]; try omega) (by omega) (by omega))
  go_enter Try.func22, Try.ntmps22
  go_wp2
  obtain ⟨W1, hW1⟩ : ∃ V, V = w.alloc (.cells #[.int .u32 id, .bool false, .int .i64 L, .int .u8 b0, .int .u8 b1, .int .u8 b2, .int .u8 b3, .int .u8 b4, .int .u8 b5, .int .u8 b6, .int .u8 b7] 26) := ⟨_, rfl⟩
  rw [← hW1]
  have v1 : Ext w W1 := by rw [hW1]; exact (Ext.refl _).alloc _
  have K1 : W1.heap[w.heap.size]? = some (.cells #[.int .u32 id, .bool false, .int .i64 L, .int .u8 b0, .int .u8 b1, .int .u8 b2, .int .u8 b3, .int .u8 b4, .int .u8 b5, .int .u8 b6, .int .u8 b7] 26 (0, 0)) := by rw [hW1]; exact heap_alloc_new _ _
  clear hW1
  go_loopw [3, 5] (fun o v wr => ∃ (k : Nat) (i : Int), k ≤ 11 ∧ 28 ≤ i + k ∧ i + k ≤ 28 ∧ v = .int .i64 i ∧ wr.ownsRow W1.heap.size 22 1 o k (u32s (hiL (id * 262144) k)) ∧ Ext W1 wr) (fun _ v _ => (intOf v - 17).toNat)
  case atStart => exact ⟨0, 28, by omega, by omega, by omega, rfl, World.ownsRow_nil _ _ _ _, Ext.refl _⟩
  case round =>
    obtain ⟨k, i, hk, hi1, hi2, rfl, hown, hx⟩ := hrel
    by_cases hlt : 18 ≤ i
    · have hi3 : i < 32 := by omega
      go_wp2_with (at_builtin; refine wpList_app el42 rfl _ _ rfl (hown.alloc _) rfl (Shows.new1 _ _ _) rfl (one1 _ _) (le_max (by omega)) (by omega) rfl (hx.alloc _) ?_; intro v9 w9 hown9 x9 hg9 hat9)
      go_roundw
      case rel => exact ⟨k + 1, i - 1, by omega, by omega, by omega, rfl, by rw [hiL_succ, u32s_append, ← bitX _ _ (by omega) (by omega), show 28 - k = i.toNat by omega]; exact hown9, x9⟩
      case measure => simp [intOf]; omega
    · have hi3 : i < 18 := by omega
      obtain rfl : k = 11 := by omega
      have f1 : wr.cell? ⟨w.heap.size, 1, none⟩ = some (.bool false) := blk_cell ((hx.block _ (blk_lt K1)).trans K1) rfl
      go_wp2_with (at_builtin; refine wpList_app el42 rfl _ _ rfl (hown.alloc _) rfl (Shows.new1 _ _ _) rfl (one1 _ _) (le_max (by omega)) (by omega) rfl (hx.alloc _) ?_; intro v8 w8 hown8 x8 hg8 hat8)
      clear hg8 hat8 hown f1
      go_loopw [3, 7] (fun o v wr => ∃ (k : Nat) (i : Int), k ≤ 18 ∧ 17 ≤ i + k ∧ i + k ≤ 17 ∧ v = .int .i64 i ∧ wr.ownsRow W1.heap.size 22 1 o (12 + k) (u32s (hiL (id * 262144) 11 ++ [0] ++ loL (id * 262144) k)) ∧ Ext W1 wr) (fun _ v _ => (intOf v + 1).toNat)
      case atStart => exact ⟨0, 17, by omega, by omega, by omega, rfl, by simpa [u32s, loL] using hown8, x8⟩
      case round =>
        clear hx hown8 x8 hi1 hi2 hi3 hlt hk
        obtain ⟨k, i, hk, hi1, hi2, rfl, hown, hx⟩ := hrel
        by_cases hlt : 0 ≤ i
        · have hi3 : i < 32 := by omega
          go_wp2_with (at_builtin; refine wpList_app el42 rfl _ _ rfl (hown.alloc _) rfl (Shows.new1 _ _ _) rfl (one1 _ _) (le_max (by omega)) (by omega) rfl (hx.alloc _) ?_; intro v9 w9 hown9 x9 hg9 hat9)
          go_roundw
          case rel => exact ⟨k + 1, i - 1, by omega, by omega, by omega, rfl, by rw [loL_succ, ← List.append_assoc, u32s_append, ← bitX _ _ (by omega) (by omega), show 17 - k = i.toNat by omega]; exact hown9, x9⟩
          case measure => simp [intOf]; omega
        · have hi3 : i < 0 := by omega
          obtain rfl : k = 18 := by omega
          rw [hfin.out] at hown
          obtain ⟨A, c, rfl, hc1, hc2, hsh⟩ := own_form hown
          go_wp2
          go_ret
          exact ⟨A, c, rfl, hc1, v1.trans hx, hsh⟩
set_option maxHeartbeats 1000000 in
theorem bits_long (id : Int) (L b0 b1 b2 b3 b4 b5 b6 b7 : Int) (w : World) (h0 : 0 ≤ id) (h1 : id < 536870912) :
    Calls Try.prog 22 #[.agg #[.int .u32 id, .bool true, .int .i64 L, .int .u8 b0, .int .u8 b1, .int .u8 b2, .int .u8 b3, .int .u8 b4, .int .u8 b5, .int .u8 b6, .int .u8 b7]] w fun e w' => ∃ A c, e = .returned (.slice A 30 c) ∧ 30 ≤ c ∧ Ext w w' ∧ Shows w' 1 A 30 (u32s (bitsL (rankI id true))) := by
  have hfin := Lib.hid (bitsL_of (id) 1 (rankI id true) (by simp [rankI]; try omega) (by omega) (by omega))
  go_enter Try.func22, Try.ntmps22
  go_wp2
  obtain ⟨W1, hW1⟩ : ∃ V, V = w.alloc (.cells #[.int .u32 id, .bool true, .int .i64 L, .int .u8 b0, .int .u8 b1, .int .u8 b2, .int .u8 b3, .int .u8 b4, .int .u8 b5, .int .u8 b6, .int .u8 b7] 26) := ⟨_, rfl⟩
  rw [← hW1]
  have v1 : Ext w W1 := by rw [hW1]; exact (Ext.refl _).alloc _
  have K1 : W1.heap[w.heap.size]? = some (.cells #[.int .u32 id, .bool true, .int .i64 L, .int .u8 b0, .int .u8 b1, .int .u8 b2, .int .u8 b3, .int .u8 b4, .int .u8 b5, .int .u8 b6, .int .u8 b7] 26 (0, 0)) := by rw [hW1]; exact heap_alloc_new _ _
  clear hW1
  go_loopw [3, 5] (fun o v wr => ∃ (k : Nat) (i : Int), k ≤ 11 ∧ 28 ≤ i + k ∧ i + k ≤ 28 ∧ v = .int .i64 i ∧ wr.ownsRow W1.heap.size 22 1 o k (u32s (hiL (id) k)) ∧ Ext W1 wr) (fun _ v _ => (intOf v - 17).toNat)
  case atStart => exact ⟨0, 28, by omega, by omega, by omega, rfl, World.ownsRow_nil _ _ _ _, Ext.refl _⟩
  case round =>
    obtain ⟨k, i, hk, hi1, hi2, rfl, hown, hx⟩ := hrel
    by_cases hlt : 18 ≤ i
    · have hi3 : i < 32 := by omega
      go_wp2_with (at_builtin; refine wpList_app el42 rfl _ _ rfl (hown.alloc _) rfl (Shows.new1 _ _ _) rfl (one1 _ _) (le_max (by omega)) (by omega) rfl (hx.alloc _) ?_; intro v9 w9 hown9 x9 hg9 hat9)
      go_roundw
      case rel => exact ⟨k + 1, i - 1, by omega, by omega, by omega, rfl, by rw [hiL_succ, u32s_append, ← bitX _ _ (by omega) (by omega), show 28 - k = i.toNat by omega]; exact hown9, x9⟩
      case measure => simp [intOf]; omega
    · have hi3 : i < 18 := by omega
      obtain rfl : k = 11 := by omega
      have f1 : wr.cell? ⟨w.heap.size, 1, none⟩ = some (.bool true) := blk_cell ((hx.block _ (blk_lt K1)).trans K1) rfl
      go_wp2_with (at_builtin; refine wpList_app el42 rfl _ _ rfl (hown.alloc _) rfl (Shows.new1 _ _ _) rfl (one1 _ _) (le_max (by omega)) (by omega) rfl (hx.alloc _) ?_; intro v8 w8 hown8 x8 hg8 hat8)
      clear hg8 hat8 hown f1
      go_loopw [3, 7] (fun o v wr => ∃ (k : Nat) (i : Int), k ≤ 18 ∧ 17 ≤ i + k ∧ i + k ≤ 17 ∧ v = .int .i64 i ∧ wr.ownsRow W1.heap.size 22 1 o (12 + k) (u32s (hiL (id) 11 ++ [1] ++ loL (id) k)) ∧ Ext W1 wr) (fun _ v _ => (intOf v + 1).toNat)
      case atStart => exact ⟨0, 17, by omega, by omega, by omega, rfl, by simpa [u32s, loL] using hown8, x8⟩
      case round =>
        clear hx hown8 x8 hi1 hi2 hi3 hlt hk
        obtain ⟨k, i, hk, hi1, hi2, rfl, hown, hx⟩ := hrel
        by_cases hlt : 0 ≤ i
        · have hi3 : i < 32 := by omega
          go_wp2_with (at_builtin; refine wpList_app el42 rfl _ _ rfl (hown.alloc _) rfl (Shows.new1 _ _ _) rfl (one1 _ _) (le_max (by omega)) (by omega) rfl (hx.alloc _) ?_; intro v9 w9 hown9 x9 hg9 hat9)
          go_roundw
          case rel => exact ⟨k + 1, i - 1, by omega, by omega, by omega, rfl, by rw [loL_succ, ← List.append_assoc, u32s_append, ← bitX _ _ (by omega) (by omega), show 17 - k = i.toNat by omega]; exact hown9, x9⟩
          case measure => simp [intOf]; omega
        · have hi3 : i < 0 := by omega
          obtain rfl : k = 18 := by omega
          rw [hfin.out] at hown
          obtain ⟨A, c, rfl, hc1, hc2, hsh⟩ := own_form hown
          go_wp2
          go_ret
          exact ⟨A, c, rfl, hc1, v1.trans hx, hsh⟩
end Go.Proofs.Ytafdbhajngoafaa
