import Derived.Test.YtjdabmadpclbaaaB
set_option linter.unusedVariables false
set_option linter.unusedSimpArgs false
namespace Go.Proofs.Ytjdabmadpclbaaa
open Go.RowKit
def rankI (id : Int) (ext : Bool) : Int := if ext then id / 262144 * 524288 + 262144 + id % 262144 else id * 524288
def rankB (id : Int) (ext : Bool) (len : Int) (bs : List Int) : Int := if mayB id ext len bs then rankI id ext else 4294967295
theorem or32_add {a b : Int} (i : Nat) (ha : 0 ≤ a) (ha' : a < 4294967296) (hb : 0 ≤ b) (hb' : b < 4294967296) (h : a % 2 ^ i = 0) (h2 : b < 2 ^ i) : bits .or .u32 a b = a + b := by
  rw [u32_or a b ha ha' hb hb']
  obtain ⟨x, rfl⟩ := Int.eq_ofNat_of_zero_le ha
  obtain ⟨y, rfl⟩ := Int.eq_ofNat_of_zero_le hb
  simp only [Int.toNat_natCast]
  have e : x ||| y = x + y := by
    apply nat_join i
    · have : ((x % 2 ^ i : Nat) : Int) = 0 := by rw [Int.natCast_emod]; simpa using h
      omega
    · have : ((2 ^ i : Nat) : Int) = 2 ^ i := by simp
      omega
  rw [e]; simp
theorem rank_no (id : Int) (ext : Bool) (len : Int) (b0 b1 b2 b3 b4 b5 b6 b7 : Int) (w : World) (hm : mayB id ext len [b0, b1, b2, b3, b4, b5, b6, b7] = false) :
    Calls Try.prog 29 #[.agg #[.int .u32 id, .bool ext, .int .i64 len, .int .u8 b0, .int .u8 b1, .int .u8 b2, .int .u8 b3, .int .u8 b4, .int .u8 b5, .int .u8 b6, .int .u8 b7]] w fun e w' => e = .returned (.int .u32 4294967295) ∧ Ext w w' := by
  go_enter Try.func29, Try.ntmps29
  go_wp2_with (go_at_call 31; (with_reducible refine (may_any _ _ _ _ _ _ _ _ _ _ _ _).mono ?_); rintro e w1 ⟨rfl, x1⟩)
  go_ret
  exact ⟨rfl, ((Ext.refl _).alloc _).trans x1⟩
theorem rrank_no (id : Int) (ext : Bool) (len : Int) (b0 b1 b2 b3 b4 b5 b6 b7 : Int) (w : World) (hm : mayB id ext len [b0, b1, b2, b3, b4, b5, b6, b7] = false) :
    Calls Try.prog 24 #[.agg #[.int .u32 id, .bool ext, .int .i64 len, .int .u8 b0, .int .u8 b1, .int .u8 b2, .int .u8 b3, .int .u8 b4, .int .u8 b5, .int .u8 b6, .int .u8 b7]] w fun e w' => e = .returned (.int .u32 4294967295) ∧ Ext w w' := by
  go_enter Try.func24, Try.ntmps24
  go_wp2_with (go_at_call 23; (with_reducible refine (rmay_any _ _ _ _ _ _ _ _ _ _ _ _).mono ?_); rintro e w1 ⟨rfl, x1⟩)
  go_ret
  exact ⟨rfl, ((Ext.refl _).alloc _).trans x1⟩
theorem rank_any (id : Int) (ext : Bool) (len : Int) (b0 b1 b2 b3 b4 b5 b6 b7 : Int) (w : World) (hid : 0 ≤ id) (hm : mayB id ext len [b0, b1, b2, b3, b4, b5, b6, b7] = true) :
    Calls Try.prog 29 #[.agg #[.int .u32 id, .bool ext, .int .i64 len, .int .u8 b0, .int .u8 b1, .int .u8 b2, .int .u8 b3, .int .u8 b4, .int .u8 b5, .int .u8 b6, .int .u8 b7]] w fun e w' => e = .returned (.int .u32 (rankI id ext)) ∧ Ext w w' := by
  have hI : id < idsI ext := by simp [mayB] at hm; omega
  have HI := Lib.hid hI; clear hI
  cases ext
  · go_enter Try.func29, Try.ntmps29
    go_wp2_with (go_at_call 31; (with_reducible refine (may_any _ _ _ _ _ _ _ _ _ _ _ _).mono ?_); rintro e w1 ⟨rfl, x1⟩; have hrow : w1.heap[w.heap.size]? = some (.cells #[.int .u32 id, .bool false, .int .i64 len, .int .u8 b0, .int .u8 b1, .int .u8 b2, .int .u8 b3, .int .u8 b4, .int .u8 b5, .int .u8 b6, .int .u8 b7] 34 (0, 0)) := blk_of x1; have f0 : w1.cell? ⟨w.heap.size, 0, none⟩ = some (.int .u32 id) := blk_cell hrow rfl; have f1 : w1.cell? ⟨w.heap.size, 1, none⟩ = some (.bool false) := blk_cell hrow rfl)
    go_ret
    refine ⟨?_, ((Ext.refl _).alloc _).trans x1⟩
    have := HI.out
    simp [idsI] at this
    simp [rankI]
    omega
  · go_enter Try.func29, Try.ntmps29
    go_wp2_with (go_at_call 31; (with_reducible refine (may_any _ _ _ _ _ _ _ _ _ _ _ _).mono ?_); rintro e w1 ⟨rfl, x1⟩; have hrow : w1.heap[w.heap.size]? = some (.cells #[.int .u32 id, .bool true, .int .i64 len, .int .u8 b0, .int .u8 b1, .int .u8 b2, .int .u8 b3, .int .u8 b4, .int .u8 b5, .int .u8 b6, .int .u8 b7] 34 (0, 0)) := blk_of x1; have f0 : w1.cell? ⟨w.heap.size, 0, none⟩ = some (.int .u32 id) := blk_cell hrow rfl; have f1 : w1.cell? ⟨w.heap.size, 1, none⟩ = some (.bool true) := blk_cell hrow rfl)
    go_quiet (fail)
    go_wp2
    go_ret
    refine ⟨?_, ((Ext.refl _).alloc _).trans (x1.drewN _)⟩
    have := HI.out
    simp [idsI] at this
    simp [rankI]
    have e1 : id / 262144 * 524288 % 4294967296 = id / 262144 * 524288 := by omega
    rw [e1, or32_add (a := id / 262144 * 524288) (b := 262144) 19 (by omega) (by omega) (by omega) (by omega) (by simp; try omega) (by omega), or32_add 18 (by omega) (by omega) (by omega) (by omega) (by simp; try omega) (by omega)]
theorem rrank_any (id : Int) (ext : Bool) (len : Int) (b0 b1 b2 b3 b4 b5 b6 b7 : Int) (w : World) (hid : 0 ≤ id) (hm : mayB id ext len [b0, b1, b2, b3, b4, b5, b6, b7] = true) :
    Calls Try.prog 24 #[.agg #[.int .u32 id, .bool ext, .int .i64 len, .int .u8 b0, .int .u8 b1, .int .u8 b2, .int .u8 b3, .int .u8 b4, .int .u8 b5, .int .u8 b6, .int .u8 b7]] w fun e w' => e = .returned (.int .u32 (rankI id ext)) ∧ Ext w w' := by
  have hI : id < idsI ext := by simp [mayB] at hm; omega
  have HI := Lib.hid hI; clear hI
  cases ext
  · go_enter Try.func24, Try.ntmps24
    go_wp2_with (go_at_call 23; (with_reducible refine (rmay_any _ _ _ _ _ _ _ _ _ _ _ _).mono ?_); rintro e w1 ⟨rfl, x1⟩; have hrow : w1.heap[w.heap.size]? = some (.cells #[.int .u32 id, .bool false, .int .i64 len, .int .u8 b0, .int .u8 b1, .int .u8 b2, .int .u8 b3, .int .u8 b4, .int .u8 b5, .int .u8 b6, .int .u8 b7] 34 (0, 0)) := blk_of x1; have f0 : w1.cell? ⟨w.heap.size, 0, none⟩ = some (.int .u32 id) := blk_cell hrow rfl; have f1 : w1.cell? ⟨w.heap.size, 1, none⟩ = some (.bool false) := blk_cell hrow rfl)
    go_ret
    refine ⟨?_, ((Ext.refl _).alloc _).trans x1⟩
    have := HI.out
    simp [idsI] at this
    simp [rankI]
    omega
  · go_enter Try.func24, Try.ntmps24
    go_wp2_with (go_at_call 23; (with_reducible refine (rmay_any _ _ _ _ _ _ _ _ _ _ _ _).mono ?_); rintro e w1 ⟨rfl, x1⟩; have hrow : w1.heap[w.heap.size]? = some (.cells #[.int .u32 id, .bool true, .int .i64 len, .int .u8 b0, .int .u8 b1, .int .u8 b2, .int .u8 b3, .int .u8 b4, .int .u8 b5, .int .u8 b6, .int .u8 b7] 34 (0, 0)) := blk_of x1; have f0 : w1.cell? ⟨w.heap.size, 0, none⟩ = some (.int .u32 id) := blk_cell hrow rfl; have f1 : w1.cell? ⟨w.heap.size, 1, none⟩ = some (.bool true) := blk_cell hrow rfl)
    try go_quiet (fail)
    go_wp2
    go_ret
    refine ⟨?_, ((Ext.refl _).alloc _).trans (by first | exact x1 | exact x1.drewN _)⟩
    have := HI.out
    simp [idsI] at this
    simp [rankI]
    rw [Int.tdiv_eq_ediv_of_nonneg hid]
    omega
theorem rankB_any (id : Int) (ext : Bool) (len : Int) (b0 b1 b2 b3 b4 b5 b6 b7 : Int) (w : World) (hid : 0 ≤ id) :
    Calls Try.prog 29 #[.agg #[.int .u32 id, .bool ext, .int .i64 len, .int .u8 b0, .int .u8 b1, .int .u8 b2, .int .u8 b3, .int .u8 b4, .int .u8 b5, .int .u8 b6, .int .u8 b7]] w fun e w' => e = .returned (.int .u32 (rankB id ext len [b0, b1, b2, b3, b4, b5, b6, b7])) ∧ Ext w w' := by
  unfold rankB
  cases hm : mayB id ext len [b0, b1, b2, b3, b4, b5, b6, b7]
  · exact rank_no id ext len b0 b1 b2 b3 b4 b5 b6 b7 w hm
  · exact rank_any id ext len b0 b1 b2 b3 b4 b5 b6 b7 w hid hm
theorem rrankB_any (id : Int) (ext : Bool) (len : Int) (b0 b1 b2 b3 b4 b5 b6 b7 : Int) (w : World) (hid : 0 ≤ id) :
    Calls Try.prog 24 #[.agg #[.int .u32 id, .bool ext, .int .i64 len, .int .u8 b0, .int .u8 b1, .int .u8 b2, .int .u8 b3, .int .u8 b4, .int .u8 b5, .int .u8 b6, .int .u8 b7]] w fun e w' => e = .returned (.int .u32 (rankB id ext len [b0, b1, b2, b3, b4, b5, b6, b7])) ∧ Ext w w' := by
  unfold rankB
  cases hm : mayB id ext len [b0, b1, b2, b3, b4, b5, b6, b7]
  · exact rrank_no id ext len b0 b1 b2 b3 b4 b5 b6 b7 w hm
  · exact rrank_any id ext len b0 b1 b2 b3 b4 b5 b6 b7 w hid hm
end Go.Proofs.Ytjdabmadpclbaaa
