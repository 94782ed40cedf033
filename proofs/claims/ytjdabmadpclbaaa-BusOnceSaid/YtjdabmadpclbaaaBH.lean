import Derived.Test.YtjdabmadpclbaaaBGb
import Derived.Test.YtjdabmadpclbaaaBGc
set_option linter.unusedVariables false
set_option linter.unusedSimpArgs false
namespace Go.Proofs.Ytjdabmadpclbaaa
open Go.RowKit
set_option maxHeartbeats 4000000 in
theorem none_law (w : World) (f : Fr) (a : Int) (a0 : 0 ≤ a) (a1 : a < 256) : Calls Try.prog 6 #[.agg f.vals.toArray, .int .u8 a] w fun e w' => e = .returned (.bool true) ∧ Ext w w' := by
  have t0 := Int.tmod_nonneg 10 a0
  have t1 := Int.tmod_lt_of_pos a (show (0 : Int) < 10 by omega)
  obtain ⟨m, hm⟩ : ∃ m : Nat, a.tmod 10 = m := ⟨(a.tmod 10).toNat, by omega⟩
  have hm9 : m ≤ 9 := by omega
  obtain ⟨i41, j1, j2, j3, j4⟩ := info41
  obtain ⟨w1, hw1⟩ : ∃ V, V = w.alloc (.cells f.vals.toArray 34) := ⟨_, rfl⟩
  have k2 : w1.heap[w.heap.size]? = some (.cells f.vals.toArray 34 (0, 0)) := by rw [hw1]; exact heap_alloc_new _ _
  have x1 : Ext w w1 := by rw [hw1]; exact (Ext.refl _).alloc _
  go_enter Try.func6, Try.ntmps6
  go_upto_region 1 with (fail)
  change Code.wp _ _ _ _ (w.alloc (.cells f.vals.toArray 34))
  rw [← hw1]
  clear hw1
  go_upto_region 2 with (go_at_call 8; (refine (shown_any _).mono ?_); rintro e w2 ⟨rfl, x2⟩)
  go_upto_region 3 with (refine wpList_make_full _ rfl _ _ 26 rfl 0 41 i41 (.pointer none) 1 Try.underlying26 j1 j2 j3 .u8 .u8 _ _ m rfl rfl (by omega) (by omega) (by rw [j4]; omega) (le_max (by omega)) (Nat.zero_le _) ?_; intro w3 own3 g3)
  rw [made_nils] at own3
  have SH := Lib.hid (Shows.of_own own3)
  have x3 : Ext w2 w3 := Ext.of_grown (Ext.refl _) g3 (fun k e => by cases e)
  obtain ⟨B, hB⟩ : ∃ B, B = (⟨w2.heap.size, 0, none⟩ : Addr) := ⟨_, rfl⟩
  rw [← hB] at SH ⊢
  clear own3 g3 hB j1 j2 j3 j4 t0 t1
  go_upto_region 4 with (first
    | (go_at_call 11; (refine (nfirst_any SH.out (by omega)).mono ?_); rintro e w4 ⟨rfl, x4⟩)
    | refine wpList_stnew rfl 34 _ _ rfl rfl Fr.zero.vals rfl rfl size37 rfl (fr_one Fr.zero) ?_)
  obtain ⟨w5, hw5⟩ : ∃ V, V = w4.alloc (.cells Fr.zero.vals.toArray 34) := ⟨_, rfl⟩
  have x5 : Ext w3 w5 := by rw [hw5]; exact x4.alloc _
  rw [← hw5]
  clear hw5 x4
  go_upto_region 5 with (first
    | (go_at_call 15; (refine (nturn_any (SH.out.ext x5) (by omega)).mono ?_); rintro e w6 ⟨rfl, x6⟩)
    | refine wpList_stnew rfl 34 _ _ rfl rfl Fr.zero.vals rfl rfl size37 rfl (fr_one Fr.zero) ?_)
  obtain ⟨w7, hw7⟩ : ∃ V, V = w6.alloc (.cells Fr.zero.vals.toArray 34) := ⟨_, rfl⟩
  have x7 : Ext w5 w7 := by rw [hw7]; exact x6.alloc _
  rw [← hw7]
  clear hw7 x6
  have x27 := (x2.trans x3).trans (x5.trans x7)
  have k22 := (x27.block _ (blk_lt k2)).trans k2
  go_wp2_with (first
    | refine wpList_ldrowG rfl 34 _ rfl k22 rfl Try.underlying34 rfl size37 ?_
    | (go_at_call 17; (refine (nput_any f (SH.out.ext (x5.trans x7)) (by omega)).mono ?_); rintro e wA ⟨rfl, xA⟩))
  go_ret
  exact ⟨rfl, (x1.trans x27).trans xA⟩
theorem BusNone_law (w : World) (id : Int) (ext : Bool) (len b0 b1 b2 b3 b4 b5 b6 b7 : Int) (a : Int) (a0 : 0 ≤ a) (a1 : a < 256) : Calls Try.prog 6 #[.agg #[.int .u32 id, .bool ext, .int .i64 len, .int .u8 b0, .int .u8 b1, .int .u8 b2, .int .u8 b3, .int .u8 b4, .int .u8 b5, .int .u8 b6, .int .u8 b7], .int .u8 a] w fun e w' => e = .returned (.bool true) ∧ Ext w w' :=
  none_law w ⟨id, ext, len, b0, b1, b2, b3, b4, b5, b6, b7⟩ a a0 a1
end Go.Proofs.Ytjdabmadpclbaaa
