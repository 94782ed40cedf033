import Derived.Test.YtdikhpifamjalaaO
set_option linter.unusedVariables false
set_option linter.unusedSimpArgs false
namespace Go.Proofs.Ytdikhpifamjalaa
open Go.RowKit
set_option maxHeartbeats 2000000 in
theorem nil_law (f : Fr) (w : World) : Calls Try.prog 7 #[.agg f.vals.toArray] w fun e w' => e = .returned (.bool true) ∧ Ext w w' := by
  obtain ⟨w0, hw0⟩ : ∃ V, V = w.alloc (.cells f.vals.toArray 37) := ⟨_, rfl⟩
  have k0 : w0.heap[w.heap.size]? = some (.cells f.vals.toArray 37 (0, 0)) := by rw [hw0]; exact heap_alloc_new _ _
  have x0 : Ext w w0 := by rw [hw0]; exact (Ext.refl _).alloc _
  obtain ⟨z, hz⟩ : ∃ z, z = Fr.zero := ⟨_, rfl⟩
  have nn := fun W => next_nil W
  have rn := fun W => recv_nil W
  rw [← hz] at nn rn
  clear hz
  have NN := Lib.hid nn
  have RN := Lib.hid rn
  clear nn rn
  go_enter Try.func7, Try.ntmps7
  go_upto_region 1 with (fail)
  rw [← hw0]
  clear hw0
  go_upto_region 3 with (go_at_call 9; (refine (shown_any _).mono ?_); rintro e w1 ⟨rfl, x1⟩)
  go_upto_region 4 with (go_at_call 16; (refine (done_nil _).mono ?_); rintro e w2 ⟨rfl, rfl⟩)
  go_upto_region 5 with (first | (go_at_call 24; (refine (NN.out _).mono ?_); rintro e w3 ⟨rfl, x3⟩) | refine wpList_stnew rfl 37 _ _ rfl rfl z.vals rfl rfl size37 rfl (fr_one z) ?_)
  obtain ⟨w4, hw4⟩ : ∃ V, V = w3.alloc (.cells z.vals.toArray 37) := ⟨_, rfl⟩
  have x4 : Ext w3 w4 := by rw [hw4]; exact (Ext.refl _).alloc _
  rw [← hw4]
  clear hw4
  go_upto_region 6 with (first | (go_at_call 20; (refine (RN.out _).mono ?_); rintro e w5 ⟨rfl, x5⟩) | refine wpList_stnew rfl 37 _ _ rfl rfl z.vals rfl rfl size37 rfl (fr_one z) ?_)
  obtain ⟨w6, hw6⟩ : ∃ V, V = w5.alloc (.cells z.vals.toArray 37) := ⟨_, rfl⟩
  have x6 : Ext w5 w6 := by rw [hw6]; exact (Ext.refl _).alloc _
  rw [← hw6]
  clear hw6
  have xx := (((x1.trans x3).trans x4).trans x5).trans x6
  have k6 := (xx.block _ (blk_lt k0)).trans k0
  go_wp2_with (first
    | refine wpList_ldrowG rfl 37 _ rfl k7 rfl Try.underlying37 rfl size37 ?_
    | refine wpList_ldrowG rfl 37 _ rfl k6 rfl Try.underlying37 rfl size37 ?_
    | (go_at_call 14; (refine (send_nil f _).mono ?_); rintro e w7 ⟨rfl, x7⟩; have k7 := (x7.block _ (blk_lt k6)).trans k6)
    | (go_at_call 18; (refine (take_nil f _).mono ?_); rintro e w8 ⟨rfl, x8⟩)
    | (go_at_call 22; (refine (over_nil _).mono ?_); rintro e w9 ⟨rfl, rfl⟩)
    | (go_at_call 26; (refine (wait_nil _).mono ?_); rintro e w10 ⟨rfl, rfl⟩)
    | (go_at_call 27; (refine (taken_nil _).mono ?_); rintro e w11 ⟨rfl, rfl⟩))
  go_ret
  exact ⟨rfl, ((x0.trans xx).trans x7).trans x8⟩
theorem BoxNil_law (w : World) (id : Int) (ext : Bool) (len b0 b1 b2 b3 b4 b5 b6 b7 : Int) : Calls Try.prog 7 #[.agg #[.int .u32 id, .bool ext, .int .i64 len, .int .u8 b0, .int .u8 b1, .int .u8 b2, .int .u8 b3, .int .u8 b4, .int .u8 b5, .int .u8 b6, .int .u8 b7]] w fun e w' => e = .returned (.bool true) ∧ Ext w w' :=
  nil_law ⟨id, ext, len, b0, b1, b2, b3, b4, b5, b6, b7⟩ w
end Go.Proofs.Ytdikhpifamjalaa
