import Derived.Test.YtafdbhajngoafaaF
import Derived.Test.YtafdbhajngoafaaO
import Derived.Deep.RegionHeld3
set_option linter.unusedVariables false
namespace Go.Proofs.Ytafdbhajngoafaa
open Go.RowKit
theorem keep11 {W1 W : World} {a : Nat} {x0 x1 x2 x3 x4 x5 x6 x7 x8 x9 xa : Value} {t : TypeId} {fr : Nat × Nat} (h : W1.heap[a]? = some (.cells #[x0, x1, x2, x3, x4, x5, x6, x7, x8, x9, xa] t fr)) (x : Ext W1 W) :
    W.cell? ⟨a, 0, none⟩ = some x0 ∧ W.cell? ⟨a, 1, none⟩ = some x1 ∧ W.cell? ⟨a, 2, none⟩ = some x2 ∧ W.cell? ⟨a, 3, none⟩ = some x3 ∧ W.cell? ⟨a, 4, none⟩ = some x4 ∧ W.cell? ⟨a, 5, none⟩ = some x5 ∧ W.cell? ⟨a, 6, none⟩ = some x6 ∧ W.cell? ⟨a, 7, none⟩ = some x7 ∧ W.cell? ⟨a, 8, none⟩ = some x8 ∧ W.cell? ⟨a, 9, none⟩ = some x9 ∧ W.cell? ⟨a, 10, none⟩ = some xa ∧ Ext W1 W := by
  obtain ⟨f0, f1, f2, f3, f4, f5, f6, f7, f8, f9, fa⟩ := cells11 ((x.block _ (blk_lt h)).trans h)
  exact ⟨f0, f1, f2, f3, f4, f5, f6, f7, f8, f9, fa, x⟩
set_option maxHeartbeats 1000000 in
theorem reads_no (w : World) (id : Int) (ext : Bool) (len b0 b1 b2 b3 b4 b5 b6 b7 : Int) (i0 : 0 ≤ id) (i1 : id < 4294967296) (l0 : -9223372036854775808 ≤ len) (l1 : len < 9223372036854775808) (hb : Byts [b0, b1, b2, b3, b4, b5, b6, b7]) (x : Int) (x0 : 0 ≤ x) (x1 : x < 256) (hm : mayB id ext len [b0, b1, b2, b3, b4, b5, b6, b7] = false) :
    Calls Try.prog 4 #[.agg #[.int .u32 id, .bool ext, .int .i64 len, .int .u8 b0, .int .u8 b1, .int .u8 b2, .int .u8 b3, .int .u8 b4, .int .u8 b5, .int .u8 b6, .int .u8 b7], .int .u8 x] w fun e w' => e = .returned (.bool true) ∧ Ext w w' := by
  have heq := fun d W => run_eq8 d W
  have s0 := fun W => str (A := none) (n := 0) (c := 0) (w := W) Rd.nil
  go_enter Try.func4, Try.ntmps4
  go_wp2
  obtain ⟨W1, hW1⟩ : ∃ W1, W1 = w.alloc (.cells #[.int .u32 id, .bool ext, .int .i64 len, .int .u8 b0, .int .u8 b1, .int .u8 b2, .int .u8 b3, .int .u8 b4, .int .u8 b5, .int .u8 b6, .int .u8 b7] 26) := ⟨_, rfl⟩
  rw [← hW1]
  have v1 : Ext w W1 := by rw [hW1]; exact (Ext.refl _).alloc _
  have K1 : W1.heap[w.heap.size]? = some (.cells #[.int .u32 id, .bool ext, .int .i64 len, .int .u8 b0, .int .u8 b1, .int .u8 b2, .int .u8 b3, .int .u8 b4, .int .u8 b5, .int .u8 b6, .int .u8 b7] 26 (0, 0)) := by rw [hW1]; exact heap_alloc_new _ _
  clear hW1
  go_region_held3 (fun W => W.cell? ⟨w.heap.size, 0, none⟩ = some (.int .u32 id) ∧ W.cell? ⟨w.heap.size, 1, none⟩ = some (.bool ext) ∧ W.cell? ⟨w.heap.size, 2, none⟩ = some (.int .i64 len) ∧ W.cell? ⟨w.heap.size, 3, none⟩ = some (.int .u8 b0) ∧ W.cell? ⟨w.heap.size, 4, none⟩ = some (.int .u8 b1) ∧ W.cell? ⟨w.heap.size, 5, none⟩ = some (.int .u8 b2) ∧ W.cell? ⟨w.heap.size, 6, none⟩ = some (.int .u8 b3) ∧ W.cell? ⟨w.heap.size, 7, none⟩ = some (.int .u8 b4) ∧ W.cell? ⟨w.heap.size, 8, none⟩ = some (.int .u8 b5) ∧ W.cell? ⟨w.heap.size, 9, none⟩ = some (.int .u8 b6) ∧ W.cell? ⟨w.heap.size, 10, none⟩ = some (.int .u8 b7) ∧ Ext W1 W) ((refine keep11 K1 ?_; repeat' (first | assumption | with_reducible exact Ext.refl _ | with_reducible refine Ext.drew ?_ | with_reducible refine Ext.alloc ?_ _ | with_reducible refine Ext.setCell ?_ (by simp) _))) (first
    | (go_at_call 13; (with_reducible refine (shown_any _).mono ?_); rintro e w1 ⟨rfl, x1⟩; have z1 := (Ext.refl _).drew.trans x1)
    | (go_at_call 14; (with_reducible refine (may_any _ _ _ _ _ _ _ _ _ _ _ _).mono ?_); rintro e w2 ⟨rfl, x2⟩; have z2 := z1.trans x2)
    | (go_at_call 15; (with_reducible refine (rmay_any _ _ _ _ _ _ _ _ _ _ _ _).mono ?_); rintro e w3 ⟨rfl, x3⟩; have z3 := z2.trans x3)
    | (go_at_call 16; (with_reducible refine (bytes_no _ _ _ _ _ _ _ _ _ _ _ _ hm).mono ?_); rintro e w4 ⟨rfl, x4⟩; have z4 := z3.trans x4)
    | (go_at_call 17; (with_reducible refine (rbytes_no _ _ _ _ _ _ _ _ _ _ _ _ hm).mono ?_); rintro e w5 ⟨rfl, x5⟩; have z5 := z4.trans x5)
    | (go_at_call 18; (with_reducible refine (pad_no _ _ _ _ _ _ _ _ _ _ _ _ _ hm).mono ?_); rintro e w6 ⟨rfl, x6⟩; have z6 := z5.trans x6)
    | (go_at_call 19; (with_reducible refine (rpad_no _ _ _ _ _ _ _ _ _ _ _ _ _ hm).mono ?_); rintro e w7 ⟨rfl, x7⟩; have z7 := z6.trans x7)
    | (go_at_call 20; (with_reducible refine (rankB_any _ _ _ _ _ _ _ _ _ _ _ _ i0).mono ?_); rintro e w8 ⟨rfl, x8⟩; have z8 := z7.trans x8)
    | (go_at_call 21; (with_reducible refine (rrankB_any _ _ _ _ _ _ _ _ _ _ _ _ i0).mono ?_); rintro e w9 ⟨rfl, x9⟩; have z9 := z8.trans x9))
  all_goals go_wp2
  all_goals go_ret
  all_goals exact ⟨by simp, v1.trans z9⟩
end Go.Proofs.Ytafdbhajngoafaa
