import Derived.Test.YtafdbhajngoafaaE
import Derived.Deep.RegionHeld3
namespace Go.Proofs.Ytafdbhajngoafaa
open Go.RowKit
theorem rankZ (id : Int) (ext : Bool) (w : World) (hid : 0 ≤ id) (h : id < idsI ext) : Calls Try.prog 20 #[.agg #[.int .u32 id, .bool ext, .int .i64 0, .int .u8 0, .int .u8 0, .int .u8 0, .int .u8 0, .int .u8 0, .int .u8 0, .int .u8 0, .int .u8 0]] w fun e w' => e = .returned (.int .u32 (rankI id ext)) ∧ Ext w w' :=
  rank_any id ext 0 0 0 0 0 0 0 0 0 w hid (mayB_of id ext 0 _ rfl (by omega) h (fun j _ hj => by
    rcases (by omega : j = 0 ∨ j = 1 ∨ j = 2 ∨ j = 3 ∨ j = 4 ∨ j = 5 ∨ j = 6 ∨ j = 7) with rfl | rfl | rfl | rfl | rfl | rfl | rfl | rfl <;> rfl))
theorem keepS {W1 W : World} (A B : Int) {gA gB : Nat} {eA eB : Bool} (kA : Hid (W1.heap[gA]? = some (.cells #[.int .u32 A, .bool eA, .int .i64 0, .int .u8 0, .int .u8 0, .int .u8 0, .int .u8 0, .int .u8 0, .int .u8 0, .int .u8 0, .int .u8 0] 26 (0, 0)))) (kB : Hid (W1.heap[gB]? = some (.cells #[.int .u32 B, .bool eB, .int .i64 0, .int .u8 0, .int .u8 0, .int .u8 0, .int .u8 0, .int .u8 0, .int .u8 0, .int .u8 0, .int .u8 0] 26 (0, 0)))) (hx : Ext W1 W) :
    W.cell? ⟨gA, 0, none⟩ = some (.int .u32 A) ∧ W.cell? ⟨gA, 1, none⟩ = some (.bool eA) ∧ W.cell? ⟨gA, 2, none⟩ = some (.int .i64 0) ∧ W.cell? ⟨gA, 3, none⟩ = some (.int .u8 0) ∧ W.cell? ⟨gA, 4, none⟩ = some (.int .u8 0) ∧ W.cell? ⟨gA, 5, none⟩ = some (.int .u8 0) ∧ W.cell? ⟨gA, 6, none⟩ = some (.int .u8 0) ∧ W.cell? ⟨gA, 7, none⟩ = some (.int .u8 0) ∧ W.cell? ⟨gA, 8, none⟩ = some (.int .u8 0) ∧ W.cell? ⟨gA, 9, none⟩ = some (.int .u8 0) ∧ W.cell? ⟨gA, 10, none⟩ = some (.int .u8 0) ∧ W.cell? ⟨gB, 0, none⟩ = some (.int .u32 B) ∧ W.cell? ⟨gB, 1, none⟩ = some (.bool eB) ∧ W.cell? ⟨gB, 2, none⟩ = some (.int .i64 0) ∧ W.cell? ⟨gB, 3, none⟩ = some (.int .u8 0) ∧ W.cell? ⟨gB, 4, none⟩ = some (.int .u8 0) ∧ W.cell? ⟨gB, 5, none⟩ = some (.int .u8 0) ∧ W.cell? ⟨gB, 6, none⟩ = some (.int .u8 0) ∧ W.cell? ⟨gB, 7, none⟩ = some (.int .u8 0) ∧ W.cell? ⟨gB, 8, none⟩ = some (.int .u8 0) ∧ W.cell? ⟨gB, 9, none⟩ = some (.int .u8 0) ∧ W.cell? ⟨gB, 10, none⟩ = some (.int .u8 0) ∧ Ext W1 W := by
  have lt : ∀ {k : Nat} {o : Obj}, W1.heap[k]? = some o → k < W1.heap.size := fun h => (Array.getElem?_eq_some_iff.1 h).1
  obtain ⟨a0, a1, a2, a3, a4, a5, a6, a7, a8, a9, aa⟩ := cells11 ((hx.block _ (lt kA.out)).trans kA.out)
  obtain ⟨b0, b1, b2, b3, b4, b5, b6, b7, b8, b9, ba⟩ := cells11 ((hx.block _ (lt kB.out)).trans kB.out)
  exact ⟨a0, a1, a2, a3, a4, a5, a6, a7, a8, a9, aa, b0, b1, b2, b3, b4, b5, b6, b7, b8, b9, ba, hx⟩
theorem rank_inj (A B : Int) (x y : Bool) (hA0 : 0 ≤ A) (hA1 : A < idsI x) (hB0 : 0 ≤ B) (hB1 : B < idsI y) : (rankI A x == rankI B y) = (A == B && x == y) := by
  rw [Bool.eq_iff_iff]
  cases x <;> cases y <;> simp [rankI, idsI] at * <;> omega
theorem rank_lt (A B : Int) (x : Bool) (hA0 : 0 ≤ A) (hA1 : A < idsI x) (hB0 : 0 ≤ B) (hB1 : B < idsI x) : decide (rankI A x < rankI B x) = decide (A < B) := by
  rw [decide_eq_decide]
  cases x <;> simp [rankI, idsI] at * <;> omega
theorem rank_sl (A B : Int) (hA0 : 0 ≤ A) (hA1 : A < idsI false) (hB0 : 0 ≤ B) (hB1 : B < idsI true) : decide (rankI A false < rankI B true) = decide (A ≤ B / 262144) := by
  rw [decide_eq_decide]
  simp [rankI, idsI] at *; omega
theorem ranks_ff (w : World) (a b : Int) (a0 : 0 ≤ a) (b0 : 0 ≤ b) (A B : Int) (hA0 : 0 ≤ A) (hA1 : A < idsI false) (hB0 : 0 ≤ B) (hB1 : B < idsI false)
    (eA : A % 536870912 = A) (eB : B % 536870912 = B) (mA : a % 2048 = A) (mB : b % 2048 = B) :
    Calls Try.prog 6 #[.int .u32 a, .int .u32 b, .bool false, .bool false] w fun e w' => e = .returned (.bool true) ∧ Ext w w' := by
  have heq := fun d W => run_eq8 d W
  have RA := Lib.hid (fun W => rankZ A false W hA0 hA1)
  have RB := Lib.hid (fun W => rankZ B false W hB0 hB1)
  have inj := rank_inj A B false false hA0 hA1 hB0 hB1
  have rlt := rank_lt A B false hA0 hA1 hB0 hB1
  clear hA1 hB1
  go_enter Try.func6, Try.ntmps6
  go_wp2_with (first
    | (go_at_call 13; (with_reducible refine (shown_any _).mono ?_); rintro e w3 ⟨rfl, x3⟩))
  obtain ⟨W1, hW1⟩ : ∃ W1, W1 = (w3.alloc (.cells #[.int .u32 A, .bool false, .int .i64 0, .int .u8 0, .int .u8 0, .int .u8 0, .int .u8 0, .int .u8 0, .int .u8 0, .int .u8 0, .int .u8 0] 26)).alloc (.cells #[.int .u32 B, .bool false, .int .i64 0, .int .u8 0, .int .u8 0, .int .u8 0, .int .u8 0, .int .u8 0, .int .u8 0, .int .u8 0, .int .u8 0] 26) := ⟨_, rfl⟩
  have kA : Hid (W1.heap[w3.heap.size]? = some (.cells #[.int .u32 A, .bool false, .int .i64 0, .int .u8 0, .int .u8 0, .int .u8 0, .int .u8 0, .int .u8 0, .int .u8 0, .int .u8 0, .int .u8 0] 26 (0, 0))) := by rw [hW1]; exact blk_of ((Ext.refl _).alloc _)
  have kB : Hid (W1.heap[w3.heap.size + 1]? = some (.cells #[.int .u32 B, .bool false, .int .i64 0, .int .u8 0, .int .u8 0, .int .u8 0, .int .u8 0, .int .u8 0, .int .u8 0, .int .u8 0, .int .u8 0] 26 (0, 0))) := by rw [hW1]; exact blk_new (by simp)
  have xW : Ext w3 W1 := by rw [hW1]; exact ((Ext.refl _).alloc _).alloc _
  rw [← hW1]
  clear hW1
  go_region_held3 (fun W => W.cell? ⟨w3.heap.size, 0, none⟩ = some (.int .u32 A) ∧ W.cell? ⟨w3.heap.size, 1, none⟩ = some (.bool false) ∧ W.cell? ⟨w3.heap.size, 2, none⟩ = some (.int .i64 0) ∧ W.cell? ⟨w3.heap.size, 3, none⟩ = some (.int .u8 0) ∧ W.cell? ⟨w3.heap.size, 4, none⟩ = some (.int .u8 0) ∧ W.cell? ⟨w3.heap.size, 5, none⟩ = some (.int .u8 0) ∧ W.cell? ⟨w3.heap.size, 6, none⟩ = some (.int .u8 0) ∧ W.cell? ⟨w3.heap.size, 7, none⟩ = some (.int .u8 0) ∧ W.cell? ⟨w3.heap.size, 8, none⟩ = some (.int .u8 0) ∧ W.cell? ⟨w3.heap.size, 9, none⟩ = some (.int .u8 0) ∧ W.cell? ⟨w3.heap.size, 10, none⟩ = some (.int .u8 0) ∧ W.cell? ⟨w3.heap.size + 1, 0, none⟩ = some (.int .u32 B) ∧ W.cell? ⟨w3.heap.size + 1, 1, none⟩ = some (.bool false) ∧ W.cell? ⟨w3.heap.size + 1, 2, none⟩ = some (.int .i64 0) ∧ W.cell? ⟨w3.heap.size + 1, 3, none⟩ = some (.int .u8 0) ∧ W.cell? ⟨w3.heap.size + 1, 4, none⟩ = some (.int .u8 0) ∧ W.cell? ⟨w3.heap.size + 1, 5, none⟩ = some (.int .u8 0) ∧ W.cell? ⟨w3.heap.size + 1, 6, none⟩ = some (.int .u8 0) ∧ W.cell? ⟨w3.heap.size + 1, 7, none⟩ = some (.int .u8 0) ∧ W.cell? ⟨w3.heap.size + 1, 8, none⟩ = some (.int .u8 0) ∧ W.cell? ⟨w3.heap.size + 1, 9, none⟩ = some (.int .u8 0) ∧ W.cell? ⟨w3.heap.size + 1, 10, none⟩ = some (.int .u8 0) ∧ Ext W1 W) (first | exact keepS _ _ kA kB ((Ext.drew (Ext.refl _)).trans (x4.trans x5)) | exact keepS _ _ kA kB ((Ext.drew (Ext.refl _)).trans x4) | exact keepS _ _ kA kB (Ext.drew (Ext.refl _))) (first | (go_at_call 20; (with_reducible refine (RA.out _).mono ?_); rintro e w4 ⟨rfl, x4⟩) | (go_at_call 20; (with_reducible refine (RB.out _).mono ?_); rintro e w5 ⟨rfl, x5⟩))
  go_wp2
  all_goals go_ret
  all_goals refine ⟨?_, x3.trans (xW.trans (((Ext.refl _).drew).trans (x4.trans x5)))⟩
  all_goals first | rfl | (simp; done) | (simp [rlt]; done) | (simp [rankI] <;> omega)
theorem ranks_ft (w : World) (a b : Int) (a0 : 0 ≤ a) (b0 : 0 ≤ b) (A B : Int) (hA0 : 0 ≤ A) (hA1 : A < idsI false) (hB0 : 0 ≤ B) (hB1 : B < idsI true)
    (eA : A % 536870912 = A) (eB : B % 536870912 = B) (mA : a % 2048 = A) (mB : b % 536870912 = B) :
    Calls Try.prog 6 #[.int .u32 a, .int .u32 b, .bool false, .bool true] w fun e w' => e = .returned (.bool true) ∧ Ext w w' := by
  have heq := fun d W => run_eq8 d W
  have RA := Lib.hid (fun W => rankZ A false W hA0 hA1)
  have RB := Lib.hid (fun W => rankZ B true W hB0 hB1)
  have inj := rank_inj A B false true hA0 hA1 hB0 hB1
  have rlt := rank_sl A B hA0 hA1 hB0 hB1
  clear hA1 hB1
  go_enter Try.func6, Try.ntmps6
  go_wp2_with (first
    | (go_at_call 13; (with_reducible refine (shown_any _).mono ?_); rintro e w3 ⟨rfl, x3⟩))
  obtain ⟨W1, hW1⟩ : ∃ W1, W1 = (w3.alloc (.cells #[.int .u32 A, .bool false, .int .i64 0, .int .u8 0, .int .u8 0, .int .u8 0, .int .u8 0, .int .u8 0, .int .u8 0, .int .u8 0, .int .u8 0] 26)).alloc (.cells #[.int .u32 B, .bool true, .int .i64 0, .int .u8 0, .int .u8 0, .int .u8 0, .int .u8 0, .int .u8 0, .int .u8 0, .int .u8 0, .int .u8 0] 26) := ⟨_, rfl⟩
  have kA : Hid (W1.heap[w3.heap.size]? = some (.cells #[.int .u32 A, .bool false, .int .i64 0, .int .u8 0, .int .u8 0, .int .u8 0, .int .u8 0, .int .u8 0, .int .u8 0, .int .u8 0, .int .u8 0] 26 (0, 0))) := by rw [hW1]; exact blk_of ((Ext.refl _).alloc _)
  have kB : Hid (W1.heap[w3.heap.size + 1]? = some (.cells #[.int .u32 B, .bool true, .int .i64 0, .int .u8 0, .int .u8 0, .int .u8 0, .int .u8 0, .int .u8 0, .int .u8 0, .int .u8 0, .int .u8 0] 26 (0, 0))) := by rw [hW1]; exact blk_new (by simp)
  have xW : Ext w3 W1 := by rw [hW1]; exact ((Ext.refl _).alloc _).alloc _
  rw [← hW1]
  clear hW1
  go_region_held3 (fun W => W.cell? ⟨w3.heap.size, 0, none⟩ = some (.int .u32 A) ∧ W.cell? ⟨w3.heap.size, 1, none⟩ = some (.bool false) ∧ W.cell? ⟨w3.heap.size, 2, none⟩ = some (.int .i64 0) ∧ W.cell? ⟨w3.heap.size, 3, none⟩ = some (.int .u8 0) ∧ W.cell? ⟨w3.heap.size, 4, none⟩ = some (.int .u8 0) ∧ W.cell? ⟨w3.heap.size, 5, none⟩ = some (.int .u8 0) ∧ W.cell? ⟨w3.heap.size, 6, none⟩ = some (.int .u8 0) ∧ W.cell? ⟨w3.heap.size, 7, none⟩ = some (.int .u8 0) ∧ W.cell? ⟨w3.heap.size, 8, none⟩ = some (.int .u8 0) ∧ W.cell? ⟨w3.heap.size, 9, none⟩ = some (.int .u8 0) ∧ W.cell? ⟨w3.heap.size, 10, none⟩ = some (.int .u8 0) ∧ W.cell? ⟨w3.heap.size + 1, 0, none⟩ = some (.int .u32 B) ∧ W.cell? ⟨w3.heap.size + 1, 1, none⟩ = some (.bool true) ∧ W.cell? ⟨w3.heap.size + 1, 2, none⟩ = some (.int .i64 0) ∧ W.cell? ⟨w3.heap.size + 1, 3, none⟩ = some (.int .u8 0) ∧ W.cell? ⟨w3.heap.size + 1, 4, none⟩ = some (.int .u8 0) ∧ W.cell? ⟨w3.heap.size + 1, 5, none⟩ = some (.int .u8 0) ∧ W.cell? ⟨w3.heap.size + 1, 6, none⟩ = some (.int .u8 0) ∧ W.cell? ⟨w3.heap.size + 1, 7, none⟩ = some (.int .u8 0) ∧ W.cell? ⟨w3.heap.size + 1, 8, none⟩ = some (.int .u8 0) ∧ W.cell? ⟨w3.heap.size + 1, 9, none⟩ = some (.int .u8 0) ∧ W.cell? ⟨w3.heap.size + 1, 10, none⟩ = some (.int .u8 0) ∧ Ext W1 W) (first | exact keepS _ _ kA kB ((Ext.drew (Ext.refl _)).trans (x4.trans x5)) | exact keepS _ _ kA kB ((Ext.drew (Ext.refl _)).trans x4) | exact keepS _ _ kA kB (Ext.drew (Ext.refl _))) (first | (go_at_call 20; (with_reducible refine (RA.out _).mono ?_); rintro e w4 ⟨rfl, x4⟩) | (go_at_call 20; (with_reducible refine (RB.out _).mono ?_); rintro e w5 ⟨rfl, x5⟩))
  go_wp2
  all_goals go_ret
  all_goals refine ⟨?_, x3.trans (xW.trans (((Ext.refl _).drew).trans (x4.trans x5)))⟩
  all_goals first | rfl | (simp; done) | (simp [rlt]; done) | (simp [rankI] <;> omega)
theorem ranks_tf (w : World) (a b : Int) (a0 : 0 ≤ a) (b0 : 0 ≤ b) (A B : Int) (hA0 : 0 ≤ A) (hA1 : A < idsI true) (hB0 : 0 ≤ B) (hB1 : B < idsI false)
    (eA : A % 536870912 = A) (eB : B % 536870912 = B) (mA : a % 536870912 = A) (mB : b % 2048 = B) :
    Calls Try.prog 6 #[.int .u32 a, .int .u32 b, .bool true, .bool false] w fun e w' => e = .returned (.bool true) ∧ Ext w w' := by
  have heq := fun d W => run_eq8 d W
  have RA := Lib.hid (fun W => rankZ A true W hA0 hA1)
  have RB := Lib.hid (fun W => rankZ B false W hB0 hB1)
  have inj := rank_inj A B true false hA0 hA1 hB0 hB1
  clear hA1 hB1
  go_enter Try.func6, Try.ntmps6
  go_wp2_with (first
    | (go_at_call 13; (with_reducible refine (shown_any _).mono ?_); rintro e w3 ⟨rfl, x3⟩))
  obtain ⟨W1, hW1⟩ : ∃ W1, W1 = (w3.alloc (.cells #[.int .u32 A, .bool true, .int .i64 0, .int .u8 0, .int .u8 0, .int .u8 0, .int .u8 0, .int .u8 0, .int .u8 0, .int .u8 0, .int .u8 0] 26)).alloc (.cells #[.int .u32 B, .bool false, .int .i64 0, .int .u8 0, .int .u8 0, .int .u8 0, .int .u8 0, .int .u8 0, .int .u8 0, .int .u8 0, .int .u8 0] 26) := ⟨_, rfl⟩
  have kA : Hid (W1.heap[w3.heap.size]? = some (.cells #[.int .u32 A, .bool true, .int .i64 0, .int .u8 0, .int .u8 0, .int .u8 0, .int .u8 0, .int .u8 0, .int .u8 0, .int .u8 0, .int .u8 0] 26 (0, 0))) := by rw [hW1]; exact blk_of ((Ext.refl _).alloc _)
  have kB : Hid (W1.heap[w3.heap.size + 1]? = some (.cells #[.int .u32 B, .bool false, .int .i64 0, .int .u8 0, .int .u8 0, .int .u8 0, .int .u8 0, .int .u8 0, .int .u8 0, .int .u8 0, .int .u8 0] 26 (0, 0))) := by rw [hW1]; exact blk_new (by simp)
  have xW : Ext w3 W1 := by rw [hW1]; exact ((Ext.refl _).alloc _).alloc _
  rw [← hW1]
  clear hW1
  go_region_held3 (fun W => W.cell? ⟨w3.heap.size, 0, none⟩ = some (.int .u32 A) ∧ W.cell? ⟨w3.heap.size, 1, none⟩ = some (.bool true) ∧ W.cell? ⟨w3.heap.size, 2, none⟩ = some (.int .i64 0) ∧ W.cell? ⟨w3.heap.size, 3, none⟩ = some (.int .u8 0) ∧ W.cell? ⟨w3.heap.size, 4, none⟩ = some (.int .u8 0) ∧ W.cell? ⟨w3.heap.size, 5, none⟩ = some (.int .u8 0) ∧ W.cell? ⟨w3.heap.size, 6, none⟩ = some (.int .u8 0) ∧ W.cell? ⟨w3.heap.size, 7, none⟩ = some (.int .u8 0) ∧ W.cell? ⟨w3.heap.size, 8, none⟩ = some (.int .u8 0) ∧ W.cell? ⟨w3.heap.size, 9, none⟩ = some (.int .u8 0) ∧ W.cell? ⟨w3.heap.size, 10, none⟩ = some (.int .u8 0) ∧ W.cell? ⟨w3.heap.size + 1, 0, none⟩ = some (.int .u32 B) ∧ W.cell? ⟨w3.heap.size + 1, 1, none⟩ = some (.bool false) ∧ W.cell? ⟨w3.heap.size + 1, 2, none⟩ = some (.int .i64 0) ∧ W.cell? ⟨w3.heap.size + 1, 3, none⟩ = some (.int .u8 0) ∧ W.cell? ⟨w3.heap.size + 1, 4, none⟩ = some (.int .u8 0) ∧ W.cell? ⟨w3.heap.size + 1, 5, none⟩ = some (.int .u8 0) ∧ W.cell? ⟨w3.heap.size + 1, 6, none⟩ = some (.int .u8 0) ∧ W.cell? ⟨w3.heap.size + 1, 7, none⟩ = some (.int .u8 0) ∧ W.cell? ⟨w3.heap.size + 1, 8, none⟩ = some (.int .u8 0) ∧ W.cell? ⟨w3.heap.size + 1, 9, none⟩ = some (.int .u8 0) ∧ W.cell? ⟨w3.heap.size + 1, 10, none⟩ = some (.int .u8 0) ∧ Ext W1 W) (first | exact keepS _ _ kA kB ((Ext.drew (Ext.refl _)).trans (x4.trans x5)) | exact keepS _ _ kA kB ((Ext.drew (Ext.refl _)).trans x4) | exact keepS _ _ kA kB (Ext.drew (Ext.refl _))) (first | (go_at_call 20; (with_reducible refine (RA.out _).mono ?_); rintro e w4 ⟨rfl, x4⟩) | (go_at_call 20; (with_reducible refine (RB.out _).mono ?_); rintro e w5 ⟨rfl, x5⟩))
  go_wp2
  all_goals go_ret
  all_goals refine ⟨?_, x3.trans (xW.trans (((Ext.refl _).drew).trans (x4.trans x5)))⟩
  all_goals first | rfl | (simp; done) | (simp [rlt]; done) | (simp [rankI] <;> omega)
theorem ranks_tt (w : World) (a b : Int) (a0 : 0 ≤ a) (b0 : 0 ≤ b) (A B : Int) (hA0 : 0 ≤ A) (hA1 : A < idsI true) (hB0 : 0 ≤ B) (hB1 : B < idsI true)
    (eA : A % 536870912 = A) (eB : B % 536870912 = B) (mA : a % 536870912 = A) (mB : b % 536870912 = B) :
    Calls Try.prog 6 #[.int .u32 a, .int .u32 b, .bool true, .bool true] w fun e w' => e = .returned (.bool true) ∧ Ext w w' := by
  have heq := fun d W => run_eq8 d W
  have RA := Lib.hid (fun W => rankZ A true W hA0 hA1)
  have RB := Lib.hid (fun W => rankZ B true W hB0 hB1)
  have inj := rank_inj A B true true hA0 hA1 hB0 hB1
  have rlt := rank_lt A B true hA0 hA1 hB0 hB1
  clear hA1 hB1
  go_enter Try.func6, Try.ntmps6
  go_wp2_with (first
    | (go_at_call 13; (with_reducible refine (shown_any _).mono ?_); rintro e w3 ⟨rfl, x3⟩))
  obtain ⟨W1, hW1⟩ : ∃ W1, W1 = (w3.alloc (.cells #[.int .u32 A, .bool true, .int .i64 0, .int .u8 0, .int .u8 0, .int .u8 0, .int .u8 0, .int .u8 0, .int .u8 0, .int .u8 0, .int .u8 0] 26)).alloc (.cells #[.int .u32 B, .bool true, .int .i64 0, .int .u8 0, .int .u8 0, .int .u8 0, .int .u8 0, .int .u8 0, .int .u8 0, .int .u8 0, .int .u8 0] 26) := ⟨_, rfl⟩
  have kA : Hid (W1.heap[w3.heap.size]? = some (.cells #[.int .u32 A, .bool true, .int .i64 0, .int .u8 0, .int .u8 0, .int .u8 0, .int .u8 0, .int .u8 0, .int .u8 0, .int .u8 0, .int .u8 0] 26 (0, 0))) := by rw [hW1]; exact blk_of ((Ext.refl _).alloc _)
  have kB : Hid (W1.heap[w3.heap.size + 1]? = some (.cells #[.int .u32 B, .bool true, .int .i64 0, .int .u8 0, .int .u8 0, .int .u8 0, .int .u8 0, .int .u8 0, .int .u8 0, .int .u8 0, .int .u8 0] 26 (0, 0))) := by rw [hW1]; exact blk_new (by simp)
  have xW : Ext w3 W1 := by rw [hW1]; exact ((Ext.refl _).alloc _).alloc _
  rw [← hW1]
  clear hW1
  go_region_held3 (fun W => W.cell? ⟨w3.heap.size, 0, none⟩ = some (.int .u32 A) ∧ W.cell? ⟨w3.heap.size, 1, none⟩ = some (.bool true) ∧ W.cell? ⟨w3.heap.size, 2, none⟩ = some (.int .i64 0) ∧ W.cell? ⟨w3.heap.size, 3, none⟩ = some (.int .u8 0) ∧ W.cell? ⟨w3.heap.size, 4, none⟩ = some (.int .u8 0) ∧ W.cell? ⟨w3.heap.size, 5, none⟩ = some (.int .u8 0) ∧ W.cell? ⟨w3.heap.size, 6, none⟩ = some (.int .u8 0) ∧ W.cell? ⟨w3.heap.size, 7, none⟩ = some (.int .u8 0) ∧ W.cell? ⟨w3.heap.size, 8, none⟩ = some (.int .u8 0) ∧ W.cell? ⟨w3.heap.size, 9, none⟩ = some (.int .u8 0) ∧ W.cell? ⟨w3.heap.size, 10, none⟩ = some (.int .u8 0) ∧ W.cell? ⟨w3.heap.size + 1, 0, none⟩ = some (.int .u32 B) ∧ W.cell? ⟨w3.heap.size + 1, 1, none⟩ = some (.bool true) ∧ W.cell? ⟨w3.heap.size + 1, 2, none⟩ = some (.int .i64 0) ∧ W.cell? ⟨w3.heap.size + 1, 3, none⟩ = some (.int .u8 0) ∧ W.cell? ⟨w3.heap.size + 1, 4, none⟩ = some (.int .u8 0) ∧ W.cell? ⟨w3.heap.size + 1, 5, none⟩ = some (.int .u8 0) ∧ W.cell? ⟨w3.heap.size + 1, 6, none⟩ = some (.int .u8 0) ∧ W.cell? ⟨w3.heap.size + 1, 7, none⟩ = some (.int .u8 0) ∧ W.cell? ⟨w3.heap.size + 1, 8, none⟩ = some (.int .u8 0) ∧ W.cell? ⟨w3.heap.size + 1, 9, none⟩ = some (.int .u8 0) ∧ W.cell? ⟨w3.heap.size + 1, 10, none⟩ = some (.int .u8 0) ∧ Ext W1 W) (first | exact keepS _ _ kA kB ((Ext.drew (Ext.refl _)).trans (x4.trans x5)) | exact keepS _ _ kA kB ((Ext.drew (Ext.refl _)).trans x4) | exact keepS _ _ kA kB (Ext.drew (Ext.refl _))) (first | (go_at_call 20; (with_reducible refine (RA.out _).mono ?_); rintro e w4 ⟨rfl, x4⟩) | (go_at_call 20; (with_reducible refine (RB.out _).mono ?_); rintro e w5 ⟨rfl, x5⟩))
  go_wp2
  all_goals go_ret
  all_goals refine ⟨?_, x3.trans (xW.trans (((Ext.refl _).drew).trans (x4.trans x5)))⟩
  all_goals first | rfl | (simp; done) | (simp [rlt]; done) | (simp [rankI] <;> omega)
theorem FrameRanks_law (w : World) (a : Int) (a0 : 0 ≤ a) (a1 : a < 4294967296) (b : Int) (b0 : 0 ≤ b) (b1 : b < 4294967296) (x y : Bool) :
    Calls Try.prog 6 #[.int .u32 a, .int .u32 b, .bool x, .bool y] w fun e w' => e = .returned (.bool true) ∧ Ext w w' := by
  cases x <;> cases y
  · exact ranks_ff w a b a0 b0 _ _ (by omega) (by show _ < (2048 : Int); omega) (by omega) (by show _ < (2048 : Int); omega) (by omega) (by omega) rfl rfl
  · exact ranks_ft w a b a0 b0 _ _ (by omega) (by show _ < (2048 : Int); omega) (by omega) (by show _ < (536870912 : Int); omega) (by omega) (by omega) rfl rfl
  · exact ranks_tf w a b a0 b0 _ _ (by omega) (by show _ < (536870912 : Int); omega) (by omega) (by show _ < (2048 : Int); omega) (by omega) (by omega) rfl rfl
  · exact ranks_tt w a b a0 b0 _ _ (by omega) (by show _ < (536870912 : Int); omega) (by omega) (by show _ < (536870912 : Int); omega) (by omega) (by omega) rfl rfl
end Go.Proofs.Ytafdbhajngoafaa
