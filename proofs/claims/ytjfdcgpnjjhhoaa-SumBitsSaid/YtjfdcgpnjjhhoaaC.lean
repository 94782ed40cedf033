import Derived.Test.YtjfdcgpnjjhhoaaB
import Derived.Laws.Rows
set_option linter.unusedVariables false
set_option linter.unusedSimpArgs false
namespace Go.Proofs.Ytjfdcgpnjjhhoaa
open Go.RowKit
theorem cells4 {w : World} {g : Nat} {t : TypeId} {fr : Nat × Nat} {x0 x1 x2 x3 : Value} (h : w.heap[g]? = some (.cells #[x0, x1, x2, x3] t fr)) :
    w.cell? ⟨g, 0, none⟩ = some x0 ∧ w.cell? ⟨g, 1, none⟩ = some x1 ∧ w.cell? ⟨g, 2, none⟩ = some x2 ∧ w.cell? ⟨g, 3, none⟩ = some x3 :=
  ⟨blk_cell h rfl, blk_cell h rfl, blk_cell h rfl, blk_cell h rfl⟩
theorem way_1 (w : World) : Calls Try.prog 15 #[.int .u8 1] w (WayPost 1 w) := by
  have hmf := hmf
  obtain ⟨w0, hw0⟩ : ∃ W, W = w.alloc (.cells #[.int .i64 0, .int .u32 0, .nilFunc, .int .u32 0] 43) := ⟨_, rfl⟩
  have x0 : Ext w w0 := by rw [hw0]; exact (Ext.refl _).alloc _
  have K0 : w0.heap[w.heap.size]? = some (.cells #[.int .i64 0, .int .u32 0, .nilFunc, .int .u32 0] 43 (0, 0)) := by rw [hw0]; exact heap_alloc_new _ _
  have HW := Lib.hid hw0
  clear hw0
  go_enter Try.func15, Try.ntmps15
  go_upto_region 1 with (fail)
  rw [← HW.out]
  go_wp2_with (first
    | (go_at_call 20; (refine (adding_any _ _).mono ?_); rintro e w1 ⟨rfl, rfl⟩; have K1 := (((Ext.refl w0).alloc (.cells #[.int .u32 255] 23)).block _ (blk_lt K0)).trans K0)
    | (refine wpList_strow (cells := #[.int .i64 1, .int .u32 0, .func (.func 27) #[] #[.pointer (some ⟨w0.heap.size, 0, none⟩)], .int .u32 0]) rfl 43 (.tmp 2) (.tmp 7) rfl K1 rfl rfl (by kernel_rfl) rfl (by simp [Value.oneCell']) ?_; intro w9 hg9 hw9))
  try simp only [Exit.inBlock, Exit.then]
  refine bodyPost_ret (results_cell_row rfl _ _ _ _ _ _ _ rfl hg9.out Try.underlying43 rfl (by kernel_rfl)) rfl ?_
  have hl := blk_lt K0
  exact ⟨_, rfl, Ext.of_grown (x0.alloc _) hw9 (fun k e => by injection e with e; omega), by have := x0.size; omega, (hw9.block w0.heap.size (by simp) (fun e => by injection e with e; omega)).trans (heap_alloc_new _ _)⟩
theorem way_2 (w : World) : Calls Try.prog 15 #[.int .u8 2] w (WayPost 2 w) := by
  have hmf := hmf
  obtain ⟨w0, hw0⟩ : ∃ W, W = w.alloc (.cells #[.int .i64 0, .int .u32 0, .nilFunc, .int .u32 0] 43) := ⟨_, rfl⟩
  have x0 : Ext w w0 := by rw [hw0]; exact (Ext.refl _).alloc _
  have K0 : w0.heap[w.heap.size]? = some (.cells #[.int .i64 0, .int .u32 0, .nilFunc, .int .u32 0] 43 (0, 0)) := by rw [hw0]; exact heap_alloc_new _ _
  have HW := Lib.hid hw0
  clear hw0
  go_enter Try.func15, Try.ntmps15
  go_upto_region 1 with (fail)
  rw [← HW.out]
  go_wp2_with (first
    | (go_at_call 20; (refine (adding_any _ _).mono ?_); rintro e w1 ⟨rfl, rfl⟩; have K1 := (((Ext.refl w0).alloc (.cells #[.int .u32 65535] 23)).block _ (blk_lt K0)).trans K0)
    | (refine wpList_strow (cells := #[.int .i64 1, .int .u32 0, .func (.func 27) #[] #[.pointer (some ⟨w0.heap.size, 0, none⟩)], .int .u32 0]) rfl 43 (.tmp 2) (.tmp 11) rfl K1 rfl rfl (by kernel_rfl) rfl (by simp [Value.oneCell']) ?_; intro w9 hg9 hw9))
  try simp only [Exit.inBlock, Exit.then]
  refine bodyPost_ret (results_cell_row rfl _ _ _ _ _ _ _ rfl hg9.out Try.underlying43 rfl (by kernel_rfl)) rfl ?_
  have hl := blk_lt K0
  exact ⟨_, rfl, Ext.of_grown (x0.alloc _) hw9 (fun k e => by injection e with e; omega), by have := x0.size; omega, (hw9.block w0.heap.size (by simp) (fun e => by injection e with e; omega)).trans (heap_alloc_new _ _)⟩
theorem way_3 (w : World) : Calls Try.prog 15 #[.int .u8 3] w (WayPost 3 w) := by
  have hmf := hmf
  obtain ⟨w0, hw0⟩ : ∃ W, W = w.alloc (.cells #[.int .i64 0, .int .u32 0, .nilFunc, .int .u32 0] 43) := ⟨_, rfl⟩
  have x0 : Ext w w0 := by rw [hw0]; exact (Ext.refl _).alloc _
  have K0 : w0.heap[w.heap.size]? = some (.cells #[.int .i64 0, .int .u32 0, .nilFunc, .int .u32 0] 43 (0, 0)) := by rw [hw0]; exact heap_alloc_new _ _
  have HW := Lib.hid hw0
  clear hw0
  go_enter Try.func15, Try.ntmps15
  go_upto_region 1 with (fail)
  rw [← HW.out]
  go_wp2_with (first
    | (go_at_call 20; (refine (adding_any _ _).mono ?_); rintro e w1 ⟨rfl, rfl⟩; have K1 := (((Ext.refl w0).alloc (.cells #[.int .u32 4294967295] 23)).block _ (blk_lt K0)).trans K0)
    | (refine wpList_strow (cells := #[.int .i64 1, .int .u32 0, .func (.func 27) #[] #[.pointer (some ⟨w0.heap.size, 0, none⟩)], .int .u32 0]) rfl 43 (.tmp 2) (.tmp 15) rfl K1 rfl rfl (by kernel_rfl) rfl (by simp [Value.oneCell']) ?_; intro w9 hg9 hw9))
  try simp only [Exit.inBlock, Exit.then]
  refine bodyPost_ret (results_cell_row rfl _ _ _ _ _ _ _ rfl hg9.out Try.underlying43 rfl (by kernel_rfl)) rfl ?_
  have hl := blk_lt K0
  exact ⟨_, rfl, Ext.of_grown (x0.alloc _) hw9 (fun k e => by injection e with e; omega), by have := x0.size; omega, (hw9.block w0.heap.size (by simp) (fun e => by injection e with e; omega)).trans (heap_alloc_new _ _)⟩
theorem way_4 (w : World) : Calls Try.prog 15 #[.int .u8 4] w (WayPost 4 w) := by
  have hmf := hmf
  obtain ⟨w0, hw0⟩ : ∃ W, W = w.alloc (.cells #[.int .i64 0, .int .u32 0, .nilFunc, .int .u32 0] 43) := ⟨_, rfl⟩
  have x0 : Ext w w0 := by rw [hw0]; exact (Ext.refl _).alloc _
  have K0 : w0.heap[w.heap.size]? = some (.cells #[.int .i64 0, .int .u32 0, .nilFunc, .int .u32 0] 43 (0, 0)) := by rw [hw0]; exact heap_alloc_new _ _
  have HW := Lib.hid hw0
  clear hw0
  go_enter Try.func15, Try.ntmps15
  go_upto_region 1 with (fail)
  rw [← HW.out]
  go_wp2_with (first
    | (go_at_call 20; (refine (adding_any _ _).mono ?_); rintro e w1 ⟨rfl, rfl⟩; have K1 := (((Ext.refl w0).alloc (.cells #[.int .u32 65535] 23)).block _ (blk_lt K0)).trans K0)
    | (refine wpList_strow (cells := #[.int .i64 2, .int .u32 0, .func (.func 27) #[] #[.pointer (some ⟨w0.heap.size, 0, none⟩)], .int .u32 0]) rfl 43 (.tmp 2) (.tmp 19) rfl K1 rfl rfl (by kernel_rfl) rfl (by simp [Value.oneCell']) ?_; intro w9 hg9 hw9))
  try simp only [Exit.inBlock, Exit.then]
  refine bodyPost_ret (results_cell_row rfl _ _ _ _ _ _ _ rfl hg9.out Try.underlying43 rfl (by kernel_rfl)) rfl ?_
  have hl := blk_lt K0
  exact ⟨_, rfl, Ext.of_grown (x0.alloc _) hw9 (fun k e => by injection e with e; omega), by have := x0.size; omega, (hw9.block w0.heap.size (by simp) (fun e => by injection e with e; omega)).trans (heap_alloc_new _ _)⟩
theorem way_5 (w : World) : Calls Try.prog 15 #[.int .u8 5] w (WayPost 5 w) := by
  have hmf := hmf
  obtain ⟨w0, hw0⟩ : ∃ W, W = w.alloc (.cells #[.int .i64 0, .int .u32 0, .nilFunc, .int .u32 0] 43) := ⟨_, rfl⟩
  have x0 : Ext w w0 := by rw [hw0]; exact (Ext.refl _).alloc _
  have K0 : w0.heap[w.heap.size]? = some (.cells #[.int .i64 0, .int .u32 0, .nilFunc, .int .u32 0] 43 (0, 0)) := by rw [hw0]; exact heap_alloc_new _ _
  have HW := Lib.hid hw0
  clear hw0
  go_enter Try.func15, Try.ntmps15
  go_upto_region 1 with (fail)
  rw [← HW.out]
  go_wp2_with (first
    | (go_at_call 20; (refine (adding_any _ _).mono ?_); rintro e w1 ⟨rfl, rfl⟩; have K1 := (((Ext.refl w0).alloc (.cells #[.int .u32 4294967295] 23)).block _ (blk_lt K0)).trans K0)
    | (refine wpList_strow (cells := #[.int .i64 2, .int .u32 0, .func (.func 27) #[] #[.pointer (some ⟨w0.heap.size, 0, none⟩)], .int .u32 0]) rfl 43 (.tmp 2) (.tmp 23) rfl K1 rfl rfl (by kernel_rfl) rfl (by simp [Value.oneCell']) ?_; intro w9 hg9 hw9))
  try simp only [Exit.inBlock, Exit.then]
  refine bodyPost_ret (results_cell_row rfl _ _ _ _ _ _ _ rfl hg9.out Try.underlying43 rfl (by kernel_rfl)) rfl ?_
  have hl := blk_lt K0
  exact ⟨_, rfl, Ext.of_grown (x0.alloc _) hw9 (fun k e => by injection e with e; omega), by have := x0.size; omega, (hw9.block w0.heap.size (by simp) (fun e => by injection e with e; omega)).trans (heap_alloc_new _ _)⟩
theorem way_6 (w : World) : Calls Try.prog 15 #[.int .u8 6] w (WayPost 6 w) := by
  have hmf := hmf
  obtain ⟨w0, hw0⟩ : ∃ W, W = w.alloc (.cells #[.int .i64 0, .int .u32 0, .nilFunc, .int .u32 0] 43) := ⟨_, rfl⟩
  have x0 : Ext w w0 := by rw [hw0]; exact (Ext.refl _).alloc _
  have K0 : w0.heap[w.heap.size]? = some (.cells #[.int .i64 0, .int .u32 0, .nilFunc, .int .u32 0] 43 (0, 0)) := by rw [hw0]; exact heap_alloc_new _ _
  have HW := Lib.hid hw0
  clear hw0
  go_enter Try.func15, Try.ntmps15
  go_upto_region 1 with (fail)
  rw [← HW.out]
  go_wp2_with (first
    | (go_at_call 20; (refine (adding_any _ _).mono ?_); rintro e w1 ⟨rfl, rfl⟩; have K1 := (((Ext.refl w0).alloc (.cells #[.int .u32 4294967295] 23)).block _ (blk_lt K0)).trans K0)
    | (refine wpList_strow (cells := #[.int .i64 4, .int .u32 0, .func (.func 27) #[] #[.pointer (some ⟨w0.heap.size, 0, none⟩)], .int .u32 0]) rfl 43 (.tmp 2) (.tmp 27) rfl K1 rfl rfl (by kernel_rfl) rfl (by simp [Value.oneCell']) ?_; intro w9 hg9 hw9))
  try simp only [Exit.inBlock, Exit.then]
  refine bodyPost_ret (results_cell_row rfl _ _ _ _ _ _ _ rfl hg9.out Try.underlying43 rfl (by kernel_rfl)) rfl ?_
  have hl := blk_lt K0
  exact ⟨_, rfl, Ext.of_grown (x0.alloc _) hw9 (fun k e => by injection e with e; omega), by have := x0.size; omega, (hw9.block w0.heap.size (by simp) (fun e => by injection e with e; omega)).trans (heap_alloc_new _ _)⟩
theorem way_7 (w : World) : Calls Try.prog 15 #[.int .u8 7] w (WayPost 7 w) := by
  have hmf := hmf
  obtain ⟨w0, hw0⟩ : ∃ W, W = w.alloc (.cells #[.int .i64 0, .int .u32 0, .nilFunc, .int .u32 0] 43) := ⟨_, rfl⟩
  have x0 : Ext w w0 := by rw [hw0]; exact (Ext.refl _).alloc _
  have K0 : w0.heap[w.heap.size]? = some (.cells #[.int .i64 0, .int .u32 0, .nilFunc, .int .u32 0] 43 (0, 0)) := by rw [hw0]; exact heap_alloc_new _ _
  have HW := Lib.hid hw0
  clear hw0
  go_enter Try.func15, Try.ntmps15
  go_upto_region 1 with (fail)
  rw [← HW.out]
  go_wp2_with (first
    | (go_at_call 21; (refine (halving_any _ _).mono ?_); rintro e w1 ⟨rfl, rfl⟩; have K1 := (((Ext.refl w0).alloc (.cells #[.int .u32 40961] 23)).block _ (blk_lt K0)).trans K0)
    | (refine wpList_strow (cells := #[.int .i64 1, .int .u32 0, .func (.func 28) #[] #[.pointer (some ⟨w0.heap.size, 0, none⟩)], .int .u32 0]) rfl 43 (.tmp 2) (.tmp 31) rfl K1 rfl rfl (by kernel_rfl) rfl (by simp [Value.oneCell']) ?_; intro w9 hg9 hw9))
  try simp only [Exit.inBlock, Exit.then]
  refine bodyPost_ret (results_cell_row rfl _ _ _ _ _ _ _ rfl hg9.out Try.underlying43 rfl (by kernel_rfl)) rfl ?_
  have hl := blk_lt K0
  exact ⟨_, rfl, Ext.of_grown (x0.alloc _) hw9 (fun k e => by injection e with e; omega), by have := x0.size; omega, (hw9.block w0.heap.size (by simp) (fun e => by injection e with e; omega)).trans (heap_alloc_new _ _)⟩
theorem way_9 (w : World) : Calls Try.prog 15 #[.int .u8 9] w (WayPost 9 w) := by
  have hmf := hmf
  obtain ⟨w0, hw0⟩ : ∃ W, W = w.alloc (.cells #[.int .i64 0, .int .u32 0, .nilFunc, .int .u32 0] 43) := ⟨_, rfl⟩
  have x0 : Ext w w0 := by rw [hw0]; exact (Ext.refl _).alloc _
  have K0 : w0.heap[w.heap.size]? = some (.cells #[.int .i64 0, .int .u32 0, .nilFunc, .int .u32 0] 43 (0, 0)) := by rw [hw0]; exact heap_alloc_new _ _
  have HW := Lib.hid hw0
  clear hw0
  go_enter Try.func15, Try.ntmps15
  go_upto_region 1 with (fail)
  rw [← HW.out]
  go_wp2_with (first
    | (go_at_call 21; (refine (halving_any _ _).mono ?_); rintro e w1 ⟨rfl, rfl⟩; have K1 := (((Ext.refl w0).alloc (.cells #[.int .u32 3988292384] 23)).block _ (blk_lt K0)).trans K0)
    | (refine wpList_strow (cells := #[.int .i64 1, .int .u32 4294967295, .func (.func 28) #[] #[.pointer (some ⟨w0.heap.size, 0, none⟩)], .int .u32 4294967295]) rfl 43 (.tmp 2) (.tmp 35) rfl K1 rfl rfl (by kernel_rfl) rfl (by simp [Value.oneCell']) ?_; intro w9 hg9 hw9))
  try simp only [Exit.inBlock, Exit.then]
  refine bodyPost_ret (results_cell_row rfl _ _ _ _ _ _ _ rfl hg9.out Try.underlying43 rfl (by kernel_rfl)) rfl ?_
  have hl := blk_lt K0
  exact ⟨_, rfl, Ext.of_grown (x0.alloc _) hw9 (fun k e => by injection e with e; omega), by have := x0.size; omega, (hw9.block w0.heap.size (by simp) (fun e => by injection e with e; omega)).trans (heap_alloc_new _ _)⟩
theorem way_8 (w : World) : Calls Try.prog 15 #[.int .u8 8] w (WayPost 8 w) := by
  have hmf := hmf
  obtain ⟨w0, hw0⟩ : ∃ W, W = w.alloc (.cells #[.int .i64 0, .int .u32 0, .nilFunc, .int .u32 0] 43) := ⟨_, rfl⟩
  have x0 : Ext w w0 := by rw [hw0]; exact (Ext.refl _).alloc _
  have K0 : w0.heap[w.heap.size]? = some (.cells #[.int .i64 0, .int .u32 0, .nilFunc, .int .u32 0] 43 (0, 0)) := by rw [hw0]; exact heap_alloc_new _ _
  have HW := Lib.hid hw0
  clear hw0
  go_enter Try.func15, Try.ntmps15
  go_upto_region 1 with (fail)
  rw [← HW.out]
  go_wp2_with (first
    | (go_at_call 22; (refine (doubling_any _ _).mono ?_); rintro e w1 ⟨rfl, rfl⟩; have K1 := (((Ext.refl w0).alloc (.cells #[.int .u32 4129] 23)).block _ (blk_lt K0)).trans K0)
    | (refine wpList_strow (cells := #[.int .i64 1, .int .u32 65535, .func (.func 29) #[] #[.pointer (some ⟨w0.heap.size, 0, none⟩)], .int .u32 0]) rfl 43 (.tmp 2) (.tmp 39) rfl K1 rfl rfl (by kernel_rfl) rfl (by simp [Value.oneCell']) ?_; intro w9 hg9 hw9))
  try simp only [Exit.inBlock, Exit.then]
  refine bodyPost_ret (results_cell_row rfl _ _ _ _ _ _ _ rfl hg9.out Try.underlying43 rfl (by kernel_rfl)) rfl ?_
  have hl := blk_lt K0
  exact ⟨_, rfl, Ext.of_grown (x0.alloc _) hw9 (fun k e => by injection e with e; omega), by have := x0.size; omega, (hw9.block w0.heap.size (by simp) (fun e => by injection e with e; omega)).trans (heap_alloc_new _ _)⟩
theorem wayK_none {k : Int} (h1 : k ≠ 1) (h2 : k ≠ 2) (h3 : k ≠ 3) (h4 : k ≠ 4) (h5 : k ≠ 5) (h6 : k ≠ 6) (h7 : k ≠ 7) (h8 : k ≠ 8) (h9 : k ≠ 9) : wayK k = none := by
  simp [wayK, h1, h2, h3, h4, h5, h6, h7, h8, h9]
theorem way_no (k : Int) (w : World) (h1 : k ≠ 1) (h2 : k ≠ 2) (h3 : k ≠ 3) (h4 : k ≠ 4) (h5 : k ≠ 5) (h6 : k ≠ 6) (h7 : k ≠ 7) (h8 : k ≠ 8) (h9 : k ≠ 9) : Calls Try.prog 15 #[.int .u8 k] w (WayPost k w) := by
  unfold WayPost
  rw [wayK_none h1 h2 h3 h4 h5 h6 h7 h8 h9]
  have b1 : (k == 1) = false := by simpa using h1
  have b2 : (k == 2) = false := by simpa using h2
  have b3 : (k == 3) = false := by simpa using h3
  have b4 : (k == 4) = false := by simpa using h4
  have b5 : (k == 5) = false := by simpa using h5
  have b6 : (k == 6) = false := by simpa using h6
  have b7 : (k == 7) = false := by simpa using h7
  have b8 : (k == 8) = false := by simpa using h8
  have b9 : (k == 9) = false := by simpa using h9
  clear h1 h2 h3 h4 h5 h6 h7 h8 h9
  have hmf := hmf
  obtain ⟨w0, hw0⟩ : ∃ W, W = w.alloc (.cells #[.int .i64 0, .int .u32 0, .nilFunc, .int .u32 0] 43) := ⟨_, rfl⟩
  have x0 : Ext w w0 := by rw [hw0]; exact (Ext.refl _).alloc _
  have K0 : w0.heap[w.heap.size]? = some (.cells #[.int .i64 0, .int .u32 0, .nilFunc, .int .u32 0] 43 (0, 0)) := by rw [hw0]; exact heap_alloc_new _ _
  have HW := Lib.hid hw0
  clear hw0
  go_enter Try.func15, Try.ntmps15
  go_upto_region 1 with (fail)
  rw [← HW.out]
  go_wp2_with (refine wpList_strow (cells := #[.int .i64 0, .int .u32 0, .nilFunc, .int .u32 0]) rfl 43 (.tmp 2) (.tmp 40) rfl K0 rfl rfl (by kernel_rfl) rfl (by simp [Value.oneCell']) ?_; intro w9 hg9 hw9)
  try simp only [Exit.inBlock, Exit.then]
  refine bodyPost_ret (results_cell_row rfl _ _ _ _ _ _ _ rfl hg9.out Try.underlying43 rfl (by kernel_rfl)) rfl ?_
  exact ⟨rfl, Ext.of_grown x0 hw9 (fun k e => by injection e with e; omega)⟩
theorem way_any (k : Int) (w : World) : Calls Try.prog 15 #[.int .u8 k] w (WayPost k w) := by
  by_cases h1 : k = 1
  · subst h1; exact way_1 w
  by_cases h2 : k = 2
  · subst h2; exact way_2 w
  by_cases h3 : k = 3
  · subst h3; exact way_3 w
  by_cases h4 : k = 4
  · subst h4; exact way_4 w
  by_cases h5 : k = 5
  · subst h5; exact way_5 w
  by_cases h6 : k = 6
  · subst h6; exact way_6 w
  by_cases h7 : k = 7
  · subst h7; exact way_7 w
  by_cases h8 : k = 8
  · subst h8; exact way_8 w
  by_cases h9 : k = 9
  · subst h9; exact way_9 w
  exact way_no k w h1 h2 h3 h4 h5 h6 h7 h8 h9
end Go.Proofs.Ytjfdcgpnjjhhoaa
