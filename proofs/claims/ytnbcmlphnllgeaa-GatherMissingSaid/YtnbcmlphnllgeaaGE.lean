import Derived.Test.YtnbcmlphnllgeaaGD
set_option linter.unusedVariables false
set_option linter.unusedSimpArgs false
namespace Go.Proofs.Ytnbcmlphnllgeaa
open Go.RowKit
section
variable {w : World} {g : Nat} {ls : List Gl} {lv : Value} {T : Nat → Option Nat}
set_option maxRecDepth 100000 in
set_option maxHeartbeats 4000000 in
theorem take_none (h : GaC w g ls lv T) {code : Int} (hc : 0 ≤ code ∧ code < 256) (A : Option Addr) (n c : Nat) (bs : List Int) (hf : (foundV (findG (ls.map Gl.p) (tabG code))).2.2 = false) : Calls Try.prog 13 #[.pointer (some ⟨g, 0, none⟩), .agg #[.int .u8 4, .int .u8 code, .slice A n c]] w (TakeQ ls lv T g (takeG (ls.map Gl.p) 4 code bs) w) := by
  have ht : takeG (ls.map Gl.p) 4 code bs = (none, ls.map Gl.p) := by
    unfold takeG
    rw [if_neg (by simp)]
    rcases e : findG (ls.map Gl.p) (tabG code) with _ | ⟨i, k, b⟩
    · rfl
    · rw [e] at hf
      have : b = false := hf
      subst this
      rfl
  have HTK := Lib.hid ht
  have HH := Lib.hid h
  have HF := Lib.hid hf
  obtain ⟨tb, htb⟩ : ∃ z, z = tabG code := ⟨_, rfl⟩
  have htb256 : tb < 256 := by rw [htb]; unfold tabG; split <;> omega
  have HTB := Lib.hid htb
  clear h ht hf
  by_cases ho : (64 : Int) ≤ code
  · have hcI : code - 64 = (tb : Int) := by rw [htb]; unfold tabG; rw [if_pos ho]; omega
    have utb := wri tb (by omega)
    have ucn : IntKind.i64.wrap code = code := by rw [IntKind.wrap_i64]; omega
    clear htb
    obtain ⟨w0, hw0⟩ : ∃ V, V = w.alloc (.cells #[.int .u8 4, .int .u8 code, .slice A n c] 32) := ⟨_, rfl⟩
    have k0 : w0.heap[w.heap.size]? = some (.cells #[.int .u8 4, .int .u8 code, .slice A n c] 32 (0, 0)) := by rw [hw0]; exact heap_alloc_new _ _
    have x0 : Ext w w0 := by rw [hw0]; exact (Ext.refl _).alloc _
    have hs0 : w0.heap.size = w.heap.size + 1 := by rw [hw0]; exact Array.size_push _
    obtain ⟨w1, hw1⟩ : ∃ V, V = w0.alloc (.cells zsm.vals.toArray 35) := ⟨_, rfl⟩
    obtain ⟨q, hq⟩ : ∃ q, q = w.heap.size + 1 := ⟨_, rfl⟩
    have k1 : w1.heap[q]? = some (.cells zsm.vals.toArray 35 (0, 0)) := by rw [hw1, hq, ← hs0]; exact heap_alloc_new _ _
    have x1 : Ext w0 w1 := by rw [hw1]; exact (Ext.refl _).alloc _
    have k01 := (x1.block _ (blk_lt k0)).trans k0
    have hqw : w.heap.size ≤ q := by omega
    have X1 := x0.trans x1
    have m0 := blk_cell (i := 0) (v := .int .u8 4) k01 rfl
    have m1 := blk_cell (i := 1) (v := .int .u8 code) k01 rfl
    go_enter Try.func13, Try.ntmps13
    go_upto_region 1 with (fail)
    rw [← hw0]
    change Code.wp _ _ _ _ (w0.alloc (.cells zsm.vals.toArray 35))
    rw [← hw1, ← hq]
    clear hw0 hw1 hs0 hq
    go_upto_region 3 with (fail)
    go_quiet (fail)
    obtain ⟨w2, hWq⟩ : ∃ z : World, z = World.drewN w1 nq := ⟨_, rfl⟩
    rw [← hWq]
    have xw2 : Ext w1 w2 := by rw [hWq]; exact (Ext.refl _).drewN _
    clear hWq
    go_upto_region 7 with (go_at_call 20; (refine (find_any (HH.out.ext (X1.trans xw2)) tb htb256).mono ?_); rw [HTB.out, HF.out]; rintro e w3 ⟨rfl, x3⟩)
    have k13 := ((xw2.trans x3).block _ (blk_lt k1)).trans k1
    go_wp2_with (refine wpList_strow rfl 35 (.tmp 4) (.tmp 39) rfl k13 rfl rfl size35 rfl (all_oneCell_toArray zsm_one) ?_; intro w5 k5 x5)
    try simp only [Exit.inBlock, Exit.then]
    refine bodyPost_ret (results_row2 rfl rfl k5.out Try.underlying35 rfl (by kernel_rfl)) rfl ?_
    exact ⟨zsm, [], ls, T, fun _ => False, by rw [HTK.out]; rfl, GPost.same HH.out (Ext.of_grown (X1.trans (xw2.trans x3)) x5 (fun k e => by injection e with e; omega)), by rw [HTK.out], by rw [HTK.out]; exact SmIs.none _ _, fun b h => h.elim⟩
  · have hcI : code = (tb : Int) := by rw [htb]; unfold tabG; rw [if_neg ho]; omega
    have ucn : IntKind.i64.wrap code = code := by rw [IntKind.wrap_i64]; omega
    have HCI := Lib.hid hcI
    clear htb hcI
    obtain ⟨w0, hw0⟩ : ∃ V, V = w.alloc (.cells #[.int .u8 4, .int .u8 code, .slice A n c] 32) := ⟨_, rfl⟩
    have k0 : w0.heap[w.heap.size]? = some (.cells #[.int .u8 4, .int .u8 code, .slice A n c] 32 (0, 0)) := by rw [hw0]; exact heap_alloc_new _ _
    have x0 : Ext w w0 := by rw [hw0]; exact (Ext.refl _).alloc _
    have hs0 : w0.heap.size = w.heap.size + 1 := by rw [hw0]; exact Array.size_push _
    obtain ⟨w1, hw1⟩ : ∃ V, V = w0.alloc (.cells zsm.vals.toArray 35) := ⟨_, rfl⟩
    obtain ⟨q, hq⟩ : ∃ q, q = w.heap.size + 1 := ⟨_, rfl⟩
    have k1 : w1.heap[q]? = some (.cells zsm.vals.toArray 35 (0, 0)) := by rw [hw1, hq, ← hs0]; exact heap_alloc_new _ _
    have x1 : Ext w0 w1 := by rw [hw1]; exact (Ext.refl _).alloc _
    have k01 := (x1.block _ (blk_lt k0)).trans k0
    have hqw : w.heap.size ≤ q := by omega
    have X1 := x0.trans x1
    have m0 := blk_cell (i := 0) (v := .int .u8 4) k01 rfl
    have m1 := blk_cell (i := 1) (v := .int .u8 code) k01 rfl
    go_enter Try.func13, Try.ntmps13
    go_upto_region 1 with (fail)
    rw [← hw0]
    change Code.wp _ _ _ _ (w0.alloc (.cells zsm.vals.toArray 35))
    rw [← hw1, ← hq]
    clear hw0 hw1 hs0 hq
    go_upto_region 3 with (fail)
    go_quiet (fail)
    obtain ⟨w2, hWq⟩ : ∃ z : World, z = World.drewN w1 nq := ⟨_, rfl⟩
    rw [← hWq]
    have xw2 : Ext w1 w2 := by rw [hWq]; exact (Ext.refl _).drewN _
    clear hWq
    go_upto_region 7 with (go_at_call 20; rw [HCI.out]; (refine (find_any (HH.out.ext (X1.trans xw2)) tb htb256).mono ?_); rw [HTB.out, HF.out]; rintro e w3 ⟨rfl, x3⟩)
    have k13 := ((xw2.trans x3).block _ (blk_lt k1)).trans k1
    go_wp2_with (refine wpList_strow rfl 35 (.tmp 4) (.tmp 39) rfl k13 rfl rfl size35 rfl (all_oneCell_toArray zsm_one) ?_; intro w5 k5 x5)
    try simp only [Exit.inBlock, Exit.then]
    refine bodyPost_ret (results_row2 rfl rfl k5.out Try.underlying35 rfl (by kernel_rfl)) rfl ?_
    exact ⟨zsm, [], ls, T, fun _ => False, by rw [HTK.out]; rfl, GPost.same HH.out (Ext.of_grown (X1.trans (xw2.trans x3)) x5 (fun k e => by injection e with e; omega)), by rw [HTK.out], by rw [HTK.out]; exact SmIs.none _ _, fun b h => h.elim⟩
end
end Go.Proofs.Ytnbcmlphnllgeaa
