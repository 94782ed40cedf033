import Derived.Test.YtjdabmadpclbaaaBGa
import Derived.OwnWalk
set_option linter.unusedVariables false
set_option linter.unusedSimpArgs false
namespace Go.Proofs.Ytjdabmadpclbaaa
open Go.RowKit
def nils (n : Nat) : List Value := List.replicate n (.pointer none)
theorem nil_cell {w : World} {A : Option Addr} {n i : Nat} (sh : Shows w 1 A n (nils n)) (hi : i < n) : ∃ b off, A = some ⟨b, off, none⟩ ∧ b < w.heap.size ∧ w.cell? ⟨b, off + i, none⟩ = some (.pointer none) := by
  obtain ⟨b, off, u, h1, h2, h3, h4⟩ := sh.cell hi
  refine ⟨b, off, h1, h2, ?_⟩
  rw [nils, List.getElem?_replicate, if_pos hi] at h3
  injection h3 with h3
  rw [h4, ← h3]
set_option maxHeartbeats 4000000 in
theorem nfirst_any {w : World} {A : Option Addr} {n c : Nat} (sh : Shows w 1 A n (nils n)) (hn9 : n ≤ 100) :
    Calls Try.prog 11 #[.slice A n c] w fun e w' => e = .returned (.tuple #[.int .i64 0, .agg Fr.zero.vals.toArray, .bool false]) ∧ Ext w w' := by
  go_enter Try.func11, Try.ntmps11
  obtain ⟨w1, hw1⟩ : ∃ V, V = w.alloc (.cells Fr.zero.vals.toArray 34) := ⟨_, rfl⟩
  have k3 : w1.heap[w.heap.size]? = some (.cells Fr.zero.vals.toArray 34 (0, 0)) := by rw [hw1]; exact heap_alloc_new _ _
  have x1 : Ext w w1 := by rw [hw1]; exact (Ext.refl _).alloc _
  have hs1 := blk_lt k3
  go_upto_region 1 with (fail)
  change Code.wp _ _ _ _ (w.alloc (.cells Fr.zero.vals.toArray 34))
  rw [← hw1]
  clear hw1
  go_upto_region 2 with (refine wpList_stnew rfl 34 _ _ rfl rfl Fr.zero.vals rfl rfl size37 rfl (fr_one Fr.zero) ?_)
  obtain ⟨w2, hw2⟩ : ∃ V, V = w1.alloc (.cells Fr.zero.vals.toArray 34) := ⟨_, rfl⟩
  have k6 : w2.heap[w1.heap.size]? = some (.cells Fr.zero.vals.toArray 34 (0, 0)) := by rw [hw2]; exact heap_alloc_new _ _
  have x2 : Ext w1 w2 := by rw [hw2]; exact (Ext.refl _).alloc _
  have hs2 := blk_lt k6
  rw [← hw2]
  clear hw2
  go_wp2
  go_loopg [15, 5, 7] n (fun gk i pl fd wr => ∃ k : Nat, i = .int .i64 k ∧ k ≤ n ∧ gk = n - k ∧ pl = .int .i64 0 ∧ fd = .bool false ∧ Ext w2 wr)
  case atStart => exact ⟨0, rfl, by omega, by omega, rfl, rfl, Ext.refl _⟩
  case round =>
    obtain ⟨k, rfl, hk, rfl, rfl, rfl, x⟩ := hrel
    by_cases hlt : k < n
    · have hkn : (k : Int) < n := by omega
      obtain ⟨b, off, rfl, hb, hc⟩ := nil_cell (sh.ext ((x1.trans x2).trans x)) hlt
      go_upto_region 6 with (first
        | (go_at_call 28; (refine (next_nil _).mono ?_); rintro e w5 ⟨rfl, x5⟩)
        | refine wpList_stnew rfl 34 _ _ rfl rfl Fr.zero.vals rfl rfl size37 rfl (fr_one Fr.zero) ?_)
      obtain ⟨w6, hw6⟩ : ∃ V, V = w5.alloc (.cells Fr.zero.vals.toArray 34) := ⟨_, rfl⟩
      have x6 : Ext w5 w6 := by rw [hw6]; exact (Ext.refl _).alloc _
      rw [← hw6]
      clear hw6
      refine wp_region_held_drew (S := Ext w6) (by kernel_rfl) ((Ext.refl _).drew) (fun hHeld => ?_)
      obtain ⟨wD1, hwD⟩ : ∃ V, V = World.drew w6 := ⟨_, rfl⟩
      rw [← hwD]
      clear hHeld
      have zz0 : Ext w6 wD1 := by rw [hwD]; exact (Ext.refl _).drew
      clear hwD
      refine wpAnyH_imp (S' := Ext wD1) (fun W h => Ext.trans zz0 h) _ _ _ _ ?_
      have hHeld := Ext.refl wD1
      refine wpAnyH_take (i := 0) (oi := { dst := some 25, op := Op.move (Operand.tmp 11), type := 4, pos := "bus.go:15", after := #[], guard := none }) (v := ?vv2_6_0) rfl (by kernel_rfl) (by kernel_rfl) (by kernel_rfl) (fun _ _ _ h => h) (Or.inl ⟨by rfl, ?yy2_6_0⟩) hHeld ?_
      case yy2_6_0 => (intro W hx; go_simp; try with_reducible rfl)
      simp only [Act.put, List.setIfInBounds_toArray, List.set_cons_zero, List.set_cons_succ]
      refine wpAnyH_take (i := 1) (oi := { dst := some 26, op := Op.move (Operand.tmp 25), type := 4, pos := "bus.go:15", after := #[{ on := 0, ground := Ground.data }], guard := none }) (v := ?vv3_6_1) rfl (by kernel_rfl) (by kernel_rfl) (by kernel_rfl) (fun _ _ _ h => h) (Or.inl ⟨by rfl, ?yy3_6_1⟩) hHeld ?_
      case yy3_6_1 => (intro W hx; go_simp; try with_reducible rfl)
      simp only [Act.put, List.setIfInBounds_toArray, List.set_cons_zero, List.set_cons_succ]
      refine wpAnyH_take (i := 2) (oi := { dst := some 27, op := Op.move (Operand.tmp 7), type := 4, pos := "bus.go:15", after := #[{ on := 1, ground := Ground.guard }], guard := some (1, true) }) (v := undef) rfl (by kernel_rfl) (by kernel_rfl) (by kernel_rfl) (fun _ _ _ h => h) (Or.inr ⟨by rfl, rfl⟩) hHeld ?_
      simp only [Act.put, List.setIfInBounds_toArray, List.set_cons_zero, List.set_cons_succ]
      refine wpAnyH_take (i := 3) (oi := { dst := some 28, op := Op.unOp UnOp.not 4 (Operand.tmp 27), type := 4, pos := "bus.go:15", after := #[{ on := 2, ground := Ground.data }, { on := 1, ground := Ground.guard }], guard := some (1, true) }) (v := undef) rfl (by kernel_rfl) (by kernel_rfl) (by kernel_rfl) (fun _ _ _ h => h) (Or.inr ⟨by rfl, rfl⟩) hHeld ?_
      simp only [Act.put, List.setIfInBounds_toArray, List.set_cons_zero, List.set_cons_succ]
      refine wpAnyH_take (i := 4) (oi := { dst := some 29, op := Op.move (Operand.tmp 28), type := 4, pos := "bus.go:15", after := #[{ on := 3, ground := Ground.data }, { on := 1, ground := Ground.chain }, { on := 1, ground := Ground.guard }], guard := some (1, true) }) (v := undef) rfl (by kernel_rfl) (by kernel_rfl) (by kernel_rfl) (fun _ _ _ h => h) (Or.inr ⟨by rfl, rfl⟩) hHeld ?_
      simp only [Act.put, List.setIfInBounds_toArray, List.set_cons_zero, List.set_cons_succ]
      refine wpAnyH_take (i := 5) (oi := { dst := some 30, op := Op.load 34 (Operand.tmp 10), type := 34, pos := "bus.go:15", after := #[{ on := 4, ground := Ground.guard }], guard := some (4, false) }) (v := undef) rfl (by kernel_rfl) (by kernel_rfl) (by kernel_rfl) (fun _ _ _ h => h) (Or.inr ⟨by rfl, rfl⟩) hHeld ?_
      simp only [Act.put, List.setIfInBounds_toArray, List.set_cons_zero, List.set_cons_succ]
      refine wpAnyH_take (i := 6) (oi := { dst := some 31, op := Op.call { callee := Callee.value (Operand.func 29), args := #[Operand.tmp 30], argTypes := #[34] }, type := 31, pos := "bus.go:15", after := #[{ on := 5, ground := Ground.data }, { on := 4, ground := Ground.chain }, { on := 4, ground := Ground.guard }], guard := some (4, false) }) (v := undef) rfl (by kernel_rfl) (by kernel_rfl) (by kernel_rfl) (fun _ _ _ h => h) (Or.inr ⟨by rfl, rfl⟩) hHeld ?_
      simp only [Act.put, List.setIfInBounds_toArray, List.set_cons_zero, List.set_cons_succ]
      refine wpAnyH_take (i := 7) (oi := { dst := some 32, op := Op.load 34 (Operand.tmp 6), type := 34, pos := "bus.go:15", after := #[{ on := 4, ground := Ground.guard }], guard := some (4, false) }) (v := undef) rfl (by kernel_rfl) (by kernel_rfl) (by kernel_rfl) (fun _ _ _ h => h) (Or.inr ⟨by rfl, rfl⟩) hHeld ?_
      simp only [Act.put, List.setIfInBounds_toArray, List.set_cons_zero, List.set_cons_succ]
      refine wpAnyH_take (i := 8) (oi := { dst := some 33, op := Op.call { callee := Callee.value (Operand.func 29), args := #[Operand.tmp 32], argTypes := #[34] }, type := 31, pos := "bus.go:15", after := #[{ on := 7, ground := Ground.data }, { on := 6, ground := Ground.chain }, { on := 4, ground := Ground.guard }], guard := some (4, false) }) (v := undef) rfl (by kernel_rfl) (by kernel_rfl) (by kernel_rfl) (fun _ _ _ h => h) (Or.inr ⟨by rfl, rfl⟩) hHeld ?_
      simp only [Act.put, List.setIfInBounds_toArray, List.set_cons_zero, List.set_cons_succ]
      refine wpAnyH_take (i := 9) (oi := { dst := some 34, op := Op.binOp BinOp.lss 31 (Operand.tmp 31) (Operand.tmp 33) 31, type := 4, pos := "bus.go:15", after := #[{ on := 6, ground := Ground.data }, { on := 8, ground := Ground.data }, { on := 4, ground := Ground.guard }], guard := some (4, false) }) (v := undef) rfl (by kernel_rfl) (by kernel_rfl) (by kernel_rfl) (fun _ _ _ h => h) (Or.inr ⟨by rfl, rfl⟩) hHeld ?_
      simp only [Act.put, List.setIfInBounds_toArray, List.set_cons_zero, List.set_cons_succ]
      refine wpAnyH_take (i := 10) (oi := { dst := some 35, op := Op.pick (Operand.tmp 29) (Operand.const (Value.bool true)) (Operand.tmp 34), type := 4, pos := "bus.go:15", after := #[{ on := 4, ground := Ground.data }, { on := 9, ground := Ground.data }, { on := 1, ground := Ground.guard }], guard := some (1, true) }) (v := undef) rfl (by kernel_rfl) (by kernel_rfl) (by kernel_rfl) (fun _ _ _ h => h) (Or.inr ⟨by rfl, rfl⟩) hHeld ?_
      simp only [Act.put, List.setIfInBounds_toArray, List.set_cons_zero, List.set_cons_succ]
      refine wpAnyH_take (i := 11) (oi := { dst := some 36, op := Op.pick (Operand.tmp 26) (Operand.tmp 35) (Operand.const (Value.bool false)), type := 4, pos := "bus.go:15", after := #[{ on := 1, ground := Ground.data }, { on := 10, ground := Ground.data }], guard := none }) (v := ?vv4_6_11) rfl (by kernel_rfl) (by kernel_rfl) (by kernel_rfl) (fun _ _ _ h => h) (Or.inl ⟨by rfl, ?yy4_6_11⟩) hHeld ?_
      case yy4_6_11 => (intro W hx; go_simp; try with_reducible rfl)
      simp only [Act.put, List.setIfInBounds_toArray, List.set_cons_zero, List.set_cons_succ]
      refine wpAnyH_done (by kernel_rfl) ?_ _
      have zend := zz0.trans hHeld
      go_wp2
      go_roundg (n - (k + 1))
      case measure => omega
      case rel => exact ⟨k + 1, by go_num, by omega, rfl, rfl, rfl, ((x.trans x5).trans x6).trans zend⟩
    · obtain rfl : k = n := by omega
      have k66 := (x.block _ (blk_lt k6)).trans k6
      go_upto_region 9 with (fail)
      refine wp_region_held_drew (S := fun W => W.heap[w1.heap.size]? = some (.cells Fr.zero.vals.toArray 34 (0, 0))) (by kernel_rfl) ((((Ext.refl _).drew).block _ (blk_lt k66)).trans k66) (fun hHeld => ?_)
      obtain ⟨wD5, hwD⟩ : ∃ V, V = World.drew wr := ⟨_, rfl⟩
      rw [← hwD] at hHeld ⊢
      have zz0 : Ext wr wD5 := by rw [hwD]; exact (Ext.refl _).drew
      clear hwD
      have k33 := (((x2.trans x).trans zz0).block _ (blk_lt k3)).trans k3
      refine wpAnyH_take (i := 0) (oi := { dst := some 40, op := Op.move (Operand.tmp 5), type := 3, pos := "bus.go:19", after := #[], guard := none }) (v := ?vv6_9_0) rfl (by kernel_rfl) (by kernel_rfl) (by kernel_rfl) (fun _ _ _ h => h) (Or.inl ⟨by rfl, ?yy6_9_0⟩) hHeld ?_
      case yy6_9_0 => (intro W hx; go_simp; try with_reducible rfl)
      simp only [Act.put, List.setIfInBounds_toArray, List.set_cons_zero, List.set_cons_succ]
      refine wpAnyH_take (i := 1) (oi := { dst := some 41, op := Op.load 34 (Operand.tmp 6), type := 34, pos := "bus.go:19", after := #[{ on := 3, ground := Ground.gcOnly Departure.lateStores }], guard := none }) (v := ?vv7_9_1) rfl (by kernel_rfl) (by kernel_rfl) (by kernel_rfl) (fun _ _ _ h => h) (Or.inl ⟨by rfl, ?yy7_9_1⟩) hHeld ?_
      case yy7_9_1 => (intro W hx; refine ld_op (frAt hx) ?_; rfl)
      simp only [Act.put, List.setIfInBounds_toArray, List.set_cons_zero, List.set_cons_succ]
      refine wpAnyH_take (i := 2) (oi := { dst := some 42, op := Op.move (Operand.tmp 7), type := 4, pos := "bus.go:19", after := #[{ on := 4, ground := Ground.gcOnly Departure.lateStores }], guard := none }) (v := ?vv8_9_2) rfl (by kernel_rfl) (by kernel_rfl) (by kernel_rfl) (fun _ _ _ h => h) (Or.inl ⟨by rfl, ?yy8_9_2⟩) hHeld ?_
      case yy8_9_2 => (intro W hx; go_simp; try with_reducible rfl)
      simp only [Act.put, List.setIfInBounds_toArray, List.set_cons_zero, List.set_cons_succ]
      refine wpAnyH_take (i := 3) (oi := { dst := some 2, op := Op.assign (Operand.tmp 40), type := 3, pos := "bus.go:19", after := #[{ on := 0, ground := Ground.data }, { on := 0, ground := Ground.phase }, { on := 1, ground := Ground.textOnly Departure.lateStores }, { on := 2, ground := Ground.textOnly Departure.lateStores }], guard := none }) (v := ?vv9_9_3) rfl (by kernel_rfl) (by kernel_rfl) (by kernel_rfl) (fun _ _ _ h => h) (Or.inl ⟨by rfl, ?yy9_9_3⟩) hHeld ?_
      case yy9_9_3 => (intro W hx; go_simp; try with_reducible rfl)
      simp only [Act.put, List.setIfInBounds_toArray, List.set_cons_zero, List.set_cons_succ]
      refine wpAnyH_ready (rs := [4]) (by kernel_rfl) (by simp) (AllReadyH.cons rfl (fun K hK => ?_) AllReadyH.nil)
      rw [if_pos (by rfl)]
      refine wp_strow (o := { dst := none, op := Op.store 34 (Operand.tmp 3) (Operand.tmp 41), type := 0, pos := "bus.go:19", after := #[{ on := 1, ground := Ground.data }, { on := 3, ground := Ground.chain }, { on := 0, ground := Ground.phase }, { on := 1, ground := Ground.phase }, { on := 2, ground := Ground.textOnly Departure.lateStores }, { on := 3, ground := Ground.phase }], guard := none }) _ _ _ rfl k33 rfl rfl size37 rfl (all_oneCell_toArray (fr_one Fr.zero)) ?_; intro w8 k8 x8
      simp only [Act.put]
      refine hK.out _ _ ((x8.block _ (blk_lt hHeld) (fun e => by injection e with e; omega)).trans hHeld) (fun hHeld => ?_)
      clear hK K
      refine wpAnyH_take (i := 5) (oi := { dst := some 4, op := Op.assign (Operand.tmp 42), type := 4, pos := "bus.go:19", after := #[{ on := 2, ground := Ground.data }, { on := 4, ground := Ground.chain }, { on := 0, ground := Ground.phase }, { on := 1, ground := Ground.phase }, { on := 2, ground := Ground.phase }, { on := 3, ground := Ground.phase }, { on := 4, ground := Ground.phase }], guard := none }) (v := ?vv10_9_5) rfl (by kernel_rfl) (by kernel_rfl) (by kernel_rfl) (fun _ _ _ h => h) (Or.inl ⟨by rfl, ?yy10_9_5⟩) hHeld ?_
      case yy10_9_5 => (intro W hx; go_simp; try with_reducible rfl)
      simp only [Act.put, List.setIfInBounds_toArray, List.set_cons_zero, List.set_cons_succ]
      refine wpAnyH_done (by kernel_rfl) ?_ _
      go_wp2
      try simp only [Exit.inBlock, Exit.then]
      refine bodyPost_ret (results_srs rfl rfl k8) rfl ?_
      exact ⟨rfl, Ext.of_grown (((x1.trans x2).trans x).trans zz0) x8 (fun k e => by injection e with e; omega)⟩
set_option maxHeartbeats 4000000 in
theorem nturn_any {w : World} {A : Option Addr} {n c : Nat} (sh : Shows w 1 A n (nils n)) (hn9 : n ≤ 100) :
    Calls Try.prog 15 #[.bool false, .slice A n c] w fun e w' => e = .returned (.tuple #[.int .i64 0, .agg Fr.zero.vals.toArray, .bool false]) ∧ Ext w w' := by
  have hfirst := fun W (x : Ext w W) => nfirst_any (c := c) (sh.ext x) hn9
  have HFI := Lib.hid hfirst
  clear hfirst
  obtain ⟨w1, hw1⟩ : ∃ V, V = w.alloc (.cells Fr.zero.vals.toArray 34) := ⟨_, rfl⟩
  have k5 : w1.heap[w.heap.size]? = some (.cells Fr.zero.vals.toArray 34 (0, 0)) := by rw [hw1]; exact heap_alloc_new _ _
  have x1 : Ext w w1 := by rw [hw1]; exact (Ext.refl _).alloc _
  go_enter Try.func15, Try.ntmps15
  go_upto_region 1 with (fail)
  change Code.wp _ _ _ _ (w.alloc (.cells Fr.zero.vals.toArray 34))
  rw [← hw1]
  clear hw1
  go_upto_region 2 with (first
    | (go_at_call 11; (refine (HFI.out _ x1).mono ?_); rintro e w2 ⟨rfl, x2⟩)
    | refine wpList_stnew rfl 34 _ _ rfl rfl Fr.zero.vals rfl rfl size37 rfl (fr_one Fr.zero) ?_)
  obtain ⟨w3, hw3⟩ : ∃ V, V = w2.alloc (.cells Fr.zero.vals.toArray 34) := ⟨_, rfl⟩
  have x3 : Ext w2 w3 := by rw [hw3]; exact (Ext.refl _).alloc _
  rw [← hw3]
  clear hw3
  have k53 := ((x2.trans x3).block _ (blk_lt k5)).trans k5
  go_wp2_with (refine wpList_strow rfl 34 _ _ rfl k53 (cells := Fr.zero.vals.toArray) rfl rfl size37 rfl (all_oneCell_toArray (fr_one Fr.zero)) ?_; intro w8 k9 x8)
  try simp only [Exit.inBlock, Exit.then]
  refine bodyPost_ret (results_srs rfl rfl k9.out) rfl ?_
  exact ⟨rfl, Ext.of_grown (x1.trans (x2.trans x3)) x8 (fun k e => by injection e with e; omega)⟩
set_option maxHeartbeats 4000000 in
theorem nput_any {w : World} {A : Option Addr} {n c : Nat} (f : Fr) (sh : Shows w 1 A n (nils n)) (hn9 : n ≤ 100) :
    Calls Try.prog 17 #[.agg f.vals.toArray, .slice A n c] w fun e w' => e = .returned (.int .i64 0) ∧ Ext w w' := by
  obtain ⟨w1, hw1⟩ : ∃ V, V = w.alloc (.cells f.vals.toArray 34) := ⟨_, rfl⟩
  have k2 : w1.heap[w.heap.size]? = some (.cells f.vals.toArray 34 (0, 0)) := by rw [hw1]; exact heap_alloc_new _ _
  have x1 : Ext w w1 := by rw [hw1]; exact (Ext.refl _).alloc _
  go_enter Try.func17, Try.ntmps17
  go_upto_region 1 with (fail)
  change Code.wp _ _ _ _ (w.alloc (.cells f.vals.toArray 34))
  rw [← hw1]
  clear hw1
  go_wp2
  go_loopg [10, 5] n (fun gk i v wr => ∃ k : Nat, i = .int .i64 k ∧ k ≤ n ∧ gk = n - k ∧ v = .int .i64 0 ∧ Ext w1 wr)
  case atStart => exact ⟨0, rfl, by omega, by omega, rfl, Ext.refl _⟩
  case round =>
    obtain ⟨k, rfl, hk, rfl, rfl, x⟩ := hrel
    by_cases hlt : k < n
    · have hkn : (k : Int) < n := by omega
      obtain ⟨b, off, rfl, hb, hc⟩ := nil_cell (sh.ext (x1.trans x)) hlt
      have k22 := (x.block _ (blk_lt k2)).trans k2
      go_wp2_with (first
        | refine wpList_ldrow rfl 34 _ rfl k22 rfl Try.underlying34 rfl size37 ?_
        | (go_at_call 35; (refine (take_nil f _).mono ?_); rintro e w5 ⟨rfl, x5⟩))
      go_roundg (n - (k + 1))
      case measure => omega
      case rel => exact ⟨k + 1, by go_num, by omega, rfl, rfl, x.trans x5⟩
    · obtain rfl : k = n := by omega
      go_wp2
      go_ret
      exact ⟨rfl, x1.trans x⟩
theorem info41 : ∃ i, Try.prog.info? 41 = some i ∧ i.zero = some (.pointer none) ∧ i.size = 1 ∧ i.bytes = 8 := info_parts (by kernel_rfl)
theorem made_nils (n : Nat) : (madeCells (Value.pointer none).cells (n * 1)).toList = nils n := by
  unfold madeCells nils
  apply List.ext_getElem?
  intro i
  simp [List.getElem?_replicate, Value.cells, Nat.mod_one]
  by_cases h : i < n
  · simp [h]
  · simp [h]
end Go.Proofs.Ytjdabmadpclbaaa
