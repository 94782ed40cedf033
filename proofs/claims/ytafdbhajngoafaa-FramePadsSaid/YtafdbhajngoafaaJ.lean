import Derived.Test.YtafdbhajngoafaaI
import Derived.Test.YtafdbhajngoafaaM
set_option linter.unusedVariables false
namespace Go.Proofs.Ytafdbhajngoafaa
open Go.RowKit
set_option maxHeartbeats 2000000 in
theorem reads_yes (w : World) (id : Int) (ext : Bool) (L : Nat) (b0 b1 b2 b3 b4 b5 b6 b7 : Int) (i0 : 0 ≤ id) (hb : Byts [b0, b1, b2, b3, b4, b5, b6, b7]) (x : Int) (hm : mayB id ext L [b0, b1, b2, b3, b4, b5, b6, b7] = true) :
    Calls Try.prog 4 #[.agg #[.int .u32 id, .bool ext, .int .i64 L, .int .u8 b0, .int .u8 b1, .int .u8 b2, .int .u8 b3, .int .u8 b4, .int .u8 b5, .int .u8 b6, .int .u8 b7], .int .u8 x] w fun e w' => e = .returned (.bool true) ∧ Ext w w' := by
  have heq := fun d W => run_eq8 d W
  go_enter Try.func4, Try.ntmps4
  go_wp2
  obtain ⟨W1, hW1⟩ : ∃ W1, W1 = w.alloc (.cells #[.int .u32 id, .bool ext, .int .i64 L, .int .u8 b0, .int .u8 b1, .int .u8 b2, .int .u8 b3, .int .u8 b4, .int .u8 b5, .int .u8 b6, .int .u8 b7] 26) := ⟨_, rfl⟩
  rw [← hW1]
  have v1 : Ext w W1 := by rw [hW1]; exact (Ext.refl _).alloc _
  have K1 : W1.heap[w.heap.size]? = some (.cells #[.int .u32 id, .bool ext, .int .i64 L, .int .u8 b0, .int .u8 b1, .int .u8 b2, .int .u8 b3, .int .u8 b4, .int .u8 b5, .int .u8 b6, .int .u8 b7] 26 (0, 0)) := by rw [hW1]; exact heap_alloc_new _ _
  clear hW1
  have hmh := Lib.hid hm; clear hm
  have hbh := Lib.hid hb; clear hb
  refine wp_region_held_drew (S := Ext W1) (by kernel_rfl) ((Ext.refl _).drew) (fun hHeld => ?_)
  have zz0 := (Ext.refl W1).drew
  refine wpAnyH_imp (S' := Ext (World.drew W1)) (fun W h => Ext.trans zz0 h) _ _ _ _ ?_
  replace hHeld := Ext.refl (World.drew W1)
  refine wpAnyH_ready (rs := [0]) (by kernel_rfl) (by simp) (AllReadyH.cons rfl (fun K hK => ?_) AllReadyH.nil)
  go_simp
  go_wp2_with (go_at_call 13; (with_reducible refine (shown_any _).mono ?_); rintro e w1 ⟨rfl, x1⟩)
  refine hK.out _ _ x1 (fun hHeld => ?_)
  clear hK K
  refine wpAnyH_imp (S' := Ext w1) (fun W h => Ext.trans x1 h) _ _ _ _ ?_
  replace hHeld := Ext.refl w1
  have zz1 := zz0.trans x1
  refine wpAnyH_take (i := 1) (oi := { dst := some 6, op := Op.move (Operand.tmp 5), type := 4, pos := "law.go:28", after := #[{ on := 0, ground := Ground.data }, { on := 0, ground := Ground.chain }], guard := none }) (v := ?vv1_1_1) rfl (by kernel_rfl) (by kernel_rfl) (by kernel_rfl) (fun _ _ _ h => h) (Or.inl ⟨by rfl, ?yy1_1_1⟩) hHeld ?_
  case yy1_1_1 => (intro W hx; go_simp; try with_reducible rfl)
  simp only [Act.put, List.setIfInBounds_toArray, List.set_cons_zero, List.set_cons_succ]
  refine wpAnyH_take (i := 2) (oi := { dst := some 7, op := Op.load 26 (Operand.tmp 2), type := 26, pos := "law.go:28", after := #[{ on := 1, ground := Ground.guard }], guard := some (1, true) }) (v := ?vv2_1_2) rfl (by kernel_rfl) (by kernel_rfl) (by kernel_rfl) (fun _ _ _ h => h) (Or.inl ⟨by rfl, ?yy2_1_2⟩) hHeld ?_
  case yy2_1_2 => (intro W hx; have hz := zz1.trans hx; obtain ⟨f0, f1, f2, f3, f4, f5, f6, f7, f8, f9, fa⟩ := cells11 ((hz.block _ (blk_lt K1)).trans K1); go_simp; try with_reducible rfl)
  simp only [Act.put, List.setIfInBounds_toArray, List.set_cons_zero, List.set_cons_succ]
  refine wpAnyH_take (i := 4) (oi := { dst := some 9, op := Op.load 26 (Operand.tmp 2), type := 26, pos := "law.go:28", after := #[{ on := 1, ground := Ground.guard }], guard := some (1, true) }) (v := ?vv3_1_4) rfl (by kernel_rfl) (by kernel_rfl) (by kernel_rfl) (fun _ _ _ h => h) (Or.inl ⟨by rfl, ?yy3_1_4⟩) hHeld ?_
  case yy3_1_4 => (intro W hx; have hz := zz1.trans hx; obtain ⟨f0, f1, f2, f3, f4, f5, f6, f7, f8, f9, fa⟩ := cells11 ((hz.block _ (blk_lt K1)).trans K1); go_simp; try with_reducible rfl)
  simp only [Act.put, List.setIfInBounds_toArray, List.set_cons_zero, List.set_cons_succ]
  refine wpAnyH_ready (rs := [3]) (by kernel_rfl) (by simp) (AllReadyH.cons rfl (fun K hK => ?_) AllReadyH.nil)
  go_simp
  go_wp2_with (go_at_call 14; (with_reducible refine (may_any _ _ _ _ _ _ _ _ _ _ _ _).mono ?_); rintro e w2 ⟨rfl, x2⟩)
  refine hK.out _ _ x2 (fun hHeld => ?_)
  clear hK K
  refine wpAnyH_imp (S' := Ext w2) (fun W h => Ext.trans x2 h) _ _ _ _ ?_
  replace hHeld := Ext.refl w2
  have zz2 := zz1.trans x2
  refine wpAnyH_ready (rs := [5]) (by kernel_rfl) (by simp) (AllReadyH.cons rfl (fun K hK => ?_) AllReadyH.nil)
  go_simp
  go_wp2_with (go_at_call 15; (with_reducible refine (rmay_any _ _ _ _ _ _ _ _ _ _ _ _).mono ?_); rintro e w3 ⟨rfl, x3⟩)
  refine hK.out _ _ x3 (fun hHeld => ?_)
  clear hK K
  refine wpAnyH_imp (S' := Ext w3) (fun W h => Ext.trans x3 h) _ _ _ _ ?_
  replace hHeld := Ext.refl w3
  have zz3 := zz2.trans x3
  refine wpAnyH_take (i := 6) (oi := { dst := some 11, op := Op.binOp BinOp.eql 4 (Operand.tmp 8) (Operand.tmp 10) 4, type := 4, pos := "law.go:28", after := #[{ on := 3, ground := Ground.data }, { on := 5, ground := Ground.data }, { on := 1, ground := Ground.guard }], guard := some (1, true) }) (v := ?vv4_1_6) rfl (by kernel_rfl) (by kernel_rfl) (by kernel_rfl) (fun _ _ _ h => h) (Or.inl ⟨by rfl, ?yy4_1_6⟩) hHeld ?_
  case yy4_1_6 => (intro W hx; go_simp; try with_reducible rfl)
  simp only [Act.put, List.setIfInBounds_toArray, List.set_cons_zero, List.set_cons_succ]
  refine wpAnyH_take (i := 7) (oi := { dst := some 12, op := Op.pick (Operand.tmp 6) (Operand.tmp 11) (Operand.const (Value.bool false)), type := 4, pos := "law.go:28", after := #[{ on := 1, ground := Ground.data }, { on := 6, ground := Ground.data }], guard := none }) (v := ?vv5_1_7) rfl (by kernel_rfl) (by kernel_rfl) (by kernel_rfl) (fun _ _ _ h => h) (Or.inl ⟨by rfl, ?yy5_1_7⟩) hHeld ?_
  case yy5_1_7 => (intro W hx; go_simp; try with_reducible rfl)
  simp only [Act.put, List.setIfInBounds_toArray, List.set_cons_zero, List.set_cons_succ]
  refine wpAnyH_take (i := 8) (oi := { dst := some 13, op := Op.move (Operand.tmp 12), type := 4, pos := "law.go:28", after := #[{ on := 7, ground := Ground.data }, { on := 5, ground := Ground.chain }], guard := none }) (v := ?vv6_1_8) rfl (by kernel_rfl) (by kernel_rfl) (by kernel_rfl) (fun _ _ _ h => h) (Or.inl ⟨by rfl, ?yy6_1_8⟩) hHeld ?_
  case yy6_1_8 => (intro W hx; go_simp; try with_reducible rfl)
  simp only [Act.put, List.setIfInBounds_toArray, List.set_cons_zero, List.set_cons_succ]
  refine wpAnyH_take (i := 9) (oi := { dst := some 14, op := Op.load 26 (Operand.tmp 2), type := 26, pos := "law.go:28", after := #[{ on := 8, ground := Ground.guard }], guard := some (8, true) }) (v := ?vv7_1_9) rfl (by kernel_rfl) (by kernel_rfl) (by kernel_rfl) (fun _ _ _ h => h) (Or.inl ⟨by rfl, ?yy7_1_9⟩) hHeld ?_
  case yy7_1_9 => (intro W hx; have hz := zz3.trans hx; obtain ⟨f0, f1, f2, f3, f4, f5, f6, f7, f8, f9, fa⟩ := cells11 ((hz.block _ (blk_lt K1)).trans K1); go_simp; try with_reducible rfl)
  simp only [Act.put, List.setIfInBounds_toArray, List.set_cons_zero, List.set_cons_succ]
  refine wpAnyH_take (i := 12) (oi := { dst := some 17, op := Op.load 26 (Operand.tmp 2), type := 26, pos := "law.go:28", after := #[{ on := 8, ground := Ground.guard }], guard := some (8, true) }) (v := ?vv8_1_12) rfl (by kernel_rfl) (by kernel_rfl) (by kernel_rfl) (fun _ _ _ h => h) (Or.inl ⟨by rfl, ?yy8_1_12⟩) hHeld ?_
  case yy8_1_12 => (intro W hx; have hz := zz3.trans hx; obtain ⟨f0, f1, f2, f3, f4, f5, f6, f7, f8, f9, fa⟩ := cells11 ((hz.block _ (blk_lt K1)).trans K1); go_simp; try with_reducible rfl)
  simp only [Act.put, List.setIfInBounds_toArray, List.set_cons_zero, List.set_cons_succ]
  refine wpAnyH_ready (rs := [10]) (by kernel_rfl) (by simp) (AllReadyH.cons rfl (fun K hK => ?_) AllReadyH.nil)
  go_simp
  go_wp2_with (go_at_call 16; (with_reducible refine (bytes_any _ _ _ _ _ _ _ _ _ _ _ _ hbh.out hmh.out).mono ?_); rintro e w4 ⟨A4, c4, rfl, _, _, x4, r4⟩)
  refine hK.out _ _ x4 (fun hHeld => ?_)
  clear hK K
  refine wpAnyH_imp (S' := Ext w4) (fun W h => Ext.trans x4 h) _ _ _ _ ?_
  replace hHeld := Ext.refl w4
  have zz4 := zz3.trans x4
  refine wpAnyH_take (i := 11) (oi := { dst := some 16, op := Op.convert 23 9 (Operand.tmp 15), type := 9, pos := "law.go:28", after := #[{ on := 10, ground := Ground.data }, { on := 8, ground := Ground.guard }], guard := some (8, true) }) (v := ?vv9_1_11) rfl (by kernel_rfl) (by kernel_rfl) (by kernel_rfl) (fun _ _ _ h => h) (Or.inl ⟨by rfl, ?yy9_1_11⟩) hHeld ?_
  case yy9_1_11 => (intro W hx; have hz := zz4.trans hx; have hs := str (c := c4) (r4.ext hx); go_simp; try with_reducible rfl)
  simp only [Act.put, List.setIfInBounds_toArray, List.set_cons_zero, List.set_cons_succ]
  refine wpAnyH_ready (rs := [13]) (by kernel_rfl) (by simp) (AllReadyH.cons rfl (fun K hK => ?_) AllReadyH.nil)
  go_simp
  go_wp2_with (go_at_call 17; (with_reducible refine (rbytes_any _ _ _ _ _ _ _ _ _ _ _ _ hbh.out hmh.out).mono ?_); rintro e w5 ⟨A5, c5, rfl, _, _, x5, r5⟩)
  refine hK.out _ _ x5 (fun hHeld => ?_)
  clear hK K
  refine wpAnyH_imp (S' := Ext w5) (fun W h => Ext.trans x5 h) _ _ _ _ ?_
  replace hHeld := Ext.refl w5
  have zz5 := zz4.trans x5
  refine wpAnyH_take (i := 14) (oi := { dst := some 19, op := Op.convert 23 9 (Operand.tmp 18), type := 9, pos := "law.go:28", after := #[{ on := 13, ground := Ground.data }, { on := 8, ground := Ground.guard }], guard := some (8, true) }) (v := ?vv10_1_14) rfl (by kernel_rfl) (by kernel_rfl) (by kernel_rfl) (fun _ _ _ h => h) (Or.inl ⟨by rfl, ?yy10_1_14⟩) hHeld ?_
  case yy10_1_14 => (intro W hx; have hz := zz5.trans hx; have hs := str (c := c5) (r5.ext hx); go_simp; try with_reducible rfl)
  simp only [Act.put, List.setIfInBounds_toArray, List.set_cons_zero, List.set_cons_succ]
  refine wpAnyH_take (i := 15) (oi := { dst := some 20, op := Op.binOp BinOp.eql 9 (Operand.tmp 16) (Operand.tmp 19) 9, type := 4, pos := "law.go:28", after := #[{ on := 11, ground := Ground.data }, { on := 14, ground := Ground.data }, { on := 8, ground := Ground.guard }], guard := some (8, true) }) (v := ?vv11_1_15) rfl (by kernel_rfl) (by kernel_rfl) (by kernel_rfl) (fun _ _ _ h => h) (Or.inl ⟨by rfl, ?yy11_1_15⟩) hHeld ?_
  case yy11_1_15 => (intro W hx; go_simp; try with_reducible rfl)
  simp only [Act.put, List.setIfInBounds_toArray, List.set_cons_zero, List.set_cons_succ]
  refine wpAnyH_take (i := 16) (oi := { dst := some 21, op := Op.pick (Operand.tmp 13) (Operand.tmp 20) (Operand.const (Value.bool false)), type := 4, pos := "law.go:28", after := #[{ on := 8, ground := Ground.data }, { on := 15, ground := Ground.data }], guard := none }) (v := ?vv12_1_16) rfl (by kernel_rfl) (by kernel_rfl) (by kernel_rfl) (fun _ _ _ h => h) (Or.inl ⟨by rfl, ?yy12_1_16⟩) hHeld ?_
  case yy12_1_16 => (intro W hx; go_simp; try with_reducible rfl)
  simp only [Act.put, List.setIfInBounds_toArray, List.set_cons_zero, List.set_cons_succ]
  refine wpAnyH_take (i := 17) (oi := { dst := some 22, op := Op.move (Operand.tmp 21), type := 4, pos := "law.go:28", after := #[{ on := 16, ground := Ground.data }, { on := 13, ground := Ground.chain }], guard := none }) (v := ?vv13_1_17) rfl (by kernel_rfl) (by kernel_rfl) (by kernel_rfl) (fun _ _ _ h => h) (Or.inl ⟨by rfl, ?yy13_1_17⟩) hHeld ?_
  case yy13_1_17 => (intro W hx; go_simp; try with_reducible rfl)
  simp only [Act.put, List.setIfInBounds_toArray, List.set_cons_zero, List.set_cons_succ]
  refine wpAnyH_take (i := 18) (oi := { dst := some 23, op := Op.load 26 (Operand.tmp 2), type := 26, pos := "law.go:28", after := #[{ on := 17, ground := Ground.guard }], guard := some (17, true) }) (v := ?vv14_1_18) rfl (by kernel_rfl) (by kernel_rfl) (by kernel_rfl) (fun _ _ _ h => h) (Or.inl ⟨by rfl, ?yy14_1_18⟩) hHeld ?_
  case yy14_1_18 => (intro W hx; have hz := zz5.trans hx; obtain ⟨f0, f1, f2, f3, f4, f5, f6, f7, f8, f9, fa⟩ := cells11 ((hz.block _ (blk_lt K1)).trans K1); go_simp; try with_reducible rfl)
  simp only [Act.put, List.setIfInBounds_toArray, List.set_cons_zero, List.set_cons_succ]
  refine wpAnyH_take (i := 19) (oi := { dst := some 24, op := Op.move (Operand.tmp 1), type := 5, pos := "law.go:28", after := #[{ on := 17, ground := Ground.guard }], guard := some (17, true) }) (v := ?vv15_1_19) rfl (by kernel_rfl) (by kernel_rfl) (by kernel_rfl) (fun _ _ _ h => h) (Or.inl ⟨by rfl, ?yy15_1_19⟩) hHeld ?_
  case yy15_1_19 => (intro W hx; go_simp; try with_reducible rfl)
  simp only [Act.put, List.setIfInBounds_toArray, List.set_cons_zero, List.set_cons_succ]
  refine wpAnyH_take (i := 21) (oi := { dst := some 26, op := Op.load 26 (Operand.tmp 2), type := 26, pos := "law.go:28", after := #[{ on := 17, ground := Ground.guard }], guard := some (17, true) }) (v := ?vv16_1_21) rfl (by kernel_rfl) (by kernel_rfl) (by kernel_rfl) (fun _ _ _ h => h) (Or.inl ⟨by rfl, ?yy16_1_21⟩) hHeld ?_
  case yy16_1_21 => (intro W hx; have hz := zz5.trans hx; obtain ⟨f0, f1, f2, f3, f4, f5, f6, f7, f8, f9, fa⟩ := cells11 ((hz.block _ (blk_lt K1)).trans K1); go_simp; try with_reducible rfl)
  simp only [Act.put, List.setIfInBounds_toArray, List.set_cons_zero, List.set_cons_succ]
  refine wpAnyH_take (i := 22) (oi := { dst := some 27, op := Op.move (Operand.tmp 1), type := 5, pos := "law.go:28", after := #[{ on := 17, ground := Ground.guard }], guard := some (17, true) }) (v := ?vv17_1_22) rfl (by kernel_rfl) (by kernel_rfl) (by kernel_rfl) (fun _ _ _ h => h) (Or.inl ⟨by rfl, ?yy17_1_22⟩) hHeld ?_
  case yy17_1_22 => (intro W hx; go_simp; try with_reducible rfl)
  simp only [Act.put, List.setIfInBounds_toArray, List.set_cons_zero, List.set_cons_succ]
  refine wpAnyH_ready (rs := [20]) (by kernel_rfl) (by simp) (AllReadyH.cons rfl (fun K hK => ?_) AllReadyH.nil)
  go_simp
  go_wp2_with (go_at_call 18; (with_reducible refine (pad_any _ _ _ _ _ _ _ _ _ _ _ _ _ hmh.out).mono ?_); rintro e w6 ⟨y0, y1, y2, y3, y4, y5, y6, y7, hy, rfl, x6⟩)
  refine hK.out _ _ x6 (fun hHeld => ?_)
  clear hK K
  refine wpAnyH_imp (S' := Ext w6) (fun W h => Ext.trans x6 h) _ _ _ _ ?_
  replace hHeld := Ext.refl w6
  have zz6 := zz5.trans x6
  refine wpAnyH_ready (rs := [23]) (by kernel_rfl) (by simp) (AllReadyH.cons rfl (fun K hK => ?_) AllReadyH.nil)
  go_simp
  go_wp2_with (go_at_call 19; (with_reducible refine (rpad_any _ _ _ _ _ _ _ _ _ _ _ _ _ hmh.out).mono ?_); rintro e w7 ⟨z0, z1, z2, z3, z4, z5, z6, z7, hz, rfl, x7⟩; go_must (rw [hy] at hz); go_must (obtain ⟨rfl, rfl, rfl, rfl, rfl, rfl, rfl, rfl⟩ : y0 = z0 ∧ y1 = z1 ∧ y2 = z2 ∧ y3 = z3 ∧ y4 = z4 ∧ y5 = z5 ∧ y6 = z6 ∧ y7 = z7 := (by simpa using hz)); clear hy hz)
  refine hK.out _ _ x7 (fun hHeld => ?_)
  clear hK K
  refine wpAnyH_imp (S' := Ext w7) (fun W h => Ext.trans x7 h) _ _ _ _ ?_
  replace hHeld := Ext.refl w7
  have zz7 := zz6.trans x7
  refine wpAnyH_take (i := 24) (oi := { dst := some 29, op := Op.binOp BinOp.eql 26 (Operand.tmp 25) (Operand.tmp 28) 26, type := 4, pos := "law.go:28", after := #[{ on := 20, ground := Ground.data }, { on := 23, ground := Ground.data }, { on := 17, ground := Ground.guard }], guard := some (17, true) }) (v := ?vv18_1_24) rfl (by kernel_rfl) (by kernel_rfl) (by kernel_rfl) (fun _ _ _ h => h) (Or.inl ⟨by rfl, ?yy18_1_24⟩) hHeld ?_
  case yy18_1_24 => (intro W hx; go_simp; try with_reducible rfl)
  simp only [Act.put, List.setIfInBounds_toArray, List.set_cons_zero, List.set_cons_succ]
  refine wpAnyH_take (i := 25) (oi := { dst := some 30, op := Op.pick (Operand.tmp 22) (Operand.tmp 29) (Operand.const (Value.bool false)), type := 4, pos := "law.go:28", after := #[{ on := 17, ground := Ground.data }, { on := 24, ground := Ground.data }], guard := none }) (v := ?vv19_1_25) rfl (by kernel_rfl) (by kernel_rfl) (by kernel_rfl) (fun _ _ _ h => h) (Or.inl ⟨by rfl, ?yy19_1_25⟩) hHeld ?_
  case yy19_1_25 => (intro W hx; go_simp; try with_reducible rfl)
  simp only [Act.put, List.setIfInBounds_toArray, List.set_cons_zero, List.set_cons_succ]
  refine wpAnyH_take (i := 26) (oi := { dst := some 31, op := Op.move (Operand.tmp 30), type := 4, pos := "law.go:28", after := #[{ on := 25, ground := Ground.data }, { on := 23, ground := Ground.chain }], guard := none }) (v := ?vv20_1_26) rfl (by kernel_rfl) (by kernel_rfl) (by kernel_rfl) (fun _ _ _ h => h) (Or.inl ⟨by rfl, ?yy20_1_26⟩) hHeld ?_
  case yy20_1_26 => (intro W hx; go_simp; try with_reducible rfl)
  simp only [Act.put, List.setIfInBounds_toArray, List.set_cons_zero, List.set_cons_succ]
  refine wpAnyH_take (i := 27) (oi := { dst := some 32, op := Op.load 26 (Operand.tmp 2), type := 26, pos := "law.go:28", after := #[{ on := 26, ground := Ground.guard }], guard := some (26, true) }) (v := ?vv21_1_27) rfl (by kernel_rfl) (by kernel_rfl) (by kernel_rfl) (fun _ _ _ h => h) (Or.inl ⟨by rfl, ?yy21_1_27⟩) hHeld ?_
  case yy21_1_27 => (intro W hx; have hz := zz7.trans hx; obtain ⟨f0, f1, f2, f3, f4, f5, f6, f7, f8, f9, fa⟩ := cells11 ((hz.block _ (blk_lt K1)).trans K1); go_simp; try with_reducible rfl)
  simp only [Act.put, List.setIfInBounds_toArray, List.set_cons_zero, List.set_cons_succ]
  refine wpAnyH_take (i := 29) (oi := { dst := some 34, op := Op.load 26 (Operand.tmp 2), type := 26, pos := "law.go:28", after := #[{ on := 26, ground := Ground.guard }], guard := some (26, true) }) (v := ?vv22_1_29) rfl (by kernel_rfl) (by kernel_rfl) (by kernel_rfl) (fun _ _ _ h => h) (Or.inl ⟨by rfl, ?yy22_1_29⟩) hHeld ?_
  case yy22_1_29 => (intro W hx; have hz := zz7.trans hx; obtain ⟨f0, f1, f2, f3, f4, f5, f6, f7, f8, f9, fa⟩ := cells11 ((hz.block _ (blk_lt K1)).trans K1); go_simp; try with_reducible rfl)
  simp only [Act.put, List.setIfInBounds_toArray, List.set_cons_zero, List.set_cons_succ]
  refine wpAnyH_ready (rs := [28]) (by kernel_rfl) (by simp) (AllReadyH.cons rfl (fun K hK => ?_) AllReadyH.nil)
  go_simp
  go_wp2_with (go_at_call 20; (with_reducible refine (rankB_any _ _ _ _ _ _ _ _ _ _ _ _ i0).mono ?_); rintro e w8 ⟨rfl, x8⟩)
  refine hK.out _ _ x8 (fun hHeld => ?_)
  clear hK K
  refine wpAnyH_imp (S' := Ext w8) (fun W h => Ext.trans x8 h) _ _ _ _ ?_
  replace hHeld := Ext.refl w8
  have zz8 := zz7.trans x8
  refine wpAnyH_ready (rs := [30]) (by kernel_rfl) (by simp) (AllReadyH.cons rfl (fun K hK => ?_) AllReadyH.nil)
  go_simp
  go_wp2_with (go_at_call 21; (with_reducible refine (rrankB_any _ _ _ _ _ _ _ _ _ _ _ _ i0).mono ?_); rintro e w9 ⟨rfl, x9⟩)
  refine hK.out _ _ x9 (fun hHeld => ?_)
  clear hK K
  refine wpAnyH_imp (S' := Ext w9) (fun W h => Ext.trans x9 h) _ _ _ _ ?_
  replace hHeld := Ext.refl w9
  have zz9 := zz8.trans x9
  refine wpAnyH_take (i := 31) (oi := { dst := some 36, op := Op.binOp BinOp.eql 22 (Operand.tmp 33) (Operand.tmp 35) 22, type := 4, pos := "law.go:28", after := #[{ on := 28, ground := Ground.data }, { on := 30, ground := Ground.data }, { on := 26, ground := Ground.guard }], guard := some (26, true) }) (v := ?vv23_1_31) rfl (by kernel_rfl) (by kernel_rfl) (by kernel_rfl) (fun _ _ _ h => h) (Or.inl ⟨by rfl, ?yy23_1_31⟩) hHeld ?_
  case yy23_1_31 => (intro W hx; go_simp; try with_reducible rfl)
  simp only [Act.put, List.setIfInBounds_toArray, List.set_cons_zero, List.set_cons_succ]
  refine wpAnyH_take (i := 32) (oi := { dst := some 37, op := Op.pick (Operand.tmp 31) (Operand.tmp 36) (Operand.const (Value.bool false)), type := 4, pos := "law.go:28", after := #[{ on := 26, ground := Ground.data }, { on := 31, ground := Ground.data }], guard := none }) (v := ?vv24_1_32) rfl (by kernel_rfl) (by kernel_rfl) (by kernel_rfl) (fun _ _ _ h => h) (Or.inl ⟨by rfl, ?yy24_1_32⟩) hHeld ?_
  case yy24_1_32 => (intro W hx; go_simp; try with_reducible rfl)
  simp only [Act.put, List.setIfInBounds_toArray, List.set_cons_zero, List.set_cons_succ]
  refine wpAnyH_take (i := 33) (oi := { dst := some 4, op := Op.assign (Operand.tmp 37), type := 4, pos := "law.go:28", after := #[{ on := 32, ground := Ground.data }, { on := 30, ground := Ground.chain }, { on := 0, ground := Ground.phase }, { on := 1, ground := Ground.phase }, { on := 2, ground := Ground.phase }, { on := 3, ground := Ground.phase }, { on := 4, ground := Ground.phase }, { on := 5, ground := Ground.phase }, { on := 6, ground := Ground.phase }, { on := 7, ground := Ground.phase }, { on := 8, ground := Ground.phase }, { on := 9, ground := Ground.phase }, { on := 10, ground := Ground.phase }, { on := 11, ground := Ground.phase }, { on := 12, ground := Ground.phase }, { on := 13, ground := Ground.phase }, { on := 14, ground := Ground.phase }, { on := 15, ground := Ground.phase }, { on := 16, ground := Ground.phase }, { on := 17, ground := Ground.phase }, { on := 18, ground := Ground.phase }, { on := 19, ground := Ground.phase }, { on := 20, ground := Ground.phase }, { on := 21, ground := Ground.phase }, { on := 22, ground := Ground.phase }, { on := 23, ground := Ground.phase }, { on := 24, ground := Ground.phase }, { on := 25, ground := Ground.phase }, { on := 26, ground := Ground.phase }, { on := 27, ground := Ground.phase }, { on := 28, ground := Ground.phase }, { on := 29, ground := Ground.phase }, { on := 30, ground := Ground.phase }, { on := 31, ground := Ground.phase }, { on := 32, ground := Ground.phase }], guard := none }) (v := ?vv25_1_33) rfl (by kernel_rfl) (by kernel_rfl) (by kernel_rfl) (fun _ _ _ h => h) (Or.inl ⟨by rfl, ?yy25_1_33⟩) hHeld ?_
  case yy25_1_33 => (intro W hx; go_simp; try with_reducible rfl)
  simp only [Act.put, List.setIfInBounds_toArray, List.set_cons_zero, List.set_cons_succ]
  refine wpAnyH_done (by kernel_rfl) ?_ _
  have zend := zz9
  go_wp2
  go_ret
  exact ⟨by simp, v1.trans zz9⟩
end Go.Proofs.Ytafdbhajngoafaa
