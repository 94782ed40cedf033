import Derived.Test.YtpjficfmmfdbjaaE
set_option linter.unusedVariables false
namespace Go.Proofs.Ytpjficfmmfdbjaa
open Go.RowKit
set_option maxRecDepth 100000 in
set_option maxHeartbeats 4000000 in
theorem steps_4t (w : World) (s : ByteArray) (ar aa wd : Int) (bg : Bool) (mu ad : Int) (hwd : wd % 1024 % 3 = 2) (hs : s.size ≤ maxLen) (mm0 : -2147483648 ≤ mu) (mm1 : mu < 2147483648) (a0 : -2147483648 ≤ ad) (a1 : ad < 2147483648) :
    Calls Try.prog 6 #[.agg #[.string s, .int .u8 ar, .int .u32 aa, .int .i64 wd, .bool bg, .bool true, .int .i32 mu, .int .i32 ad]] w fun e w' => e = .returned (.bool true) ∧ Ext w w' := by
  have hand := and_1023 wd
  obtain ⟨j, hj⟩ : ∃ j, j = wd % 1024 := ⟨_, rfl⟩
  have j0 : 0 ≤ j := by omega
  have j1 : j < 1024 := by omega
  rw [← hj] at hand hwd
  clear hj
  have h3 := hwd
  clear hwd
  go_enter Try.func6, Try.ntmps6
  go_upto_region 2 with (go_at_call 14; (with_reducible refine (shown_any _).mono ?_); rintro e w1 ⟨rfl, x1⟩)
  have K1 := blk_of x1
  have v1 := ((Ext.refl w).alloc (.cells #[.string s, .int .u8 ar, .int .u32 aa, .int .i64 wd, .bool bg, .bool true, .int .i32 mu, .int .i32 ad] 24)).trans x1
  clear x1
  go_cut [4] (fun v4 wr => StepX 4 bg true mu ad v4 wr ∧ Ext w wr)
  case first =>
    · have htm : j.tmod 3 = 2 := by rw [Int.tmod_eq_emod_of_nonneg j0]; exact h3
      refine wp_region_held_drew (S := Ext w1) (by kernel_rfl) ((Ext.refl _).drew) (fun hHeld => ?_)
      obtain ⟨wD1, hwD⟩ : ∃ V, V = World.drew w1 := ⟨_, rfl⟩
      rw [← hwD]
      clear hHeld
      have zz0 : Ext w1 wD1 := by rw [hwD]; exact (Ext.refl _).drew
      clear hwD
      refine wpAnyH_imp (S' := Ext wD1) (fun W h => Ext.trans zz0 h) _ _ _ _ ?_
      have hHeld := Ext.refl wD1
      refine wpAnyH_take (i := 1) (oi := { dst := some 18, op := Op.fieldAddr 24 (Operand.tmp 1) 3, type := 0, pos := "law.go:84", after := #[], guard := none }) (v := ?vv2_2_1) rfl (by kernel_rfl) (by kernel_rfl) (by kernel_rfl) (fun _ _ _ h => h) (Or.inl ⟨by rfl, ?yy2_2_1⟩) hHeld ?_
      case yy2_2_1 => (intro W hx; go_simp; try with_reducible rfl)
      simp only [Act.put, List.setIfInBounds_toArray, List.set_cons_zero, List.set_cons_succ]
      refine wpAnyH_take (i := 2) (oi := { dst := some 19, op := Op.load 3 (Operand.tmp 18), type := 3, pos := "law.go:84", after := #[{ on := 1, ground := Ground.data }], guard := none }) (v := ?vv3_2_2) rfl (by kernel_rfl) (by kernel_rfl) (by kernel_rfl) (fun _ _ _ h => h) (Or.inl ⟨by rfl, ?yy3_2_2⟩) hHeld ?_
      case yy3_2_2 => (intro W hx; have hz := zz0.trans hx; obtain ⟨f0, f1, f2, f3, f4, f5, f6, f7⟩ := cells8 ((hz.block _ (blk_lt K1)).trans K1); go_simp; try with_reducible rfl)
      simp only [Act.put, List.setIfInBounds_toArray, List.set_cons_zero, List.set_cons_succ]
      refine wpAnyH_take (i := 3) (oi := { dst := some 20, op := Op.binOp BinOp.and 3 (Operand.tmp 19) (Operand.const (Value.int IntKind.i64 1023)) 3, type := 3, pos := "law.go:84", after := #[{ on := 2, ground := Ground.data }], guard := none }) (v := ?vv4_2_3) rfl (by kernel_rfl) (by kernel_rfl) (by kernel_rfl) (fun _ _ _ h => h) (Or.inl ⟨by rfl, ?yy4_2_3⟩) hHeld ?_
      case yy4_2_3 => (intro W hx; go_simp; try with_reducible rfl)
      simp only [Act.put, List.setIfInBounds_toArray, List.set_cons_zero, List.set_cons_succ]
      refine wpAnyH_take (i := 4) (oi := { dst := some 21, op := Op.binOp BinOp.rem 3 (Operand.tmp 20) (Operand.const (Value.int IntKind.i64 3)) 3, type := 3, pos := "law.go:84", after := #[{ on := 3, ground := Ground.data }], guard := none }) (v := ?vv5_2_4) rfl (by kernel_rfl) (by kernel_rfl) (by kernel_rfl) (fun _ _ _ h => h) (Or.inl ⟨by rfl, ?yy5_2_4⟩) hHeld ?_
      case yy5_2_4 => (intro W hx; go_simp; try with_reducible rfl)
      simp only [Act.put, List.setIfInBounds_toArray, List.set_cons_zero, List.set_cons_succ]
      refine wpAnyH_take (i := 7) (oi := { dst := some 24, op := Op.fieldAddr 24 (Operand.tmp 1) 4, type := 0, pos := "law.go:84", after := #[], guard := none }) (v := ?vv6_2_7) rfl (by kernel_rfl) (by kernel_rfl) (by kernel_rfl) (fun _ _ _ h => h) (Or.inl ⟨by rfl, ?yy6_2_7⟩) hHeld ?_
      case yy6_2_7 => (intro W hx; go_simp; try with_reducible rfl)
      simp only [Act.put, List.setIfInBounds_toArray, List.set_cons_zero, List.set_cons_succ]
      refine wpAnyH_take (i := 8) (oi := { dst := some 25, op := Op.load 4 (Operand.tmp 24), type := 4, pos := "law.go:84", after := #[{ on := 7, ground := Ground.data }], guard := none }) (v := ?vv7_2_8) rfl (by kernel_rfl) (by kernel_rfl) (by kernel_rfl) (fun _ _ _ h => h) (Or.inl ⟨by rfl, ?yy7_2_8⟩) hHeld ?_
      case yy7_2_8 => (intro W hx; have hz := zz0.trans hx; obtain ⟨f0, f1, f2, f3, f4, f5, f6, f7⟩ := cells8 ((hz.block _ (blk_lt K1)).trans K1); go_simp; try with_reducible rfl)
      simp only [Act.put, List.setIfInBounds_toArray, List.set_cons_zero, List.set_cons_succ]
      refine wpAnyH_take (i := 9) (oi := { dst := some 26, op := Op.fieldAddr 24 (Operand.tmp 1) 5, type := 0, pos := "law.go:84", after := #[], guard := none }) (v := ?vv8_2_9) rfl (by kernel_rfl) (by kernel_rfl) (by kernel_rfl) (fun _ _ _ h => h) (Or.inl ⟨by rfl, ?yy8_2_9⟩) hHeld ?_
      case yy8_2_9 => (intro W hx; go_simp; try with_reducible rfl)
      simp only [Act.put, List.setIfInBounds_toArray, List.set_cons_zero, List.set_cons_succ]
      refine wpAnyH_take (i := 10) (oi := { dst := some 27, op := Op.load 4 (Operand.tmp 26), type := 4, pos := "law.go:84", after := #[{ on := 9, ground := Ground.data }], guard := none }) (v := ?vv9_2_10) rfl (by kernel_rfl) (by kernel_rfl) (by kernel_rfl) (fun _ _ _ h => h) (Or.inl ⟨by rfl, ?yy9_2_10⟩) hHeld ?_
      case yy9_2_10 => (intro W hx; have hz := zz0.trans hx; obtain ⟨f0, f1, f2, f3, f4, f5, f6, f7⟩ := cells8 ((hz.block _ (blk_lt K1)).trans K1); go_simp; try with_reducible rfl)
      simp only [Act.put, List.setIfInBounds_toArray, List.set_cons_zero, List.set_cons_succ]
      refine wpAnyH_take (i := 11) (oi := { dst := some 28, op := Op.fieldAddr 24 (Operand.tmp 1) 6, type := 0, pos := "law.go:84", after := #[], guard := none }) (v := ?vv10_2_11) rfl (by kernel_rfl) (by kernel_rfl) (by kernel_rfl) (fun _ _ _ h => h) (Or.inl ⟨by rfl, ?yy10_2_11⟩) hHeld ?_
      case yy10_2_11 => (intro W hx; go_simp; try with_reducible rfl)
      simp only [Act.put, List.setIfInBounds_toArray, List.set_cons_zero, List.set_cons_succ]
      refine wpAnyH_take (i := 12) (oi := { dst := some 29, op := Op.load 21 (Operand.tmp 28), type := 21, pos := "law.go:84", after := #[{ on := 11, ground := Ground.data }], guard := none }) (v := ?vv11_2_12) rfl (by kernel_rfl) (by kernel_rfl) (by kernel_rfl) (fun _ _ _ h => h) (Or.inl ⟨by rfl, ?yy11_2_12⟩) hHeld ?_
      case yy11_2_12 => (intro W hx; have hz := zz0.trans hx; obtain ⟨f0, f1, f2, f3, f4, f5, f6, f7⟩ := cells8 ((hz.block _ (blk_lt K1)).trans K1); go_simp; try with_reducible rfl)
      simp only [Act.put, List.setIfInBounds_toArray, List.set_cons_zero, List.set_cons_succ]
      refine wpAnyH_take (i := 13) (oi := { dst := some 30, op := Op.fieldAddr 24 (Operand.tmp 1) 7, type := 0, pos := "law.go:84", after := #[], guard := none }) (v := ?vv12_2_13) rfl (by kernel_rfl) (by kernel_rfl) (by kernel_rfl) (fun _ _ _ h => h) (Or.inl ⟨by rfl, ?yy12_2_13⟩) hHeld ?_
      case yy12_2_13 => (intro W hx; go_simp; try with_reducible rfl)
      simp only [Act.put, List.setIfInBounds_toArray, List.set_cons_zero, List.set_cons_succ]
      refine wpAnyH_take (i := 14) (oi := { dst := some 31, op := Op.load 21 (Operand.tmp 30), type := 21, pos := "law.go:84", after := #[{ on := 13, ground := Ground.data }], guard := none }) (v := ?vv13_2_14) rfl (by kernel_rfl) (by kernel_rfl) (by kernel_rfl) (fun _ _ _ h => h) (Or.inl ⟨by rfl, ?yy13_2_14⟩) hHeld ?_
      case yy13_2_14 => (intro W hx; have hz := zz0.trans hx; obtain ⟨f0, f1, f2, f3, f4, f5, f6, f7⟩ := cells8 ((hz.block _ (blk_lt K1)).trans K1); go_simp; try with_reducible rfl)
      simp only [Act.put, List.setIfInBounds_toArray, List.set_cons_zero, List.set_cons_succ]
      refine wpAnyH_ready (rs := [0, 16]) (by kernel_rfl) (by simp) (AllReadyH.cons rfl (fun K hK => ?_) (AllReadyH.cons rfl (fun K hK => ?_) AllReadyH.nil))
      · have tok := True.intro
        go_simp
        obtain ⟨wb, hw⟩ : ∃ V, V = World.alloc wD1 (.cells #[.int .i64 1, .int .i64 2, .int .i64 4] 3) := ⟨_, rfl⟩
        rw [← hw]
        have xb : Ext wD1 wb := by rw [hw]; exact (Ext.refl _).alloc _
        have kb : (World.heap wb)[(World.heap wD1).size]? = some (.cells #[.int .i64 1, .int .i64 2, .int .i64 4] 3) := by rw [hw]; exact heap_alloc_new _ _
        clear hw
        refine hK.out _ _ xb (fun hHeld => ?_)
        clear hK K
        refine wpAnyH_imp (S' := Ext wb) (fun W h => Ext.trans xb h) _ _ _ _ ?_
        replace hHeld := Ext.refl wb
        have zz1 := zz0.trans xb
        refine wpAnyH_take (i := 5) (oi := { dst := some 22, op := Op.indexAddr 46 (Operand.tmp 17) (Operand.tmp 21), type := 0, pos := "law.go:84", after := #[{ on := 0, ground := Ground.data }, { on := 4, ground := Ground.data }], guard := none }) (v := ?vv14_2_5) rfl (by kernel_rfl) (by kernel_rfl) (by kernel_rfl) (fun _ _ _ h => h) (Or.inl ⟨by rfl, ?yy14_2_5⟩) hHeld ?_
        case yy14_2_5 => (intro W hx; go_simp; try with_reducible rfl)
        simp only [Act.put, List.setIfInBounds_toArray, List.set_cons_zero, List.set_cons_succ]
        refine wpAnyH_take (i := 6) (oi := { dst := some 23, op := Op.load 3 (Operand.tmp 22), type := 3, pos := "law.go:84", after := #[{ on := 5, ground := Ground.data }], guard := none }) (v := ?vv15_2_6) rfl (by kernel_rfl) (by kernel_rfl) (by kernel_rfl) (fun _ _ _ h => h) (Or.inl ⟨by rfl, ?yy15_2_6⟩) hHeld ?_
        case yy15_2_6 => (intro W hx; have hz := zz1.trans hx; have fb := blk_cell (i := 2) ((hx.block _ (blk_lt kb)).trans kb) rfl; go_simp; try with_reducible rfl)
        simp only [Act.put, List.setIfInBounds_toArray, List.set_cons_zero, List.set_cons_succ]
        refine wpAnyH_take (i := 15) (oi := { dst := some 32, op := Op.build 24 #[(0, Operand.const (Value.string { data := #[120] })), (3, Operand.tmp 23), (4, Operand.tmp 25), (5, Operand.tmp 27), (6, Operand.tmp 29), (7, Operand.tmp 31)], type := 24, pos := "law.go:84", after := #[{ on := 6, ground := Ground.data }, { on := 8, ground := Ground.data }, { on := 10, ground := Ground.data }, { on := 12, ground := Ground.data }, { on := 14, ground := Ground.data }], guard := none }) (v := ?vv16_2_15) rfl (by kernel_rfl) (by kernel_rfl) (by kernel_rfl) (fun _ _ _ h => h) (Or.inl ⟨by rfl, ?yy16_2_15⟩) hHeld ?_
        case yy16_2_15 => (intro W hx; go_simp; try with_reducible rfl)
        simp only [Act.put, List.setIfInBounds_toArray, List.set_cons_zero, List.set_cons_succ]
        refine wpAnyH_ready (rs := [16]) (by kernel_rfl) (by simp) (AllReadyH.cons rfl (fun K hK => ?_) AllReadyH.nil)
        go_simp
        obtain ⟨wL, hw⟩ : ∃ V, V = World.alloc wb (.cells #[.string ⟨#[]⟩, .int .u8 0, .int .u32 0, .int .i64 0, .bool false, .bool false, .int .i32 0, .int .i32 0] 24) := ⟨_, rfl⟩
        rw [← hw]
        have xa : Ext wb wL := by rw [hw]; exact (Ext.refl _).alloc _
        have kg : (World.heap wL)[(World.heap wb).size]? = some (.cells #[.string ⟨#[]⟩, .int .u8 0, .int .u32 0, .int .i64 0, .bool false, .bool false, .int .i32 0, .int .i32 0] 24) := by rw [hw]; exact heap_alloc_new _ _
        have gle := zz1.size
        clear hw
        refine hK.out _ _ xa (fun hHeld => ?_)
        clear hK K
        refine wpAnyH_imp (S' := fun W => World.grownBy wL W (some (World.heap wb).size)) (fun W h => Ext.of_grown xa h (fun k e => by cases e; exact Nat.le_refl _)) _ _ _ _ ?_
        replace hHeld := World.grownBy.refl wL (some (World.heap wb).size)
        have zz2 := zz1.trans xa
        refine wpAnyH_ready (rs := [17]) (by kernel_rfl) (by simp) (AllReadyH.cons rfl (fun K hK => ?_) AllReadyH.nil)
        rw [if_pos (by rfl)]
        refine wp_strow (o := { dst := none, op := Op.store 24 (Operand.tmp 4) (Operand.tmp 32), type := 0, pos := "law.go:84", after := #[{ on := 16, ground := Ground.data }, { on := 15, ground := Ground.data }, { on := 0, ground := Ground.phase }, { on := 1, ground := Ground.phase }, { on := 2, ground := Ground.phase }, { on := 3, ground := Ground.phase }, { on := 4, ground := Ground.phase }, { on := 5, ground := Ground.phase }, { on := 6, ground := Ground.phase }, { on := 7, ground := Ground.phase }, { on := 8, ground := Ground.phase }, { on := 9, ground := Ground.phase }, { on := 10, ground := Ground.phase }, { on := 11, ground := Ground.phase }, { on := 12, ground := Ground.phase }, { on := 13, ground := Ground.phase }, { on := 14, ground := Ground.phase }, { on := 15, ground := Ground.phase }, { on := 16, ground := Ground.phase }], guard := none }) _ _ _ rfl kg rfl rfl (by kernel_rfl) rfl (by simp [Value.oneCell']) ?_
        clear kg
        intro wS kg xg
        simp only [Act.put]
        refine hK.out _ _ xg (fun hHeld => ?_)
        clear hK K
        refine wpAnyH_imp (S' := fun W => World.grownBy wS W (some (World.heap wb).size)) (fun W h => World.grownBy_trans xg h) _ _ _ _ ?_
        replace hHeld := World.grownBy.refl wS (some (World.heap wb).size)
        have zz3 := Ext.of_grown zz2 xg (fun k e => by cases e; exact gle)
        refine wpAnyH_done (by kernel_rfl) ?_ _
        have zend := zz3
        have kend := Lib.hid kg
        clear kg
        go_wp2
        go_meet
        case rel => exact ⟨⟨_, rfl, kend.out⟩, v1.trans zend⟩
      · have tok := True.intro
        go_simp
        obtain ⟨wL, hw⟩ : ∃ V, V = World.alloc wD1 (.cells #[.string ⟨#[]⟩, .int .u8 0, .int .u32 0, .int .i64 0, .bool false, .bool false, .int .i32 0, .int .i32 0] 24) := ⟨_, rfl⟩
        rw [← hw]
        have xa : Ext wD1 wL := by rw [hw]; exact (Ext.refl _).alloc _
        have kg : (World.heap wL)[(World.heap wD1).size]? = some (.cells #[.string ⟨#[]⟩, .int .u8 0, .int .u32 0, .int .i64 0, .bool false, .bool false, .int .i32 0, .int .i32 0] 24) := by rw [hw]; exact heap_alloc_new _ _
        have gle := zz0.size
        clear hw
        refine hK.out _ _ xa (fun hHeld => ?_)
        clear hK K
        refine wpAnyH_imp (S' := fun W => World.grownBy wL W (some (World.heap wD1).size)) (fun W h => Ext.of_grown xa h (fun k e => by cases e; exact Nat.le_refl _)) _ _ _ _ ?_
        replace hHeld := World.grownBy.refl wL (some (World.heap wD1).size)
        have zz1 := zz0.trans xa
        refine wpAnyH_ready (rs := [0]) (by kernel_rfl) (by simp) (AllReadyH.cons rfl (fun K hK => ?_) AllReadyH.nil)
        go_simp
        obtain ⟨wb, hw⟩ : ∃ V, V = World.alloc wL (.cells #[.int .i64 1, .int .i64 2, .int .i64 4] 3) := ⟨_, rfl⟩
        rw [← hw]
        have xb : Ext wL wb := by rw [hw]; exact (Ext.refl _).alloc _
        have kb : (World.heap wb)[(World.heap wL).size]? = some (.cells #[.int .i64 1, .int .i64 2, .int .i64 4] 3) := by rw [hw]; exact heap_alloc_new _ _
        clear hw
        have nbg : (World.heap wL).size ≠ (World.heap wD1).size := Nat.ne_of_gt (blk_lt kg)
        refine hK.out _ _ (World.grownBy_ext xb) (fun hHeld => ?_)
        clear hK K
        refine wpAnyH_imp (S' := fun W => World.grownBy wb W (some (World.heap wD1).size)) (fun W h => World.grownBy_trans (World.grownBy_ext xb) h) _ _ _ _ ?_
        replace hHeld := World.grownBy.refl wb (some (World.heap wD1).size)
        have kg := (xb.block _ (blk_lt kg)).trans kg
        have zz2 := zz1.trans xb
        refine wpAnyH_take (i := 5) (oi := { dst := some 22, op := Op.indexAddr 46 (Operand.tmp 17) (Operand.tmp 21), type := 0, pos := "law.go:84", after := #[{ on := 0, ground := Ground.data }, { on := 4, ground := Ground.data }], guard := none }) (v := ?vv17_2_5) rfl (by kernel_rfl) (by kernel_rfl) (by kernel_rfl) (fun _ _ _ h => h) (Or.inl ⟨by rfl, ?yy17_2_5⟩) hHeld ?_
        case yy17_2_5 => (intro W hx; go_simp; try with_reducible rfl)
        simp only [Act.put, List.setIfInBounds_toArray, List.set_cons_zero, List.set_cons_succ]
        refine wpAnyH_take (i := 6) (oi := { dst := some 23, op := Op.load 3 (Operand.tmp 22), type := 3, pos := "law.go:84", after := #[{ on := 5, ground := Ground.data }], guard := none }) (v := ?vv18_2_6) rfl (by kernel_rfl) (by kernel_rfl) (by kernel_rfl) (fun _ _ _ h => h) (Or.inl ⟨by rfl, ?yy18_2_6⟩) hHeld ?_
        case yy18_2_6 => (intro W hx; have hz := Ext.of_grown zz2 hx (fun k e => by cases e; exact gle); have fb := blk_cell (i := 2) ((hx.block _ (blk_lt kb) (fun e => nbg (by injection e))).trans kb) rfl; go_simp; try with_reducible rfl)
        simp only [Act.put, List.setIfInBounds_toArray, List.set_cons_zero, List.set_cons_succ]
        refine wpAnyH_take (i := 15) (oi := { dst := some 32, op := Op.build 24 #[(0, Operand.const (Value.string { data := #[120] })), (3, Operand.tmp 23), (4, Operand.tmp 25), (5, Operand.tmp 27), (6, Operand.tmp 29), (7, Operand.tmp 31)], type := 24, pos := "law.go:84", after := #[{ on := 6, ground := Ground.data }, { on := 8, ground := Ground.data }, { on := 10, ground := Ground.data }, { on := 12, ground := Ground.data }, { on := 14, ground := Ground.data }], guard := none }) (v := ?vv19_2_15) rfl (by kernel_rfl) (by kernel_rfl) (by kernel_rfl) (fun _ _ _ h => h) (Or.inl ⟨by rfl, ?yy19_2_15⟩) hHeld ?_
        case yy19_2_15 => (intro W hx; go_simp; try with_reducible rfl)
        simp only [Act.put, List.setIfInBounds_toArray, List.set_cons_zero, List.set_cons_succ]
        refine wpAnyH_ready (rs := [17]) (by kernel_rfl) (by simp) (AllReadyH.cons rfl (fun K hK => ?_) AllReadyH.nil)
        rw [if_pos (by rfl)]
        refine wp_strow (o := { dst := none, op := Op.store 24 (Operand.tmp 4) (Operand.tmp 32), type := 0, pos := "law.go:84", after := #[{ on := 16, ground := Ground.data }, { on := 15, ground := Ground.data }, { on := 0, ground := Ground.phase }, { on := 1, ground := Ground.phase }, { on := 2, ground := Ground.phase }, { on := 3, ground := Ground.phase }, { on := 4, ground := Ground.phase }, { on := 5, ground := Ground.phase }, { on := 6, ground := Ground.phase }, { on := 7, ground := Ground.phase }, { on := 8, ground := Ground.phase }, { on := 9, ground := Ground.phase }, { on := 10, ground := Ground.phase }, { on := 11, ground := Ground.phase }, { on := 12, ground := Ground.phase }, { on := 13, ground := Ground.phase }, { on := 14, ground := Ground.phase }, { on := 15, ground := Ground.phase }, { on := 16, ground := Ground.phase }], guard := none }) _ _ _ rfl kg rfl rfl (by kernel_rfl) rfl (by simp [Value.oneCell']) ?_
        clear kg
        intro wS kg xg
        simp only [Act.put]
        refine hK.out _ _ xg (fun hHeld => ?_)
        clear hK K
        refine wpAnyH_imp (S' := fun W => World.grownBy wS W (some (World.heap wD1).size)) (fun W h => World.grownBy_trans xg h) _ _ _ _ ?_
        replace hHeld := World.grownBy.refl wS (some (World.heap wD1).size)
        have zz3 := Ext.of_grown zz2 xg (fun k e => by cases e; exact gle)
        refine wpAnyH_done (by kernel_rfl) ?_ _
        have zend := zz3
        have kend := Lib.hid kg
        clear kg
        go_wp2
        go_meet
        case rel => exact ⟨⟨_, rfl, kend.out⟩, v1.trans zend⟩
  case rest =>
    obtain ⟨⟨g, rfl, KX⟩, xc⟩ := hcut
    obtain ⟨wA, rfl⟩ : ∃ z : World, z = wc := ⟨_, rfl⟩
    clear K1 v1
    have hsz : (⟨#[120]⟩ : ByteArray).size ≤ maxLen := by decide
    obtain ⟨f0, f1, f2, f3, f4, f5, f6, f7⟩ := cells8 KX
    by_cases hmu : -16777216 ≤ mu ∧ mu ≤ 16777216 ∧ mu ≠ 0
    · obtain ⟨m0, m1, mz⟩ := hmu
      have mzb : (mu == 0) = false := by simpa using mz
      have tok := True.intro
      have HMX := Lib.hid (name_x 4 mu (by omega) m0 m1 mz)
      go_upto_region 12 with (go_at_call 10; (refine (put_f _ _ _ _ _ _ _ _ _ _ hsz HMX.out a0 a1 (by omega) (by omega) (T_ok mz (c := 2147483648) (by omega)).1 (by rw [(T_ok mz (c := 2147483648) (by omega)).2]; decide)).mono ?_); rintro e w2 ⟨rfl, x2⟩; replace KX := (x2.block _ (blk_lt KX)).trans KX; replace xc := xc.trans x2; clear f0 f1 f2 f3 f4 f5 f6 f7; obtain ⟨f0, f1, f2, f3, f4, f5, f6, f7⟩ := cells8 KX)
      go_upto_region 13 with (go_at_call 10; (refine (put_f _ _ _ _ _ _ _ _ _ _ hsz HMX.out a0 a1 (by omega) (by omega) (T_ok mz (c := -2147483649) (by omega)).1 (by rw [(T_ok mz (c := -2147483649) (by omega)).2]; decide)).mono ?_); rintro e w3 ⟨rfl, x3⟩; replace KX := (x3.block _ (blk_lt KX)).trans KX; replace xc := xc.trans x3; clear f0 f1 f2 f3 f4 f5 f6 f7; obtain ⟨f0, f1, f2, f3, f4, f5, f6, f7⟩ := cells8 KX)
      by_cases e1 : mu = 1
      · subst e1
        go_wp2_with (first
          | (go_at_call 10; (refine (put_ok _ _ _ _ _ _ _ _ _ _ hsz HMX.out a0 a1 (by omega) (by omega) (T_ok mz (c := -2147483647) (by omega)).1 (by rw [(T_ok mz (c := -2147483647) (by omega)).2]; decide)).mono ?_); rintro e w4 ⟨A4, c4, rfl, _, _, x4, _⟩; replace KX := (x4.block _ (blk_lt KX)).trans KX; replace xc := xc.trans x4; clear f0 f1 f2 f3 f4 f5 f6 f7; obtain ⟨f0, f1, f2, f3, f4, f5, f6, f7⟩ := cells8 KX)
          | (go_at_call 21; (refine (of_any _ _ _ _ _ _ _ _ (by omega) m0 m1 mz a0 a1 (by decide) (by omega) (by omega) KX).mono ?_); rintro e w5 ⟨rfl, x5⟩; replace KX := (x5.block _ (blk_lt KX)).trans KX; replace xc := xc.trans x5))
        go_ret
        exact ⟨by simp, xc⟩
      · by_cases e2 : mu = -1
        · subst e2
          go_wp2_with (first
            | (go_at_call 10; (refine (put_f _ _ _ _ _ _ _ _ _ _ hsz HMX.out a0 a1 (by omega) (by omega) (T_ok mz (c := -2147483649) (by omega)).1 (by rw [(T_ok mz (c := -2147483649) (by omega)).2]; decide)).mono ?_); rintro e w4 ⟨rfl, x4⟩; replace KX := (x4.block _ (blk_lt KX)).trans KX; replace xc := xc.trans x4; clear f0 f1 f2 f3 f4 f5 f6 f7; obtain ⟨f0, f1, f2, f3, f4, f5, f6, f7⟩ := cells8 KX)
            | (go_at_call 21; (refine (of_any _ _ _ _ _ _ _ _ (by omega) m0 m1 mz a0 a1 (by decide) (by omega) (by omega) KX).mono ?_); rintro e w5 ⟨rfl, x5⟩; replace KX := (x5.block _ (blk_lt KX)).trans KX; replace xc := xc.trans x5))
          go_ret
          exact ⟨by simp, xc⟩
        · have b1 : (mu == 1) = false := by simpa using e1
          have b2 : (mu == -1) = false := by simpa using e2
          go_wp2_with (first
            | (go_at_call 10; (refine (put_t _ _ _ _ _ _ _ _ _ _ hsz HMX.out a0 a1 (by omega) (by omega) (T_one e1 e2 (c := -2147483648) (by omega))).mono ?_); rintro e w4 ⟨rfl, x4⟩; replace KX := (x4.block _ (blk_lt KX)).trans KX; replace xc := xc.trans x4; clear f0 f1 f2 f3 f4 f5 f6 f7; obtain ⟨f0, f1, f2, f3, f4, f5, f6, f7⟩ := cells8 KX)
            | (go_at_call 21; (refine (of_any _ _ _ _ _ _ _ _ (by omega) m0 m1 mz a0 a1 (by decide) (by omega) (by omega) KX).mono ?_); rintro e w5 ⟨rfl, x5⟩; replace KX := (x5.block _ (blk_lt KX)).trans KX; replace xc := xc.trans x5))
          go_ret
          exact ⟨by simp, xc⟩
    · have hno : mayS ⟨#[120]⟩ 4 mu = false := by
        rw [Bool.eq_false_iff]
        intro h
        obtain ⟨_, h1, h2, h3⟩ := may_parts h
        exact hmu ⟨h1, h2, h3⟩
      have HNO := Lib.hid hno
      clear hno
      have hh : mu = 0 ∨ mu < -16777216 ∨ 16777216 < mu := by omega
      clear hmu
      rcases hh with rfl | hh | hh
      · go_wp2_with (go_at_call 15; (with_reducible refine (may_any _ _ _ _ _ _ _ _ _ hsz).mono ?_); rintro e w2 ⟨rfl, x2⟩; rw [HNO.out])
        go_ret
        exact ⟨by simp, xc.trans x2⟩
      · have hz : (mu == 0) = false := by simp; omega
        go_wp2_with (go_at_call 15; (with_reducible refine (may_any _ _ _ _ _ _ _ _ _ hsz).mono ?_); rintro e w2 ⟨rfl, x2⟩; rw [HNO.out])
        go_ret
        exact ⟨by simp, xc.trans x2⟩
      · have hz : (mu == 0) = false := by simp; omega
        go_wp2_with (go_at_call 15; (with_reducible refine (may_any _ _ _ _ _ _ _ _ _ hsz).mono ?_); rintro e w2 ⟨rfl, x2⟩; rw [HNO.out])
        go_ret
        exact ⟨by simp, xc.trans x2⟩
end Go.Proofs.Ytpjficfmmfdbjaa
