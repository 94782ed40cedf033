import Derived.Test.YtafdbhajngoafaaQ
set_option linter.unusedVariables false
namespace Go.Proofs.Ytafdbhajngoafaa
open Go.RowKit
theorem cut_le (m : Nat) (o : Int) (h0 : 0 ≤ o) : ∃ k : Nat, (m : Int) - o % ((m : Int) + 1) = k ∧ k ≤ m := by
  have h1 := Int.emod_nonneg o (show ((m : Int) + 1) ≠ 0 by omega)
  have h2 := Int.emod_lt_of_pos o (show (0 : Int) < (m : Int) + 1 by omega)
  exact ⟨((m : Int) - o % ((m : Int) + 1)).toNat, by omega, by omega⟩
theorem padZ_inj8 {bs : List Int} {y0 y1 y2 y3 y4 y5 y6 y7 z0 z1 z2 z3 z4 z5 z6 z7 : Int} (h : padZ bs = [y0, y1, y2, y3, y4, y5, y6, y7]) (k : padZ bs = [z0, z1, z2, z3, z4, z5, z6, z7]) : y0 = z0 ∧ y1 = z1 ∧ y2 = z2 ∧ y3 = z3 ∧ y4 = z4 ∧ y5 = z5 ∧ y6 = z6 ∧ y7 = z7 := by
  rw [h] at k; simpa using k
set_option maxHeartbeats 2000000 in
theorem FrameCuts_law (w : World) (id : Int) (h0 : 0 ≤ id) (A : Option Addr) (n c : Nat) (bs : List Int) (hr : Rd w A n bs) (hnc : n ≤ c) (hc : c ≤ maxLen) (o : Int) (o0 : 0 ≤ o) (o1 : o < 256) :
    Calls Try.prog 9 #[.int .u16 id, .slice A n c, .int .u8 o] w fun e w' => e = .returned (.bool true) ∧ Ext w w' := by
  have hr' := hr.take (k := min n 20) (by omega)
  have hmc : min n 20 ≤ c := by omega
  generalize hmm : min n 20 = m at *
  have HM := Lib.hid hmm; clear hmm
  have hid : id % 2048 < idsI false := by show _ < 2048; omega
  have hi0 : 0 ≤ id % 2048 := by omega
  have heq := fun d W => run_eq8 d W
  by_cases hm : (m : Int) ≤ 8
  · go_enter Try.func9, Try.ntmps9
    go_upto_region 4 with (first
      | (go_at_call 13; (with_reducible refine (shown_any _).mono ?_); rintro e w3 ⟨rfl, x3⟩)
      | (go_at_call 11; (with_reducible refine (few_any _ _ _ _ hnc hc).mono ?_); rintro e w' ⟨rfl, rfl⟩; rw [HM.out])
      | (go_at_call 10; (with_reducible refine (make_any _ _ _ _ _ _ _ (hr'.ext x3) hid hm).mono ?_); rintro e w1 ⟨y0, y1, y2, y3, y4, y5, y6, y7, hy, rfl, x1⟩))
    obtain ⟨k, hk, hkm⟩ := cut_le m o o0
    go_upto_region 7 with (fail)
    try rw [hk]
    clear hk
    have k0 : (0 : Int) ≤ k := by omega
    have kc : (k : Int) ≤ c := by omega
    have hrk := hr'.take hkm
    have hk8 : (k : Int) ≤ 8 := by omega
    go_upto_region 8 with (first
      | (go_at_call 10; (with_reducible refine (make_any _ _ _ _ _ _ _ (hrk.ext (x3.trans (x1.alloc _))) hid hk8).mono ?_); rintro e w2 ⟨z0, z1, z2, z3, z4, z5, z6, z7, hz, rfl, x2⟩))
    obtain ⟨W1, hW1⟩ : ∃ V, V = w2.alloc (.cells (#[.int .u32 (id % 2048), .bool false, .int .i64 k, .int .u8 z0, .int .u8 z1, .int .u8 z2, .int .u8 z3, .int .u8 z4, .int .u8 z5, .int .u8 z6, .int .u8 z7]) 26) := ⟨_, rfl⟩
    rw [← hW1]
    have a2 : Ext w2 W1 := by rw [hW1]; exact (Ext.refl _).alloc _
    have K12 : W1.heap[w2.heap.size]? = some (.cells (#[.int .u32 (id % 2048), .bool false, .int .i64 k, .int .u8 z0, .int .u8 z1, .int .u8 z2, .int .u8 z3, .int .u8 z4, .int .u8 z5, .int .u8 z6, .int .u8 z7]) 26 (0, 0)) := by rw [hW1]; exact heap_alloc_new _ _
    clear hW1
    have K9 := blk_of (x2.trans a2)
    have v1 : Ext w W1 := x3.trans ((x1.alloc _).trans (x2.trans a2))
    have vx : Ext w3 W1 := (x1.alloc _).trans (x2.trans a2)
    have mz := padZ_may (id % 2048) false k ((bs.take m).take k) hrk.len (by omega) hid
    have my := padZ_may (id % 2048) false m (bs.take m) hr'.len (by omega) hid
    have tz := padZ_take k ((bs.take m).take k) hrk.len
    have ty := padZ_take m (bs.take m) hr'.len
    have bz := padZ_byts hrk.byts
    have bY := padZ_byts hr'.byts
    rw [hz] at mz tz bz
    rw [hy] at my ty bY
    have Hmz := Lib.hid mz
    have Hmy := Lib.hid my
    have Htz := Lib.hid tz
    have Hty := Lib.hid ty
    clear mz my tz ty
    have key : (k = m ∧ y0 = z0 ∧ y1 = z1 ∧ y2 = z2 ∧ y3 = z3 ∧ y4 = z4 ∧ y5 = z5 ∧ y6 = z6 ∧ y7 = z7) ∨ (((m : Int) == k) = false ∧ ((k : Int) == m) = false ∧ ¬ k = m) := by
      by_cases hkm' : k = m
      · left
        subst hkm'
        rw [List.take_take, Nat.min_self] at hz
        exact ⟨rfl, padZ_inj8 hy hz⟩
      · right
        refine ⟨?_, ?_, hkm'⟩ <;> (rw [beq_eq_false_iff_ne]; omega)
    have hkle := hkm
    clear hy hz hkm
    rcases key with ⟨rfl, rfl, rfl, rfl, rfl, rfl, rfl, rfl, rfl⟩ | ⟨hk1, hk2, hk3⟩
    · have rr := hr'.take (Nat.le_refl k)
      refine wp_region_held_drew (S := Ext W1) (by kernel_rfl) ((Ext.refl _).drew) (fun hHeld => ?_)
      obtain ⟨wD1, hwD⟩ : ∃ V, V = World.drew W1 := ⟨_, rfl⟩
      rw [← hwD]
      clear hHeld
      have zz0 : Ext W1 wD1 := by rw [hwD]; exact (Ext.refl _).drew
      clear hwD
      refine wpAnyH_imp (S' := Ext wD1) (fun W h => Ext.trans zz0 h) _ _ _ _ ?_
      have hHeld := Ext.refl wD1
      refine wpAnyH_take (i := 0) (oi := { dst := some 57, op := Op.move (Operand.tmp 7), type := 4, pos := "law.go:129", after := #[], guard := none }) (v := ?vv2_8_0) rfl (by kernel_rfl) (by kernel_rfl) (by kernel_rfl) (fun _ _ _ h => h) (Or.inl ⟨by rfl, ?yy2_8_0⟩) hHeld ?_
      case yy2_8_0 => (intro W hx; go_simp; try with_reducible rfl)
      simp only [Act.put, List.setIfInBounds_toArray, List.set_cons_zero, List.set_cons_succ]
      refine wpAnyH_take (i := 1) (oi := { dst := some 58, op := Op.move (Operand.tmp 57), type := 4, pos := "law.go:129", after := #[{ on := 0, ground := Ground.data }], guard := none }) (v := ?vv3_8_1) rfl (by kernel_rfl) (by kernel_rfl) (by kernel_rfl) (fun _ _ _ h => h) (Or.inl ⟨by rfl, ?yy3_8_1⟩) hHeld ?_
      case yy3_8_1 => (intro W hx; go_simp; try with_reducible rfl)
      simp only [Act.put, List.setIfInBounds_toArray, List.set_cons_zero, List.set_cons_succ]
      refine wpAnyH_take (i := 2) (oi := { dst := some 59, op := Op.move (Operand.tmp 10), type := 27, pos := "law.go:129", after := #[{ on := 1, ground := Ground.guard }], guard := some (1, true) }) (v := ?vv4_8_2) rfl (by kernel_rfl) (by kernel_rfl) (by kernel_rfl) (fun _ _ _ h => h) (Or.inl ⟨by rfl, ?yy4_8_2⟩) hHeld ?_
      case yy4_8_2 => (intro W hx; go_simp; try with_reducible rfl)
      simp only [Act.put, List.setIfInBounds_toArray, List.set_cons_zero, List.set_cons_succ]
      refine wpAnyH_take (i := 3) (oi := { dst := some 60, op := Op.binOp BinOp.eql 27 (Operand.tmp 59) (Operand.const (Value.int IntKind.i64 0)) 27, type := 4, pos := "law.go:129", after := #[{ on := 2, ground := Ground.data }, { on := 1, ground := Ground.guard }], guard := some (1, true) }) (v := ?vv5_8_3) rfl (by kernel_rfl) (by kernel_rfl) (by kernel_rfl) (fun _ _ _ h => h) (Or.inl ⟨by rfl, ?yy5_8_3⟩) hHeld ?_
      case yy5_8_3 => (intro W hx; go_simp; try with_reducible rfl)
      simp only [Act.put, List.setIfInBounds_toArray, List.set_cons_zero, List.set_cons_succ]
      refine wpAnyH_take (i := 4) (oi := { dst := some 61, op := Op.pick (Operand.tmp 58) (Operand.tmp 60) (Operand.const (Value.bool false)), type := 4, pos := "law.go:129", after := #[{ on := 1, ground := Ground.data }, { on := 3, ground := Ground.data }], guard := none }) (v := ?vv6_8_4) rfl (by kernel_rfl) (by kernel_rfl) (by kernel_rfl) (fun _ _ _ h => h) (Or.inl ⟨by rfl, ?yy6_8_4⟩) hHeld ?_
      case yy6_8_4 => (intro W hx; go_simp; try with_reducible rfl)
      simp only [Act.put, List.setIfInBounds_toArray, List.set_cons_zero, List.set_cons_succ]
      refine wpAnyH_take (i := 5) (oi := { dst := some 62, op := Op.move (Operand.tmp 61), type := 4, pos := "law.go:129", after := #[{ on := 4, ground := Ground.data }, { on := 1, ground := Ground.chain }], guard := none }) (v := ?vv7_8_5) rfl (by kernel_rfl) (by kernel_rfl) (by kernel_rfl) (fun _ _ _ h => h) (Or.inl ⟨by rfl, ?yy7_8_5⟩) hHeld ?_
      case yy7_8_5 => (intro W hx; go_simp; try with_reducible rfl)
      simp only [Act.put, List.setIfInBounds_toArray, List.set_cons_zero, List.set_cons_succ]
      refine wpAnyH_take (i := 6) (oi := { dst := some 63, op := Op.move (Operand.tmp 13), type := 27, pos := "law.go:129", after := #[{ on := 5, ground := Ground.guard }], guard := some (5, true) }) (v := ?vv8_8_6) rfl (by kernel_rfl) (by kernel_rfl) (by kernel_rfl) (fun _ _ _ h => h) (Or.inl ⟨by rfl, ?yy8_8_6⟩) hHeld ?_
      case yy8_8_6 => (intro W hx; go_simp; try with_reducible rfl)
      simp only [Act.put, List.setIfInBounds_toArray, List.set_cons_zero, List.set_cons_succ]
      refine wpAnyH_take (i := 7) (oi := { dst := some 64, op := Op.binOp BinOp.eql 27 (Operand.tmp 63) (Operand.const (Value.int IntKind.i64 0)) 27, type := 4, pos := "law.go:129", after := #[{ on := 6, ground := Ground.data }, { on := 5, ground := Ground.guard }], guard := some (5, true) }) (v := ?vv9_8_7) rfl (by kernel_rfl) (by kernel_rfl) (by kernel_rfl) (fun _ _ _ h => h) (Or.inl ⟨by rfl, ?yy9_8_7⟩) hHeld ?_
      case yy9_8_7 => (intro W hx; go_simp; try with_reducible rfl)
      simp only [Act.put, List.setIfInBounds_toArray, List.set_cons_zero, List.set_cons_succ]
      refine wpAnyH_take (i := 8) (oi := { dst := some 65, op := Op.pick (Operand.tmp 62) (Operand.tmp 64) (Operand.const (Value.bool false)), type := 4, pos := "law.go:129", after := #[{ on := 5, ground := Ground.data }, { on := 7, ground := Ground.data }], guard := none }) (v := ?vv10_8_8) rfl (by kernel_rfl) (by kernel_rfl) (by kernel_rfl) (fun _ _ _ h => h) (Or.inl ⟨by rfl, ?yy10_8_8⟩) hHeld ?_
      case yy10_8_8 => (intro W hx; go_simp; try with_reducible rfl)
      simp only [Act.put, List.setIfInBounds_toArray, List.set_cons_zero, List.set_cons_succ]
      refine wpAnyH_take (i := 9) (oi := { dst := some 66, op := Op.move (Operand.tmp 65), type := 4, pos := "law.go:129", after := #[{ on := 8, ground := Ground.data }, { on := 5, ground := Ground.chain }], guard := none }) (v := ?vv11_8_9) rfl (by kernel_rfl) (by kernel_rfl) (by kernel_rfl) (fun _ _ _ h => h) (Or.inl ⟨by rfl, ?yy11_8_9⟩) hHeld ?_
      case yy11_8_9 => (intro W hx; go_simp; try with_reducible rfl)
      simp only [Act.put, List.setIfInBounds_toArray, List.set_cons_zero, List.set_cons_succ]
      refine wpAnyH_take (i := 10) (oi := { dst := some 67, op := Op.load 26 (Operand.tmp 12), type := 26, pos := "law.go:129", after := #[{ on := 9, ground := Ground.guard }], guard := some (9, true) }) (v := ?vv12_8_10) rfl (by kernel_rfl) (by kernel_rfl) (by kernel_rfl) (fun _ _ _ h => h) (Or.inl ⟨by rfl, ?yy12_8_10⟩) hHeld ?_
      case yy12_8_10 => (intro W hx; have hz := zz0.trans hx; obtain ⟨f0, f1, f2, f3, f4, f5, f6, f7, f8, f9, fa⟩ := cells11 ((hz.block _ (blk_lt K9)).trans K9); obtain ⟨g0, g1, g2, g3, g4, g5, g6, g7, g8, g9, ga⟩ := cells11 ((hz.block _ (blk_lt K12)).trans K12); go_simp; try with_reducible rfl)
      simp only [Act.put, List.setIfInBounds_toArray, List.set_cons_zero, List.set_cons_succ]
      refine wpAnyH_take (i := 13) (oi := { dst := some 70, op := Op.load 26 (Operand.tmp 9), type := 26, pos := "law.go:129", after := #[{ on := 9, ground := Ground.guard }], guard := some (9, true) }) (v := ?vv13_8_13) rfl (by kernel_rfl) (by kernel_rfl) (by kernel_rfl) (fun _ _ _ h => h) (Or.inl ⟨by rfl, ?yy13_8_13⟩) hHeld ?_
      case yy13_8_13 => (intro W hx; have hz := zz0.trans hx; obtain ⟨f0, f1, f2, f3, f4, f5, f6, f7, f8, f9, fa⟩ := cells11 ((hz.block _ (blk_lt K9)).trans K9); obtain ⟨g0, g1, g2, g3, g4, g5, g6, g7, g8, g9, ga⟩ := cells11 ((hz.block _ (blk_lt K12)).trans K12); go_simp; try with_reducible rfl)
      simp only [Act.put, List.setIfInBounds_toArray, List.set_cons_zero, List.set_cons_succ]
      refine wpAnyH_take (i := 15) (oi := { dst := some 72, op := Op.move (Operand.tmp 11), type := 3, pos := "law.go:129", after := #[{ on := 9, ground := Ground.guard }], guard := some (9, true) }) (v := ?vv14_8_15) rfl (by kernel_rfl) (by kernel_rfl) (by kernel_rfl) (fun _ _ _ h => h) (Or.inl ⟨by rfl, ?yy14_8_15⟩) hHeld ?_
      case yy14_8_15 => (intro W hx; go_simp; try with_reducible rfl)
      simp only [Act.put, List.setIfInBounds_toArray, List.set_cons_zero, List.set_cons_succ]
      refine wpAnyH_ready (rs := [11]) (by kernel_rfl) (by simp) (AllReadyH.cons rfl (fun K hK => ?_) AllReadyH.nil)
      go_simp
      go_wp2_with (go_at_call 16; (with_reducible refine (bytes_any _ _ _ _ _ _ _ _ _ _ _ _ bz Hmz.out).mono ?_); rintro e w5 ⟨A5, c5, rfl, _, _, x5, r5⟩; rw [Htz.out] at r5)
      refine hK.out _ _ x5 (fun hHeld => ?_)
      clear hK K
      refine wpAnyH_imp (S' := Ext w5) (fun W h => Ext.trans x5 h) _ _ _ _ ?_
      replace hHeld := Ext.refl w5
      have zz1 := zz0.trans x5
      refine wpAnyH_take (i := 12) (oi := { dst := some 69, op := Op.convert 23 9 (Operand.tmp 68), type := 9, pos := "law.go:129", after := #[{ on := 11, ground := Ground.data }, { on := 9, ground := Ground.guard }], guard := some (9, true) }) (v := ?vv15_8_12) rfl (by kernel_rfl) (by kernel_rfl) (by kernel_rfl) (fun _ _ _ h => h) (Or.inl ⟨by rfl, ?yy15_8_12⟩) hHeld ?_
      case yy15_8_12 => (intro W hx; have hz := zz1.trans hx; have hs := str (c := c5) (r5.ext hx); go_simp; try with_reducible rfl)
      simp only [Act.put, List.setIfInBounds_toArray, List.set_cons_zero, List.set_cons_succ]
      refine wpAnyH_ready (rs := [14]) (by kernel_rfl) (by simp) (AllReadyH.cons rfl (fun K hK => ?_) AllReadyH.nil)
      go_simp
      go_wp2_with (go_at_call 16; (with_reducible refine (bytes_any _ _ _ _ _ _ _ _ _ _ _ _ bY Hmy.out).mono ?_); rintro e w6 ⟨A6, c6, rfl, l6, m6, x6, r6⟩; rw [Hty.out] at r6; have q6 : (k : Int) ≤ c6 := by omega)
      refine hK.out _ _ x6 (fun hHeld => ?_)
      clear hK K
      refine wpAnyH_imp (S' := Ext w6) (fun W h => Ext.trans x6 h) _ _ _ _ ?_
      replace hHeld := Ext.refl w6
      have zz2 := zz1.trans x6
      refine wpAnyH_take (i := 16) (oi := { dst := some 73, op := Op.slice 23 (Operand.tmp 71) none (some (Operand.tmp 72)) none, type := 23, pos := "law.go:129", after := #[{ on := 14, ground := Ground.data }, { on := 15, ground := Ground.data }, { on := 9, ground := Ground.guard }], guard := some (9, true) }) (v := ?vv16_8_16) rfl (by kernel_rfl) (by kernel_rfl) (by kernel_rfl) (fun _ _ _ h => h) (Or.inl ⟨by rfl, ?yy16_8_16⟩) hHeld ?_
      case yy16_8_16 => (intro W hx; go_simp; try with_reducible rfl)
      simp only [Act.put, List.setIfInBounds_toArray, List.set_cons_zero, List.set_cons_succ]
      refine wpAnyH_take (i := 17) (oi := { dst := some 74, op := Op.convert 23 9 (Operand.tmp 73), type := 9, pos := "law.go:129", after := #[{ on := 16, ground := Ground.data }, { on := 9, ground := Ground.guard }], guard := some (9, true) }) (v := ?vv17_8_17) rfl (by kernel_rfl) (by kernel_rfl) (by kernel_rfl) (fun _ _ _ h => h) (Or.inl ⟨by rfl, ?yy17_8_17⟩) hHeld ?_
      case yy17_8_17 => (intro W hx; have hz := zz2.trans hx; have hs := str (c := c6) ((r6.ext hx).take (Nat.le_refl k)); go_simp; try with_reducible rfl)
      simp only [Act.put, List.setIfInBounds_toArray, List.set_cons_zero, List.set_cons_succ]
      refine wpAnyH_take (i := 18) (oi := { dst := some 75, op := Op.binOp BinOp.eql 9 (Operand.tmp 69) (Operand.tmp 74) 9, type := 4, pos := "law.go:129", after := #[{ on := 12, ground := Ground.data }, { on := 17, ground := Ground.data }, { on := 9, ground := Ground.guard }], guard := some (9, true) }) (v := ?vv18_8_18) rfl (by kernel_rfl) (by kernel_rfl) (by kernel_rfl) (fun _ _ _ h => h) (Or.inl ⟨by rfl, ?yy18_8_18⟩) hHeld ?_
      case yy18_8_18 => (intro W hx; go_simp; try with_reducible rfl)
      simp only [Act.put, List.setIfInBounds_toArray, List.set_cons_zero, List.set_cons_succ]
      refine wpAnyH_take (i := 19) (oi := { dst := some 76, op := Op.pick (Operand.tmp 66) (Operand.tmp 75) (Operand.const (Value.bool false)), type := 4, pos := "law.go:129", after := #[{ on := 9, ground := Ground.data }, { on := 18, ground := Ground.data }], guard := none }) (v := ?vv19_8_19) rfl (by kernel_rfl) (by kernel_rfl) (by kernel_rfl) (fun _ _ _ h => h) (Or.inl ⟨by rfl, ?yy19_8_19⟩) hHeld ?_
      case yy19_8_19 => (intro W hx; go_simp; try with_reducible rfl)
      simp only [Act.put, List.setIfInBounds_toArray, List.set_cons_zero, List.set_cons_succ]
      refine wpAnyH_take (i := 20) (oi := { dst := some 77, op := Op.move (Operand.tmp 76), type := 4, pos := "law.go:129", after := #[{ on := 19, ground := Ground.data }, { on := 14, ground := Ground.chain }], guard := none }) (v := ?vv20_8_20) rfl (by kernel_rfl) (by kernel_rfl) (by kernel_rfl) (fun _ _ _ h => h) (Or.inl ⟨by rfl, ?yy20_8_20⟩) hHeld ?_
      case yy20_8_20 => (intro W hx; go_simp; try with_reducible rfl)
      simp only [Act.put, List.setIfInBounds_toArray, List.set_cons_zero, List.set_cons_succ]
      refine wpAnyH_take (i := 21) (oi := { dst := some 78, op := Op.load 26 (Operand.tmp 9), type := 26, pos := "law.go:129", after := #[{ on := 20, ground := Ground.guard }], guard := some (20, true) }) (v := ?vv21_8_21) rfl (by kernel_rfl) (by kernel_rfl) (by kernel_rfl) (fun _ _ _ h => h) (Or.inl ⟨by rfl, ?yy21_8_21⟩) hHeld ?_
      case yy21_8_21 => (intro W hx; have hz := zz2.trans hx; obtain ⟨f0, f1, f2, f3, f4, f5, f6, f7, f8, f9, fa⟩ := cells11 ((hz.block _ (blk_lt K9)).trans K9); obtain ⟨g0, g1, g2, g3, g4, g5, g6, g7, g8, g9, ga⟩ := cells11 ((hz.block _ (blk_lt K12)).trans K12); go_simp; try with_reducible rfl)
      simp only [Act.put, List.setIfInBounds_toArray, List.set_cons_zero, List.set_cons_succ]
      refine wpAnyH_take (i := 22) (oi := { dst := some 79, op := Op.load 26 (Operand.tmp 12), type := 26, pos := "law.go:129", after := #[{ on := 20, ground := Ground.guard }], guard := some (20, true) }) (v := ?vv22_8_22) rfl (by kernel_rfl) (by kernel_rfl) (by kernel_rfl) (fun _ _ _ h => h) (Or.inl ⟨by rfl, ?yy22_8_22⟩) hHeld ?_
      case yy22_8_22 => (intro W hx; have hz := zz2.trans hx; obtain ⟨f0, f1, f2, f3, f4, f5, f6, f7, f8, f9, fa⟩ := cells11 ((hz.block _ (blk_lt K9)).trans K9); obtain ⟨g0, g1, g2, g3, g4, g5, g6, g7, g8, g9, ga⟩ := cells11 ((hz.block _ (blk_lt K12)).trans K12); go_simp; try with_reducible rfl)
      simp only [Act.put, List.setIfInBounds_toArray, List.set_cons_zero, List.set_cons_succ]
      refine wpAnyH_take (i := 23) (oi := { dst := some 80, op := Op.binOp BinOp.eql 26 (Operand.tmp 78) (Operand.tmp 79) 26, type := 4, pos := "law.go:129", after := #[{ on := 21, ground := Ground.data }, { on := 22, ground := Ground.data }, { on := 20, ground := Ground.guard }], guard := some (20, true) }) (v := ?vv23_8_23) rfl (by kernel_rfl) (by kernel_rfl) (by kernel_rfl) (fun _ _ _ h => h) (Or.inl ⟨by rfl, ?yy23_8_23⟩) hHeld ?_
      case yy23_8_23 => (intro W hx; go_simp; try with_reducible rfl)
      simp only [Act.put, List.setIfInBounds_toArray, List.set_cons_zero, List.set_cons_succ]
      refine wpAnyH_take (i := 24) (oi := { dst := some 81, op := Op.move (Operand.tmp 11), type := 3, pos := "law.go:129", after := #[{ on := 20, ground := Ground.guard }], guard := some (20, true) }) (v := ?vv24_8_24) rfl (by kernel_rfl) (by kernel_rfl) (by kernel_rfl) (fun _ _ _ h => h) (Or.inl ⟨by rfl, ?yy24_8_24⟩) hHeld ?_
      case yy24_8_24 => (intro W hx; go_simp; try with_reducible rfl)
      simp only [Act.put, List.setIfInBounds_toArray, List.set_cons_zero, List.set_cons_succ]
      refine wpAnyH_take (i := 25) (oi := { dst := some 82, op := Op.move (Operand.tmp 8), type := 23, pos := "law.go:129", after := #[{ on := 20, ground := Ground.guard }], guard := some (20, true) }) (v := ?vv25_8_25) rfl (by kernel_rfl) (by kernel_rfl) (by kernel_rfl) (fun _ _ _ h => h) (Or.inl ⟨by rfl, ?yy25_8_25⟩) hHeld ?_
      case yy25_8_25 => (intro W hx; go_simp; try with_reducible rfl)
      simp only [Act.put, List.setIfInBounds_toArray, List.set_cons_zero, List.set_cons_succ]
      refine wpAnyH_take (i := 26) (oi := { dst := some 83, op := Op.call { callee := Callee.builtin Builtin.len, args := #[Operand.tmp 82], argTypes := #[23] }, type := 3, pos := "law.go:129", after := #[{ on := 25, ground := Ground.data }, { on := 20, ground := Ground.guard }], guard := some (20, true) }) (v := ?vv26_8_26) rfl (by kernel_rfl) (by kernel_rfl) (by kernel_rfl) (fun _ _ _ h => h) (Or.inl ⟨by rfl, ?yy26_8_26⟩) hHeld ?_
      case yy26_8_26 => (intro W hx; go_simp; try with_reducible rfl)
      simp only [Act.put, List.setIfInBounds_toArray, List.set_cons_zero, List.set_cons_succ]
      refine wpAnyH_take (i := 27) (oi := { dst := some 84, op := Op.binOp BinOp.eql 3 (Operand.tmp 81) (Operand.tmp 83) 3, type := 4, pos := "law.go:129", after := #[{ on := 24, ground := Ground.data }, { on := 26, ground := Ground.data }, { on := 20, ground := Ground.guard }], guard := some (20, true) }) (v := ?vv27_8_27) rfl (by kernel_rfl) (by kernel_rfl) (by kernel_rfl) (fun _ _ _ h => h) (Or.inl ⟨by rfl, ?yy27_8_27⟩) hHeld ?_
      case yy27_8_27 => (intro W hx; go_simp; try with_reducible rfl)
      simp only [Act.put, List.setIfInBounds_toArray, List.set_cons_zero, List.set_cons_succ]
      refine wpAnyH_take (i := 28) (oi := { dst := some 85, op := Op.binOp BinOp.eql 4 (Operand.tmp 80) (Operand.tmp 84) 4, type := 4, pos := "law.go:129", after := #[{ on := 23, ground := Ground.data }, { on := 27, ground := Ground.data }, { on := 20, ground := Ground.guard }], guard := some (20, true) }) (v := ?vv28_8_28) rfl (by kernel_rfl) (by kernel_rfl) (by kernel_rfl) (fun _ _ _ h => h) (Or.inl ⟨by rfl, ?yy28_8_28⟩) hHeld ?_
      case yy28_8_28 => (intro W hx; go_simp; try with_reducible rfl)
      simp only [Act.put, List.setIfInBounds_toArray, List.set_cons_zero, List.set_cons_succ]
      refine wpAnyH_take (i := 29) (oi := { dst := some 86, op := Op.pick (Operand.tmp 77) (Operand.tmp 85) (Operand.const (Value.bool false)), type := 4, pos := "law.go:129", after := #[{ on := 20, ground := Ground.data }, { on := 28, ground := Ground.data }], guard := none }) (v := ?vv29_8_29) rfl (by kernel_rfl) (by kernel_rfl) (by kernel_rfl) (fun _ _ _ h => h) (Or.inl ⟨by rfl, ?yy29_8_29⟩) hHeld ?_
      case yy29_8_29 => (intro W hx; go_simp; try with_reducible rfl)
      simp only [Act.put, List.setIfInBounds_toArray, List.set_cons_zero, List.set_cons_succ]
      refine wpAnyH_take (i := 30) (oi := { dst := some 6, op := Op.assign (Operand.tmp 86), type := 4, pos := "law.go:129", after := #[{ on := 29, ground := Ground.data }, { on := 20, ground := Ground.chain }, { on := 0, ground := Ground.phase }, { on := 1, ground := Ground.phase }, { on := 2, ground := Ground.phase }, { on := 3, ground := Ground.phase }, { on := 4, ground := Ground.phase }, { on := 5, ground := Ground.phase }, { on := 6, ground := Ground.phase }, { on := 7, ground := Ground.phase }, { on := 8, ground := Ground.phase }, { on := 9, ground := Ground.phase }, { on := 10, ground := Ground.phase }, { on := 11, ground := Ground.phase }, { on := 12, ground := Ground.phase }, { on := 13, ground := Ground.phase }, { on := 14, ground := Ground.phase }, { on := 15, ground := Ground.phase }, { on := 16, ground := Ground.phase }, { on := 17, ground := Ground.phase }, { on := 18, ground := Ground.phase }, { on := 19, ground := Ground.phase }, { on := 20, ground := Ground.phase }, { on := 21, ground := Ground.phase }, { on := 22, ground := Ground.phase }, { on := 23, ground := Ground.phase }, { on := 24, ground := Ground.phase }, { on := 25, ground := Ground.phase }, { on := 26, ground := Ground.phase }, { on := 27, ground := Ground.phase }, { on := 28, ground := Ground.phase }, { on := 29, ground := Ground.phase }], guard := none }) (v := ?vv30_8_30) rfl (by kernel_rfl) (by kernel_rfl) (by kernel_rfl) (fun _ _ _ h => h) (Or.inl ⟨by rfl, ?yy30_8_30⟩) hHeld ?_
      case yy30_8_30 => (intro W hx; go_simp; try with_reducible rfl)
      simp only [Act.put, List.setIfInBounds_toArray, List.set_cons_zero, List.set_cons_succ]
      refine wpAnyH_done (by kernel_rfl) ?_ _
      have zend := zz2
      go_wp2
      go_ret
      exact ⟨by simp, v1.trans zend⟩
    · have rr := hrk
      refine wp_region_held_drew (S := Ext W1) (by kernel_rfl) ((Ext.refl _).drew) (fun hHeld => ?_)
      obtain ⟨wD31, hwD⟩ : ∃ V, V = World.drew W1 := ⟨_, rfl⟩
      rw [← hwD]
      clear hHeld
      have zz0 : Ext W1 wD31 := by rw [hwD]; exact (Ext.refl _).drew
      clear hwD
      refine wpAnyH_imp (S' := Ext wD31) (fun W h => Ext.trans zz0 h) _ _ _ _ ?_
      have hHeld := Ext.refl wD31
      refine wpAnyH_take (i := 0) (oi := { dst := some 57, op := Op.move (Operand.tmp 7), type := 4, pos := "law.go:129", after := #[], guard := none }) (v := ?vv32_8_0) rfl (by kernel_rfl) (by kernel_rfl) (by kernel_rfl) (fun _ _ _ h => h) (Or.inl ⟨by rfl, ?yy32_8_0⟩) hHeld ?_
      case yy32_8_0 => (intro W hx; go_simp; try with_reducible rfl)
      simp only [Act.put, List.setIfInBounds_toArray, List.set_cons_zero, List.set_cons_succ]
      refine wpAnyH_take (i := 1) (oi := { dst := some 58, op := Op.move (Operand.tmp 57), type := 4, pos := "law.go:129", after := #[{ on := 0, ground := Ground.data }], guard := none }) (v := ?vv33_8_1) rfl (by kernel_rfl) (by kernel_rfl) (by kernel_rfl) (fun _ _ _ h => h) (Or.inl ⟨by rfl, ?yy33_8_1⟩) hHeld ?_
      case yy33_8_1 => (intro W hx; go_simp; try with_reducible rfl)
      simp only [Act.put, List.setIfInBounds_toArray, List.set_cons_zero, List.set_cons_succ]
      refine wpAnyH_take (i := 2) (oi := { dst := some 59, op := Op.move (Operand.tmp 10), type := 27, pos := "law.go:129", after := #[{ on := 1, ground := Ground.guard }], guard := some (1, true) }) (v := ?vv34_8_2) rfl (by kernel_rfl) (by kernel_rfl) (by kernel_rfl) (fun _ _ _ h => h) (Or.inl ⟨by rfl, ?yy34_8_2⟩) hHeld ?_
      case yy34_8_2 => (intro W hx; go_simp; try with_reducible rfl)
      simp only [Act.put, List.setIfInBounds_toArray, List.set_cons_zero, List.set_cons_succ]
      refine wpAnyH_take (i := 3) (oi := { dst := some 60, op := Op.binOp BinOp.eql 27 (Operand.tmp 59) (Operand.const (Value.int IntKind.i64 0)) 27, type := 4, pos := "law.go:129", after := #[{ on := 2, ground := Ground.data }, { on := 1, ground := Ground.guard }], guard := some (1, true) }) (v := ?vv35_8_3) rfl (by kernel_rfl) (by kernel_rfl) (by kernel_rfl) (fun _ _ _ h => h) (Or.inl ⟨by rfl, ?yy35_8_3⟩) hHeld ?_
      case yy35_8_3 => (intro W hx; go_simp; try with_reducible rfl)
      simp only [Act.put, List.setIfInBounds_toArray, List.set_cons_zero, List.set_cons_succ]
      refine wpAnyH_take (i := 4) (oi := { dst := some 61, op := Op.pick (Operand.tmp 58) (Operand.tmp 60) (Operand.const (Value.bool false)), type := 4, pos := "law.go:129", after := #[{ on := 1, ground := Ground.data }, { on := 3, ground := Ground.data }], guard := none }) (v := ?vv36_8_4) rfl (by kernel_rfl) (by kernel_rfl) (by kernel_rfl) (fun _ _ _ h => h) (Or.inl ⟨by rfl, ?yy36_8_4⟩) hHeld ?_
      case yy36_8_4 => (intro W hx; go_simp; try with_reducible rfl)
      simp only [Act.put, List.setIfInBounds_toArray, List.set_cons_zero, List.set_cons_succ]
      refine wpAnyH_take (i := 5) (oi := { dst := some 62, op := Op.move (Operand.tmp 61), type := 4, pos := "law.go:129", after := #[{ on := 4, ground := Ground.data }, { on := 1, ground := Ground.chain }], guard := none }) (v := ?vv37_8_5) rfl (by kernel_rfl) (by kernel_rfl) (by kernel_rfl) (fun _ _ _ h => h) (Or.inl ⟨by rfl, ?yy37_8_5⟩) hHeld ?_
      case yy37_8_5 => (intro W hx; go_simp; try with_reducible rfl)
      simp only [Act.put, List.setIfInBounds_toArray, List.set_cons_zero, List.set_cons_succ]
      refine wpAnyH_take (i := 6) (oi := { dst := some 63, op := Op.move (Operand.tmp 13), type := 27, pos := "law.go:129", after := #[{ on := 5, ground := Ground.guard }], guard := some (5, true) }) (v := ?vv38_8_6) rfl (by kernel_rfl) (by kernel_rfl) (by kernel_rfl) (fun _ _ _ h => h) (Or.inl ⟨by rfl, ?yy38_8_6⟩) hHeld ?_
      case yy38_8_6 => (intro W hx; go_simp; try with_reducible rfl)
      simp only [Act.put, List.setIfInBounds_toArray, List.set_cons_zero, List.set_cons_succ]
      refine wpAnyH_take (i := 7) (oi := { dst := some 64, op := Op.binOp BinOp.eql 27 (Operand.tmp 63) (Operand.const (Value.int IntKind.i64 0)) 27, type := 4, pos := "law.go:129", after := #[{ on := 6, ground := Ground.data }, { on := 5, ground := Ground.guard }], guard := some (5, true) }) (v := ?vv39_8_7) rfl (by kernel_rfl) (by kernel_rfl) (by kernel_rfl) (fun _ _ _ h => h) (Or.inl ⟨by rfl, ?yy39_8_7⟩) hHeld ?_
      case yy39_8_7 => (intro W hx; go_simp; try with_reducible rfl)
      simp only [Act.put, List.setIfInBounds_toArray, List.set_cons_zero, List.set_cons_succ]
      refine wpAnyH_take (i := 8) (oi := { dst := some 65, op := Op.pick (Operand.tmp 62) (Operand.tmp 64) (Operand.const (Value.bool false)), type := 4, pos := "law.go:129", after := #[{ on := 5, ground := Ground.data }, { on := 7, ground := Ground.data }], guard := none }) (v := ?vv40_8_8) rfl (by kernel_rfl) (by kernel_rfl) (by kernel_rfl) (fun _ _ _ h => h) (Or.inl ⟨by rfl, ?yy40_8_8⟩) hHeld ?_
      case yy40_8_8 => (intro W hx; go_simp; try with_reducible rfl)
      simp only [Act.put, List.setIfInBounds_toArray, List.set_cons_zero, List.set_cons_succ]
      refine wpAnyH_take (i := 9) (oi := { dst := some 66, op := Op.move (Operand.tmp 65), type := 4, pos := "law.go:129", after := #[{ on := 8, ground := Ground.data }, { on := 5, ground := Ground.chain }], guard := none }) (v := ?vv41_8_9) rfl (by kernel_rfl) (by kernel_rfl) (by kernel_rfl) (fun _ _ _ h => h) (Or.inl ⟨by rfl, ?yy41_8_9⟩) hHeld ?_
      case yy41_8_9 => (intro W hx; go_simp; try with_reducible rfl)
      simp only [Act.put, List.setIfInBounds_toArray, List.set_cons_zero, List.set_cons_succ]
      refine wpAnyH_take (i := 10) (oi := { dst := some 67, op := Op.load 26 (Operand.tmp 12), type := 26, pos := "law.go:129", after := #[{ on := 9, ground := Ground.guard }], guard := some (9, true) }) (v := ?vv42_8_10) rfl (by kernel_rfl) (by kernel_rfl) (by kernel_rfl) (fun _ _ _ h => h) (Or.inl ⟨by rfl, ?yy42_8_10⟩) hHeld ?_
      case yy42_8_10 => (intro W hx; have hz := zz0.trans hx; obtain ⟨f0, f1, f2, f3, f4, f5, f6, f7, f8, f9, fa⟩ := cells11 ((hz.block _ (blk_lt K9)).trans K9); obtain ⟨g0, g1, g2, g3, g4, g5, g6, g7, g8, g9, ga⟩ := cells11 ((hz.block _ (blk_lt K12)).trans K12); go_simp; try with_reducible rfl)
      simp only [Act.put, List.setIfInBounds_toArray, List.set_cons_zero, List.set_cons_succ]
      refine wpAnyH_take (i := 13) (oi := { dst := some 70, op := Op.load 26 (Operand.tmp 9), type := 26, pos := "law.go:129", after := #[{ on := 9, ground := Ground.guard }], guard := some (9, true) }) (v := ?vv43_8_13) rfl (by kernel_rfl) (by kernel_rfl) (by kernel_rfl) (fun _ _ _ h => h) (Or.inl ⟨by rfl, ?yy43_8_13⟩) hHeld ?_
      case yy43_8_13 => (intro W hx; have hz := zz0.trans hx; obtain ⟨f0, f1, f2, f3, f4, f5, f6, f7, f8, f9, fa⟩ := cells11 ((hz.block _ (blk_lt K9)).trans K9); obtain ⟨g0, g1, g2, g3, g4, g5, g6, g7, g8, g9, ga⟩ := cells11 ((hz.block _ (blk_lt K12)).trans K12); go_simp; try with_reducible rfl)
      simp only [Act.put, List.setIfInBounds_toArray, List.set_cons_zero, List.set_cons_succ]
      refine wpAnyH_take (i := 15) (oi := { dst := some 72, op := Op.move (Operand.tmp 11), type := 3, pos := "law.go:129", after := #[{ on := 9, ground := Ground.guard }], guard := some (9, true) }) (v := ?vv44_8_15) rfl (by kernel_rfl) (by kernel_rfl) (by kernel_rfl) (fun _ _ _ h => h) (Or.inl ⟨by rfl, ?yy44_8_15⟩) hHeld ?_
      case yy44_8_15 => (intro W hx; go_simp; try with_reducible rfl)
      simp only [Act.put, List.setIfInBounds_toArray, List.set_cons_zero, List.set_cons_succ]
      refine wpAnyH_ready (rs := [11]) (by kernel_rfl) (by simp) (AllReadyH.cons rfl (fun K hK => ?_) AllReadyH.nil)
      go_simp
      go_wp2_with (go_at_call 16; (with_reducible refine (bytes_any _ _ _ _ _ _ _ _ _ _ _ _ bz Hmz.out).mono ?_); rintro e w5 ⟨A5, c5, rfl, _, _, x5, r5⟩; rw [Htz.out] at r5)
      refine hK.out _ _ x5 (fun hHeld => ?_)
      clear hK K
      refine wpAnyH_imp (S' := Ext w5) (fun W h => Ext.trans x5 h) _ _ _ _ ?_
      replace hHeld := Ext.refl w5
      have zz1 := zz0.trans x5
      refine wpAnyH_take (i := 12) (oi := { dst := some 69, op := Op.convert 23 9 (Operand.tmp 68), type := 9, pos := "law.go:129", after := #[{ on := 11, ground := Ground.data }, { on := 9, ground := Ground.guard }], guard := some (9, true) }) (v := ?vv45_8_12) rfl (by kernel_rfl) (by kernel_rfl) (by kernel_rfl) (fun _ _ _ h => h) (Or.inl ⟨by rfl, ?yy45_8_12⟩) hHeld ?_
      case yy45_8_12 => (intro W hx; have hz := zz1.trans hx; have hs := str (c := c5) (r5.ext hx); go_simp; try with_reducible rfl)
      simp only [Act.put, List.setIfInBounds_toArray, List.set_cons_zero, List.set_cons_succ]
      refine wpAnyH_ready (rs := [14]) (by kernel_rfl) (by simp) (AllReadyH.cons rfl (fun K hK => ?_) AllReadyH.nil)
      go_simp
      go_wp2_with (go_at_call 16; (with_reducible refine (bytes_any _ _ _ _ _ _ _ _ _ _ _ _ bY Hmy.out).mono ?_); rintro e w6 ⟨A6, c6, rfl, l6, m6, x6, r6⟩; rw [Hty.out] at r6; have q6 : (k : Int) ≤ c6 := by omega)
      refine hK.out _ _ x6 (fun hHeld => ?_)
      clear hK K
      refine wpAnyH_imp (S' := Ext w6) (fun W h => Ext.trans x6 h) _ _ _ _ ?_
      replace hHeld := Ext.refl w6
      have zz2 := zz1.trans x6
      refine wpAnyH_take (i := 16) (oi := { dst := some 73, op := Op.slice 23 (Operand.tmp 71) none (some (Operand.tmp 72)) none, type := 23, pos := "law.go:129", after := #[{ on := 14, ground := Ground.data }, { on := 15, ground := Ground.data }, { on := 9, ground := Ground.guard }], guard := some (9, true) }) (v := ?vv46_8_16) rfl (by kernel_rfl) (by kernel_rfl) (by kernel_rfl) (fun _ _ _ h => h) (Or.inl ⟨by rfl, ?yy46_8_16⟩) hHeld ?_
      case yy46_8_16 => (intro W hx; go_simp; try with_reducible rfl)
      simp only [Act.put, List.setIfInBounds_toArray, List.set_cons_zero, List.set_cons_succ]
      refine wpAnyH_take (i := 17) (oi := { dst := some 74, op := Op.convert 23 9 (Operand.tmp 73), type := 9, pos := "law.go:129", after := #[{ on := 16, ground := Ground.data }, { on := 9, ground := Ground.guard }], guard := some (9, true) }) (v := ?vv47_8_17) rfl (by kernel_rfl) (by kernel_rfl) (by kernel_rfl) (fun _ _ _ h => h) (Or.inl ⟨by rfl, ?yy47_8_17⟩) hHeld ?_
      case yy47_8_17 => (intro W hx; have hz := zz2.trans hx; have hs := str (c := c6) ((r6.ext hx).take hkle); go_simp; try with_reducible rfl)
      simp only [Act.put, List.setIfInBounds_toArray, List.set_cons_zero, List.set_cons_succ]
      refine wpAnyH_take (i := 18) (oi := { dst := some 75, op := Op.binOp BinOp.eql 9 (Operand.tmp 69) (Operand.tmp 74) 9, type := 4, pos := "law.go:129", after := #[{ on := 12, ground := Ground.data }, { on := 17, ground := Ground.data }, { on := 9, ground := Ground.guard }], guard := some (9, true) }) (v := ?vv48_8_18) rfl (by kernel_rfl) (by kernel_rfl) (by kernel_rfl) (fun _ _ _ h => h) (Or.inl ⟨by rfl, ?yy48_8_18⟩) hHeld ?_
      case yy48_8_18 => (intro W hx; go_simp; try with_reducible rfl)
      simp only [Act.put, List.setIfInBounds_toArray, List.set_cons_zero, List.set_cons_succ]
      refine wpAnyH_take (i := 19) (oi := { dst := some 76, op := Op.pick (Operand.tmp 66) (Operand.tmp 75) (Operand.const (Value.bool false)), type := 4, pos := "law.go:129", after := #[{ on := 9, ground := Ground.data }, { on := 18, ground := Ground.data }], guard := none }) (v := ?vv49_8_19) rfl (by kernel_rfl) (by kernel_rfl) (by kernel_rfl) (fun _ _ _ h => h) (Or.inl ⟨by rfl, ?yy49_8_19⟩) hHeld ?_
      case yy49_8_19 => (intro W hx; go_simp; try with_reducible rfl)
      simp only [Act.put, List.setIfInBounds_toArray, List.set_cons_zero, List.set_cons_succ]
      refine wpAnyH_take (i := 20) (oi := { dst := some 77, op := Op.move (Operand.tmp 76), type := 4, pos := "law.go:129", after := #[{ on := 19, ground := Ground.data }, { on := 14, ground := Ground.chain }], guard := none }) (v := ?vv50_8_20) rfl (by kernel_rfl) (by kernel_rfl) (by kernel_rfl) (fun _ _ _ h => h) (Or.inl ⟨by rfl, ?yy50_8_20⟩) hHeld ?_
      case yy50_8_20 => (intro W hx; go_simp; try with_reducible rfl)
      simp only [Act.put, List.setIfInBounds_toArray, List.set_cons_zero, List.set_cons_succ]
      refine wpAnyH_take (i := 21) (oi := { dst := some 78, op := Op.load 26 (Operand.tmp 9), type := 26, pos := "law.go:129", after := #[{ on := 20, ground := Ground.guard }], guard := some (20, true) }) (v := ?vv51_8_21) rfl (by kernel_rfl) (by kernel_rfl) (by kernel_rfl) (fun _ _ _ h => h) (Or.inl ⟨by rfl, ?yy51_8_21⟩) hHeld ?_
      case yy51_8_21 => (intro W hx; have hz := zz2.trans hx; obtain ⟨f0, f1, f2, f3, f4, f5, f6, f7, f8, f9, fa⟩ := cells11 ((hz.block _ (blk_lt K9)).trans K9); obtain ⟨g0, g1, g2, g3, g4, g5, g6, g7, g8, g9, ga⟩ := cells11 ((hz.block _ (blk_lt K12)).trans K12); go_simp; try with_reducible rfl)
      simp only [Act.put, List.setIfInBounds_toArray, List.set_cons_zero, List.set_cons_succ]
      refine wpAnyH_take (i := 22) (oi := { dst := some 79, op := Op.load 26 (Operand.tmp 12), type := 26, pos := "law.go:129", after := #[{ on := 20, ground := Ground.guard }], guard := some (20, true) }) (v := ?vv52_8_22) rfl (by kernel_rfl) (by kernel_rfl) (by kernel_rfl) (fun _ _ _ h => h) (Or.inl ⟨by rfl, ?yy52_8_22⟩) hHeld ?_
      case yy52_8_22 => (intro W hx; have hz := zz2.trans hx; obtain ⟨f0, f1, f2, f3, f4, f5, f6, f7, f8, f9, fa⟩ := cells11 ((hz.block _ (blk_lt K9)).trans K9); obtain ⟨g0, g1, g2, g3, g4, g5, g6, g7, g8, g9, ga⟩ := cells11 ((hz.block _ (blk_lt K12)).trans K12); go_simp; try with_reducible rfl)
      simp only [Act.put, List.setIfInBounds_toArray, List.set_cons_zero, List.set_cons_succ]
      refine wpAnyH_take (i := 23) (oi := { dst := some 80, op := Op.binOp BinOp.eql 26 (Operand.tmp 78) (Operand.tmp 79) 26, type := 4, pos := "law.go:129", after := #[{ on := 21, ground := Ground.data }, { on := 22, ground := Ground.data }, { on := 20, ground := Ground.guard }], guard := some (20, true) }) (v := ?vv53_8_23) rfl (by kernel_rfl) (by kernel_rfl) (by kernel_rfl) (fun _ _ _ h => h) (Or.inl ⟨by rfl, ?yy53_8_23⟩) hHeld ?_
      case yy53_8_23 => (intro W hx; go_simp; try with_reducible rfl)
      simp only [Act.put, List.setIfInBounds_toArray, List.set_cons_zero, List.set_cons_succ]
      refine wpAnyH_take (i := 24) (oi := { dst := some 81, op := Op.move (Operand.tmp 11), type := 3, pos := "law.go:129", after := #[{ on := 20, ground := Ground.guard }], guard := some (20, true) }) (v := ?vv54_8_24) rfl (by kernel_rfl) (by kernel_rfl) (by kernel_rfl) (fun _ _ _ h => h) (Or.inl ⟨by rfl, ?yy54_8_24⟩) hHeld ?_
      case yy54_8_24 => (intro W hx; go_simp; try with_reducible rfl)
      simp only [Act.put, List.setIfInBounds_toArray, List.set_cons_zero, List.set_cons_succ]
      refine wpAnyH_take (i := 25) (oi := { dst := some 82, op := Op.move (Operand.tmp 8), type := 23, pos := "law.go:129", after := #[{ on := 20, ground := Ground.guard }], guard := some (20, true) }) (v := ?vv55_8_25) rfl (by kernel_rfl) (by kernel_rfl) (by kernel_rfl) (fun _ _ _ h => h) (Or.inl ⟨by rfl, ?yy55_8_25⟩) hHeld ?_
      case yy55_8_25 => (intro W hx; go_simp; try with_reducible rfl)
      simp only [Act.put, List.setIfInBounds_toArray, List.set_cons_zero, List.set_cons_succ]
      refine wpAnyH_take (i := 26) (oi := { dst := some 83, op := Op.call { callee := Callee.builtin Builtin.len, args := #[Operand.tmp 82], argTypes := #[23] }, type := 3, pos := "law.go:129", after := #[{ on := 25, ground := Ground.data }, { on := 20, ground := Ground.guard }], guard := some (20, true) }) (v := ?vv56_8_26) rfl (by kernel_rfl) (by kernel_rfl) (by kernel_rfl) (fun _ _ _ h => h) (Or.inl ⟨by rfl, ?yy56_8_26⟩) hHeld ?_
      case yy56_8_26 => (intro W hx; go_simp; try with_reducible rfl)
      simp only [Act.put, List.setIfInBounds_toArray, List.set_cons_zero, List.set_cons_succ]
      refine wpAnyH_take (i := 27) (oi := { dst := some 84, op := Op.binOp BinOp.eql 3 (Operand.tmp 81) (Operand.tmp 83) 3, type := 4, pos := "law.go:129", after := #[{ on := 24, ground := Ground.data }, { on := 26, ground := Ground.data }, { on := 20, ground := Ground.guard }], guard := some (20, true) }) (v := ?vv57_8_27) rfl (by kernel_rfl) (by kernel_rfl) (by kernel_rfl) (fun _ _ _ h => h) (Or.inl ⟨by rfl, ?yy57_8_27⟩) hHeld ?_
      case yy57_8_27 => (intro W hx; go_simp; try with_reducible rfl)
      simp only [Act.put, List.setIfInBounds_toArray, List.set_cons_zero, List.set_cons_succ]
      refine wpAnyH_take (i := 28) (oi := { dst := some 85, op := Op.binOp BinOp.eql 4 (Operand.tmp 80) (Operand.tmp 84) 4, type := 4, pos := "law.go:129", after := #[{ on := 23, ground := Ground.data }, { on := 27, ground := Ground.data }, { on := 20, ground := Ground.guard }], guard := some (20, true) }) (v := ?vv58_8_28) rfl (by kernel_rfl) (by kernel_rfl) (by kernel_rfl) (fun _ _ _ h => h) (Or.inl ⟨by rfl, ?yy58_8_28⟩) hHeld ?_
      case yy58_8_28 => (intro W hx; go_simp; try with_reducible rfl)
      simp only [Act.put, List.setIfInBounds_toArray, List.set_cons_zero, List.set_cons_succ]
      refine wpAnyH_take (i := 29) (oi := { dst := some 86, op := Op.pick (Operand.tmp 77) (Operand.tmp 85) (Operand.const (Value.bool false)), type := 4, pos := "law.go:129", after := #[{ on := 20, ground := Ground.data }, { on := 28, ground := Ground.data }], guard := none }) (v := ?vv59_8_29) rfl (by kernel_rfl) (by kernel_rfl) (by kernel_rfl) (fun _ _ _ h => h) (Or.inl ⟨by rfl, ?yy59_8_29⟩) hHeld ?_
      case yy59_8_29 => (intro W hx; go_simp; try with_reducible rfl)
      simp only [Act.put, List.setIfInBounds_toArray, List.set_cons_zero, List.set_cons_succ]
      refine wpAnyH_take (i := 30) (oi := { dst := some 6, op := Op.assign (Operand.tmp 86), type := 4, pos := "law.go:129", after := #[{ on := 29, ground := Ground.data }, { on := 20, ground := Ground.chain }, { on := 0, ground := Ground.phase }, { on := 1, ground := Ground.phase }, { on := 2, ground := Ground.phase }, { on := 3, ground := Ground.phase }, { on := 4, ground := Ground.phase }, { on := 5, ground := Ground.phase }, { on := 6, ground := Ground.phase }, { on := 7, ground := Ground.phase }, { on := 8, ground := Ground.phase }, { on := 9, ground := Ground.phase }, { on := 10, ground := Ground.phase }, { on := 11, ground := Ground.phase }, { on := 12, ground := Ground.phase }, { on := 13, ground := Ground.phase }, { on := 14, ground := Ground.phase }, { on := 15, ground := Ground.phase }, { on := 16, ground := Ground.phase }, { on := 17, ground := Ground.phase }, { on := 18, ground := Ground.phase }, { on := 19, ground := Ground.phase }, { on := 20, ground := Ground.phase }, { on := 21, ground := Ground.phase }, { on := 22, ground := Ground.phase }, { on := 23, ground := Ground.phase }, { on := 24, ground := Ground.phase }, { on := 25, ground := Ground.phase }, { on := 26, ground := Ground.phase }, { on := 27, ground := Ground.phase }, { on := 28, ground := Ground.phase }, { on := 29, ground := Ground.phase }], guard := none }) (v := ?vv60_8_30) rfl (by kernel_rfl) (by kernel_rfl) (by kernel_rfl) (fun _ _ _ h => h) (Or.inl ⟨by rfl, ?yy60_8_30⟩) hHeld ?_
      case yy60_8_30 => (intro W hx; go_simp; try with_reducible rfl)
      simp only [Act.put, List.setIfInBounds_toArray, List.set_cons_zero, List.set_cons_succ]
      refine wpAnyH_done (by kernel_rfl) ?_ _
      have zend := zz2
      go_wp2
      go_ret
      exact ⟨by simp, v1.trans zend⟩
  · replace hm : (8 : Int) < m := by omega
    go_enter Try.func9, Try.ntmps9
    go_wp2_with (first
      | (go_at_call 13; (with_reducible refine (shown_any _).mono ?_); rintro e w3 ⟨rfl, x3⟩)
      | (go_at_call 11; (with_reducible refine (few_any _ _ _ _ hnc hc).mono ?_); rintro e w' ⟨rfl, rfl⟩; rw [HM.out])
      | (go_at_call 10; (with_reducible refine (make_no3 _ _ _ _ _ _ hid hm).mono ?_); rintro e w1 ⟨rfl, x1⟩))
    go_ret
    exact ⟨by simp, x3.trans (x1.alloc _)⟩
end Go.Proofs.Ytafdbhajngoafaa
