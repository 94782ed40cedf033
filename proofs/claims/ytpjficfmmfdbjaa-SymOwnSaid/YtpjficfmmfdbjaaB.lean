import Derived.Test.YtpjficfmmfdbjaaA
import Derived.Test.YtpjficfmmfdbjaaM
import Derived.Deep.DeepCutAuto
set_option linter.unusedVariables false
set_option linter.unusedSimpArgs false
namespace Go.Proofs.Ytpjficfmmfdbjaa
open Go.RowKit
theorem may_parts {s : ByteArray} {wd mu : Int} (h : mayS s wd mu = true) : (wd = 1 ∨ wd = 2 ∨ wd = 4) ∧ -16777216 ≤ mu ∧ mu ≤ 16777216 ∧ mu ≠ 0 := by
  simp [mayS] at h
  obtain ⟨⟨⟨⟨_, h1⟩, h2⟩, h3⟩, h4⟩ := h
  exact ⟨by omega, h2, h3, h4⟩
theorem x_bd (v ad mu : Int) (a0 : -2147483648 ≤ ad) (a1 : ad < 2147483648) (v0 : -4611686018427387904 ≤ v) (v1 : v ≤ 4611686018427387904) : -9223372036854775808 ≤ (v - ad).tdiv mu ∧ (v - ad).tdiv mu < 9223372036854775808 := by
  have h := Int.natAbs_tdiv_le_natAbs (v - ad) mu
  omega
theorem t_bd (v ad mu : Int) (a0 : -2147483648 ≤ ad) (a1 : ad < 2147483648) (v0 : -4611686018427387904 ≤ v) (v1 : v ≤ 4611686018427387904) : -9223372036854775808 ≤ (v - ad).tmod mu ∧ (v - ad).tmod mu < 9223372036854775808 := by
  have h : ((v - ad).tmod mu).natAbs = (v - ad).natAbs % mu.natAbs := Int.natAbs_tmod _ _
  have h2 := Nat.mod_le (v - ad).natAbs mu.natAbs
  omega
theorem uwrap_bd (x : Int) : 0 ≤ IntKind.u64.wrap x ∧ IntKind.u64.wrap x < 2 ^ 64 := by
  rw [IntKind.wrap_u64]
  omega
theorem isW_k {s : ByteArray} {k : Nat} {mu : Int} (h : mayS s k mu = true) : isW k = true := by
  obtain ⟨h, _⟩ := may_parts h
  rw [isW_iff]; omega
set_option maxHeartbeats 1000000 in
theorem put_t (s : ByteArray) (ar aa : Int) (k : Nat) (bg sg : Bool) (mu ad v : Int) (w : World) (hs : s.size ≤ maxLen) (hm : mayS s k mu = true) (a0 : -2147483648 ≤ ad) (a1 : ad < 2147483648) (v0 : -4611686018427387904 ≤ v) (v1 : v ≤ 4611686018427387904) (ht : (v - ad).tmod mu ≠ 0) :
    Calls Try.prog 10 #[.agg #[.string s, .int .u8 ar, .int .u32 aa, .int .i64 k, .bool bg, .bool sg, .int .i32 mu, .int .i32 ad], .int .i64 v] w fun e w' => e = .returned (.tuple #[.slice none 0 0, .int .i64 1]) ∧ Ext w w' := by
  obtain ⟨hw, m0, m1, mz⟩ := may_parts hm
  have HM := Lib.hid hm
  have HW := Lib.hid (isW_k hm)
  clear hm hw
  have mzb : (mu == 0) = false := by simpa using mz
  obtain ⟨x0, x1⟩ := x_bd v ad mu a0 a1 v0 v1
  obtain ⟨t0, t1⟩ := t_bd v ad mu a0 a1 v0 v1
  have hwx := IntWalk.wrap64_in ((v - ad).tdiv mu) ⟨x0, by omega⟩
  have hwt := IntWalk.wrap64_in ((v - ad).tmod mu) ⟨t0, by omega⟩
  have HWX := Lib.hid hwx
  have HWT := Lib.hid hwt
  clear hwx hwt
  go_enter Try.func10, Try.ntmps10
  go_upto_region 3 with (go_at_call 15; (with_reducible refine (may_any _ _ _ _ _ _ _ _ _ hs).mono ?_); rintro e w1 ⟨rfl, x1⟩; rw [HM.out])
  have K1 := blk_of x1
  have z1 := ((Ext.refl w).alloc (.cells #[.string s, .int .u8 ar, .int .u32 aa, .int .i64 k, .bool bg, .bool sg, .int .i32 mu, .int .i32 ad] 24)).trans x1
  clear x1
  refine wp_region_held_drew (S := Ext w1) (by kernel_rfl) ((Ext.refl _).drew) (fun hHeld => ?_)
  obtain ⟨wD, hwD⟩ : ∃ V, V = World.drew w1 := ⟨_, rfl⟩
  rw [← hwD]
  clear hHeld
  have zz0 : Ext w1 wD := by rw [hwD]; exact (Ext.refl _).drew
  clear hwD
  refine wpAnyH_imp (S' := Ext wD) (fun W h => Ext.trans zz0 h) _ _ _ _ ?_
  have hHeld := Ext.refl wD
  refine wpAnyH_take (i := 0) (oi := { dst := some 20, op := Op.fieldAddr 24 (Operand.tmp 2) 6, type := 0, pos := "sym.go:66", after := #[], guard := none }) (v := ?vv2_3_0) rfl (by kernel_rfl) (by kernel_rfl) (by kernel_rfl) (fun _ _ _ h => h) (Or.inl ⟨by rfl, ?yy2_3_0⟩) hHeld ?_
  case yy2_3_0 => (intro W hx; go_simp; try with_reducible rfl)
  simp only [Act.put, List.setIfInBounds_toArray, List.set_cons_zero, List.set_cons_succ]
  refine wpAnyH_take (i := 1) (oi := { dst := some 21, op := Op.load 21 (Operand.tmp 20), type := 21, pos := "sym.go:66", after := #[{ on := 0, ground := Ground.data }], guard := none }) (v := ?vv3_3_1) rfl (by kernel_rfl) (by kernel_rfl) (by kernel_rfl) (fun _ _ _ h => h) (Or.inl ⟨by rfl, ?yy3_3_1⟩) hHeld ?_
  case yy3_3_1 => (intro W hx; have hz := zz0.trans hx; have f6 := blk_cell (i := 6) ((hz.block _ (blk_lt K1)).trans K1) rfl; have f7 := blk_cell (i := 7) ((hz.block _ (blk_lt K1)).trans K1) rfl; go_simp; try with_reducible rfl)
  simp only [Act.put, List.setIfInBounds_toArray, List.set_cons_zero, List.set_cons_succ]
  refine wpAnyH_take (i := 2) (oi := { dst := some 22, op := Op.convert 21 2 (Operand.tmp 21), type := 2, pos := "sym.go:66", after := #[{ on := 1, ground := Ground.data }], guard := none }) (v := ?vv4_3_2) rfl (by kernel_rfl) (by kernel_rfl) (by kernel_rfl) (fun _ _ _ h => h) (Or.inl ⟨by rfl, ?yy4_3_2⟩) hHeld ?_
  case yy4_3_2 => (intro W hx; have hz := zz0.trans hx; have f6 := blk_cell (i := 6) ((hz.block _ (blk_lt K1)).trans K1) rfl; have f7 := blk_cell (i := 7) ((hz.block _ (blk_lt K1)).trans K1) rfl; go_simp; try with_reducible rfl)
  simp only [Act.put, List.setIfInBounds_toArray, List.set_cons_zero, List.set_cons_succ]
  refine wpAnyH_take (i := 3) (oi := { dst := some 23, op := Op.move (Operand.tmp 1), type := 2, pos := "sym.go:66", after := #[{ on := 8, ground := Ground.gcOnly Departure.lateStores }], guard := none }) (v := ?vv5_3_3) rfl (by kernel_rfl) (by kernel_rfl) (by kernel_rfl) (fun _ _ _ h => h) (Or.inl ⟨by rfl, ?yy5_3_3⟩) hHeld ?_
  case yy5_3_3 => (intro W hx; go_simp; try with_reducible rfl)
  simp only [Act.put, List.setIfInBounds_toArray, List.set_cons_zero, List.set_cons_succ]
  refine wpAnyH_take (i := 4) (oi := { dst := some 24, op := Op.fieldAddr 24 (Operand.tmp 2) 7, type := 0, pos := "sym.go:66", after := #[{ on := 8, ground := Ground.gcOnly Departure.lateStores }], guard := none }) (v := ?vv6_3_4) rfl (by kernel_rfl) (by kernel_rfl) (by kernel_rfl) (fun _ _ _ h => h) (Or.inl ⟨by rfl, ?yy6_3_4⟩) hHeld ?_
  case yy6_3_4 => (intro W hx; go_simp; try with_reducible rfl)
  simp only [Act.put, List.setIfInBounds_toArray, List.set_cons_zero, List.set_cons_succ]
  refine wpAnyH_take (i := 5) (oi := { dst := some 25, op := Op.load 21 (Operand.tmp 24), type := 21, pos := "sym.go:66", after := #[{ on := 4, ground := Ground.data }, { on := 8, ground := Ground.gcOnly Departure.lateStores }], guard := none }) (v := ?vv7_3_5) rfl (by kernel_rfl) (by kernel_rfl) (by kernel_rfl) (fun _ _ _ h => h) (Or.inl ⟨by rfl, ?yy7_3_5⟩) hHeld ?_
  case yy7_3_5 => (intro W hx; have hz := zz0.trans hx; have f6 := blk_cell (i := 6) ((hz.block _ (blk_lt K1)).trans K1) rfl; have f7 := blk_cell (i := 7) ((hz.block _ (blk_lt K1)).trans K1) rfl; go_simp; try with_reducible rfl)
  simp only [Act.put, List.setIfInBounds_toArray, List.set_cons_zero, List.set_cons_succ]
  refine wpAnyH_take (i := 6) (oi := { dst := some 26, op := Op.convert 21 2 (Operand.tmp 25), type := 2, pos := "sym.go:66", after := #[{ on := 5, ground := Ground.data }, { on := 8, ground := Ground.gcOnly Departure.lateStores }], guard := none }) (v := ?vv8_3_6) rfl (by kernel_rfl) (by kernel_rfl) (by kernel_rfl) (fun _ _ _ h => h) (Or.inl ⟨by rfl, ?yy8_3_6⟩) hHeld ?_
  case yy8_3_6 => (intro W hx; have hz := zz0.trans hx; have f6 := blk_cell (i := 6) ((hz.block _ (blk_lt K1)).trans K1) rfl; have f7 := blk_cell (i := 7) ((hz.block _ (blk_lt K1)).trans K1) rfl; go_simp; try with_reducible rfl)
  simp only [Act.put, List.setIfInBounds_toArray, List.set_cons_zero, List.set_cons_succ]
  refine wpAnyH_take (i := 7) (oi := { dst := some 27, op := Op.binOp BinOp.sub 2 (Operand.tmp 23) (Operand.tmp 26) 2, type := 2, pos := "sym.go:66", after := #[{ on := 3, ground := Ground.data }, { on := 6, ground := Ground.data }, { on := 8, ground := Ground.gcOnly Departure.lateStores }], guard := none }) (v := ?vv9_3_7) rfl (by kernel_rfl) (by kernel_rfl) (by kernel_rfl) (fun _ _ _ h => h) (Or.inl ⟨by rfl, ?yy9_3_7⟩) hHeld ?_
  case yy9_3_7 => (intro W hx; go_simp; try with_reducible rfl)
  simp only [Act.put, List.setIfInBounds_toArray, List.set_cons_zero, List.set_cons_succ]
  refine wpAnyH_take (i := 8) (oi := { dst := some 6, op := Op.assign (Operand.tmp 22), type := 2, pos := "sym.go:66", after := #[{ on := 2, ground := Ground.data }, { on := 0, ground := Ground.phase }, { on := 1, ground := Ground.phase }, { on := 2, ground := Ground.phase }, { on := 3, ground := Ground.textOnly Departure.lateStores }, { on := 4, ground := Ground.textOnly Departure.lateStores }, { on := 5, ground := Ground.textOnly Departure.lateStores }, { on := 6, ground := Ground.textOnly Departure.lateStores }, { on := 7, ground := Ground.textOnly Departure.lateStores }], guard := none }) (v := ?vv10_3_8) rfl (by kernel_rfl) (by kernel_rfl) (by kernel_rfl) (fun _ _ _ h => h) (Or.inl ⟨by rfl, ?yy10_3_8⟩) hHeld ?_
  case yy10_3_8 => (intro W hx; go_simp; try with_reducible rfl)
  simp only [Act.put, List.setIfInBounds_toArray, List.set_cons_zero, List.set_cons_succ]
  refine wpAnyH_take (i := 9) (oi := { dst := some 7, op := Op.assign (Operand.tmp 27), type := 2, pos := "sym.go:66", after := #[{ on := 7, ground := Ground.data }, { on := 8, ground := Ground.chain }, { on := 0, ground := Ground.phase }, { on := 1, ground := Ground.phase }, { on := 2, ground := Ground.phase }, { on := 3, ground := Ground.phase }, { on := 4, ground := Ground.phase }, { on := 5, ground := Ground.phase }, { on := 6, ground := Ground.phase }, { on := 7, ground := Ground.phase }, { on := 8, ground := Ground.phase }], guard := none }) (v := ?vv11_3_9) rfl (by kernel_rfl) (by kernel_rfl) (by kernel_rfl) (fun _ _ _ h => h) (Or.inl ⟨by rfl, ?yy11_3_9⟩) hHeld ?_
  case yy11_3_9 => (intro W hx; go_simp; try with_reducible rfl)
  simp only [Act.put, List.setIfInBounds_toArray, List.set_cons_zero, List.set_cons_succ]
  refine wpAnyH_done (by kernel_rfl) ?_ _
  have zend := zz0.trans hHeld
  go_upto_region 5 with (fail)
  try rw [HWX.out]
  have htb : ((v - ad).tmod mu != 0) = true := by simpa using ht
  have htw : (wrap64 ((v - ad).tmod mu) != 0) = true := by rw [HWT.out]; exact htb
  clear ht
  generalize (v - ad).tdiv mu = x at *
  go_wp2
  go_ret2
  exact ⟨rfl, z1.trans zend⟩
set_option maxHeartbeats 1000000 in
theorem put_f (s : ByteArray) (ar aa : Int) (k : Nat) (bg sg : Bool) (mu ad v : Int) (w : World) (hs : s.size ≤ maxLen) (hm : mayS s k mu = true) (a0 : -2147483648 ≤ ad) (a1 : ad < 2147483648) (v0 : -4611686018427387904 ≤ v) (v1 : v ≤ 4611686018427387904) (ht : (v - ad).tmod mu = 0) (hf : fitsB ((v - ad).tdiv mu) k sg = false) :
    Calls Try.prog 10 #[.agg #[.string s, .int .u8 ar, .int .u32 aa, .int .i64 k, .bool bg, .bool sg, .int .i32 mu, .int .i32 ad], .int .i64 v] w fun e w' => e = .returned (.tuple #[.slice none 0 0, .int .i64 1]) ∧ Ext w w' := by
  obtain ⟨hw, m0, m1, mz⟩ := may_parts hm
  have HM := Lib.hid hm
  have HW := Lib.hid (isW_k hm)
  clear hm hw
  have mzb : (mu == 0) = false := by simpa using mz
  obtain ⟨x0, x1⟩ := x_bd v ad mu a0 a1 v0 v1
  obtain ⟨t0, t1⟩ := t_bd v ad mu a0 a1 v0 v1
  have hwx := IntWalk.wrap64_in ((v - ad).tdiv mu) ⟨x0, by omega⟩
  have hwt := IntWalk.wrap64_in ((v - ad).tmod mu) ⟨t0, by omega⟩
  have HWX := Lib.hid hwx
  have HWT := Lib.hid hwt
  clear hwx hwt
  go_enter Try.func10, Try.ntmps10
  go_upto_region 3 with (go_at_call 15; (with_reducible refine (may_any _ _ _ _ _ _ _ _ _ hs).mono ?_); rintro e w1 ⟨rfl, x1⟩; rw [HM.out])
  have K1 := blk_of x1
  have z1 := ((Ext.refl w).alloc (.cells #[.string s, .int .u8 ar, .int .u32 aa, .int .i64 k, .bool bg, .bool sg, .int .i32 mu, .int .i32 ad] 24)).trans x1
  clear x1
  have HF := Lib.hid hf
  have HT := Lib.hid ht
  clear hf ht
  refine wp_region_held_drew (S := Ext w1) (by kernel_rfl) ((Ext.refl _).drew) (fun hHeld => ?_)
  obtain ⟨wD, hwD⟩ : ∃ V, V = World.drew w1 := ⟨_, rfl⟩
  rw [← hwD]
  clear hHeld
  have zz0 : Ext w1 wD := by rw [hwD]; exact (Ext.refl _).drew
  clear hwD
  refine wpAnyH_imp (S' := Ext wD) (fun W h => Ext.trans zz0 h) _ _ _ _ ?_
  have hHeld := Ext.refl wD
  refine wpAnyH_take (i := 0) (oi := { dst := some 20, op := Op.fieldAddr 24 (Operand.tmp 2) 6, type := 0, pos := "sym.go:66", after := #[], guard := none }) (v := ?vv13_3_0) rfl (by kernel_rfl) (by kernel_rfl) (by kernel_rfl) (fun _ _ _ h => h) (Or.inl ⟨by rfl, ?yy13_3_0⟩) hHeld ?_
  case yy13_3_0 => (intro W hx; go_simp; try with_reducible rfl)
  simp only [Act.put, List.setIfInBounds_toArray, List.set_cons_zero, List.set_cons_succ]
  refine wpAnyH_take (i := 1) (oi := { dst := some 21, op := Op.load 21 (Operand.tmp 20), type := 21, pos := "sym.go:66", after := #[{ on := 0, ground := Ground.data }], guard := none }) (v := ?vv14_3_1) rfl (by kernel_rfl) (by kernel_rfl) (by kernel_rfl) (fun _ _ _ h => h) (Or.inl ⟨by rfl, ?yy14_3_1⟩) hHeld ?_
  case yy14_3_1 => (intro W hx; have hz := zz0.trans hx; have f6 := blk_cell (i := 6) ((hz.block _ (blk_lt K1)).trans K1) rfl; have f7 := blk_cell (i := 7) ((hz.block _ (blk_lt K1)).trans K1) rfl; go_simp; try with_reducible rfl)
  simp only [Act.put, List.setIfInBounds_toArray, List.set_cons_zero, List.set_cons_succ]
  refine wpAnyH_take (i := 2) (oi := { dst := some 22, op := Op.convert 21 2 (Operand.tmp 21), type := 2, pos := "sym.go:66", after := #[{ on := 1, ground := Ground.data }], guard := none }) (v := ?vv15_3_2) rfl (by kernel_rfl) (by kernel_rfl) (by kernel_rfl) (fun _ _ _ h => h) (Or.inl ⟨by rfl, ?yy15_3_2⟩) hHeld ?_
  case yy15_3_2 => (intro W hx; have hz := zz0.trans hx; have f6 := blk_cell (i := 6) ((hz.block _ (blk_lt K1)).trans K1) rfl; have f7 := blk_cell (i := 7) ((hz.block _ (blk_lt K1)).trans K1) rfl; go_simp; try with_reducible rfl)
  simp only [Act.put, List.setIfInBounds_toArray, List.set_cons_zero, List.set_cons_succ]
  refine wpAnyH_take (i := 3) (oi := { dst := some 23, op := Op.move (Operand.tmp 1), type := 2, pos := "sym.go:66", after := #[{ on := 8, ground := Ground.gcOnly Departure.lateStores }], guard := none }) (v := ?vv16_3_3) rfl (by kernel_rfl) (by kernel_rfl) (by kernel_rfl) (fun _ _ _ h => h) (Or.inl ⟨by rfl, ?yy16_3_3⟩) hHeld ?_
  case yy16_3_3 => (intro W hx; go_simp; try with_reducible rfl)
  simp only [Act.put, List.setIfInBounds_toArray, List.set_cons_zero, List.set_cons_succ]
  refine wpAnyH_take (i := 4) (oi := { dst := some 24, op := Op.fieldAddr 24 (Operand.tmp 2) 7, type := 0, pos := "sym.go:66", after := #[{ on := 8, ground := Ground.gcOnly Departure.lateStores }], guard := none }) (v := ?vv17_3_4) rfl (by kernel_rfl) (by kernel_rfl) (by kernel_rfl) (fun _ _ _ h => h) (Or.inl ⟨by rfl, ?yy17_3_4⟩) hHeld ?_
  case yy17_3_4 => (intro W hx; go_simp; try with_reducible rfl)
  simp only [Act.put, List.setIfInBounds_toArray, List.set_cons_zero, List.set_cons_succ]
  refine wpAnyH_take (i := 5) (oi := { dst := some 25, op := Op.load 21 (Operand.tmp 24), type := 21, pos := "sym.go:66", after := #[{ on := 4, ground := Ground.data }, { on := 8, ground := Ground.gcOnly Departure.lateStores }], guard := none }) (v := ?vv18_3_5) rfl (by kernel_rfl) (by kernel_rfl) (by kernel_rfl) (fun _ _ _ h => h) (Or.inl ⟨by rfl, ?yy18_3_5⟩) hHeld ?_
  case yy18_3_5 => (intro W hx; have hz := zz0.trans hx; have f6 := blk_cell (i := 6) ((hz.block _ (blk_lt K1)).trans K1) rfl; have f7 := blk_cell (i := 7) ((hz.block _ (blk_lt K1)).trans K1) rfl; go_simp; try with_reducible rfl)
  simp only [Act.put, List.setIfInBounds_toArray, List.set_cons_zero, List.set_cons_succ]
  refine wpAnyH_take (i := 6) (oi := { dst := some 26, op := Op.convert 21 2 (Operand.tmp 25), type := 2, pos := "sym.go:66", after := #[{ on := 5, ground := Ground.data }, { on := 8, ground := Ground.gcOnly Departure.lateStores }], guard := none }) (v := ?vv19_3_6) rfl (by kernel_rfl) (by kernel_rfl) (by kernel_rfl) (fun _ _ _ h => h) (Or.inl ⟨by rfl, ?yy19_3_6⟩) hHeld ?_
  case yy19_3_6 => (intro W hx; have hz := zz0.trans hx; have f6 := blk_cell (i := 6) ((hz.block _ (blk_lt K1)).trans K1) rfl; have f7 := blk_cell (i := 7) ((hz.block _ (blk_lt K1)).trans K1) rfl; go_simp; try with_reducible rfl)
  simp only [Act.put, List.setIfInBounds_toArray, List.set_cons_zero, List.set_cons_succ]
  refine wpAnyH_take (i := 7) (oi := { dst := some 27, op := Op.binOp BinOp.sub 2 (Operand.tmp 23) (Operand.tmp 26) 2, type := 2, pos := "sym.go:66", after := #[{ on := 3, ground := Ground.data }, { on := 6, ground := Ground.data }, { on := 8, ground := Ground.gcOnly Departure.lateStores }], guard := none }) (v := ?vv20_3_7) rfl (by kernel_rfl) (by kernel_rfl) (by kernel_rfl) (fun _ _ _ h => h) (Or.inl ⟨by rfl, ?yy20_3_7⟩) hHeld ?_
  case yy20_3_7 => (intro W hx; go_simp; try with_reducible rfl)
  simp only [Act.put, List.setIfInBounds_toArray, List.set_cons_zero, List.set_cons_succ]
  refine wpAnyH_take (i := 8) (oi := { dst := some 6, op := Op.assign (Operand.tmp 22), type := 2, pos := "sym.go:66", after := #[{ on := 2, ground := Ground.data }, { on := 0, ground := Ground.phase }, { on := 1, ground := Ground.phase }, { on := 2, ground := Ground.phase }, { on := 3, ground := Ground.textOnly Departure.lateStores }, { on := 4, ground := Ground.textOnly Departure.lateStores }, { on := 5, ground := Ground.textOnly Departure.lateStores }, { on := 6, ground := Ground.textOnly Departure.lateStores }, { on := 7, ground := Ground.textOnly Departure.lateStores }], guard := none }) (v := ?vv21_3_8) rfl (by kernel_rfl) (by kernel_rfl) (by kernel_rfl) (fun _ _ _ h => h) (Or.inl ⟨by rfl, ?yy21_3_8⟩) hHeld ?_
  case yy21_3_8 => (intro W hx; go_simp; try with_reducible rfl)
  simp only [Act.put, List.setIfInBounds_toArray, List.set_cons_zero, List.set_cons_succ]
  refine wpAnyH_take (i := 9) (oi := { dst := some 7, op := Op.assign (Operand.tmp 27), type := 2, pos := "sym.go:66", after := #[{ on := 7, ground := Ground.data }, { on := 8, ground := Ground.chain }, { on := 0, ground := Ground.phase }, { on := 1, ground := Ground.phase }, { on := 2, ground := Ground.phase }, { on := 3, ground := Ground.phase }, { on := 4, ground := Ground.phase }, { on := 5, ground := Ground.phase }, { on := 6, ground := Ground.phase }, { on := 7, ground := Ground.phase }, { on := 8, ground := Ground.phase }], guard := none }) (v := ?vv22_3_9) rfl (by kernel_rfl) (by kernel_rfl) (by kernel_rfl) (fun _ _ _ h => h) (Or.inl ⟨by rfl, ?yy22_3_9⟩) hHeld ?_
  case yy22_3_9 => (intro W hx; go_simp; try with_reducible rfl)
  simp only [Act.put, List.setIfInBounds_toArray, List.set_cons_zero, List.set_cons_succ]
  refine wpAnyH_done (by kernel_rfl) ?_ _
  have zend := zz0.trans hHeld
  have KD := (zend.block _ (blk_lt K1)).trans K1
  have f3 := blk_cell (i := 3) KD rfl
  have f5 := blk_cell (i := 5) KD rfl
  go_upto_region 5 with (fail)
  try rw [HWX.out]
  have htw : (wrap64 ((v - ad).tmod mu) != 0) = false := by rw [HWT.out, HT.out]; rfl
  have htb : ((v - ad).tmod mu != 0) = false := by rw [HT.out]; rfl
  generalize (v - ad).tdiv mu = x at *
  go_wp2_with (go_at_call 22; (with_reducible refine (fits_any _ _ _ _ HW.out x0 x1).mono ?_); rintro e w2 ⟨rfl, rfl⟩; rw [HF.out])
  go_ret2
  exact ⟨rfl, z1.trans zend⟩
set_option maxHeartbeats 1000000 in
theorem put_ok (s : ByteArray) (ar aa : Int) (k : Nat) (bg sg : Bool) (mu ad v : Int) (w : World) (hs : s.size ≤ maxLen) (hm : mayS s k mu = true) (a0 : -2147483648 ≤ ad) (a1 : ad < 2147483648) (v0 : -4611686018427387904 ≤ v) (v1 : v ≤ 4611686018427387904) (ht : (v - ad).tmod mu = 0) (hf : fitsB ((v - ad).tdiv mu) k sg = true) :
    Calls Try.prog 10 #[.agg #[.string s, .int .u8 ar, .int .u32 aa, .int .i64 k, .bool bg, .bool sg, .int .i32 mu, .int .i32 ad], .int .i64 v] w fun e w' => ∃ A c, e = .returned (.tuple #[.slice A k c, .int .i64 0]) ∧ k ≤ c ∧ c ≤ maxLen ∧ Ext w w' ∧ Rd w' A k (putB (IntKind.u64.wrap ((v - ad).tdiv mu)) k bg) := by
  obtain ⟨hw, m0, m1, mz⟩ := may_parts hm
  have HM := Lib.hid hm
  have HW := Lib.hid (isW_k hm)
  clear hm hw
  have mzb : (mu == 0) = false := by simpa using mz
  obtain ⟨x0, x1⟩ := x_bd v ad mu a0 a1 v0 v1
  obtain ⟨t0, t1⟩ := t_bd v ad mu a0 a1 v0 v1
  have hwx := IntWalk.wrap64_in ((v - ad).tdiv mu) ⟨x0, by omega⟩
  have hwt := IntWalk.wrap64_in ((v - ad).tmod mu) ⟨t0, by omega⟩
  have HWX := Lib.hid hwx
  have HWT := Lib.hid hwt
  clear hwx hwt
  go_enter Try.func10, Try.ntmps10
  go_upto_region 3 with (go_at_call 15; (with_reducible refine (may_any _ _ _ _ _ _ _ _ _ hs).mono ?_); rintro e w1 ⟨rfl, x1⟩; rw [HM.out])
  have K1 := blk_of x1
  have z1 := ((Ext.refl w).alloc (.cells #[.string s, .int .u8 ar, .int .u32 aa, .int .i64 k, .bool bg, .bool sg, .int .i32 mu, .int .i32 ad] 24)).trans x1
  clear x1
  have HF := Lib.hid hf
  have HT := Lib.hid ht
  clear hf ht
  refine wp_region_held_drew (S := Ext w1) (by kernel_rfl) ((Ext.refl _).drew) (fun hHeld => ?_)
  obtain ⟨wD, hwD⟩ : ∃ V, V = World.drew w1 := ⟨_, rfl⟩
  rw [← hwD]
  clear hHeld
  have zz0 : Ext w1 wD := by rw [hwD]; exact (Ext.refl _).drew
  clear hwD
  refine wpAnyH_imp (S' := Ext wD) (fun W h => Ext.trans zz0 h) _ _ _ _ ?_
  have hHeld := Ext.refl wD
  refine wpAnyH_take (i := 0) (oi := { dst := some 20, op := Op.fieldAddr 24 (Operand.tmp 2) 6, type := 0, pos := "sym.go:66", after := #[], guard := none }) (v := ?vv24_3_0) rfl (by kernel_rfl) (by kernel_rfl) (by kernel_rfl) (fun _ _ _ h => h) (Or.inl ⟨by rfl, ?yy24_3_0⟩) hHeld ?_
  case yy24_3_0 => (intro W hx; go_simp; try with_reducible rfl)
  simp only [Act.put, List.setIfInBounds_toArray, List.set_cons_zero, List.set_cons_succ]
  refine wpAnyH_take (i := 1) (oi := { dst := some 21, op := Op.load 21 (Operand.tmp 20), type := 21, pos := "sym.go:66", after := #[{ on := 0, ground := Ground.data }], guard := none }) (v := ?vv25_3_1) rfl (by kernel_rfl) (by kernel_rfl) (by kernel_rfl) (fun _ _ _ h => h) (Or.inl ⟨by rfl, ?yy25_3_1⟩) hHeld ?_
  case yy25_3_1 => (intro W hx; have hz := zz0.trans hx; have f6 := blk_cell (i := 6) ((hz.block _ (blk_lt K1)).trans K1) rfl; have f7 := blk_cell (i := 7) ((hz.block _ (blk_lt K1)).trans K1) rfl; go_simp; try with_reducible rfl)
  simp only [Act.put, List.setIfInBounds_toArray, List.set_cons_zero, List.set_cons_succ]
  refine wpAnyH_take (i := 2) (oi := { dst := some 22, op := Op.convert 21 2 (Operand.tmp 21), type := 2, pos := "sym.go:66", after := #[{ on := 1, ground := Ground.data }], guard := none }) (v := ?vv26_3_2) rfl (by kernel_rfl) (by kernel_rfl) (by kernel_rfl) (fun _ _ _ h => h) (Or.inl ⟨by rfl, ?yy26_3_2⟩) hHeld ?_
  case yy26_3_2 => (intro W hx; have hz := zz0.trans hx; have f6 := blk_cell (i := 6) ((hz.block _ (blk_lt K1)).trans K1) rfl; have f7 := blk_cell (i := 7) ((hz.block _ (blk_lt K1)).trans K1) rfl; go_simp; try with_reducible rfl)
  simp only [Act.put, List.setIfInBounds_toArray, List.set_cons_zero, List.set_cons_succ]
  refine wpAnyH_take (i := 3) (oi := { dst := some 23, op := Op.move (Operand.tmp 1), type := 2, pos := "sym.go:66", after := #[{ on := 8, ground := Ground.gcOnly Departure.lateStores }], guard := none }) (v := ?vv27_3_3) rfl (by kernel_rfl) (by kernel_rfl) (by kernel_rfl) (fun _ _ _ h => h) (Or.inl ⟨by rfl, ?yy27_3_3⟩) hHeld ?_
  case yy27_3_3 => (intro W hx; go_simp; try with_reducible rfl)
  simp only [Act.put, List.setIfInBounds_toArray, List.set_cons_zero, List.set_cons_succ]
  refine wpAnyH_take (i := 4) (oi := { dst := some 24, op := Op.fieldAddr 24 (Operand.tmp 2) 7, type := 0, pos := "sym.go:66", after := #[{ on := 8, ground := Ground.gcOnly Departure.lateStores }], guard := none }) (v := ?vv28_3_4) rfl (by kernel_rfl) (by kernel_rfl) (by kernel_rfl) (fun _ _ _ h => h) (Or.inl ⟨by rfl, ?yy28_3_4⟩) hHeld ?_
  case yy28_3_4 => (intro W hx; go_simp; try with_reducible rfl)
  simp only [Act.put, List.setIfInBounds_toArray, List.set_cons_zero, List.set_cons_succ]
  refine wpAnyH_take (i := 5) (oi := { dst := some 25, op := Op.load 21 (Operand.tmp 24), type := 21, pos := "sym.go:66", after := #[{ on := 4, ground := Ground.data }, { on := 8, ground := Ground.gcOnly Departure.lateStores }], guard := none }) (v := ?vv29_3_5) rfl (by kernel_rfl) (by kernel_rfl) (by kernel_rfl) (fun _ _ _ h => h) (Or.inl ⟨by rfl, ?yy29_3_5⟩) hHeld ?_
  case yy29_3_5 => (intro W hx; have hz := zz0.trans hx; have f6 := blk_cell (i := 6) ((hz.block _ (blk_lt K1)).trans K1) rfl; have f7 := blk_cell (i := 7) ((hz.block _ (blk_lt K1)).trans K1) rfl; go_simp; try with_reducible rfl)
  simp only [Act.put, List.setIfInBounds_toArray, List.set_cons_zero, List.set_cons_succ]
  refine wpAnyH_take (i := 6) (oi := { dst := some 26, op := Op.convert 21 2 (Operand.tmp 25), type := 2, pos := "sym.go:66", after := #[{ on := 5, ground := Ground.data }, { on := 8, ground := Ground.gcOnly Departure.lateStores }], guard := none }) (v := ?vv30_3_6) rfl (by kernel_rfl) (by kernel_rfl) (by kernel_rfl) (fun _ _ _ h => h) (Or.inl ⟨by rfl, ?yy30_3_6⟩) hHeld ?_
  case yy30_3_6 => (intro W hx; have hz := zz0.trans hx; have f6 := blk_cell (i := 6) ((hz.block _ (blk_lt K1)).trans K1) rfl; have f7 := blk_cell (i := 7) ((hz.block _ (blk_lt K1)).trans K1) rfl; go_simp; try with_reducible rfl)
  simp only [Act.put, List.setIfInBounds_toArray, List.set_cons_zero, List.set_cons_succ]
  refine wpAnyH_take (i := 7) (oi := { dst := some 27, op := Op.binOp BinOp.sub 2 (Operand.tmp 23) (Operand.tmp 26) 2, type := 2, pos := "sym.go:66", after := #[{ on := 3, ground := Ground.data }, { on := 6, ground := Ground.data }, { on := 8, ground := Ground.gcOnly Departure.lateStores }], guard := none }) (v := ?vv31_3_7) rfl (by kernel_rfl) (by kernel_rfl) (by kernel_rfl) (fun _ _ _ h => h) (Or.inl ⟨by rfl, ?yy31_3_7⟩) hHeld ?_
  case yy31_3_7 => (intro W hx; go_simp; try with_reducible rfl)
  simp only [Act.put, List.setIfInBounds_toArray, List.set_cons_zero, List.set_cons_succ]
  refine wpAnyH_take (i := 8) (oi := { dst := some 6, op := Op.assign (Operand.tmp 22), type := 2, pos := "sym.go:66", after := #[{ on := 2, ground := Ground.data }, { on := 0, ground := Ground.phase }, { on := 1, ground := Ground.phase }, { on := 2, ground := Ground.phase }, { on := 3, ground := Ground.textOnly Departure.lateStores }, { on := 4, ground := Ground.textOnly Departure.lateStores }, { on := 5, ground := Ground.textOnly Departure.lateStores }, { on := 6, ground := Ground.textOnly Departure.lateStores }, { on := 7, ground := Ground.textOnly Departure.lateStores }], guard := none }) (v := ?vv32_3_8) rfl (by kernel_rfl) (by kernel_rfl) (by kernel_rfl) (fun _ _ _ h => h) (Or.inl ⟨by rfl, ?yy32_3_8⟩) hHeld ?_
  case yy32_3_8 => (intro W hx; go_simp; try with_reducible rfl)
  simp only [Act.put, List.setIfInBounds_toArray, List.set_cons_zero, List.set_cons_succ]
  refine wpAnyH_take (i := 9) (oi := { dst := some 7, op := Op.assign (Operand.tmp 27), type := 2, pos := "sym.go:66", after := #[{ on := 7, ground := Ground.data }, { on := 8, ground := Ground.chain }, { on := 0, ground := Ground.phase }, { on := 1, ground := Ground.phase }, { on := 2, ground := Ground.phase }, { on := 3, ground := Ground.phase }, { on := 4, ground := Ground.phase }, { on := 5, ground := Ground.phase }, { on := 6, ground := Ground.phase }, { on := 7, ground := Ground.phase }, { on := 8, ground := Ground.phase }], guard := none }) (v := ?vv33_3_9) rfl (by kernel_rfl) (by kernel_rfl) (by kernel_rfl) (fun _ _ _ h => h) (Or.inl ⟨by rfl, ?yy33_3_9⟩) hHeld ?_
  case yy33_3_9 => (intro W hx; go_simp; try with_reducible rfl)
  simp only [Act.put, List.setIfInBounds_toArray, List.set_cons_zero, List.set_cons_succ]
  refine wpAnyH_done (by kernel_rfl) ?_ _
  have zend := zz0.trans hHeld
  have KD := (zend.block _ (blk_lt K1)).trans K1
  have f3 := blk_cell (i := 3) KD rfl
  have f4 := blk_cell (i := 4) KD rfl
  have f5 := blk_cell (i := 5) KD rfl
  go_upto_region 5 with (fail)
  try rw [HWX.out]
  have htw : (wrap64 ((v - ad).tmod mu) != 0) = false := by rw [HWT.out, HT.out]; rfl
  have htb : ((v - ad).tmod mu != 0) = false := by rw [HT.out]; rfl
  generalize hxg : (v - ad).tdiv mu = x at *
  have HXG := Lib.hid hxg
  clear hxg
  obtain ⟨u0, u1⟩ := uwrap_bd x
  go_upto_region 7 with (go_at_call 22; (with_reducible refine (fits_any _ _ _ _ HW.out x0 x1).mono ?_); rintro e w2 ⟨rfl, rfl⟩; rw [HF.out])
  go_wp2_with (go_at_call 23; (with_reducible refine (put_any _ _ _ [] _ _ _ _ Rd.nil (by omega) HW.out u0 u1).mono ?_); rintro e w3 ⟨A, c, rfl, l3, m3, x3, r3⟩)
  go_ret2
  simp only [Nat.zero_add, List.nil_append] at l3 r3
  exact ⟨A, c, by simp, l3, m3, z1.trans (zend.trans x3), by rw [HXG.out]; exact r3⟩
end Go.Proofs.Ytpjficfmmfdbjaa
