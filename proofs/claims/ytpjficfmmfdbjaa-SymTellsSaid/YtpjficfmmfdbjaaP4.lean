import Derived.Test.YtpjficfmmfdbjaaP3
set_option linter.unusedVariables false
namespace Go.Proofs.Ytpjficfmmfdbjaa
open Go.RowKit
theorem cut_sz3 {s : ByteArray} (h : s.size ≤ maxLen) : (cut40 s).size ≤ maxLen := by unfold cut40; rw [ByteArray.size_extract]; omega
def BackX3 (s : ByteArray) (ar aa wd : Int) (bg sg : Bool) (mu ad : Int) (v : Value) (wr : World) : Prop :=
  ∃ g, v = .pointer (some ⟨g, 0, none⟩) ∧ wr.heap[g]? = some (.cells #[.string (cut40 s), .int .u8 ar, .int .u32 aa, .int .i64 wd, .bool bg, .bool sg, .int .i32 mu, .int .i32 ad] 24 (0, 0))
set_option maxRecDepth 100000 in
set_option maxHeartbeats 4000000 in
theorem SymTells_law (w : World) (s : ByteArray) (ar aa wd : Int) (bg sg : Bool) (mu ad : Int) (v : Int) (A : Option Addr) (n c : Nat) (bs : List Int) (hs : s.size ≤ maxLen) (a0 : -2147483648 ≤ ad) (a1 : ad < 2147483648) (rd : Rd w A n bs) (le : n ≤ c) (cm : c ≤ maxLen) :
    Calls Try.prog 3 #[.agg #[.string s, .int .u8 ar, .int .u32 aa, .int .i64 wd, .bool bg, .bool sg, .int .i32 mu, .int .i32 ad], .int .i64 v, .slice A n c] w fun e w' => e = .returned (.bool true) ∧ Ext w w' := by
  go_enter Try.func3, Try.ntmps3
  go_upto_region 1 with (fail)
  have K1 := blk_of (Ext.refl (w.alloc (.cells #[.string s, .int .u8 ar, .int .u32 aa, .int .i64 wd, .bool bg, .bool sg, .int .i32 mu, .int .i32 ad] 24)))
  have z1 := (Ext.refl w).alloc (.cells #[.string s, .int .u8 ar, .int .u32 aa, .int .i64 wd, .bool bg, .bool sg, .int .i32 mu, .int .i32 ad] 24)
  obtain ⟨w0, hw0⟩ : ∃ z : World, z = w.alloc (.cells #[.string s, .int .u8 ar, .int .u32 aa, .int .i64 wd, .bool bg, .bool sg, .int .i32 mu, .int .i32 ad] 24) := ⟨_, rfl⟩
  rw [← hw0]
  rw [← hw0] at K1 z1
  clear hw0
  go_cut [7] (fun v8 wr => BackX3 s ar aa wd bg sg mu ad v8 wr ∧ Ext w wr)
  case first =>
    obtain ⟨f0, f1, f2, f3, f4, f5, f6, f7⟩ := cells8 K1
    go_upto_region 2 with (go_at_call 9; (refine (few_one _ _ _ _ _ _ _ _ _ _ _ _ hs (blk_of (Ext.refl _))).mono ?_); rintro e w2 ⟨V, rfl, ⟨g2, c2, cs2, fr2, rfl, hge, KF⟩, x2⟩; obtain ⟨h0, h1, h2, h3, h4, h5, h6, h7⟩ := cells8a KF)
    go_meet
    case rel => exact ⟨⟨_, rfl, blk_of (Ext.refl _)⟩, (z1.trans (((Ext.refl _).alloc _).trans x2)).alloc _⟩
  case rest =>
    obtain ⟨⟨g, rfl, KX⟩, xc⟩ := hcut
    obtain ⟨wA, hwA⟩ : ∃ z : World, z = wc := ⟨_, rfl⟩
    clear K1 z1
    have hx := cut_sz3 hs
    obtain ⟨x, hxx⟩ : ∃ x, x = cut40 s := ⟨_, rfl⟩
    rw [← hxx] at KX hx
    clear hxx hs
    have rdw := rd.ext xc
    clear rd
    obtain ⟨m, hm0⟩ : ∃ m, m = min n 10 := ⟨_, rfl⟩
    have rdm := rdw.take (k := m) (by omega)
    have hmc : m ≤ c := by omega
    have hml : m ≤ maxLen := by omega
    have hmin : (if (10 : Int) < n then (10 : Int) else n) = m := by rw [hm0]; split <;> omega
    clear rdw hm0
    generalize bs.take m = ys at rdm
    obtain ⟨f0, f1, f2, f3, f4, f5, f6, f7⟩ := cells8 KX
    obtain ⟨PL, hPL⟩ : ∃ l, l = putL x wd bg sg mu ad v := ⟨_, rfl⟩
    have HPL := Lib.hid hPL
    clear hPL
    obtain ⟨PE, hPE⟩ : ∃ l, l = putE x wd sg mu ad v := ⟨_, rfl⟩
    have HPE := Lib.hid hPE
    clear hPE
    obtain ⟨TV, hTV⟩ : ∃ l, l = tkV x wd bg sg mu ad m ys := ⟨_, rfl⟩
    have HTV := Lib.hid hTV
    clear hTV
    obtain ⟨TE, hTE⟩ : ∃ l, l = tkE x wd mu m := ⟨_, rfl⟩
    have HTE := Lib.hid hTE
    clear hTE
    obtain ⟨PN, hPN⟩ : ∃ l, l = PL.length := ⟨_, rfl⟩
    have HPN := Lib.hid hPN
    clear hPN
    go_upto_region 3 with (go_at_call 10; (with_reducible refine (put_all _ _ _ _ _ _ _ _ _ _ hx a0 a1).mono ?_); rintro e w1 ⟨A1, c1, rfl, x1, r1⟩; rw [← HPL.out, ← HPE.out, ← HPN.out]; rw [← HPL.out, ← HPN.out] at r1)
    replace KX := (x1.block _ (blk_lt KX)).trans KX
    replace xc := xc.trans x1
    replace rdm := rdm.ext x1
    clear f0 f1 f2 f3 f4 f5 f6 f7
    obtain ⟨f0, f1, f2, f3, f4, f5, f6, f7⟩ := cells8 KX
    go_upto_region 4 with (go_at_call 11; (with_reducible refine (rput_all _ _ _ _ _ _ _ _ _ _ hx a0 a1).mono ?_); rintro e w2 ⟨A2, c2, rfl, x2, r2⟩; rw [← HPL.out, ← HPE.out, ← HPN.out]; rw [← HPL.out, ← HPN.out] at r2)
    replace KX := (x2.block _ (blk_lt KX)).trans KX
    replace xc := xc.trans x2
    replace rdm := rdm.ext x2
    replace r1 := r1.ext x2
    clear f0 f1 f2 f3 f4 f5 f6 f7
    refine wp_region_held_drew (S := Ext w2) (by kernel_rfl) ((Ext.refl _).drew) (fun hHeld => ?_)
    obtain ⟨wD1, hwD⟩ : ∃ V, V = World.drew w2 := ⟨_, rfl⟩
    rw [← hwD]
    clear hHeld
    have zz0 : Ext w2 wD1 := by rw [hwD]; exact (Ext.refl _).drew
    clear hwD
    refine wpAnyH_imp (S' := Ext wD1) (fun W h => Ext.trans zz0 h) _ _ _ _ ?_
    have hHeld := Ext.refl wD1
    refine wpAnyH_take (i := 0) (oi := { dst := some 34, op := Op.load 24 (Operand.tmp 7), type := 24, pos := "law.go:36", after := #[], guard := none }) (v := ?vv2_4_0) rfl (by kernel_rfl) (by kernel_rfl) (by kernel_rfl) (fun _ _ _ h => h) (Or.inl ⟨by rfl, ?yy2_4_0⟩) hHeld ?_
    case yy2_4_0 => (intro W hx; have hz := zz0.trans hx; obtain ⟨f0, f1, f2, f3, f4, f5, f6, f7⟩ := cells8 ((hz.block _ (blk_lt KX)).trans KX); go_simp; try with_reducible rfl)
    simp only [Act.put, List.setIfInBounds_toArray, List.set_cons_zero, List.set_cons_succ]
    refine wpAnyH_take (i := 1) (oi := { dst := some 35, op := Op.move (Operand.tmp 2), type := 25, pos := "law.go:36", after := #[], guard := none }) (v := ?vv3_4_1) rfl (by kernel_rfl) (by kernel_rfl) (by kernel_rfl) (fun _ _ _ h => h) (Or.inl ⟨by rfl, ?yy3_4_1⟩) hHeld ?_
    case yy3_4_1 => (intro W hx; go_simp; try with_reducible rfl)
    simp only [Act.put, List.setIfInBounds_toArray, List.set_cons_zero, List.set_cons_succ]
    refine wpAnyH_take (i := 2) (oi := { dst := some 36, op := Op.move (Operand.tmp 2), type := 25, pos := "law.go:36", after := #[], guard := none }) (v := ?vv4_4_2) rfl (by kernel_rfl) (by kernel_rfl) (by kernel_rfl) (fun _ _ _ h => h) (Or.inl ⟨by rfl, ?yy4_4_2⟩) hHeld ?_
    case yy4_4_2 => (intro W hx; go_simp; try with_reducible rfl)
    simp only [Act.put, List.setIfInBounds_toArray, List.set_cons_zero, List.set_cons_succ]
    refine wpAnyH_take (i := 3) (oi := { dst := some 37, op := Op.call { callee := Callee.builtin Builtin.len, args := #[Operand.tmp 36], argTypes := #[25] }, type := 3, pos := "law.go:36", after := #[{ on := 2, ground := Ground.data }], guard := none }) (v := ?vv5_4_3) rfl (by kernel_rfl) (by kernel_rfl) (by kernel_rfl) (fun _ _ _ h => h) (Or.inl ⟨by rfl, ?yy5_4_3⟩) hHeld ?_
    case yy5_4_3 => (intro W hx; go_simp; try with_reducible rfl)
    simp only [Act.put, List.setIfInBounds_toArray, List.set_cons_zero, List.set_cons_succ]
    refine wpAnyH_take (i := 4) (oi := { dst := some 38, op := Op.call { callee := Callee.builtin Builtin.min, args := #[Operand.tmp 37, Operand.const (Value.int IntKind.i64 10)], argTypes := #[3, 3] }, type := 3, pos := "law.go:36", after := #[{ on := 3, ground := Ground.data }], guard := none }) (v := ?vv6_4_4) rfl (by kernel_rfl) (by kernel_rfl) (by kernel_rfl) (fun _ _ _ h => h) (Or.inl ⟨by rfl, ?yy6_4_4⟩) hHeld ?_
    case yy6_4_4 => (intro W hx; go_simp; try with_reducible rfl)
    simp only [Act.put, List.setIfInBounds_toArray, List.set_cons_zero, List.set_cons_succ]
    refine wpAnyH_take (i := 5) (oi := { dst := some 39, op := Op.slice 25 (Operand.tmp 35) none (some (Operand.tmp 38)) none, type := 25, pos := "law.go:36", after := #[{ on := 1, ground := Ground.data }, { on := 4, ground := Ground.data }], guard := none }) (v := ?vv7_4_5) rfl (by kernel_rfl) (by kernel_rfl) (by kernel_rfl) (fun _ _ _ h => h) (Or.inl ⟨by rfl, ?yy7_4_5⟩) hHeld ?_
    case yy7_4_5 => (intro W hx; go_simp; try with_reducible rfl)
    simp only [Act.put, List.setIfInBounds_toArray, List.set_cons_zero, List.set_cons_succ]
    refine wpAnyH_ready (rs := [6]) (by kernel_rfl) (by simp) (AllReadyH.cons rfl (fun K hK => ?_) AllReadyH.nil)
    go_simp
    go_wp2_with (go_at_call 12; (with_reducible refine (take_all _ _ _ _ _ _ _ _ _ _ _ _ _ hx a0 a1 (rdm.ext zz0) hml hmc).mono ?_); rintro e w3 ⟨rfl, x3⟩; rw [← HTV.out, ← HTE.out])
    refine hK.out _ _ x3 (fun hHeld => ?_)
    clear hK K
    refine wpAnyH_imp (S' := Ext w3) (fun W h => Ext.trans x3 h) _ _ _ _ ?_
    replace hHeld := Ext.refl w3
    have zz1 := zz0.trans x3
    refine wpAnyH_take (i := 7) (oi := { dst := some 33, op := Op.move (Operand.tmp 40), type := 31, pos := "law.go:36", after := #[{ on := 6, ground := Ground.data }], guard := none }) (v := ?vv8_4_7) rfl (by kernel_rfl) (by kernel_rfl) (by kernel_rfl) (fun _ _ _ h => h) (Or.inl ⟨by rfl, ?yy8_4_7⟩) hHeld ?_
    case yy8_4_7 => (intro W hx; go_simp; try with_reducible rfl)
    simp only [Act.put, List.setIfInBounds_toArray, List.set_cons_zero, List.set_cons_succ]
    refine wpAnyH_take (i := 8) (oi := { dst := some 41, op := Op.extract (Operand.tmp 33) 0, type := 2, pos := "law.go:36", after := #[{ on := 7, ground := Ground.data }], guard := none }) (v := ?vv9_4_8) rfl (by kernel_rfl) (by kernel_rfl) (by kernel_rfl) (fun _ _ _ h => h) (Or.inl ⟨by rfl, ?yy9_4_8⟩) hHeld ?_
    case yy9_4_8 => (intro W hx; go_simp; try with_reducible rfl)
    simp only [Act.put, List.setIfInBounds_toArray, List.set_cons_zero, List.set_cons_succ]
    refine wpAnyH_take (i := 9) (oi := { dst := some 42, op := Op.extract (Operand.tmp 33) 1, type := 28, pos := "law.go:36", after := #[{ on := 7, ground := Ground.data }, { on := 10, ground := Ground.gcOnly Departure.lateStores }], guard := none }) (v := ?vv10_4_9) rfl (by kernel_rfl) (by kernel_rfl) (by kernel_rfl) (fun _ _ _ h => h) (Or.inl ⟨by rfl, ?yy10_4_9⟩) hHeld ?_
    case yy10_4_9 => (intro W hx; go_simp; try with_reducible rfl)
    simp only [Act.put, List.setIfInBounds_toArray, List.set_cons_zero, List.set_cons_succ]
    refine wpAnyH_take (i := 10) (oi := { dst := some 12, op := Op.assign (Operand.tmp 41), type := 2, pos := "law.go:36", after := #[{ on := 8, ground := Ground.data }, { on := 6, ground := Ground.chain }, { on := 0, ground := Ground.phase }, { on := 1, ground := Ground.phase }, { on := 2, ground := Ground.phase }, { on := 3, ground := Ground.phase }, { on := 4, ground := Ground.phase }, { on := 5, ground := Ground.phase }, { on := 6, ground := Ground.phase }, { on := 7, ground := Ground.phase }, { on := 8, ground := Ground.phase }, { on := 9, ground := Ground.textOnly Departure.lateStores }], guard := none }) (v := ?vv11_4_10) rfl (by kernel_rfl) (by kernel_rfl) (by kernel_rfl) (fun _ _ _ h => h) (Or.inl ⟨by rfl, ?yy11_4_10⟩) hHeld ?_
    case yy11_4_10 => (intro W hx; go_simp; try with_reducible rfl)
    simp only [Act.put, List.setIfInBounds_toArray, List.set_cons_zero, List.set_cons_succ]
    refine wpAnyH_take (i := 11) (oi := { dst := some 13, op := Op.assign (Operand.tmp 42), type := 28, pos := "law.go:36", after := #[{ on := 9, ground := Ground.data }, { on := 10, ground := Ground.chain }, { on := 0, ground := Ground.phase }, { on := 1, ground := Ground.phase }, { on := 2, ground := Ground.phase }, { on := 3, ground := Ground.phase }, { on := 4, ground := Ground.phase }, { on := 5, ground := Ground.phase }, { on := 6, ground := Ground.phase }, { on := 7, ground := Ground.phase }, { on := 8, ground := Ground.phase }, { on := 9, ground := Ground.phase }, { on := 10, ground := Ground.phase }], guard := none }) (v := ?vv12_4_11) rfl (by kernel_rfl) (by kernel_rfl) (by kernel_rfl) (fun _ _ _ h => h) (Or.inl ⟨by rfl, ?yy12_4_11⟩) hHeld ?_
    case yy12_4_11 => (intro W hx; go_simp; try with_reducible rfl)
    simp only [Act.put, List.setIfInBounds_toArray, List.set_cons_zero, List.set_cons_succ]
    refine wpAnyH_done (by kernel_rfl) ?_ _
    have zend := zz1.trans hHeld
    have y3 := zend
    replace KX := (y3.block _ (blk_lt KX)).trans KX
    replace xc := xc.trans y3
    replace rdm := rdm.ext y3
    replace r1 := r1.ext y3
    replace r2 := r2.ext y3
    clear zend y3 zz0
    go_upto_region 5 with (fail)
    refine wp_region_held_drew (S := Ext w3) (by kernel_rfl) ((Ext.refl _).drew) (fun hHeld => ?_)
    obtain ⟨wD13, hwD⟩ : ∃ V, V = World.drew w3 := ⟨_, rfl⟩
    rw [← hwD]
    clear hHeld
    have zz0 : Ext w3 wD13 := by rw [hwD]; exact (Ext.refl _).drew
    clear hwD
    refine wpAnyH_imp (S' := Ext wD13) (fun W h => Ext.trans zz0 h) _ _ _ _ ?_
    have hHeld := Ext.refl wD13
    refine wpAnyH_take (i := 0) (oi := { dst := some 44, op := Op.load 24 (Operand.tmp 7), type := 24, pos := "law.go:37", after := #[], guard := none }) (v := ?vv14_5_0) rfl (by kernel_rfl) (by kernel_rfl) (by kernel_rfl) (fun _ _ _ h => h) (Or.inl ⟨by rfl, ?yy14_5_0⟩) hHeld ?_
    case yy14_5_0 => (intro W hx; have hz := zz0.trans hx; obtain ⟨f0, f1, f2, f3, f4, f5, f6, f7⟩ := cells8 ((hz.block _ (blk_lt KX)).trans KX); go_simp; try with_reducible rfl)
    simp only [Act.put, List.setIfInBounds_toArray, List.set_cons_zero, List.set_cons_succ]
    refine wpAnyH_take (i := 1) (oi := { dst := some 45, op := Op.move (Operand.tmp 2), type := 25, pos := "law.go:37", after := #[], guard := none }) (v := ?vv15_5_1) rfl (by kernel_rfl) (by kernel_rfl) (by kernel_rfl) (fun _ _ _ h => h) (Or.inl ⟨by rfl, ?yy15_5_1⟩) hHeld ?_
    case yy15_5_1 => (intro W hx; go_simp; try with_reducible rfl)
    simp only [Act.put, List.setIfInBounds_toArray, List.set_cons_zero, List.set_cons_succ]
    refine wpAnyH_take (i := 2) (oi := { dst := some 46, op := Op.move (Operand.tmp 2), type := 25, pos := "law.go:37", after := #[], guard := none }) (v := ?vv16_5_2) rfl (by kernel_rfl) (by kernel_rfl) (by kernel_rfl) (fun _ _ _ h => h) (Or.inl ⟨by rfl, ?yy16_5_2⟩) hHeld ?_
    case yy16_5_2 => (intro W hx; go_simp; try with_reducible rfl)
    simp only [Act.put, List.setIfInBounds_toArray, List.set_cons_zero, List.set_cons_succ]
    refine wpAnyH_take (i := 3) (oi := { dst := some 47, op := Op.call { callee := Callee.builtin Builtin.len, args := #[Operand.tmp 46], argTypes := #[25] }, type := 3, pos := "law.go:37", after := #[{ on := 2, ground := Ground.data }], guard := none }) (v := ?vv17_5_3) rfl (by kernel_rfl) (by kernel_rfl) (by kernel_rfl) (fun _ _ _ h => h) (Or.inl ⟨by rfl, ?yy17_5_3⟩) hHeld ?_
    case yy17_5_3 => (intro W hx; go_simp; try with_reducible rfl)
    simp only [Act.put, List.setIfInBounds_toArray, List.set_cons_zero, List.set_cons_succ]
    refine wpAnyH_take (i := 4) (oi := { dst := some 48, op := Op.call { callee := Callee.builtin Builtin.min, args := #[Operand.tmp 47, Operand.const (Value.int IntKind.i64 10)], argTypes := #[3, 3] }, type := 3, pos := "law.go:37", after := #[{ on := 3, ground := Ground.data }], guard := none }) (v := ?vv18_5_4) rfl (by kernel_rfl) (by kernel_rfl) (by kernel_rfl) (fun _ _ _ h => h) (Or.inl ⟨by rfl, ?yy18_5_4⟩) hHeld ?_
    case yy18_5_4 => (intro W hx; go_simp; try with_reducible rfl)
    simp only [Act.put, List.setIfInBounds_toArray, List.set_cons_zero, List.set_cons_succ]
    refine wpAnyH_take (i := 5) (oi := { dst := some 49, op := Op.slice 25 (Operand.tmp 45) none (some (Operand.tmp 48)) none, type := 25, pos := "law.go:37", after := #[{ on := 1, ground := Ground.data }, { on := 4, ground := Ground.data }], guard := none }) (v := ?vv19_5_5) rfl (by kernel_rfl) (by kernel_rfl) (by kernel_rfl) (fun _ _ _ h => h) (Or.inl ⟨by rfl, ?yy19_5_5⟩) hHeld ?_
    case yy19_5_5 => (intro W hx; go_simp; try with_reducible rfl)
    simp only [Act.put, List.setIfInBounds_toArray, List.set_cons_zero, List.set_cons_succ]
    refine wpAnyH_ready (rs := [6]) (by kernel_rfl) (by simp) (AllReadyH.cons rfl (fun K hK => ?_) AllReadyH.nil)
    go_simp
    go_wp2_with (go_at_call 13; (with_reducible refine (rtake_all _ _ _ _ _ _ _ _ _ _ _ _ _ hx a0 a1 (rdm.ext zz0) hml hmc).mono ?_); rintro e w4 ⟨rfl, x4⟩; rw [← HTV.out, ← HTE.out])
    refine hK.out _ _ x4 (fun hHeld => ?_)
    clear hK K
    refine wpAnyH_imp (S' := Ext w4) (fun W h => Ext.trans x4 h) _ _ _ _ ?_
    replace hHeld := Ext.refl w4
    have zz1 := zz0.trans x4
    refine wpAnyH_take (i := 7) (oi := { dst := some 43, op := Op.move (Operand.tmp 50), type := 31, pos := "law.go:37", after := #[{ on := 6, ground := Ground.data }], guard := none }) (v := ?vv20_5_7) rfl (by kernel_rfl) (by kernel_rfl) (by kernel_rfl) (fun _ _ _ h => h) (Or.inl ⟨by rfl, ?yy20_5_7⟩) hHeld ?_
    case yy20_5_7 => (intro W hx; go_simp; try with_reducible rfl)
    simp only [Act.put, List.setIfInBounds_toArray, List.set_cons_zero, List.set_cons_succ]
    refine wpAnyH_take (i := 8) (oi := { dst := some 51, op := Op.extract (Operand.tmp 43) 0, type := 2, pos := "law.go:37", after := #[{ on := 7, ground := Ground.data }], guard := none }) (v := ?vv21_5_8) rfl (by kernel_rfl) (by kernel_rfl) (by kernel_rfl) (fun _ _ _ h => h) (Or.inl ⟨by rfl, ?yy21_5_8⟩) hHeld ?_
    case yy21_5_8 => (intro W hx; go_simp; try with_reducible rfl)
    simp only [Act.put, List.setIfInBounds_toArray, List.set_cons_zero, List.set_cons_succ]
    refine wpAnyH_take (i := 9) (oi := { dst := some 52, op := Op.extract (Operand.tmp 43) 1, type := 28, pos := "law.go:37", after := #[{ on := 7, ground := Ground.data }, { on := 10, ground := Ground.gcOnly Departure.lateStores }], guard := none }) (v := ?vv22_5_9) rfl (by kernel_rfl) (by kernel_rfl) (by kernel_rfl) (fun _ _ _ h => h) (Or.inl ⟨by rfl, ?yy22_5_9⟩) hHeld ?_
    case yy22_5_9 => (intro W hx; go_simp; try with_reducible rfl)
    simp only [Act.put, List.setIfInBounds_toArray, List.set_cons_zero, List.set_cons_succ]
    refine wpAnyH_take (i := 10) (oi := { dst := some 14, op := Op.assign (Operand.tmp 51), type := 2, pos := "law.go:37", after := #[{ on := 8, ground := Ground.data }, { on := 6, ground := Ground.chain }, { on := 0, ground := Ground.phase }, { on := 1, ground := Ground.phase }, { on := 2, ground := Ground.phase }, { on := 3, ground := Ground.phase }, { on := 4, ground := Ground.phase }, { on := 5, ground := Ground.phase }, { on := 6, ground := Ground.phase }, { on := 7, ground := Ground.phase }, { on := 8, ground := Ground.phase }, { on := 9, ground := Ground.textOnly Departure.lateStores }], guard := none }) (v := ?vv23_5_10) rfl (by kernel_rfl) (by kernel_rfl) (by kernel_rfl) (fun _ _ _ h => h) (Or.inl ⟨by rfl, ?yy23_5_10⟩) hHeld ?_
    case yy23_5_10 => (intro W hx; go_simp; try with_reducible rfl)
    simp only [Act.put, List.setIfInBounds_toArray, List.set_cons_zero, List.set_cons_succ]
    refine wpAnyH_take (i := 11) (oi := { dst := some 15, op := Op.assign (Operand.tmp 52), type := 28, pos := "law.go:37", after := #[{ on := 9, ground := Ground.data }, { on := 10, ground := Ground.chain }, { on := 0, ground := Ground.phase }, { on := 1, ground := Ground.phase }, { on := 2, ground := Ground.phase }, { on := 3, ground := Ground.phase }, { on := 4, ground := Ground.phase }, { on := 5, ground := Ground.phase }, { on := 6, ground := Ground.phase }, { on := 7, ground := Ground.phase }, { on := 8, ground := Ground.phase }, { on := 9, ground := Ground.phase }, { on := 10, ground := Ground.phase }], guard := none }) (v := ?vv24_5_11) rfl (by kernel_rfl) (by kernel_rfl) (by kernel_rfl) (fun _ _ _ h => h) (Or.inl ⟨by rfl, ?yy24_5_11⟩) hHeld ?_
    case yy24_5_11 => (intro W hx; go_simp; try with_reducible rfl)
    simp only [Act.put, List.setIfInBounds_toArray, List.set_cons_zero, List.set_cons_succ]
    refine wpAnyH_done (by kernel_rfl) ?_ _
    have zend := zz1.trans hHeld
    have y4 := zend
    replace KX := (y4.block _ (blk_lt KX)).trans KX
    replace xc := xc.trans y4
    replace r1 := r1.ext y4
    replace r2 := r2.ext y4
    clear zend y4 zz0
    obtain ⟨MS, hMS⟩ : ∃ l, l = mayS x wd mu := ⟨_, rfl⟩
    have HMS := Lib.hid hMS
    clear hMS
    clear hmin rdm
    go_upto_region 6 with (fail)
    refine wp_region_held_drew (S := Ext w4) (by kernel_rfl) ((Ext.refl _).drew) (fun hHeld => ?_)
    obtain ⟨wD25, hwD⟩ : ∃ V, V = World.drew w4 := ⟨_, rfl⟩
    rw [← hwD]
    clear hHeld
    have zz0 : Ext w4 wD25 := by rw [hwD]; exact (Ext.refl _).drew
    clear hwD
    refine wpAnyH_imp (S' := Ext wD25) (fun W h => Ext.trans zz0 h) _ _ _ _ ?_
    have hHeld := Ext.refl wD25
    refine wpAnyH_ready (rs := [0]) (by kernel_rfl) (by simp) (AllReadyH.cons rfl (fun K hK => ?_) AllReadyH.nil)
    go_simp
    go_wp2_with (go_at_call 14; (with_reducible refine (shown_any _).mono ?_); rintro e w5 ⟨rfl, x5⟩)
    refine hK.out _ _ x5 (fun hHeld => ?_)
    clear hK K
    refine wpAnyH_imp (S' := Ext w5) (fun W h => Ext.trans x5 h) _ _ _ _ ?_
    replace hHeld := Ext.refl w5
    have zz1 := zz0.trans x5
    refine wpAnyH_take (i := 1) (oi := { dst := some 54, op := Op.move (Operand.tmp 53), type := 4, pos := "law.go:38", after := #[{ on := 0, ground := Ground.data }, { on := 0, ground := Ground.chain }], guard := none }) (v := ?vv26_6_1) rfl (by kernel_rfl) (by kernel_rfl) (by kernel_rfl) (fun _ _ _ h => h) (Or.inl ⟨by rfl, ?yy26_6_1⟩) hHeld ?_
    case yy26_6_1 => (intro W hx; go_simp; try with_reducible rfl)
    simp only [Act.put, List.setIfInBounds_toArray, List.set_cons_zero, List.set_cons_succ]
    refine wpAnyH_take (i := 2) (oi := { dst := some 55, op := Op.load 24 (Operand.tmp 7), type := 24, pos := "law.go:38", after := #[{ on := 1, ground := Ground.guard }], guard := some (1, true) }) (v := ?vv27_6_2) rfl (by kernel_rfl) (by kernel_rfl) (by kernel_rfl) (fun _ _ _ h => h) (Or.inl ⟨by rfl, ?yy27_6_2⟩) hHeld ?_
    case yy27_6_2 => (intro W hx; have hz := zz1.trans hx; obtain ⟨f0, f1, f2, f3, f4, f5, f6, f7⟩ := cells8 ((hz.block _ (blk_lt KX)).trans KX); go_simp; try with_reducible rfl)
    simp only [Act.put, List.setIfInBounds_toArray, List.set_cons_zero, List.set_cons_succ]
    refine wpAnyH_take (i := 4) (oi := { dst := some 57, op := Op.load 24 (Operand.tmp 7), type := 24, pos := "law.go:38", after := #[{ on := 1, ground := Ground.guard }], guard := some (1, true) }) (v := ?vv28_6_4) rfl (by kernel_rfl) (by kernel_rfl) (by kernel_rfl) (fun _ _ _ h => h) (Or.inl ⟨by rfl, ?yy28_6_4⟩) hHeld ?_
    case yy28_6_4 => (intro W hx; have hz := zz1.trans hx; obtain ⟨f0, f1, f2, f3, f4, f5, f6, f7⟩ := cells8 ((hz.block _ (blk_lt KX)).trans KX); go_simp; try with_reducible rfl)
    simp only [Act.put, List.setIfInBounds_toArray, List.set_cons_zero, List.set_cons_succ]
    refine wpAnyH_ready (rs := [3]) (by kernel_rfl) (by simp) (AllReadyH.cons rfl (fun K hK => ?_) AllReadyH.nil)
    go_simp
    go_wp2_with (go_at_call 15; (with_reducible refine (may_any _ _ _ _ _ _ _ _ _ hx).mono ?_); rintro e w6 ⟨rfl, x6⟩; rw [← HMS.out])
    refine hK.out _ _ x6 (fun hHeld => ?_)
    clear hK K
    refine wpAnyH_imp (S' := Ext w6) (fun W h => Ext.trans x6 h) _ _ _ _ ?_
    replace hHeld := Ext.refl w6
    have zz2 := zz1.trans x6
    refine wpAnyH_ready (rs := [5]) (by kernel_rfl) (by simp) (AllReadyH.cons rfl (fun K hK => ?_) AllReadyH.nil)
    go_simp
    go_wp2_with (go_at_call 16; (with_reducible refine (rmay_any _ _ _ _ _ _ _ _ _ hx).mono ?_); rintro e w7 ⟨rfl, x7⟩; rw [← HMS.out])
    refine hK.out _ _ x7 (fun hHeld => ?_)
    clear hK K
    refine wpAnyH_imp (S' := Ext w7) (fun W h => Ext.trans x7 h) _ _ _ _ ?_
    replace hHeld := Ext.refl w7
    have zz3 := zz2.trans x7
    refine wpAnyH_take (i := 6) (oi := { dst := some 59, op := Op.binOp BinOp.eql 4 (Operand.tmp 56) (Operand.tmp 58) 4, type := 4, pos := "law.go:38", after := #[{ on := 3, ground := Ground.data }, { on := 5, ground := Ground.data }, { on := 1, ground := Ground.guard }], guard := some (1, true) }) (v := ?vv29_6_6) rfl (by kernel_rfl) (by kernel_rfl) (by kernel_rfl) (fun _ _ _ h => h) (Or.inl ⟨by rfl, ?yy29_6_6⟩) hHeld ?_
    case yy29_6_6 => (intro W hx; go_simp; try with_reducible rfl)
    simp only [Act.put, List.setIfInBounds_toArray, List.set_cons_zero, List.set_cons_succ]
    refine wpAnyH_take (i := 7) (oi := { dst := some 60, op := Op.pick (Operand.tmp 54) (Operand.tmp 59) (Operand.const (Value.bool false)), type := 4, pos := "law.go:38", after := #[{ on := 1, ground := Ground.data }, { on := 6, ground := Ground.data }], guard := none }) (v := ?vv30_6_7) rfl (by kernel_rfl) (by kernel_rfl) (by kernel_rfl) (fun _ _ _ h => h) (Or.inl ⟨by rfl, ?yy30_6_7⟩) hHeld ?_
    case yy30_6_7 => (intro W hx; go_simp; try with_reducible rfl)
    simp only [Act.put, List.setIfInBounds_toArray, List.set_cons_zero, List.set_cons_succ]
    refine wpAnyH_take (i := 8) (oi := { dst := some 61, op := Op.move (Operand.tmp 60), type := 4, pos := "law.go:38", after := #[{ on := 7, ground := Ground.data }, { on := 5, ground := Ground.chain }], guard := none }) (v := ?vv31_6_8) rfl (by kernel_rfl) (by kernel_rfl) (by kernel_rfl) (fun _ _ _ h => h) (Or.inl ⟨by rfl, ?yy31_6_8⟩) hHeld ?_
    case yy31_6_8 => (intro W hx; go_simp; try with_reducible rfl)
    simp only [Act.put, List.setIfInBounds_toArray, List.set_cons_zero, List.set_cons_succ]
    refine wpAnyH_take (i := 9) (oi := { dst := some 62, op := Op.move (Operand.tmp 8), type := 25, pos := "law.go:38", after := #[{ on := 8, ground := Ground.guard }], guard := some (8, true) }) (v := ?vv32_6_9) rfl (by kernel_rfl) (by kernel_rfl) (by kernel_rfl) (fun _ _ _ h => h) (Or.inl ⟨by rfl, ?yy32_6_9⟩) hHeld ?_
    case yy32_6_9 => (intro W hx; go_simp; try with_reducible rfl)
    simp only [Act.put, List.setIfInBounds_toArray, List.set_cons_zero, List.set_cons_succ]
    refine wpAnyH_take (i := 10) (oi := { dst := some 63, op := Op.convert 25 9 (Operand.tmp 62), type := 9, pos := "law.go:38", after := #[{ on := 9, ground := Ground.data }, { on := 8, ground := Ground.guard }], guard := some (8, true) }) (v := ?vv33_6_10) rfl (by kernel_rfl) (by kernel_rfl) (by kernel_rfl) (fun _ _ _ h => h) (Or.inl ⟨by rfl, ?yy33_6_10⟩) hHeld ?_
    case yy33_6_10 => (intro W hx; have hz := zz3.trans hx; have hs := str (c := c1) (r1.ext hz); go_simp; try with_reducible rfl)
    simp only [Act.put, List.setIfInBounds_toArray, List.set_cons_zero, List.set_cons_succ]
    refine wpAnyH_take (i := 11) (oi := { dst := some 64, op := Op.move (Operand.tmp 10), type := 25, pos := "law.go:38", after := #[{ on := 8, ground := Ground.guard }], guard := some (8, true) }) (v := ?vv34_6_11) rfl (by kernel_rfl) (by kernel_rfl) (by kernel_rfl) (fun _ _ _ h => h) (Or.inl ⟨by rfl, ?yy34_6_11⟩) hHeld ?_
    case yy34_6_11 => (intro W hx; go_simp; try with_reducible rfl)
    simp only [Act.put, List.setIfInBounds_toArray, List.set_cons_zero, List.set_cons_succ]
    refine wpAnyH_take (i := 12) (oi := { dst := some 65, op := Op.convert 25 9 (Operand.tmp 64), type := 9, pos := "law.go:38", after := #[{ on := 11, ground := Ground.data }, { on := 8, ground := Ground.guard }], guard := some (8, true) }) (v := ?vv35_6_12) rfl (by kernel_rfl) (by kernel_rfl) (by kernel_rfl) (fun _ _ _ h => h) (Or.inl ⟨by rfl, ?yy35_6_12⟩) hHeld ?_
    case yy35_6_12 => (intro W hx; have hz := zz3.trans hx; have hs := str (c := c2) (r2.ext hz); go_simp; try with_reducible rfl)
    simp only [Act.put, List.setIfInBounds_toArray, List.set_cons_zero, List.set_cons_succ]
    refine wpAnyH_take (i := 13) (oi := { dst := some 66, op := Op.binOp BinOp.eql 9 (Operand.tmp 63) (Operand.tmp 65) 9, type := 4, pos := "law.go:38", after := #[{ on := 10, ground := Ground.data }, { on := 12, ground := Ground.data }, { on := 8, ground := Ground.guard }], guard := some (8, true) }) (v := ?vv36_6_13) rfl (by kernel_rfl) (by kernel_rfl) (by kernel_rfl) (fun _ _ _ h => h) (Or.inl ⟨by rfl, ?yy36_6_13⟩) hHeld ?_
    case yy36_6_13 => (intro W hx; go_simp; try with_reducible rfl)
    simp only [Act.put, List.setIfInBounds_toArray, List.set_cons_zero, List.set_cons_succ]
    refine wpAnyH_take (i := 14) (oi := { dst := some 67, op := Op.pick (Operand.tmp 61) (Operand.tmp 66) (Operand.const (Value.bool false)), type := 4, pos := "law.go:38", after := #[{ on := 8, ground := Ground.data }, { on := 13, ground := Ground.data }], guard := none }) (v := ?vv37_6_14) rfl (by kernel_rfl) (by kernel_rfl) (by kernel_rfl) (fun _ _ _ h => h) (Or.inl ⟨by rfl, ?yy37_6_14⟩) hHeld ?_
    case yy37_6_14 => (intro W hx; go_simp; try with_reducible rfl)
    simp only [Act.put, List.setIfInBounds_toArray, List.set_cons_zero, List.set_cons_succ]
    refine wpAnyH_take (i := 15) (oi := { dst := some 68, op := Op.move (Operand.tmp 67), type := 4, pos := "law.go:38", after := #[{ on := 14, ground := Ground.data }, { on := 8, ground := Ground.chain }], guard := none }) (v := ?vv38_6_15) rfl (by kernel_rfl) (by kernel_rfl) (by kernel_rfl) (fun _ _ _ h => h) (Or.inl ⟨by rfl, ?yy38_6_15⟩) hHeld ?_
    case yy38_6_15 => (intro W hx; go_simp; try with_reducible rfl)
    simp only [Act.put, List.setIfInBounds_toArray, List.set_cons_zero, List.set_cons_succ]
    refine wpAnyH_take (i := 16) (oi := { dst := some 69, op := Op.move (Operand.tmp 9), type := 28, pos := "law.go:38", after := #[{ on := 15, ground := Ground.guard }], guard := some (15, true) }) (v := ?vv39_6_16) rfl (by kernel_rfl) (by kernel_rfl) (by kernel_rfl) (fun _ _ _ h => h) (Or.inl ⟨by rfl, ?yy39_6_16⟩) hHeld ?_
    case yy39_6_16 => (intro W hx; go_simp; try with_reducible rfl)
    simp only [Act.put, List.setIfInBounds_toArray, List.set_cons_zero, List.set_cons_succ]
    refine wpAnyH_take (i := 17) (oi := { dst := some 70, op := Op.move (Operand.tmp 11), type := 28, pos := "law.go:38", after := #[{ on := 15, ground := Ground.guard }], guard := some (15, true) }) (v := ?vv40_6_17) rfl (by kernel_rfl) (by kernel_rfl) (by kernel_rfl) (fun _ _ _ h => h) (Or.inl ⟨by rfl, ?yy40_6_17⟩) hHeld ?_
    case yy40_6_17 => (intro W hx; go_simp; try with_reducible rfl)
    simp only [Act.put, List.setIfInBounds_toArray, List.set_cons_zero, List.set_cons_succ]
    refine wpAnyH_take (i := 18) (oi := { dst := some 71, op := Op.binOp BinOp.eql 28 (Operand.tmp 69) (Operand.tmp 70) 28, type := 4, pos := "law.go:38", after := #[{ on := 16, ground := Ground.data }, { on := 17, ground := Ground.data }, { on := 15, ground := Ground.guard }], guard := some (15, true) }) (v := ?vv41_6_18) rfl (by kernel_rfl) (by kernel_rfl) (by kernel_rfl) (fun _ _ _ h => h) (Or.inl ⟨by rfl, ?yy41_6_18⟩) hHeld ?_
    case yy41_6_18 => (intro W hx; go_simp; try with_reducible rfl)
    simp only [Act.put, List.setIfInBounds_toArray, List.set_cons_zero, List.set_cons_succ]
    refine wpAnyH_take (i := 19) (oi := { dst := some 72, op := Op.pick (Operand.tmp 68) (Operand.tmp 71) (Operand.const (Value.bool false)), type := 4, pos := "law.go:38", after := #[{ on := 15, ground := Ground.data }, { on := 18, ground := Ground.data }], guard := none }) (v := ?vv42_6_19) rfl (by kernel_rfl) (by kernel_rfl) (by kernel_rfl) (fun _ _ _ h => h) (Or.inl ⟨by rfl, ?yy42_6_19⟩) hHeld ?_
    case yy42_6_19 => (intro W hx; go_simp; try with_reducible rfl)
    simp only [Act.put, List.setIfInBounds_toArray, List.set_cons_zero, List.set_cons_succ]
    refine wpAnyH_take (i := 20) (oi := { dst := some 73, op := Op.move (Operand.tmp 72), type := 4, pos := "law.go:38", after := #[{ on := 19, ground := Ground.data }, { on := 15, ground := Ground.chain }], guard := none }) (v := ?vv43_6_20) rfl (by kernel_rfl) (by kernel_rfl) (by kernel_rfl) (fun _ _ _ h => h) (Or.inl ⟨by rfl, ?yy43_6_20⟩) hHeld ?_
    case yy43_6_20 => (intro W hx; go_simp; try with_reducible rfl)
    simp only [Act.put, List.setIfInBounds_toArray, List.set_cons_zero, List.set_cons_succ]
    refine wpAnyH_take (i := 21) (oi := { dst := some 74, op := Op.move (Operand.tmp 12), type := 2, pos := "law.go:38", after := #[{ on := 20, ground := Ground.guard }], guard := some (20, true) }) (v := ?vv44_6_21) rfl (by kernel_rfl) (by kernel_rfl) (by kernel_rfl) (fun _ _ _ h => h) (Or.inl ⟨by rfl, ?yy44_6_21⟩) hHeld ?_
    case yy44_6_21 => (intro W hx; go_simp; try with_reducible rfl)
    simp only [Act.put, List.setIfInBounds_toArray, List.set_cons_zero, List.set_cons_succ]
    refine wpAnyH_take (i := 22) (oi := { dst := some 75, op := Op.move (Operand.tmp 14), type := 2, pos := "law.go:38", after := #[{ on := 20, ground := Ground.guard }], guard := some (20, true) }) (v := ?vv45_6_22) rfl (by kernel_rfl) (by kernel_rfl) (by kernel_rfl) (fun _ _ _ h => h) (Or.inl ⟨by rfl, ?yy45_6_22⟩) hHeld ?_
    case yy45_6_22 => (intro W hx; go_simp; try with_reducible rfl)
    simp only [Act.put, List.setIfInBounds_toArray, List.set_cons_zero, List.set_cons_succ]
    refine wpAnyH_take (i := 23) (oi := { dst := some 76, op := Op.binOp BinOp.eql 2 (Operand.tmp 74) (Operand.tmp 75) 2, type := 4, pos := "law.go:38", after := #[{ on := 21, ground := Ground.data }, { on := 22, ground := Ground.data }, { on := 20, ground := Ground.guard }], guard := some (20, true) }) (v := ?vv46_6_23) rfl (by kernel_rfl) (by kernel_rfl) (by kernel_rfl) (fun _ _ _ h => h) (Or.inl ⟨by rfl, ?yy46_6_23⟩) hHeld ?_
    case yy46_6_23 => (intro W hx; go_simp; try with_reducible rfl)
    simp only [Act.put, List.setIfInBounds_toArray, List.set_cons_zero, List.set_cons_succ]
    refine wpAnyH_take (i := 24) (oi := { dst := some 77, op := Op.pick (Operand.tmp 73) (Operand.tmp 76) (Operand.const (Value.bool false)), type := 4, pos := "law.go:38", after := #[{ on := 20, ground := Ground.data }, { on := 23, ground := Ground.data }], guard := none }) (v := ?vv47_6_24) rfl (by kernel_rfl) (by kernel_rfl) (by kernel_rfl) (fun _ _ _ h => h) (Or.inl ⟨by rfl, ?yy47_6_24⟩) hHeld ?_
    case yy47_6_24 => (intro W hx; go_simp; try with_reducible rfl)
    simp only [Act.put, List.setIfInBounds_toArray, List.set_cons_zero, List.set_cons_succ]
    refine wpAnyH_take (i := 25) (oi := { dst := some 78, op := Op.move (Operand.tmp 77), type := 4, pos := "law.go:38", after := #[{ on := 24, ground := Ground.data }, { on := 20, ground := Ground.chain }], guard := none }) (v := ?vv48_6_25) rfl (by kernel_rfl) (by kernel_rfl) (by kernel_rfl) (fun _ _ _ h => h) (Or.inl ⟨by rfl, ?yy48_6_25⟩) hHeld ?_
    case yy48_6_25 => (intro W hx; go_simp; try with_reducible rfl)
    simp only [Act.put, List.setIfInBounds_toArray, List.set_cons_zero, List.set_cons_succ]
    refine wpAnyH_take (i := 26) (oi := { dst := some 79, op := Op.move (Operand.tmp 13), type := 28, pos := "law.go:38", after := #[{ on := 25, ground := Ground.guard }], guard := some (25, true) }) (v := ?vv49_6_26) rfl (by kernel_rfl) (by kernel_rfl) (by kernel_rfl) (fun _ _ _ h => h) (Or.inl ⟨by rfl, ?yy49_6_26⟩) hHeld ?_
    case yy49_6_26 => (intro W hx; go_simp; try with_reducible rfl)
    simp only [Act.put, List.setIfInBounds_toArray, List.set_cons_zero, List.set_cons_succ]
    refine wpAnyH_take (i := 27) (oi := { dst := some 80, op := Op.move (Operand.tmp 15), type := 28, pos := "law.go:38", after := #[{ on := 25, ground := Ground.guard }], guard := some (25, true) }) (v := ?vv50_6_27) rfl (by kernel_rfl) (by kernel_rfl) (by kernel_rfl) (fun _ _ _ h => h) (Or.inl ⟨by rfl, ?yy50_6_27⟩) hHeld ?_
    case yy50_6_27 => (intro W hx; go_simp; try with_reducible rfl)
    simp only [Act.put, List.setIfInBounds_toArray, List.set_cons_zero, List.set_cons_succ]
    refine wpAnyH_take (i := 28) (oi := { dst := some 81, op := Op.binOp BinOp.eql 28 (Operand.tmp 79) (Operand.tmp 80) 28, type := 4, pos := "law.go:38", after := #[{ on := 26, ground := Ground.data }, { on := 27, ground := Ground.data }, { on := 25, ground := Ground.guard }], guard := some (25, true) }) (v := ?vv51_6_28) rfl (by kernel_rfl) (by kernel_rfl) (by kernel_rfl) (fun _ _ _ h => h) (Or.inl ⟨by rfl, ?yy51_6_28⟩) hHeld ?_
    case yy51_6_28 => (intro W hx; go_simp; try with_reducible rfl)
    simp only [Act.put, List.setIfInBounds_toArray, List.set_cons_zero, List.set_cons_succ]
    refine wpAnyH_take (i := 29) (oi := { dst := some 82, op := Op.pick (Operand.tmp 78) (Operand.tmp 81) (Operand.const (Value.bool false)), type := 4, pos := "law.go:38", after := #[{ on := 25, ground := Ground.data }, { on := 28, ground := Ground.data }], guard := none }) (v := ?vv52_6_29) rfl (by kernel_rfl) (by kernel_rfl) (by kernel_rfl) (fun _ _ _ h => h) (Or.inl ⟨by rfl, ?yy52_6_29⟩) hHeld ?_
    case yy52_6_29 => (intro W hx; go_simp; try with_reducible rfl)
    simp only [Act.put, List.setIfInBounds_toArray, List.set_cons_zero, List.set_cons_succ]
    refine wpAnyH_take (i := 30) (oi := { dst := some 6, op := Op.assign (Operand.tmp 82), type := 4, pos := "law.go:38", after := #[{ on := 29, ground := Ground.data }, { on := 25, ground := Ground.chain }, { on := 0, ground := Ground.phase }, { on := 1, ground := Ground.phase }, { on := 2, ground := Ground.phase }, { on := 3, ground := Ground.phase }, { on := 4, ground := Ground.phase }, { on := 5, ground := Ground.phase }, { on := 6, ground := Ground.phase }, { on := 7, ground := Ground.phase }, { on := 8, ground := Ground.phase }, { on := 9, ground := Ground.phase }, { on := 10, ground := Ground.phase }, { on := 11, ground := Ground.phase }, { on := 12, ground := Ground.phase }, { on := 13, ground := Ground.phase }, { on := 14, ground := Ground.phase }, { on := 15, ground := Ground.phase }, { on := 16, ground := Ground.phase }, { on := 17, ground := Ground.phase }, { on := 18, ground := Ground.phase }, { on := 19, ground := Ground.phase }, { on := 20, ground := Ground.phase }, { on := 21, ground := Ground.phase }, { on := 22, ground := Ground.phase }, { on := 23, ground := Ground.phase }, { on := 24, ground := Ground.phase }, { on := 25, ground := Ground.phase }, { on := 26, ground := Ground.phase }, { on := 27, ground := Ground.phase }, { on := 28, ground := Ground.phase }, { on := 29, ground := Ground.phase }], guard := none }) (v := ?vv53_6_30) rfl (by kernel_rfl) (by kernel_rfl) (by kernel_rfl) (fun _ _ _ h => h) (Or.inl ⟨by rfl, ?yy53_6_30⟩) hHeld ?_
    case yy53_6_30 => (intro W hx; go_simp; try with_reducible rfl)
    simp only [Act.put, List.setIfInBounds_toArray, List.set_cons_zero, List.set_cons_succ]
    refine wpAnyH_done (by kernel_rfl) ?_ _
    have zend := zz3.trans hHeld
    go_wp2
    go_ret
    exact ⟨by simp, xc.trans zend⟩
end Go.Proofs.Ytpjficfmmfdbjaa
