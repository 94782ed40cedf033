import Derived.Test.YtnfipfgbckbaeaaJ
set_option linter.unusedVariables false
namespace Go.Proofs.Ytnfipfgbckbaeaa
open Go.RowKit
theorem al_ex {c : Int} {r : List Int} (he : errOf (c :: r) = none) : ∃ a0 a1 a2 a3 a4, al5 c r = [a0, a1, a2, a3, a4] := list5 (by
  have h := he
  rw [errOf_cons] at h
  by_cases h2 : r.length < sm c
  · rw [if_pos h2] at h; split at h <;> cases h
  · exact al5_len c r (by omega))
theorem err_ne {bs : List Int} {er : Int} (h : errOf bs = some er) : (er != 0) = true := by
  have : er = 5 ∨ er = 1 := by
    cases bs with
    | nil => injection h with h; omega
    | cons c r =>
      rw [errOf_cons] at h
      by_cases h1 : (!ok c) = true
      · rw [if_pos h1] at h; injection h with h; omega
      · rw [if_neg h1] at h
        by_cases h2 : r.length < sm c
        · rw [if_pos h2] at h; injection h with h; omega
        · rw [if_neg h2] at h
          by_cases h3 : (gr c && decide ((r.drop (sm c)).length < 4)) = true
          · rw [if_pos h3] at h; injection h with h; omega
          · rw [if_neg h3] at h
            by_cases h4 : (r3 c r).length < nn c r
            · rw [if_pos h4] at h; injection h with h; omega
            · rw [if_neg h4] at h; cases h
  rcases this with rfl | rfl <;> rfl
theorem wOf_bd (c : Int) {r : List Int} (hb : Byts r) : 0 ≤ wOf c r ∧ wOf c r < 4294967296 := by
  unfold wOf
  split
  · exact take32 fun b hb' => hb b (List.mem_of_mem_drop hb')
  · omega
set_option maxHeartbeats 1000000 in
theorem CmdOnce_law (w : World) (A : Option Addr) (n cp : Nat) (bs : List Int) (hr : Rd w A n bs) (hnc : n ≤ cp) (hc : cp ≤ maxLen) :
    Calls Try.prog 6 #[.slice A n cp] w fun e w' => e = .returned (.bool true) ∧ Ext w w' := by
  have hr' := hr.take (k := min n 20) (by omega)
  have hm20 : min n 20 ≤ 100 := by omega
  have hmc : min n 20 ≤ cp := by omega
  have hnc' : (n : Int) ≤ cp := by omega
  have hc' := hc
  unfold maxLen at hc'
  go_enter Try.func6, Try.ntmps6
  go_upto_region 2 with (go_at_call 13; (with_reducible refine (shown_any _).mono ?_); rintro e w0 ⟨rfl, x0⟩)
  go_cut [4] (fun v4 wr => v4 = .slice A (min n 20) cp ∧ w0 = wr)
  case first =>
    by_cases h20 : (20 : Int) < n
    · have hv : min n 20 = 20 := by omega
      have HV := Lib.hid hv; clear hv
      go_wp2
      go_meet
      case rel => exact ⟨by rw [HV.out], rfl⟩
    · have hv : min n 20 = n := by omega
      have HV := Lib.hid hv; clear hv
      go_wp2
      go_meet
      case rel => exact ⟨by rw [HV.out], rfl⟩
  case rest =>
    obtain ⟨rfl, rfl⟩ := hcut
    generalize bs.take (min n 20) = xs at *
    generalize min n 20 = m at *
    rcases he : errOf xs with _ | er
    · obtain ⟨c, r, rfl⟩ := errOf_byts he
      obtain ⟨c0, c1⟩ := hr'.byts c (by simp)
      have hbr : Byts r := fun b hb => hr'.byts b (by simp [hb])
      have hlm : r.length + 1 = m := by simpa using hr'.len
      obtain ⟨a0, a1, a2, a3, a4, hal⟩ := al_ex he
      obtain ⟨hbd, hle, hpl⟩ := take_put hbr he
      obtain ⟨W0, W1⟩ := wOf_bd c hbr
      have hba := al5_byts c hbr
      have hnn := nbC_le c ((al5 c r).getD 0 0)
      have hpn := putN_le hbd c0
      rw [hal] at hba hbd hpl
      have hnn' : nn c r ≤ 7 := hnn
      have HE := Lib.hid he
      have HA := Lib.hid hal
      have HB := Lib.hid hbd
      have HP := Lib.hid hpl
      clear he hal hbd hpl hnn
      go_upto_region 7 with (first
        | (go_at_call 14; (with_reducible refine (take_ok _ _ _ _ _ _ _ _ _ _ _ (hr'.ext x0) hmc hc hm20 HE.out HA.out).mono ?_); rintro e w1 ⟨A1, c1', rfl, _, _, x1, r1⟩)
        | (go_at_call 8; (with_reducible refine (put_good _ _ _ _ _ _ _ _ _ _ _ _ c0 c1 hba W0 W1 (r1.ext ((Ext.refl _).alloc _)) (by omega) HB.out).mono ?_); rintro e w2 ⟨A2, c2, rfl, l2, m2, x2, r2⟩))
      have v2 := x0.trans ((x1.alloc _).trans x2)
      have hle1 : (putN c (nn c r) : Int) ≤ m := by omega
      have hle2 : (putN c (nn c r) : Int) ≤ cp := by omega
      have n0 : (0 : Int) ≤ putN c (nn c r) := by omega
      rw [HP.out] at r2
      have rt := (hr'.ext v2).take (k := putN c (nn c r)) (by omega)
      generalize putN c (nn c r) = N at *
      refine wp_region_held_drew (S := Ext w2) (by kernel_rfl) ((Ext.refl _).drew) (fun hHeld => ?_)
      obtain ⟨wD1, hwD⟩ : ∃ V, V = World.drew w2 := ⟨_, rfl⟩
      rw [← hwD]
      clear hHeld
      have zz0 : Ext w2 wD1 := by rw [hwD]; exact (Ext.refl _).drew
      clear hwD
      refine wpAnyH_imp (S' := Ext wD1) (fun W h => Ext.trans zz0 h) _ _ _ _ ?_
      have hHeld := Ext.refl wD1
      refine wpAnyH_take (i := 0) (oi := { dst := some 43, op := Op.move (Operand.tmp 3), type := 4, pos := "law.go:64", after := #[], guard := none }) (v := ?vv2_7_0) rfl (by kernel_rfl) (by kernel_rfl) (by kernel_rfl) (fun _ _ _ h => h) (Or.inl ⟨by rfl, ?yy2_7_0⟩) hHeld ?_
      case yy2_7_0 => (intro W hx; go_simp; try with_reducible rfl)
      simp only [Act.put, List.setIfInBounds_toArray, List.set_cons_zero, List.set_cons_succ]
      refine wpAnyH_take (i := 1) (oi := { dst := some 44, op := Op.move (Operand.tmp 43), type := 4, pos := "law.go:64", after := #[{ on := 0, ground := Ground.data }], guard := none }) (v := ?vv3_7_1) rfl (by kernel_rfl) (by kernel_rfl) (by kernel_rfl) (fun _ _ _ h => h) (Or.inl ⟨by rfl, ?yy3_7_1⟩) hHeld ?_
      case yy3_7_1 => (intro W hx; go_simp; try with_reducible rfl)
      simp only [Act.put, List.setIfInBounds_toArray, List.set_cons_zero, List.set_cons_succ]
      refine wpAnyH_take (i := 2) (oi := { dst := some 45, op := Op.move (Operand.tmp 8), type := 27, pos := "law.go:64", after := #[{ on := 1, ground := Ground.guard }], guard := some (1, true) }) (v := ?vv4_7_2) rfl (by kernel_rfl) (by kernel_rfl) (by kernel_rfl) (fun _ _ _ h => h) (Or.inl ⟨by rfl, ?yy4_7_2⟩) hHeld ?_
      case yy4_7_2 => (intro W hx; go_simp; try with_reducible rfl)
      simp only [Act.put, List.setIfInBounds_toArray, List.set_cons_zero, List.set_cons_succ]
      refine wpAnyH_take (i := 3) (oi := { dst := some 46, op := Op.binOp BinOp.eql 27 (Operand.tmp 45) (Operand.const (Value.int IntKind.i64 0)) 27, type := 4, pos := "law.go:64", after := #[{ on := 2, ground := Ground.data }, { on := 1, ground := Ground.guard }], guard := some (1, true) }) (v := ?vv5_7_3) rfl (by kernel_rfl) (by kernel_rfl) (by kernel_rfl) (fun _ _ _ h => h) (Or.inl ⟨by rfl, ?yy5_7_3⟩) hHeld ?_
      case yy5_7_3 => (intro W hx; go_simp; try with_reducible rfl)
      simp only [Act.put, List.setIfInBounds_toArray, List.set_cons_zero, List.set_cons_succ]
      refine wpAnyH_take (i := 4) (oi := { dst := some 47, op := Op.pick (Operand.tmp 44) (Operand.tmp 46) (Operand.const (Value.bool false)), type := 4, pos := "law.go:64", after := #[{ on := 1, ground := Ground.data }, { on := 3, ground := Ground.data }], guard := none }) (v := ?vv6_7_4) rfl (by kernel_rfl) (by kernel_rfl) (by kernel_rfl) (fun _ _ _ h => h) (Or.inl ⟨by rfl, ?yy6_7_4⟩) hHeld ?_
      case yy6_7_4 => (intro W hx; go_simp; try with_reducible rfl)
      simp only [Act.put, List.setIfInBounds_toArray, List.set_cons_zero, List.set_cons_succ]
      refine wpAnyH_take (i := 5) (oi := { dst := some 48, op := Op.move (Operand.tmp 47), type := 4, pos := "law.go:64", after := #[{ on := 4, ground := Ground.data }, { on := 1, ground := Ground.chain }], guard := none }) (v := ?vv7_7_5) rfl (by kernel_rfl) (by kernel_rfl) (by kernel_rfl) (fun _ _ _ h => h) (Or.inl ⟨by rfl, ?yy7_7_5⟩) hHeld ?_
      case yy7_7_5 => (intro W hx; go_simp; try with_reducible rfl)
      simp only [Act.put, List.setIfInBounds_toArray, List.set_cons_zero, List.set_cons_succ]
      refine wpAnyH_take (i := 6) (oi := { dst := some 49, op := Op.move (Operand.tmp 7), type := 24, pos := "law.go:64", after := #[{ on := 5, ground := Ground.guard }], guard := some (5, true) }) (v := ?vv8_7_6) rfl (by kernel_rfl) (by kernel_rfl) (by kernel_rfl) (fun _ _ _ h => h) (Or.inl ⟨by rfl, ?yy8_7_6⟩) hHeld ?_
      case yy8_7_6 => (intro W hx; go_simp; try with_reducible rfl)
      simp only [Act.put, List.setIfInBounds_toArray, List.set_cons_zero, List.set_cons_succ]
      refine wpAnyH_take (i := 7) (oi := { dst := some 50, op := Op.call { callee := Callee.builtin Builtin.len, args := #[Operand.tmp 49], argTypes := #[24] }, type := 3, pos := "law.go:64", after := #[{ on := 6, ground := Ground.data }, { on := 5, ground := Ground.guard }], guard := some (5, true) }) (v := ?vv9_7_7) rfl (by kernel_rfl) (by kernel_rfl) (by kernel_rfl) (fun _ _ _ h => h) (Or.inl ⟨by rfl, ?yy9_7_7⟩) hHeld ?_
      case yy9_7_7 => (intro W hx; go_simp; try with_reducible rfl)
      simp only [Act.put, List.setIfInBounds_toArray, List.set_cons_zero, List.set_cons_succ]
      refine wpAnyH_take (i := 8) (oi := { dst := some 51, op := Op.move (Operand.tmp 4), type := 24, pos := "law.go:64", after := #[{ on := 5, ground := Ground.guard }], guard := some (5, true) }) (v := ?vv10_7_8) rfl (by kernel_rfl) (by kernel_rfl) (by kernel_rfl) (fun _ _ _ h => h) (Or.inl ⟨by rfl, ?yy10_7_8⟩) hHeld ?_
      case yy10_7_8 => (intro W hx; go_simp; try with_reducible rfl)
      simp only [Act.put, List.setIfInBounds_toArray, List.set_cons_zero, List.set_cons_succ]
      refine wpAnyH_take (i := 9) (oi := { dst := some 52, op := Op.call { callee := Callee.builtin Builtin.len, args := #[Operand.tmp 51], argTypes := #[24] }, type := 3, pos := "law.go:64", after := #[{ on := 8, ground := Ground.data }, { on := 5, ground := Ground.guard }], guard := some (5, true) }) (v := ?vv11_7_9) rfl (by kernel_rfl) (by kernel_rfl) (by kernel_rfl) (fun _ _ _ h => h) (Or.inl ⟨by rfl, ?yy11_7_9⟩) hHeld ?_
      case yy11_7_9 => (intro W hx; go_simp; try with_reducible rfl)
      simp only [Act.put, List.setIfInBounds_toArray, List.set_cons_zero, List.set_cons_succ]
      refine wpAnyH_take (i := 10) (oi := { dst := some 53, op := Op.binOp BinOp.leq 3 (Operand.tmp 50) (Operand.tmp 52) 3, type := 4, pos := "law.go:64", after := #[{ on := 7, ground := Ground.data }, { on := 9, ground := Ground.data }, { on := 5, ground := Ground.guard }], guard := some (5, true) }) (v := ?vv12_7_10) rfl (by kernel_rfl) (by kernel_rfl) (by kernel_rfl) (fun _ _ _ h => h) (Or.inl ⟨by rfl, ?yy12_7_10⟩) hHeld ?_
      case yy12_7_10 => (intro W hx; go_simp; try with_reducible rfl)
      simp only [Act.put, List.setIfInBounds_toArray, List.set_cons_zero, List.set_cons_succ]
      refine wpAnyH_take (i := 11) (oi := { dst := some 54, op := Op.pick (Operand.tmp 48) (Operand.tmp 53) (Operand.const (Value.bool false)), type := 4, pos := "law.go:64", after := #[{ on := 5, ground := Ground.data }, { on := 10, ground := Ground.data }], guard := none }) (v := ?vv13_7_11) rfl (by kernel_rfl) (by kernel_rfl) (by kernel_rfl) (fun _ _ _ h => h) (Or.inl ⟨by rfl, ?yy13_7_11⟩) hHeld ?_
      case yy13_7_11 => (intro W hx; go_simp; try with_reducible rfl)
      simp only [Act.put, List.setIfInBounds_toArray, List.set_cons_zero, List.set_cons_succ]
      refine wpAnyH_take (i := 12) (oi := { dst := some 55, op := Op.move (Operand.tmp 54), type := 4, pos := "law.go:64", after := #[{ on := 11, ground := Ground.data }, { on := 5, ground := Ground.chain }], guard := none }) (v := ?vv14_7_12) rfl (by kernel_rfl) (by kernel_rfl) (by kernel_rfl) (fun _ _ _ h => h) (Or.inl ⟨by rfl, ?yy14_7_12⟩) hHeld ?_
      case yy14_7_12 => (intro W hx; go_simp; try with_reducible rfl)
      simp only [Act.put, List.setIfInBounds_toArray, List.set_cons_zero, List.set_cons_succ]
      refine wpAnyH_take (i := 13) (oi := { dst := some 56, op := Op.move (Operand.tmp 4), type := 24, pos := "law.go:64", after := #[{ on := 12, ground := Ground.guard }], guard := some (12, true) }) (v := ?vv15_7_13) rfl (by kernel_rfl) (by kernel_rfl) (by kernel_rfl) (fun _ _ _ h => h) (Or.inl ⟨by rfl, ?yy15_7_13⟩) hHeld ?_
      case yy15_7_13 => (intro W hx; go_simp; try with_reducible rfl)
      simp only [Act.put, List.setIfInBounds_toArray, List.set_cons_zero, List.set_cons_succ]
      refine wpAnyH_take (i := 14) (oi := { dst := some 57, op := Op.move (Operand.tmp 7), type := 24, pos := "law.go:64", after := #[{ on := 12, ground := Ground.guard }], guard := some (12, true) }) (v := ?vv16_7_14) rfl (by kernel_rfl) (by kernel_rfl) (by kernel_rfl) (fun _ _ _ h => h) (Or.inl ⟨by rfl, ?yy16_7_14⟩) hHeld ?_
      case yy16_7_14 => (intro W hx; go_simp; try with_reducible rfl)
      simp only [Act.put, List.setIfInBounds_toArray, List.set_cons_zero, List.set_cons_succ]
      refine wpAnyH_take (i := 15) (oi := { dst := some 58, op := Op.call { callee := Callee.builtin Builtin.len, args := #[Operand.tmp 57], argTypes := #[24] }, type := 3, pos := "law.go:64", after := #[{ on := 14, ground := Ground.data }, { on := 12, ground := Ground.guard }], guard := some (12, true) }) (v := ?vv17_7_15) rfl (by kernel_rfl) (by kernel_rfl) (by kernel_rfl) (fun _ _ _ h => h) (Or.inl ⟨by rfl, ?yy17_7_15⟩) hHeld ?_
      case yy17_7_15 => (intro W hx; go_simp; try with_reducible rfl)
      simp only [Act.put, List.setIfInBounds_toArray, List.set_cons_zero, List.set_cons_succ]
      refine wpAnyH_take (i := 16) (oi := { dst := some 59, op := Op.slice 24 (Operand.tmp 56) none (some (Operand.tmp 58)) none, type := 24, pos := "law.go:64", after := #[{ on := 13, ground := Ground.data }, { on := 15, ground := Ground.data }, { on := 12, ground := Ground.guard }], guard := some (12, true) }) (v := ?vv18_7_16) rfl (by kernel_rfl) (by kernel_rfl) (by kernel_rfl) (fun _ _ _ h => h) (Or.inl ⟨by rfl, ?yy18_7_16⟩) hHeld ?_
      case yy18_7_16 => (intro W hx; go_simp; try with_reducible rfl)
      simp only [Act.put, List.setIfInBounds_toArray, List.set_cons_zero, List.set_cons_succ]
      refine wpAnyH_take (i := 17) (oi := { dst := some 60, op := Op.convert 24 9 (Operand.tmp 59), type := 9, pos := "law.go:64", after := #[{ on := 16, ground := Ground.data }, { on := 12, ground := Ground.guard }], guard := some (12, true) }) (v := ?vv19_7_17) rfl (by kernel_rfl) (by kernel_rfl) (by kernel_rfl) (fun _ _ _ h => h) (Or.inl ⟨by rfl, ?yy19_7_17⟩) hHeld ?_
      case yy19_7_17 => (intro W hx; have hz := zz0.trans hx; have hs := str (c := cp) (rt.ext hz); go_simp; try with_reducible rfl)
      simp only [Act.put, List.setIfInBounds_toArray, List.set_cons_zero, List.set_cons_succ]
      refine wpAnyH_take (i := 18) (oi := { dst := some 61, op := Op.move (Operand.tmp 7), type := 24, pos := "law.go:64", after := #[{ on := 12, ground := Ground.guard }], guard := some (12, true) }) (v := ?vv20_7_18) rfl (by kernel_rfl) (by kernel_rfl) (by kernel_rfl) (fun _ _ _ h => h) (Or.inl ⟨by rfl, ?yy20_7_18⟩) hHeld ?_
      case yy20_7_18 => (intro W hx; go_simp; try with_reducible rfl)
      simp only [Act.put, List.setIfInBounds_toArray, List.set_cons_zero, List.set_cons_succ]
      refine wpAnyH_take (i := 19) (oi := { dst := some 62, op := Op.convert 24 9 (Operand.tmp 61), type := 9, pos := "law.go:64", after := #[{ on := 18, ground := Ground.data }, { on := 12, ground := Ground.guard }], guard := some (12, true) }) (v := ?vv21_7_19) rfl (by kernel_rfl) (by kernel_rfl) (by kernel_rfl) (fun _ _ _ h => h) (Or.inl ⟨by rfl, ?yy21_7_19⟩) hHeld ?_
      case yy21_7_19 => (intro W hx; have hz := zz0.trans hx; have hs := str (c := c2) (r2.ext hz); go_simp; try with_reducible rfl)
      simp only [Act.put, List.setIfInBounds_toArray, List.set_cons_zero, List.set_cons_succ]
      refine wpAnyH_take (i := 20) (oi := { dst := some 63, op := Op.binOp BinOp.eql 9 (Operand.tmp 60) (Operand.tmp 62) 9, type := 4, pos := "law.go:64", after := #[{ on := 17, ground := Ground.data }, { on := 19, ground := Ground.data }, { on := 12, ground := Ground.guard }], guard := some (12, true) }) (v := ?vv22_7_20) rfl (by kernel_rfl) (by kernel_rfl) (by kernel_rfl) (fun _ _ _ h => h) (Or.inl ⟨by rfl, ?yy22_7_20⟩) hHeld ?_
      case yy22_7_20 => (intro W hx; go_simp; try with_reducible rfl)
      simp only [Act.put, List.setIfInBounds_toArray, List.set_cons_zero, List.set_cons_succ]
      refine wpAnyH_take (i := 21) (oi := { dst := some 64, op := Op.pick (Operand.tmp 55) (Operand.tmp 63) (Operand.const (Value.bool false)), type := 4, pos := "law.go:64", after := #[{ on := 12, ground := Ground.data }, { on := 20, ground := Ground.data }], guard := none }) (v := ?vv23_7_21) rfl (by kernel_rfl) (by kernel_rfl) (by kernel_rfl) (fun _ _ _ h => h) (Or.inl ⟨by rfl, ?yy23_7_21⟩) hHeld ?_
      case yy23_7_21 => (intro W hx; go_simp; try with_reducible rfl)
      simp only [Act.put, List.setIfInBounds_toArray, List.set_cons_zero, List.set_cons_succ]
      refine wpAnyH_take (i := 22) (oi := { dst := some 2, op := Op.assign (Operand.tmp 64), type := 4, pos := "law.go:64", after := #[{ on := 21, ground := Ground.data }, { on := 12, ground := Ground.chain }, { on := 0, ground := Ground.phase }, { on := 1, ground := Ground.phase }, { on := 2, ground := Ground.phase }, { on := 3, ground := Ground.phase }, { on := 4, ground := Ground.phase }, { on := 5, ground := Ground.phase }, { on := 6, ground := Ground.phase }, { on := 7, ground := Ground.phase }, { on := 8, ground := Ground.phase }, { on := 9, ground := Ground.phase }, { on := 10, ground := Ground.phase }, { on := 11, ground := Ground.phase }, { on := 12, ground := Ground.phase }, { on := 13, ground := Ground.phase }, { on := 14, ground := Ground.phase }, { on := 15, ground := Ground.phase }, { on := 16, ground := Ground.phase }, { on := 17, ground := Ground.phase }, { on := 18, ground := Ground.phase }, { on := 19, ground := Ground.phase }, { on := 20, ground := Ground.phase }, { on := 21, ground := Ground.phase }], guard := none }) (v := ?vv24_7_22) rfl (by kernel_rfl) (by kernel_rfl) (by kernel_rfl) (fun _ _ _ h => h) (Or.inl ⟨by rfl, ?yy24_7_22⟩) hHeld ?_
      case yy24_7_22 => (intro W hx; go_simp; try with_reducible rfl)
      simp only [Act.put, List.setIfInBounds_toArray, List.set_cons_zero, List.set_cons_succ]
      refine wpAnyH_done (by kernel_rfl) ?_ _
      have zend := zz0.trans hHeld
      go_wp2
      go_ret
      exact ⟨by simp, v2.trans zend⟩
    · have HE := Lib.hid he
      clear he
      have hbz : badC 0 [0, 0, 0, 0, 0] 0 0 = true := by decide
      have hz0 : Byts [0, 0, 0, 0, 0] := by intro b hb; simp at hb; omega
      have hne := err_ne HE.out
      go_wp2_with (first
        | (go_at_call 14; (with_reducible refine (take_err _ _ _ _ _ _ (hr'.ext x0) hmc hc hm20 HE.out).mono ?_); rintro e w1 ⟨rfl, x1⟩)
        | (go_at_call 8; (with_reducible refine (put_bad 0 0 0 0 0 0 0 none 0 0 [] _ (by omega) (by omega) hz0 (by omega) (by omega) Rd.nil (by omega) hbz).mono ?_); rintro e w2 ⟨rfl, x2⟩; obtain ⟨f0, f1, f2, f3, f4, f5, f6, f7⟩ := cells8 (blk_of x2)))
      go_ret
      exact ⟨by simp, x0.trans ((x1.alloc _).trans x2)⟩
end Go.Proofs.Ytnfipfgbckbaeaa
