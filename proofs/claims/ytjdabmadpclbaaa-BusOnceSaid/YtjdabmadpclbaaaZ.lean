import Derived.Test.YtjdabmadpclbaaaY
set_option linter.unusedVariables false
set_option linter.unusedSimpArgs false
namespace Go.Proofs.Ytjdabmadpclbaaa
open Go.RowKit
def dif (m a b : Int) (j : Nat) : Bool := (m / 2 ^ j).tmod 2 == 1 && (a / 2 ^ j).tmod 2 != (b / 2 ^ j).tmod 2
theorem bit_eq (x : Nat) (j : Nat) : ((x : Int) / 2 ^ j).tmod 2 = ((x / 2 ^ j % 2 : Nat) : Int) := by
  have h : ((2 : Int) ^ j) = ((2 ^ j : Nat) : Int) := by simp
  rw [h, ← Int.natCast_ediv, Int.tmod_eq_emod_of_nonneg (Int.natCast_nonneg (x / 2 ^ j))]
  omega
theorem dif_eq (m a b : Nat) (j : Nat) : dif m a b j = ((a ^^^ b) &&& m).testBit j := by
  unfold dif
  rw [bit_eq, bit_eq, bit_eq, Nat.testBit_and, Nat.testBit_xor]
  simp only [Nat.testBit_eq_decide_div_mod_eq]
  have h1 : m / 2 ^ j % 2 = 0 ∨ m / 2 ^ j % 2 = 1 := by omega
  have h2 : a / 2 ^ j % 2 = 0 ∨ a / 2 ^ j % 2 = 1 := by omega
  have h3 : b / 2 ^ j % 2 = 0 ∨ b / 2 ^ j % 2 = 1 := by omega
  rcases h1 with h1 | h1 <;> rcases h2 with h2 | h2 <;> rcases h3 with h3 | h3 <;> simp [h1, h2, h3]
theorem dif_step {m a b : Int} {k : Nat} (h : ∀ j, j < k → dif m a b j = false) (hk : dif m a b k = false) : ∀ j, j < k + 1 → dif m a b j = false := fun j hj => by
  rcases Nat.lt_or_ge j k with g | g
  · exact h j g
  · obtain rfl : j = k := by omega
    exact hk
theorem same_val (m a b : Int) (hm : 0 ≤ m ∧ m < 4294967296) (ha : 0 ≤ a ∧ a < 4294967296) (hb : 0 ≤ b ∧ b < 4294967296) : bits .and .u32 (bits .xor .u32 a b) m = (((a.toNat ^^^ b.toNat) &&& m.toNat : Nat) : Int) := by
  have h1 := xor_bd a b ha hb
  rw [u32_and _ m h1.1 h1.2 hm.1 hm.2, u32_xor a b ha.1 ha.2 hb.1 hb.2, Int.toNat_natCast]
theorem same_no (m a b : Int) (hm : 0 ≤ m ∧ m < 4294967296) (ha : 0 ≤ a ∧ a < 4294967296) (hb : 0 ≤ b ∧ b < 4294967296) (k : Nat) (h : dif m a b k = true) : (bits .and .u32 (bits .xor .u32 a b) m == 0) = false := by
  rw [same_val m a b hm ha hb]
  have e := dif_eq m.toNat a.toNat b.toNat k
  rw [Int.toNat_of_nonneg hm.1, Int.toNat_of_nonneg ha.1, Int.toNat_of_nonneg hb.1, h] at e
  have : ((a.toNat ^^^ b.toNat) &&& m.toNat) ≠ 0 := fun h0 => by rw [h0] at e; simp at e
  simp; omega
theorem same_yes (m a b : Int) (hm : 0 ≤ m ∧ m < 4294967296) (ha : 0 ≤ a ∧ a < 4294967296) (hb : 0 ≤ b ∧ b < 4294967296) (h : ∀ j, j < 32 → dif m a b j = false) : (bits .and .u32 (bits .xor .u32 a b) m == 0) = true := by
  rw [same_val m a b hm ha hb]
  have : ((a.toNat ^^^ b.toNat) &&& m.toNat) = 0 := by
    apply Nat.eq_of_testBit_eq
    intro j
    rw [Nat.zero_testBit]
    rcases Nat.lt_or_ge j 32 with g | g
    · rw [← dif_eq, Int.toNat_of_nonneg hm.1, Int.toNat_of_nonneg ha.1, Int.toNat_of_nonneg hb.1]
      exact h j g
    · rw [Nat.testBit_and, Nat.testBit_lt_two_pow (x := m.toNat) (i := j) (Nat.lt_of_lt_of_le (show m.toNat < 2 ^ 32 by omega) (Nat.pow_le_pow_right (by omega) g))]
      simp
  rw [this]; simp
set_option maxHeartbeats 2000000 in
theorem same_any (m a b : Int) (w : World) (hm : 0 ≤ m ∧ m < 4294967296) (ha : 0 ≤ a ∧ a < 4294967296) (hb : 0 ≤ b ∧ b < 4294967296) : Calls Try.prog 44 #[.int .u32 m, .int .u32 a, .int .u32 b] w fun e w' => e = .returned (.bool (bits .and .u32 (bits .xor .u32 a b) m == 0)) ∧ Ext w w' := by
  have HNO := Lib.hid (same_no m a b hm ha hb)
  have HYES := Lib.hid (same_yes m a b hm ha hb)
  generalize (bits .and .u32 (bits .xor .u32 a b) m == 0) = res at HNO HYES
  go_enter Try.func44, Try.ntmps44
  go_wp2
  go_loopw [7] (fun i wr => ∃ k : Nat, i = .int .i64 k ∧ k ≤ 32 ∧ (∀ j, j < k → dif m a b j = false) ∧ Ext w wr) (fun i _ => 32 - (intOf i).toNat)
  case atStart => exact ⟨0, rfl, by omega, fun j h => by omega, Ext.refl _⟩
  case round =>
    obtain ⟨k, rfl, hk, hd, x⟩ := hrel
    have HD := Lib.hid hd
    clear hd
    by_cases hlt : k < 32
    · have hkl : (k : Int) < 32 := by omega
      have hk0 : (0 : Int) ≤ k := by omega
      have hk1 : ¬ ((k : Int) < 0) := by omega
      rcases h1 : ((m / 2 ^ k).tmod 2 == 1) with _ | _
      · have hdf : Hid (dif m a b k = false) := Lib.hid (by rw [dif, h1]; rfl)
        go_upto_region 4 with (fail)
        refine wp_region_held_drew (S := Ext wr) (by kernel_rfl) ((Ext.refl _).drew) (fun hHeld => ?_)
        obtain ⟨wD1, hwD⟩ : ∃ V, V = World.drew wr := ⟨_, rfl⟩
        rw [← hwD]
        clear hHeld
        have zz0 : Ext wr wD1 := by rw [hwD]; exact (Ext.refl _).drew
        clear hwD
        refine wpAnyH_imp (S' := Ext wD1) (fun W h => Ext.trans zz0 h) _ _ _ _ ?_
        have hHeld := Ext.refl wD1
        refine wpAnyH_take (i := 0) (oi := { dst := some 12, op := Op.move (Operand.tmp 0), type := 31, pos := "ref.go:67", after := #[], guard := none }) (v := ?vv2_4_0) rfl (by kernel_rfl) (by kernel_rfl) (by kernel_rfl) (fun _ _ _ h => h) (Or.inl ⟨by rfl, ?yy2_4_0⟩) hHeld ?_
        case yy2_4_0 => (intro W hx; go_simp; try with_reducible rfl)
        simp only [Act.put, List.setIfInBounds_toArray, List.set_cons_zero, List.set_cons_succ]
        refine wpAnyH_take (i := 1) (oi := { dst := some 13, op := Op.move (Operand.tmp 7), type := 3, pos := "ref.go:67", after := #[], guard := none }) (v := ?vv3_4_1) rfl (by kernel_rfl) (by kernel_rfl) (by kernel_rfl) (fun _ _ _ h => h) (Or.inl ⟨by rfl, ?yy3_4_1⟩) hHeld ?_
        case yy3_4_1 => (intro W hx; go_simp; try with_reducible rfl)
        simp only [Act.put, List.setIfInBounds_toArray, List.set_cons_zero, List.set_cons_succ]
        refine wpAnyH_take (i := 2) (oi := { dst := some 14, op := Op.binOp BinOp.shr 31 (Operand.tmp 12) (Operand.tmp 13) 3, type := 31, pos := "ref.go:67", after := #[{ on := 0, ground := Ground.data }, { on := 1, ground := Ground.data }], guard := none }) (v := ?vv4_4_2) rfl (by kernel_rfl) (by kernel_rfl) (by kernel_rfl) (fun _ _ _ h => h) (Or.inl ⟨by rfl, ?yy4_4_2⟩) hHeld ?_
        case yy4_4_2 => (intro W hx; go_simp; try with_reducible rfl)
        simp only [Act.put, List.setIfInBounds_toArray, List.set_cons_zero, List.set_cons_succ]
        refine wpAnyH_take (i := 3) (oi := { dst := some 15, op := Op.binOp BinOp.rem 31 (Operand.tmp 14) (Operand.const (Value.int IntKind.u32 2)) 31, type := 31, pos := "ref.go:67", after := #[{ on := 2, ground := Ground.data }], guard := none }) (v := ?vv5_4_3) rfl (by kernel_rfl) (by kernel_rfl) (by kernel_rfl) (fun _ _ _ h => h) (Or.inl ⟨by rfl, ?yy5_4_3⟩) hHeld ?_
        case yy5_4_3 => (intro W hx; go_simp; try with_reducible rfl)
        simp only [Act.put, List.setIfInBounds_toArray, List.set_cons_zero, List.set_cons_succ]
        refine wpAnyH_take (i := 4) (oi := { dst := some 16, op := Op.binOp BinOp.eql 31 (Operand.tmp 15) (Operand.const (Value.int IntKind.u32 1)) 31, type := 4, pos := "ref.go:67", after := #[{ on := 3, ground := Ground.data }], guard := none }) (v := ?vv6_4_4) rfl (by kernel_rfl) (by kernel_rfl) (by kernel_rfl) (fun _ _ _ h => h) (Or.inl ⟨by rfl, ?yy6_4_4⟩) hHeld ?_
        case yy6_4_4 => (intro W hx; go_simp; try with_reducible rfl)
        simp only [Act.put, List.setIfInBounds_toArray, List.set_cons_zero, List.set_cons_succ]
        refine wpAnyH_take (i := 5) (oi := { dst := some 17, op := Op.move (Operand.tmp 16), type := 4, pos := "ref.go:67", after := #[{ on := 4, ground := Ground.data }], guard := none }) (v := ?vv7_4_5) rfl (by kernel_rfl) (by kernel_rfl) (by kernel_rfl) (fun _ _ _ h => h) (Or.inl ⟨by rfl, ?yy7_4_5⟩) hHeld ?_
        case yy7_4_5 => (intro W hx; go_simp; try with_reducible rfl)
        simp only [Act.put, List.setIfInBounds_toArray, List.set_cons_zero, List.set_cons_succ]
        refine wpAnyH_take (i := 6) (oi := { dst := some 18, op := Op.move (Operand.tmp 1), type := 31, pos := "ref.go:67", after := #[{ on := 5, ground := Ground.guard }], guard := some (5, true) }) (v := undef) rfl (by kernel_rfl) (by kernel_rfl) (by kernel_rfl) (fun _ _ _ h => h) (Or.inr ⟨by rfl, rfl⟩) hHeld ?_
        simp only [Act.put, List.setIfInBounds_toArray, List.set_cons_zero, List.set_cons_succ]
        refine wpAnyH_take (i := 7) (oi := { dst := some 19, op := Op.move (Operand.tmp 7), type := 3, pos := "ref.go:67", after := #[{ on := 5, ground := Ground.guard }], guard := some (5, true) }) (v := undef) rfl (by kernel_rfl) (by kernel_rfl) (by kernel_rfl) (fun _ _ _ h => h) (Or.inr ⟨by rfl, rfl⟩) hHeld ?_
        simp only [Act.put, List.setIfInBounds_toArray, List.set_cons_zero, List.set_cons_succ]
        refine wpAnyH_take (i := 8) (oi := { dst := some 20, op := Op.binOp BinOp.shr 31 (Operand.tmp 18) (Operand.tmp 19) 3, type := 31, pos := "ref.go:67", after := #[{ on := 6, ground := Ground.data }, { on := 7, ground := Ground.data }, { on := 5, ground := Ground.guard }], guard := some (5, true) }) (v := undef) rfl (by kernel_rfl) (by kernel_rfl) (by kernel_rfl) (fun _ _ _ h => h) (Or.inr ⟨by rfl, rfl⟩) hHeld ?_
        simp only [Act.put, List.setIfInBounds_toArray, List.set_cons_zero, List.set_cons_succ]
        refine wpAnyH_take (i := 9) (oi := { dst := some 21, op := Op.binOp BinOp.rem 31 (Operand.tmp 20) (Operand.const (Value.int IntKind.u32 2)) 31, type := 31, pos := "ref.go:67", after := #[{ on := 8, ground := Ground.data }, { on := 5, ground := Ground.guard }], guard := some (5, true) }) (v := undef) rfl (by kernel_rfl) (by kernel_rfl) (by kernel_rfl) (fun _ _ _ h => h) (Or.inr ⟨by rfl, rfl⟩) hHeld ?_
        simp only [Act.put, List.setIfInBounds_toArray, List.set_cons_zero, List.set_cons_succ]
        refine wpAnyH_take (i := 10) (oi := { dst := some 22, op := Op.move (Operand.tmp 2), type := 31, pos := "ref.go:67", after := #[{ on := 5, ground := Ground.guard }], guard := some (5, true) }) (v := undef) rfl (by kernel_rfl) (by kernel_rfl) (by kernel_rfl) (fun _ _ _ h => h) (Or.inr ⟨by rfl, rfl⟩) hHeld ?_
        simp only [Act.put, List.setIfInBounds_toArray, List.set_cons_zero, List.set_cons_succ]
        refine wpAnyH_take (i := 11) (oi := { dst := some 23, op := Op.move (Operand.tmp 7), type := 3, pos := "ref.go:67", after := #[{ on := 5, ground := Ground.guard }], guard := some (5, true) }) (v := undef) rfl (by kernel_rfl) (by kernel_rfl) (by kernel_rfl) (fun _ _ _ h => h) (Or.inr ⟨by rfl, rfl⟩) hHeld ?_
        simp only [Act.put, List.setIfInBounds_toArray, List.set_cons_zero, List.set_cons_succ]
        refine wpAnyH_take (i := 12) (oi := { dst := some 24, op := Op.binOp BinOp.shr 31 (Operand.tmp 22) (Operand.tmp 23) 3, type := 31, pos := "ref.go:67", after := #[{ on := 10, ground := Ground.data }, { on := 11, ground := Ground.data }, { on := 5, ground := Ground.guard }], guard := some (5, true) }) (v := undef) rfl (by kernel_rfl) (by kernel_rfl) (by kernel_rfl) (fun _ _ _ h => h) (Or.inr ⟨by rfl, rfl⟩) hHeld ?_
        simp only [Act.put, List.setIfInBounds_toArray, List.set_cons_zero, List.set_cons_succ]
        refine wpAnyH_take (i := 13) (oi := { dst := some 25, op := Op.binOp BinOp.rem 31 (Operand.tmp 24) (Operand.const (Value.int IntKind.u32 2)) 31, type := 31, pos := "ref.go:67", after := #[{ on := 12, ground := Ground.data }, { on := 5, ground := Ground.guard }], guard := some (5, true) }) (v := undef) rfl (by kernel_rfl) (by kernel_rfl) (by kernel_rfl) (fun _ _ _ h => h) (Or.inr ⟨by rfl, rfl⟩) hHeld ?_
        simp only [Act.put, List.setIfInBounds_toArray, List.set_cons_zero, List.set_cons_succ]
        refine wpAnyH_take (i := 14) (oi := { dst := some 26, op := Op.binOp BinOp.neq 31 (Operand.tmp 21) (Operand.tmp 25) 31, type := 4, pos := "ref.go:67", after := #[{ on := 9, ground := Ground.data }, { on := 13, ground := Ground.data }, { on := 5, ground := Ground.guard }], guard := some (5, true) }) (v := undef) rfl (by kernel_rfl) (by kernel_rfl) (by kernel_rfl) (fun _ _ _ h => h) (Or.inr ⟨by rfl, rfl⟩) hHeld ?_
        simp only [Act.put, List.setIfInBounds_toArray, List.set_cons_zero, List.set_cons_succ]
        refine wpAnyH_take (i := 15) (oi := { dst := some 27, op := Op.pick (Operand.tmp 17) (Operand.tmp 26) (Operand.const (Value.bool false)), type := 4, pos := "ref.go:67", after := #[{ on := 5, ground := Ground.data }, { on := 14, ground := Ground.data }], guard := none }) (v := ?vv8_4_15) rfl (by kernel_rfl) (by kernel_rfl) (by kernel_rfl) (fun _ _ _ h => h) (Or.inl ⟨by rfl, ?yy8_4_15⟩) hHeld ?_
        case yy8_4_15 => (intro W hx; go_simp; try with_reducible rfl)
        simp only [Act.put, List.setIfInBounds_toArray, List.set_cons_zero, List.set_cons_succ]
        refine wpAnyH_done (by kernel_rfl) ?_ _
        have zend := zz0.trans hHeld
        go_wp2
        go_roundw
        case rel => exact ⟨k + 1, by go_num, by omega, dif_step HD.out hdf.out, x.trans zend⟩
        case measure => simp [intOf]; omega
      · rcases h2 : ((a / 2 ^ k).tmod 2 != (b / 2 ^ k).tmod 2) with _ | _
        · have hdf : Hid (dif m a b k = false) := Lib.hid (by rw [dif, h1, h2]; rfl)
          go_upto_region 4 with (fail)
          refine wp_region_held_drew (S := Ext wr) (by kernel_rfl) ((Ext.refl _).drew) (fun hHeld => ?_)
          obtain ⟨wD9, hwD⟩ : ∃ V, V = World.drew wr := ⟨_, rfl⟩
          rw [← hwD]
          clear hHeld
          have zz0 : Ext wr wD9 := by rw [hwD]; exact (Ext.refl _).drew
          clear hwD
          refine wpAnyH_imp (S' := Ext wD9) (fun W h => Ext.trans zz0 h) _ _ _ _ ?_
          have hHeld := Ext.refl wD9
          refine wpAnyH_take (i := 0) (oi := { dst := some 12, op := Op.move (Operand.tmp 0), type := 31, pos := "ref.go:67", after := #[], guard := none }) (v := ?vv10_4_0) rfl (by kernel_rfl) (by kernel_rfl) (by kernel_rfl) (fun _ _ _ h => h) (Or.inl ⟨by rfl, ?yy10_4_0⟩) hHeld ?_
          case yy10_4_0 => (intro W hx; go_simp; try with_reducible rfl)
          simp only [Act.put, List.setIfInBounds_toArray, List.set_cons_zero, List.set_cons_succ]
          refine wpAnyH_take (i := 1) (oi := { dst := some 13, op := Op.move (Operand.tmp 7), type := 3, pos := "ref.go:67", after := #[], guard := none }) (v := ?vv11_4_1) rfl (by kernel_rfl) (by kernel_rfl) (by kernel_rfl) (fun _ _ _ h => h) (Or.inl ⟨by rfl, ?yy11_4_1⟩) hHeld ?_
          case yy11_4_1 => (intro W hx; go_simp; try with_reducible rfl)
          simp only [Act.put, List.setIfInBounds_toArray, List.set_cons_zero, List.set_cons_succ]
          refine wpAnyH_take (i := 2) (oi := { dst := some 14, op := Op.binOp BinOp.shr 31 (Operand.tmp 12) (Operand.tmp 13) 3, type := 31, pos := "ref.go:67", after := #[{ on := 0, ground := Ground.data }, { on := 1, ground := Ground.data }], guard := none }) (v := ?vv12_4_2) rfl (by kernel_rfl) (by kernel_rfl) (by kernel_rfl) (fun _ _ _ h => h) (Or.inl ⟨by rfl, ?yy12_4_2⟩) hHeld ?_
          case yy12_4_2 => (intro W hx; go_simp; try with_reducible rfl)
          simp only [Act.put, List.setIfInBounds_toArray, List.set_cons_zero, List.set_cons_succ]
          refine wpAnyH_take (i := 3) (oi := { dst := some 15, op := Op.binOp BinOp.rem 31 (Operand.tmp 14) (Operand.const (Value.int IntKind.u32 2)) 31, type := 31, pos := "ref.go:67", after := #[{ on := 2, ground := Ground.data }], guard := none }) (v := ?vv13_4_3) rfl (by kernel_rfl) (by kernel_rfl) (by kernel_rfl) (fun _ _ _ h => h) (Or.inl ⟨by rfl, ?yy13_4_3⟩) hHeld ?_
          case yy13_4_3 => (intro W hx; go_simp; try with_reducible rfl)
          simp only [Act.put, List.setIfInBounds_toArray, List.set_cons_zero, List.set_cons_succ]
          refine wpAnyH_take (i := 4) (oi := { dst := some 16, op := Op.binOp BinOp.eql 31 (Operand.tmp 15) (Operand.const (Value.int IntKind.u32 1)) 31, type := 4, pos := "ref.go:67", after := #[{ on := 3, ground := Ground.data }], guard := none }) (v := ?vv14_4_4) rfl (by kernel_rfl) (by kernel_rfl) (by kernel_rfl) (fun _ _ _ h => h) (Or.inl ⟨by rfl, ?yy14_4_4⟩) hHeld ?_
          case yy14_4_4 => (intro W hx; go_simp; try with_reducible rfl)
          simp only [Act.put, List.setIfInBounds_toArray, List.set_cons_zero, List.set_cons_succ]
          refine wpAnyH_take (i := 5) (oi := { dst := some 17, op := Op.move (Operand.tmp 16), type := 4, pos := "ref.go:67", after := #[{ on := 4, ground := Ground.data }], guard := none }) (v := ?vv15_4_5) rfl (by kernel_rfl) (by kernel_rfl) (by kernel_rfl) (fun _ _ _ h => h) (Or.inl ⟨by rfl, ?yy15_4_5⟩) hHeld ?_
          case yy15_4_5 => (intro W hx; go_simp; try with_reducible rfl)
          simp only [Act.put, List.setIfInBounds_toArray, List.set_cons_zero, List.set_cons_succ]
          refine wpAnyH_take (i := 6) (oi := { dst := some 18, op := Op.move (Operand.tmp 1), type := 31, pos := "ref.go:67", after := #[{ on := 5, ground := Ground.guard }], guard := some (5, true) }) (v := ?vv16_4_6) rfl (by kernel_rfl) (by kernel_rfl) (by kernel_rfl) (fun _ _ _ h => h) (Or.inl ⟨by rfl, ?yy16_4_6⟩) hHeld ?_
          case yy16_4_6 => (intro W hx; go_simp; try with_reducible rfl)
          simp only [Act.put, List.setIfInBounds_toArray, List.set_cons_zero, List.set_cons_succ]
          refine wpAnyH_take (i := 7) (oi := { dst := some 19, op := Op.move (Operand.tmp 7), type := 3, pos := "ref.go:67", after := #[{ on := 5, ground := Ground.guard }], guard := some (5, true) }) (v := ?vv17_4_7) rfl (by kernel_rfl) (by kernel_rfl) (by kernel_rfl) (fun _ _ _ h => h) (Or.inl ⟨by rfl, ?yy17_4_7⟩) hHeld ?_
          case yy17_4_7 => (intro W hx; go_simp; try with_reducible rfl)
          simp only [Act.put, List.setIfInBounds_toArray, List.set_cons_zero, List.set_cons_succ]
          refine wpAnyH_take (i := 8) (oi := { dst := some 20, op := Op.binOp BinOp.shr 31 (Operand.tmp 18) (Operand.tmp 19) 3, type := 31, pos := "ref.go:67", after := #[{ on := 6, ground := Ground.data }, { on := 7, ground := Ground.data }, { on := 5, ground := Ground.guard }], guard := some (5, true) }) (v := ?vv18_4_8) rfl (by kernel_rfl) (by kernel_rfl) (by kernel_rfl) (fun _ _ _ h => h) (Or.inl ⟨by rfl, ?yy18_4_8⟩) hHeld ?_
          case yy18_4_8 => (intro W hx; go_simp; try with_reducible rfl)
          simp only [Act.put, List.setIfInBounds_toArray, List.set_cons_zero, List.set_cons_succ]
          refine wpAnyH_take (i := 9) (oi := { dst := some 21, op := Op.binOp BinOp.rem 31 (Operand.tmp 20) (Operand.const (Value.int IntKind.u32 2)) 31, type := 31, pos := "ref.go:67", after := #[{ on := 8, ground := Ground.data }, { on := 5, ground := Ground.guard }], guard := some (5, true) }) (v := ?vv19_4_9) rfl (by kernel_rfl) (by kernel_rfl) (by kernel_rfl) (fun _ _ _ h => h) (Or.inl ⟨by rfl, ?yy19_4_9⟩) hHeld ?_
          case yy19_4_9 => (intro W hx; go_simp; try with_reducible rfl)
          simp only [Act.put, List.setIfInBounds_toArray, List.set_cons_zero, List.set_cons_succ]
          refine wpAnyH_take (i := 10) (oi := { dst := some 22, op := Op.move (Operand.tmp 2), type := 31, pos := "ref.go:67", after := #[{ on := 5, ground := Ground.guard }], guard := some (5, true) }) (v := ?vv20_4_10) rfl (by kernel_rfl) (by kernel_rfl) (by kernel_rfl) (fun _ _ _ h => h) (Or.inl ⟨by rfl, ?yy20_4_10⟩) hHeld ?_
          case yy20_4_10 => (intro W hx; go_simp; try with_reducible rfl)
          simp only [Act.put, List.setIfInBounds_toArray, List.set_cons_zero, List.set_cons_succ]
          refine wpAnyH_take (i := 11) (oi := { dst := some 23, op := Op.move (Operand.tmp 7), type := 3, pos := "ref.go:67", after := #[{ on := 5, ground := Ground.guard }], guard := some (5, true) }) (v := ?vv21_4_11) rfl (by kernel_rfl) (by kernel_rfl) (by kernel_rfl) (fun _ _ _ h => h) (Or.inl ⟨by rfl, ?yy21_4_11⟩) hHeld ?_
          case yy21_4_11 => (intro W hx; go_simp; try with_reducible rfl)
          simp only [Act.put, List.setIfInBounds_toArray, List.set_cons_zero, List.set_cons_succ]
          refine wpAnyH_take (i := 12) (oi := { dst := some 24, op := Op.binOp BinOp.shr 31 (Operand.tmp 22) (Operand.tmp 23) 3, type := 31, pos := "ref.go:67", after := #[{ on := 10, ground := Ground.data }, { on := 11, ground := Ground.data }, { on := 5, ground := Ground.guard }], guard := some (5, true) }) (v := ?vv22_4_12) rfl (by kernel_rfl) (by kernel_rfl) (by kernel_rfl) (fun _ _ _ h => h) (Or.inl ⟨by rfl, ?yy22_4_12⟩) hHeld ?_
          case yy22_4_12 => (intro W hx; go_simp; try with_reducible rfl)
          simp only [Act.put, List.setIfInBounds_toArray, List.set_cons_zero, List.set_cons_succ]
          refine wpAnyH_take (i := 13) (oi := { dst := some 25, op := Op.binOp BinOp.rem 31 (Operand.tmp 24) (Operand.const (Value.int IntKind.u32 2)) 31, type := 31, pos := "ref.go:67", after := #[{ on := 12, ground := Ground.data }, { on := 5, ground := Ground.guard }], guard := some (5, true) }) (v := ?vv23_4_13) rfl (by kernel_rfl) (by kernel_rfl) (by kernel_rfl) (fun _ _ _ h => h) (Or.inl ⟨by rfl, ?yy23_4_13⟩) hHeld ?_
          case yy23_4_13 => (intro W hx; go_simp; try with_reducible rfl)
          simp only [Act.put, List.setIfInBounds_toArray, List.set_cons_zero, List.set_cons_succ]
          refine wpAnyH_take (i := 14) (oi := { dst := some 26, op := Op.binOp BinOp.neq 31 (Operand.tmp 21) (Operand.tmp 25) 31, type := 4, pos := "ref.go:67", after := #[{ on := 9, ground := Ground.data }, { on := 13, ground := Ground.data }, { on := 5, ground := Ground.guard }], guard := some (5, true) }) (v := ?vv24_4_14) rfl (by kernel_rfl) (by kernel_rfl) (by kernel_rfl) (fun _ _ _ h => h) (Or.inl ⟨by rfl, ?yy24_4_14⟩) hHeld ?_
          case yy24_4_14 => (intro W hx; go_simp; try with_reducible rfl)
          simp only [Act.put, List.setIfInBounds_toArray, List.set_cons_zero, List.set_cons_succ]
          refine wpAnyH_take (i := 15) (oi := { dst := some 27, op := Op.pick (Operand.tmp 17) (Operand.tmp 26) (Operand.const (Value.bool false)), type := 4, pos := "ref.go:67", after := #[{ on := 5, ground := Ground.data }, { on := 14, ground := Ground.data }], guard := none }) (v := ?vv25_4_15) rfl (by kernel_rfl) (by kernel_rfl) (by kernel_rfl) (fun _ _ _ h => h) (Or.inl ⟨by rfl, ?yy25_4_15⟩) hHeld ?_
          case yy25_4_15 => (intro W hx; go_simp; try with_reducible rfl)
          simp only [Act.put, List.setIfInBounds_toArray, List.set_cons_zero, List.set_cons_succ]
          refine wpAnyH_done (by kernel_rfl) ?_ _
          have zend := zz0.trans hHeld
          go_wp2
          go_roundw
          case rel => exact ⟨k + 1, by go_num, by omega, dif_step HD.out hdf.out, x.trans zend⟩
          case measure => simp [intOf]; omega
        · have hdf : Hid (dif m a b k = true) := Lib.hid (by rw [dif, h1, h2]; rfl)
          go_upto_region 4 with (fail)
          refine wp_region_held_drew (S := Ext wr) (by kernel_rfl) ((Ext.refl _).drew) (fun hHeld => ?_)
          obtain ⟨wD26, hwD⟩ : ∃ V, V = World.drew wr := ⟨_, rfl⟩
          rw [← hwD]
          clear hHeld
          have zz0 : Ext wr wD26 := by rw [hwD]; exact (Ext.refl _).drew
          clear hwD
          refine wpAnyH_imp (S' := Ext wD26) (fun W h => Ext.trans zz0 h) _ _ _ _ ?_
          have hHeld := Ext.refl wD26
          refine wpAnyH_take (i := 0) (oi := { dst := some 12, op := Op.move (Operand.tmp 0), type := 31, pos := "ref.go:67", after := #[], guard := none }) (v := ?vv27_4_0) rfl (by kernel_rfl) (by kernel_rfl) (by kernel_rfl) (fun _ _ _ h => h) (Or.inl ⟨by rfl, ?yy27_4_0⟩) hHeld ?_
          case yy27_4_0 => (intro W hx; go_simp; try with_reducible rfl)
          simp only [Act.put, List.setIfInBounds_toArray, List.set_cons_zero, List.set_cons_succ]
          refine wpAnyH_take (i := 1) (oi := { dst := some 13, op := Op.move (Operand.tmp 7), type := 3, pos := "ref.go:67", after := #[], guard := none }) (v := ?vv28_4_1) rfl (by kernel_rfl) (by kernel_rfl) (by kernel_rfl) (fun _ _ _ h => h) (Or.inl ⟨by rfl, ?yy28_4_1⟩) hHeld ?_
          case yy28_4_1 => (intro W hx; go_simp; try with_reducible rfl)
          simp only [Act.put, List.setIfInBounds_toArray, List.set_cons_zero, List.set_cons_succ]
          refine wpAnyH_take (i := 2) (oi := { dst := some 14, op := Op.binOp BinOp.shr 31 (Operand.tmp 12) (Operand.tmp 13) 3, type := 31, pos := "ref.go:67", after := #[{ on := 0, ground := Ground.data }, { on := 1, ground := Ground.data }], guard := none }) (v := ?vv29_4_2) rfl (by kernel_rfl) (by kernel_rfl) (by kernel_rfl) (fun _ _ _ h => h) (Or.inl ⟨by rfl, ?yy29_4_2⟩) hHeld ?_
          case yy29_4_2 => (intro W hx; go_simp; try with_reducible rfl)
          simp only [Act.put, List.setIfInBounds_toArray, List.set_cons_zero, List.set_cons_succ]
          refine wpAnyH_take (i := 3) (oi := { dst := some 15, op := Op.binOp BinOp.rem 31 (Operand.tmp 14) (Operand.const (Value.int IntKind.u32 2)) 31, type := 31, pos := "ref.go:67", after := #[{ on := 2, ground := Ground.data }], guard := none }) (v := ?vv30_4_3) rfl (by kernel_rfl) (by kernel_rfl) (by kernel_rfl) (fun _ _ _ h => h) (Or.inl ⟨by rfl, ?yy30_4_3⟩) hHeld ?_
          case yy30_4_3 => (intro W hx; go_simp; try with_reducible rfl)
          simp only [Act.put, List.setIfInBounds_toArray, List.set_cons_zero, List.set_cons_succ]
          refine wpAnyH_take (i := 4) (oi := { dst := some 16, op := Op.binOp BinOp.eql 31 (Operand.tmp 15) (Operand.const (Value.int IntKind.u32 1)) 31, type := 4, pos := "ref.go:67", after := #[{ on := 3, ground := Ground.data }], guard := none }) (v := ?vv31_4_4) rfl (by kernel_rfl) (by kernel_rfl) (by kernel_rfl) (fun _ _ _ h => h) (Or.inl ⟨by rfl, ?yy31_4_4⟩) hHeld ?_
          case yy31_4_4 => (intro W hx; go_simp; try with_reducible rfl)
          simp only [Act.put, List.setIfInBounds_toArray, List.set_cons_zero, List.set_cons_succ]
          refine wpAnyH_take (i := 5) (oi := { dst := some 17, op := Op.move (Operand.tmp 16), type := 4, pos := "ref.go:67", after := #[{ on := 4, ground := Ground.data }], guard := none }) (v := ?vv32_4_5) rfl (by kernel_rfl) (by kernel_rfl) (by kernel_rfl) (fun _ _ _ h => h) (Or.inl ⟨by rfl, ?yy32_4_5⟩) hHeld ?_
          case yy32_4_5 => (intro W hx; go_simp; try with_reducible rfl)
          simp only [Act.put, List.setIfInBounds_toArray, List.set_cons_zero, List.set_cons_succ]
          refine wpAnyH_take (i := 6) (oi := { dst := some 18, op := Op.move (Operand.tmp 1), type := 31, pos := "ref.go:67", after := #[{ on := 5, ground := Ground.guard }], guard := some (5, true) }) (v := ?vv33_4_6) rfl (by kernel_rfl) (by kernel_rfl) (by kernel_rfl) (fun _ _ _ h => h) (Or.inl ⟨by rfl, ?yy33_4_6⟩) hHeld ?_
          case yy33_4_6 => (intro W hx; go_simp; try with_reducible rfl)
          simp only [Act.put, List.setIfInBounds_toArray, List.set_cons_zero, List.set_cons_succ]
          refine wpAnyH_take (i := 7) (oi := { dst := some 19, op := Op.move (Operand.tmp 7), type := 3, pos := "ref.go:67", after := #[{ on := 5, ground := Ground.guard }], guard := some (5, true) }) (v := ?vv34_4_7) rfl (by kernel_rfl) (by kernel_rfl) (by kernel_rfl) (fun _ _ _ h => h) (Or.inl ⟨by rfl, ?yy34_4_7⟩) hHeld ?_
          case yy34_4_7 => (intro W hx; go_simp; try with_reducible rfl)
          simp only [Act.put, List.setIfInBounds_toArray, List.set_cons_zero, List.set_cons_succ]
          refine wpAnyH_take (i := 8) (oi := { dst := some 20, op := Op.binOp BinOp.shr 31 (Operand.tmp 18) (Operand.tmp 19) 3, type := 31, pos := "ref.go:67", after := #[{ on := 6, ground := Ground.data }, { on := 7, ground := Ground.data }, { on := 5, ground := Ground.guard }], guard := some (5, true) }) (v := ?vv35_4_8) rfl (by kernel_rfl) (by kernel_rfl) (by kernel_rfl) (fun _ _ _ h => h) (Or.inl ⟨by rfl, ?yy35_4_8⟩) hHeld ?_
          case yy35_4_8 => (intro W hx; go_simp; try with_reducible rfl)
          simp only [Act.put, List.setIfInBounds_toArray, List.set_cons_zero, List.set_cons_succ]
          refine wpAnyH_take (i := 9) (oi := { dst := some 21, op := Op.binOp BinOp.rem 31 (Operand.tmp 20) (Operand.const (Value.int IntKind.u32 2)) 31, type := 31, pos := "ref.go:67", after := #[{ on := 8, ground := Ground.data }, { on := 5, ground := Ground.guard }], guard := some (5, true) }) (v := ?vv36_4_9) rfl (by kernel_rfl) (by kernel_rfl) (by kernel_rfl) (fun _ _ _ h => h) (Or.inl ⟨by rfl, ?yy36_4_9⟩) hHeld ?_
          case yy36_4_9 => (intro W hx; go_simp; try with_reducible rfl)
          simp only [Act.put, List.setIfInBounds_toArray, List.set_cons_zero, List.set_cons_succ]
          refine wpAnyH_take (i := 10) (oi := { dst := some 22, op := Op.move (Operand.tmp 2), type := 31, pos := "ref.go:67", after := #[{ on := 5, ground := Ground.guard }], guard := some (5, true) }) (v := ?vv37_4_10) rfl (by kernel_rfl) (by kernel_rfl) (by kernel_rfl) (fun _ _ _ h => h) (Or.inl ⟨by rfl, ?yy37_4_10⟩) hHeld ?_
          case yy37_4_10 => (intro W hx; go_simp; try with_reducible rfl)
          simp only [Act.put, List.setIfInBounds_toArray, List.set_cons_zero, List.set_cons_succ]
          refine wpAnyH_take (i := 11) (oi := { dst := some 23, op := Op.move (Operand.tmp 7), type := 3, pos := "ref.go:67", after := #[{ on := 5, ground := Ground.guard }], guard := some (5, true) }) (v := ?vv38_4_11) rfl (by kernel_rfl) (by kernel_rfl) (by kernel_rfl) (fun _ _ _ h => h) (Or.inl ⟨by rfl, ?yy38_4_11⟩) hHeld ?_
          case yy38_4_11 => (intro W hx; go_simp; try with_reducible rfl)
          simp only [Act.put, List.setIfInBounds_toArray, List.set_cons_zero, List.set_cons_succ]
          refine wpAnyH_take (i := 12) (oi := { dst := some 24, op := Op.binOp BinOp.shr 31 (Operand.tmp 22) (Operand.tmp 23) 3, type := 31, pos := "ref.go:67", after := #[{ on := 10, ground := Ground.data }, { on := 11, ground := Ground.data }, { on := 5, ground := Ground.guard }], guard := some (5, true) }) (v := ?vv39_4_12) rfl (by kernel_rfl) (by kernel_rfl) (by kernel_rfl) (fun _ _ _ h => h) (Or.inl ⟨by rfl, ?yy39_4_12⟩) hHeld ?_
          case yy39_4_12 => (intro W hx; go_simp; try with_reducible rfl)
          simp only [Act.put, List.setIfInBounds_toArray, List.set_cons_zero, List.set_cons_succ]
          refine wpAnyH_take (i := 13) (oi := { dst := some 25, op := Op.binOp BinOp.rem 31 (Operand.tmp 24) (Operand.const (Value.int IntKind.u32 2)) 31, type := 31, pos := "ref.go:67", after := #[{ on := 12, ground := Ground.data }, { on := 5, ground := Ground.guard }], guard := some (5, true) }) (v := ?vv40_4_13) rfl (by kernel_rfl) (by kernel_rfl) (by kernel_rfl) (fun _ _ _ h => h) (Or.inl ⟨by rfl, ?yy40_4_13⟩) hHeld ?_
          case yy40_4_13 => (intro W hx; go_simp; try with_reducible rfl)
          simp only [Act.put, List.setIfInBounds_toArray, List.set_cons_zero, List.set_cons_succ]
          refine wpAnyH_take (i := 14) (oi := { dst := some 26, op := Op.binOp BinOp.neq 31 (Operand.tmp 21) (Operand.tmp 25) 31, type := 4, pos := "ref.go:67", after := #[{ on := 9, ground := Ground.data }, { on := 13, ground := Ground.data }, { on := 5, ground := Ground.guard }], guard := some (5, true) }) (v := ?vv41_4_14) rfl (by kernel_rfl) (by kernel_rfl) (by kernel_rfl) (fun _ _ _ h => h) (Or.inl ⟨by rfl, ?yy41_4_14⟩) hHeld ?_
          case yy41_4_14 => (intro W hx; go_simp; try with_reducible rfl)
          simp only [Act.put, List.setIfInBounds_toArray, List.set_cons_zero, List.set_cons_succ]
          refine wpAnyH_take (i := 15) (oi := { dst := some 27, op := Op.pick (Operand.tmp 17) (Operand.tmp 26) (Operand.const (Value.bool false)), type := 4, pos := "ref.go:67", after := #[{ on := 5, ground := Ground.data }, { on := 14, ground := Ground.data }], guard := none }) (v := ?vv42_4_15) rfl (by kernel_rfl) (by kernel_rfl) (by kernel_rfl) (fun _ _ _ h => h) (Or.inl ⟨by rfl, ?yy42_4_15⟩) hHeld ?_
          case yy42_4_15 => (intro W hx; go_simp; try with_reducible rfl)
          simp only [Act.put, List.setIfInBounds_toArray, List.set_cons_zero, List.set_cons_succ]
          refine wpAnyH_done (by kernel_rfl) ?_ _
          have zend := zz0.trans hHeld
          go_wp2
          go_ret
          exact ⟨by rw [HNO.out k hdf.out]; rfl, x.trans zend⟩
    · obtain rfl : k = 32 := by omega
      go_wp2
      go_ret
      exact ⟨by rw [HYES.out HD.out]; rfl, x⟩
end Go.Proofs.Ytjdabmadpclbaaa
