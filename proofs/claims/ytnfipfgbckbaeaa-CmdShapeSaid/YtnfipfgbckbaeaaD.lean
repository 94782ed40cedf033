import Derived.Test.YtnfipfgbckbaeaaC
set_option linter.unusedVariables false
namespace Go.Proofs.Ytnfipfgbckbaeaa
open Go.RowKit
def badR (c : Int) (al : List Int) (W : Int) (n : Nat) : Bool := !ok c || ((n : Int) != nbC c (al.getD 0 0)) || (!gr c && W != 0)
theorem badC_R (c : Int) (al : List Int) (W : Int) (n : Nat) : badC c al W n = (badR c al W n || behB (sm c) al) := by
  unfold badC badR
  cases ok c <;> cases behB (sm c) al <;> cases gr c <;> cases ((n : Int) != nbC c (al.getD 0 0)) <;> simp
theorem take_min (al : List Int) (s k : Nat) (hl : al.length = 5) (hk : k < s) (hs : s ≤ 5) : al.take (min (k + 1) s) = al.take (min k s) ++ [al.getD k 0] := by
  rw [show min (k + 1) s = k + 1 by omega, show min k s = k by omega, List.take_succ_eq_append_getElem (show k < al.length by omega)]
  simp [List.getD, List.getElem?_eq_getElem (show k < al.length by omega)]
theorem blk8 {w : World} {g : Nat} {t : TypeId} {c a0 a1 a2 a3 a4 : Int} {x y : Value} (h : w.heap[g]? = some (.cells #[.int .u8 c, .int .u8 a0, .int .u8 a1, .int .u8 a2, .int .u8 a3, .int .u8 a4, x, y] t (0, 0))) (k : Nat) (hk : k < 5) :
    w.cell? ⟨g, 1 + k, none⟩ = some (.int .u8 ([a0, a1, a2, a3, a4].getD k 0)) := by
  refine blk_cell h ?_
  match k, hk with
  | 0, _ => rfl
  | 1, _ => rfl
  | 2, _ => rfl
  | 3, _ => rfl
  | 4, _ => rfl
def Zs (al : List Int) (s k : Nat) : Prop := ∀ j, s ≤ j → j < k → al.getD j 0 = 0
theorem Zs.succ {al : List Int} {s k : Nat} (h : Zs al s k) (hx : s ≤ k → al.getD k 0 = 0) : Zs al s (k + 1) := fun j h1 h2 => by
  rcases Nat.lt_or_ge j k with h' | h'
  · exact h j h1 h'
  · obtain rfl : j = k := by omega
    exact hx h1
theorem Zs.beh {al : List Int} {s : Nat} (h : Zs al s 5) (hl : al.length = 5) (hs : s ≤ 5) : behB s al = false := beh_f s (5 - s) al hl (Nat.le_refl _) fun j hj => h _ (by omega) (by omega)
set_option maxHeartbeats 2000000 in
theorem rput_walk (c a0 a1 a2 a3 a4 W : Int) (A : Option Addr) (n cp : Nat) (bs : List Int) (w : World) (h0 : 0 ≤ c) (h1 : c < 256) (hal : Byts [a0, a1, a2, a3, a4]) (W0 : 0 ≤ W) (W1' : W < 4294967296) (hr : Rd w A n bs) (hn : n ≤ 20) :
    Calls Try.prog 10 #[.agg #[.int .u8 c, .int .u8 a0, .int .u8 a1, .int .u8 a2, .int .u8 a3, .int .u8 a4, .int .u32 W, .slice A n cp]] w fun e w' => PutP c [a0, a1, a2, a3, a4] W n bs w e w' := by
  have s5 := sm_le c
  have a00 : 0 ≤ a0 := (hal a0 (by simp)).1
  have a01 : a0 < 256 := (hal a0 (by simp)).2
  go_enter Try.func10, Try.ntmps10
  go_upto_region 2 with (go_at_call 12; (with_reducible refine (rshape_any _ _ h0 h1).mono ?_); rintro e w1 ⟨rfl, rfl⟩)
  obtain ⟨W1, hW1⟩ : ∃ V, V = w.alloc (.cells #[.int .u8 c, .int .u8 a0, .int .u8 a1, .int .u8 a2, .int .u8 a3, .int .u8 a4, .int .u32 W, .slice A n cp] 26) := ⟨_, rfl⟩
  rw [← hW1]
  have v1 : Ext w W1 := by rw [hW1]; exact (Ext.refl _).alloc _
  have K1 : W1.heap[w.heap.size]? = some (.cells #[.int .u8 c, .int .u8 a0, .int .u8 a1, .int .u8 a2, .int .u8 a3, .int .u8 a4, .int .u32 W, .slice A n cp] 26 (0, 0)) := by rw [hW1]; exact heap_alloc_new _ _
  clear hW1
  go_cut [5, 7, 36] (fun v5 v7 v36 wr => v5 = .bool (gr c) ∧ v7 = .bool (ok c) ∧ v36 = .bool (badR c [a0, a1, a2, a3, a4] W n) ∧ Ext w wr ∧ Ext W1 wr)
  case first =>
    cases hok : ok c
    · have tok := True.intro
      refine wp_region_held_drew (S := Ext W1) (by kernel_rfl) ((Ext.refl _).drew) (fun hHeld => ?_)
      obtain ⟨wD1, hwD⟩ : ∃ V, V = World.drew W1 := ⟨_, rfl⟩
      rw [← hwD]
      clear hHeld
      have zz0 : Ext W1 wD1 := by rw [hwD]; exact (Ext.refl _).drew
      clear hwD
      refine wpAnyH_imp (S' := Ext wD1) (fun W h => Ext.trans zz0 h) _ _ _ _ ?_
      have hHeld := Ext.refl wD1
      refine wpAnyH_take (i := 0) (oi := { dst := some 18, op := Op.move (Operand.tmp 7), type := 4, pos := "ref.go:46", after := #[], guard := none }) (v := ?vv2_2_0) rfl (by kernel_rfl) (by kernel_rfl) (by kernel_rfl) (fun _ _ _ h => h) (Or.inl ⟨by rfl, ?yy2_2_0⟩) hHeld ?_
      case yy2_2_0 => (intro W hx; go_simp; try with_reducible rfl)
      simp only [Act.put, List.setIfInBounds_toArray, List.set_cons_zero, List.set_cons_succ]
      refine wpAnyH_take (i := 1) (oi := { dst := some 19, op := Op.unOp UnOp.not 4 (Operand.tmp 18), type := 4, pos := "ref.go:46", after := #[{ on := 0, ground := Ground.data }], guard := none }) (v := ?vv3_2_1) rfl (by kernel_rfl) (by kernel_rfl) (by kernel_rfl) (fun _ _ _ h => h) (Or.inl ⟨by rfl, ?yy3_2_1⟩) hHeld ?_
      case yy3_2_1 => (intro W hx; go_simp; try with_reducible rfl)
      simp only [Act.put, List.setIfInBounds_toArray, List.set_cons_zero, List.set_cons_succ]
      refine wpAnyH_take (i := 2) (oi := { dst := some 20, op := Op.move (Operand.tmp 19), type := 4, pos := "ref.go:46", after := #[{ on := 1, ground := Ground.data }], guard := none }) (v := ?vv4_2_2) rfl (by kernel_rfl) (by kernel_rfl) (by kernel_rfl) (fun _ _ _ h => h) (Or.inl ⟨by rfl, ?yy4_2_2⟩) hHeld ?_
      case yy4_2_2 => (intro W hx; go_simp; try with_reducible rfl)
      simp only [Act.put, List.setIfInBounds_toArray, List.set_cons_zero, List.set_cons_succ]
      refine wpAnyH_take (i := 3) (oi := { dst := some 21, op := Op.fieldAddr 26 (Operand.tmp 1) 3, type := 0, pos := "ref.go:46", after := #[{ on := 2, ground := Ground.guard }], guard := some (2, false) }) (v := undef) rfl (by kernel_rfl) (by kernel_rfl) (by kernel_rfl) (fun _ _ _ h => h) (Or.inr ⟨by rfl, rfl⟩) hHeld ?_
      simp only [Act.put, List.setIfInBounds_toArray, List.set_cons_zero, List.set_cons_succ]
      refine wpAnyH_take (i := 4) (oi := { dst := some 22, op := Op.load 24 (Operand.tmp 21), type := 24, pos := "ref.go:46", after := #[{ on := 3, ground := Ground.data }, { on := 2, ground := Ground.guard }], guard := some (2, false) }) (v := undef) rfl (by kernel_rfl) (by kernel_rfl) (by kernel_rfl) (fun _ _ _ h => h) (Or.inr ⟨by rfl, rfl⟩) hHeld ?_
      simp only [Act.put, List.setIfInBounds_toArray, List.set_cons_zero, List.set_cons_succ]
      refine wpAnyH_take (i := 5) (oi := { dst := some 23, op := Op.call { callee := Callee.builtin Builtin.len, args := #[Operand.tmp 22], argTypes := #[24] }, type := 3, pos := "ref.go:46", after := #[{ on := 4, ground := Ground.data }, { on := 2, ground := Ground.guard }], guard := some (2, false) }) (v := undef) rfl (by kernel_rfl) (by kernel_rfl) (by kernel_rfl) (fun _ _ _ h => h) (Or.inr ⟨by rfl, rfl⟩) hHeld ?_
      simp only [Act.put, List.setIfInBounds_toArray, List.set_cons_zero, List.set_cons_succ]
      refine wpAnyH_take (i := 6) (oi := { dst := some 24, op := Op.load 26 (Operand.tmp 1), type := 26, pos := "ref.go:46", after := #[{ on := 2, ground := Ground.guard }], guard := some (2, false) }) (v := undef) rfl (by kernel_rfl) (by kernel_rfl) (by kernel_rfl) (fun _ _ _ h => h) (Or.inr ⟨by rfl, rfl⟩) hHeld ?_
      simp only [Act.put, List.setIfInBounds_toArray, List.set_cons_zero, List.set_cons_succ]
      refine wpAnyH_take (i := 7) (oi := { dst := some 25, op := Op.call { callee := Callee.value (Operand.func 21), args := #[Operand.tmp 24], argTypes := #[26] }, type := 3, pos := "ref.go:46", after := #[{ on := 6, ground := Ground.data }, { on := 2, ground := Ground.chain }, { on := 2, ground := Ground.guard }], guard := some (2, false) }) (v := undef) rfl (by kernel_rfl) (by kernel_rfl) (by kernel_rfl) (fun _ _ _ h => h) (Or.inr ⟨by rfl, rfl⟩) hHeld ?_
      simp only [Act.put, List.setIfInBounds_toArray, List.set_cons_zero, List.set_cons_succ]
      refine wpAnyH_take (i := 8) (oi := { dst := some 26, op := Op.binOp BinOp.neq 3 (Operand.tmp 23) (Operand.tmp 25) 3, type := 4, pos := "ref.go:46", after := #[{ on := 5, ground := Ground.data }, { on := 7, ground := Ground.data }, { on := 2, ground := Ground.guard }], guard := some (2, false) }) (v := undef) rfl (by kernel_rfl) (by kernel_rfl) (by kernel_rfl) (fun _ _ _ h => h) (Or.inr ⟨by rfl, rfl⟩) hHeld ?_
      simp only [Act.put, List.setIfInBounds_toArray, List.set_cons_zero, List.set_cons_succ]
      refine wpAnyH_take (i := 9) (oi := { dst := some 27, op := Op.pick (Operand.tmp 20) (Operand.const (Value.bool true)) (Operand.tmp 26), type := 4, pos := "ref.go:46", after := #[{ on := 2, ground := Ground.data }, { on := 8, ground := Ground.data }], guard := none }) (v := ?vv5_2_9) rfl (by kernel_rfl) (by kernel_rfl) (by kernel_rfl) (fun _ _ _ h => h) (Or.inl ⟨by rfl, ?yy5_2_9⟩) hHeld ?_
      case yy5_2_9 => (intro W hx; go_simp; try with_reducible rfl)
      simp only [Act.put, List.setIfInBounds_toArray, List.set_cons_zero, List.set_cons_succ]
      refine wpAnyH_take (i := 10) (oi := { dst := some 28, op := Op.move (Operand.tmp 27), type := 4, pos := "ref.go:46", after := #[{ on := 9, ground := Ground.data }, { on := 7, ground := Ground.chain }], guard := none }) (v := ?vv6_2_10) rfl (by kernel_rfl) (by kernel_rfl) (by kernel_rfl) (fun _ _ _ h => h) (Or.inl ⟨by rfl, ?yy6_2_10⟩) hHeld ?_
      case yy6_2_10 => (intro W hx; go_simp; try with_reducible rfl)
      simp only [Act.put, List.setIfInBounds_toArray, List.set_cons_zero, List.set_cons_succ]
      refine wpAnyH_take (i := 11) (oi := { dst := some 29, op := Op.move (Operand.tmp 5), type := 4, pos := "ref.go:46", after := #[{ on := 10, ground := Ground.guard }], guard := some (10, false) }) (v := undef) rfl (by kernel_rfl) (by kernel_rfl) (by kernel_rfl) (fun _ _ _ h => h) (Or.inr ⟨by rfl, rfl⟩) hHeld ?_
      simp only [Act.put, List.setIfInBounds_toArray, List.set_cons_zero, List.set_cons_succ]
      refine wpAnyH_take (i := 12) (oi := { dst := some 30, op := Op.unOp UnOp.not 4 (Operand.tmp 29), type := 4, pos := "ref.go:46", after := #[{ on := 11, ground := Ground.data }, { on := 10, ground := Ground.guard }], guard := some (10, false) }) (v := undef) rfl (by kernel_rfl) (by kernel_rfl) (by kernel_rfl) (fun _ _ _ h => h) (Or.inr ⟨by rfl, rfl⟩) hHeld ?_
      simp only [Act.put, List.setIfInBounds_toArray, List.set_cons_zero, List.set_cons_succ]
      refine wpAnyH_take (i := 13) (oi := { dst := some 31, op := Op.move (Operand.tmp 30), type := 4, pos := "ref.go:46", after := #[{ on := 12, ground := Ground.data }, { on := 10, ground := Ground.chain }, { on := 10, ground := Ground.guard }], guard := some (10, false) }) (v := undef) rfl (by kernel_rfl) (by kernel_rfl) (by kernel_rfl) (fun _ _ _ h => h) (Or.inr ⟨by rfl, rfl⟩) hHeld ?_
      simp only [Act.put, List.setIfInBounds_toArray, List.set_cons_zero, List.set_cons_succ]
      refine wpAnyH_take (i := 14) (oi := { dst := some 32, op := Op.fieldAddr 26 (Operand.tmp 1) 2, type := 0, pos := "ref.go:46", after := #[{ on := 13, ground := Ground.guard }], guard := some (13, true) }) (v := undef) rfl (by kernel_rfl) (by kernel_rfl) (by kernel_rfl) (fun _ _ _ h => h) (Or.inr ⟨by rfl, rfl⟩) hHeld ?_
      simp only [Act.put, List.setIfInBounds_toArray, List.set_cons_zero, List.set_cons_succ]
      refine wpAnyH_take (i := 15) (oi := { dst := some 33, op := Op.load 23 (Operand.tmp 32), type := 23, pos := "ref.go:46", after := #[{ on := 14, ground := Ground.data }, { on := 13, ground := Ground.guard }], guard := some (13, true) }) (v := undef) rfl (by kernel_rfl) (by kernel_rfl) (by kernel_rfl) (fun _ _ _ h => h) (Or.inr ⟨by rfl, rfl⟩) hHeld ?_
      simp only [Act.put, List.setIfInBounds_toArray, List.set_cons_zero, List.set_cons_succ]
      refine wpAnyH_take (i := 16) (oi := { dst := some 34, op := Op.binOp BinOp.neq 23 (Operand.tmp 33) (Operand.const (Value.int IntKind.u32 0)) 23, type := 4, pos := "ref.go:46", after := #[{ on := 15, ground := Ground.data }, { on := 13, ground := Ground.guard }], guard := some (13, true) }) (v := undef) rfl (by kernel_rfl) (by kernel_rfl) (by kernel_rfl) (fun _ _ _ h => h) (Or.inr ⟨by rfl, rfl⟩) hHeld ?_
      simp only [Act.put, List.setIfInBounds_toArray, List.set_cons_zero, List.set_cons_succ]
      refine wpAnyH_take (i := 17) (oi := { dst := some 35, op := Op.pick (Operand.tmp 31) (Operand.tmp 34) (Operand.const (Value.bool false)), type := 4, pos := "ref.go:46", after := #[{ on := 13, ground := Ground.data }, { on := 16, ground := Ground.data }, { on := 10, ground := Ground.guard }], guard := some (10, false) }) (v := undef) rfl (by kernel_rfl) (by kernel_rfl) (by kernel_rfl) (fun _ _ _ h => h) (Or.inr ⟨by rfl, rfl⟩) hHeld ?_
      simp only [Act.put, List.setIfInBounds_toArray, List.set_cons_zero, List.set_cons_succ]
      refine wpAnyH_take (i := 18) (oi := { dst := some 36, op := Op.pick (Operand.tmp 28) (Operand.const (Value.bool true)) (Operand.tmp 35), type := 4, pos := "ref.go:46", after := #[{ on := 10, ground := Ground.data }, { on := 17, ground := Ground.data }], guard := none }) (v := ?vv7_2_18) rfl (by kernel_rfl) (by kernel_rfl) (by kernel_rfl) (fun _ _ _ h => h) (Or.inl ⟨by rfl, ?yy7_2_18⟩) hHeld ?_
      case yy7_2_18 => (intro W hx; go_simp; try with_reducible rfl)
      simp only [Act.put, List.setIfInBounds_toArray, List.set_cons_zero, List.set_cons_succ]
      refine wpAnyH_done (by kernel_rfl) ?_ _
      have zend := zz0.trans hHeld
      go_wp2
      go_meet
      case rel => exact ⟨congrArg Value.bool (by simp [*]), congrArg Value.bool (by simp [*]), congrArg Value.bool (by simp [badR, *]), v1.trans zend, zend⟩
    · rcases hne : ((n : Int) != nbC c a0) with _ | _
      · cases hgr : gr c
        · rcases hw : (W != 0) with _ | _
          · have tok := True.intro
            refine wp_region_held_drew (S := Ext W1) (by kernel_rfl) ((Ext.refl _).drew) (fun hHeld => ?_)
            obtain ⟨wD8, hwD⟩ : ∃ V, V = World.drew W1 := ⟨_, rfl⟩
            rw [← hwD]
            clear hHeld
            have zz0 : Ext W1 wD8 := by rw [hwD]; exact (Ext.refl _).drew
            clear hwD
            refine wpAnyH_imp (S' := Ext wD8) (fun W h => Ext.trans zz0 h) _ _ _ _ ?_
            have hHeld := Ext.refl wD8
            refine wpAnyH_take (i := 0) (oi := { dst := some 18, op := Op.move (Operand.tmp 7), type := 4, pos := "ref.go:46", after := #[], guard := none }) (v := ?vv9_2_0) rfl (by kernel_rfl) (by kernel_rfl) (by kernel_rfl) (fun _ _ _ h => h) (Or.inl ⟨by rfl, ?yy9_2_0⟩) hHeld ?_
            case yy9_2_0 => (intro W hx; go_simp; try with_reducible rfl)
            simp only [Act.put, List.setIfInBounds_toArray, List.set_cons_zero, List.set_cons_succ]
            refine wpAnyH_take (i := 1) (oi := { dst := some 19, op := Op.unOp UnOp.not 4 (Operand.tmp 18), type := 4, pos := "ref.go:46", after := #[{ on := 0, ground := Ground.data }], guard := none }) (v := ?vv10_2_1) rfl (by kernel_rfl) (by kernel_rfl) (by kernel_rfl) (fun _ _ _ h => h) (Or.inl ⟨by rfl, ?yy10_2_1⟩) hHeld ?_
            case yy10_2_1 => (intro W hx; go_simp; try with_reducible rfl)
            simp only [Act.put, List.setIfInBounds_toArray, List.set_cons_zero, List.set_cons_succ]
            refine wpAnyH_take (i := 2) (oi := { dst := some 20, op := Op.move (Operand.tmp 19), type := 4, pos := "ref.go:46", after := #[{ on := 1, ground := Ground.data }], guard := none }) (v := ?vv11_2_2) rfl (by kernel_rfl) (by kernel_rfl) (by kernel_rfl) (fun _ _ _ h => h) (Or.inl ⟨by rfl, ?yy11_2_2⟩) hHeld ?_
            case yy11_2_2 => (intro W hx; go_simp; try with_reducible rfl)
            simp only [Act.put, List.setIfInBounds_toArray, List.set_cons_zero, List.set_cons_succ]
            refine wpAnyH_take (i := 3) (oi := { dst := some 21, op := Op.fieldAddr 26 (Operand.tmp 1) 3, type := 0, pos := "ref.go:46", after := #[{ on := 2, ground := Ground.guard }], guard := some (2, false) }) (v := ?vv12_2_3) rfl (by kernel_rfl) (by kernel_rfl) (by kernel_rfl) (fun _ _ _ h => h) (Or.inl ⟨by rfl, ?yy12_2_3⟩) hHeld ?_
            case yy12_2_3 => (intro W hx; go_simp; try with_reducible rfl)
            simp only [Act.put, List.setIfInBounds_toArray, List.set_cons_zero, List.set_cons_succ]
            refine wpAnyH_take (i := 4) (oi := { dst := some 22, op := Op.load 24 (Operand.tmp 21), type := 24, pos := "ref.go:46", after := #[{ on := 3, ground := Ground.data }, { on := 2, ground := Ground.guard }], guard := some (2, false) }) (v := ?vv13_2_4) rfl (by kernel_rfl) (by kernel_rfl) (by kernel_rfl) (fun _ _ _ h => h) (Or.inl ⟨by rfl, ?yy13_2_4⟩) hHeld ?_
            case yy13_2_4 => (intro W hx; have hz := zz0.trans hx; obtain ⟨f0, f1, f2, f3, f4, f5, f6, f7⟩ := cells8 ((hz.block _ (blk_lt K1)).trans K1); go_simp; try with_reducible rfl)
            simp only [Act.put, List.setIfInBounds_toArray, List.set_cons_zero, List.set_cons_succ]
            refine wpAnyH_take (i := 5) (oi := { dst := some 23, op := Op.call { callee := Callee.builtin Builtin.len, args := #[Operand.tmp 22], argTypes := #[24] }, type := 3, pos := "ref.go:46", after := #[{ on := 4, ground := Ground.data }, { on := 2, ground := Ground.guard }], guard := some (2, false) }) (v := ?vv14_2_5) rfl (by kernel_rfl) (by kernel_rfl) (by kernel_rfl) (fun _ _ _ h => h) (Or.inl ⟨by rfl, ?yy14_2_5⟩) hHeld ?_
            case yy14_2_5 => (intro W hx; go_simp; try with_reducible rfl)
            simp only [Act.put, List.setIfInBounds_toArray, List.set_cons_zero, List.set_cons_succ]
            refine wpAnyH_take (i := 6) (oi := { dst := some 24, op := Op.load 26 (Operand.tmp 1), type := 26, pos := "ref.go:46", after := #[{ on := 2, ground := Ground.guard }], guard := some (2, false) }) (v := ?vv15_2_6) rfl (by kernel_rfl) (by kernel_rfl) (by kernel_rfl) (fun _ _ _ h => h) (Or.inl ⟨by rfl, ?yy15_2_6⟩) hHeld ?_
            case yy15_2_6 => (intro W hx; have hz := zz0.trans hx; obtain ⟨f0, f1, f2, f3, f4, f5, f6, f7⟩ := cells8 ((hz.block _ (blk_lt K1)).trans K1); go_simp; try with_reducible rfl)
            simp only [Act.put, List.setIfInBounds_toArray, List.set_cons_zero, List.set_cons_succ]
            refine wpAnyH_ready (rs := [7]) (by kernel_rfl) (by simp) (AllReadyH.cons rfl (fun K hK => ?_) AllReadyH.nil)
            go_simp
            go_wp2_with (go_at_call 21; (with_reducible refine (many_any _ _ _ _ _ _ _ _ _ _ _ h0 h1 a00 a01).mono ?_); rintro e w5 ⟨rfl, x5⟩)
            refine hK.out _ _ x5 (fun hHeld => ?_)
            clear hK K
            refine wpAnyH_imp (S' := Ext w5) (fun W h => Ext.trans x5 h) _ _ _ _ ?_
            replace hHeld := Ext.refl w5
            have zz1 := zz0.trans x5
            refine wpAnyH_take (i := 8) (oi := { dst := some 26, op := Op.binOp BinOp.neq 3 (Operand.tmp 23) (Operand.tmp 25) 3, type := 4, pos := "ref.go:46", after := #[{ on := 5, ground := Ground.data }, { on := 7, ground := Ground.data }, { on := 2, ground := Ground.guard }], guard := some (2, false) }) (v := ?vv16_2_8) rfl (by kernel_rfl) (by kernel_rfl) (by kernel_rfl) (fun _ _ _ h => h) (Or.inl ⟨by rfl, ?yy16_2_8⟩) hHeld ?_
            case yy16_2_8 => (intro W hx; go_simp; try with_reducible rfl)
            simp only [Act.put, List.setIfInBounds_toArray, List.set_cons_zero, List.set_cons_succ]
            refine wpAnyH_take (i := 9) (oi := { dst := some 27, op := Op.pick (Operand.tmp 20) (Operand.const (Value.bool true)) (Operand.tmp 26), type := 4, pos := "ref.go:46", after := #[{ on := 2, ground := Ground.data }, { on := 8, ground := Ground.data }], guard := none }) (v := ?vv17_2_9) rfl (by kernel_rfl) (by kernel_rfl) (by kernel_rfl) (fun _ _ _ h => h) (Or.inl ⟨by rfl, ?yy17_2_9⟩) hHeld ?_
            case yy17_2_9 => (intro W hx; go_simp; try with_reducible rfl)
            simp only [Act.put, List.setIfInBounds_toArray, List.set_cons_zero, List.set_cons_succ]
            refine wpAnyH_take (i := 10) (oi := { dst := some 28, op := Op.move (Operand.tmp 27), type := 4, pos := "ref.go:46", after := #[{ on := 9, ground := Ground.data }, { on := 7, ground := Ground.chain }], guard := none }) (v := ?vv18_2_10) rfl (by kernel_rfl) (by kernel_rfl) (by kernel_rfl) (fun _ _ _ h => h) (Or.inl ⟨by rfl, ?yy18_2_10⟩) hHeld ?_
            case yy18_2_10 => (intro W hx; go_simp; try with_reducible rfl)
            simp only [Act.put, List.setIfInBounds_toArray, List.set_cons_zero, List.set_cons_succ]
            refine wpAnyH_take (i := 11) (oi := { dst := some 29, op := Op.move (Operand.tmp 5), type := 4, pos := "ref.go:46", after := #[{ on := 10, ground := Ground.guard }], guard := some (10, false) }) (v := ?vv19_2_11) rfl (by kernel_rfl) (by kernel_rfl) (by kernel_rfl) (fun _ _ _ h => h) (Or.inl ⟨by rfl, ?yy19_2_11⟩) hHeld ?_
            case yy19_2_11 => (intro W hx; go_simp; try with_reducible rfl)
            simp only [Act.put, List.setIfInBounds_toArray, List.set_cons_zero, List.set_cons_succ]
            refine wpAnyH_take (i := 12) (oi := { dst := some 30, op := Op.unOp UnOp.not 4 (Operand.tmp 29), type := 4, pos := "ref.go:46", after := #[{ on := 11, ground := Ground.data }, { on := 10, ground := Ground.guard }], guard := some (10, false) }) (v := ?vv20_2_12) rfl (by kernel_rfl) (by kernel_rfl) (by kernel_rfl) (fun _ _ _ h => h) (Or.inl ⟨by rfl, ?yy20_2_12⟩) hHeld ?_
            case yy20_2_12 => (intro W hx; go_simp; try with_reducible rfl)
            simp only [Act.put, List.setIfInBounds_toArray, List.set_cons_zero, List.set_cons_succ]
            refine wpAnyH_take (i := 13) (oi := { dst := some 31, op := Op.move (Operand.tmp 30), type := 4, pos := "ref.go:46", after := #[{ on := 12, ground := Ground.data }, { on := 10, ground := Ground.chain }, { on := 10, ground := Ground.guard }], guard := some (10, false) }) (v := ?vv21_2_13) rfl (by kernel_rfl) (by kernel_rfl) (by kernel_rfl) (fun _ _ _ h => h) (Or.inl ⟨by rfl, ?yy21_2_13⟩) hHeld ?_
            case yy21_2_13 => (intro W hx; go_simp; try with_reducible rfl)
            simp only [Act.put, List.setIfInBounds_toArray, List.set_cons_zero, List.set_cons_succ]
            refine wpAnyH_take (i := 14) (oi := { dst := some 32, op := Op.fieldAddr 26 (Operand.tmp 1) 2, type := 0, pos := "ref.go:46", after := #[{ on := 13, ground := Ground.guard }], guard := some (13, true) }) (v := ?vv22_2_14) rfl (by kernel_rfl) (by kernel_rfl) (by kernel_rfl) (fun _ _ _ h => h) (Or.inl ⟨by rfl, ?yy22_2_14⟩) hHeld ?_
            case yy22_2_14 => (intro W hx; go_simp; try with_reducible rfl)
            simp only [Act.put, List.setIfInBounds_toArray, List.set_cons_zero, List.set_cons_succ]
            refine wpAnyH_take (i := 15) (oi := { dst := some 33, op := Op.load 23 (Operand.tmp 32), type := 23, pos := "ref.go:46", after := #[{ on := 14, ground := Ground.data }, { on := 13, ground := Ground.guard }], guard := some (13, true) }) (v := ?vv23_2_15) rfl (by kernel_rfl) (by kernel_rfl) (by kernel_rfl) (fun _ _ _ h => h) (Or.inl ⟨by rfl, ?yy23_2_15⟩) hHeld ?_
            case yy23_2_15 => (intro W hx; have hz := zz1.trans hx; obtain ⟨f0, f1, f2, f3, f4, f5, f6, f7⟩ := cells8 ((hz.block _ (blk_lt K1)).trans K1); go_simp; try with_reducible rfl)
            simp only [Act.put, List.setIfInBounds_toArray, List.set_cons_zero, List.set_cons_succ]
            refine wpAnyH_take (i := 16) (oi := { dst := some 34, op := Op.binOp BinOp.neq 23 (Operand.tmp 33) (Operand.const (Value.int IntKind.u32 0)) 23, type := 4, pos := "ref.go:46", after := #[{ on := 15, ground := Ground.data }, { on := 13, ground := Ground.guard }], guard := some (13, true) }) (v := ?vv24_2_16) rfl (by kernel_rfl) (by kernel_rfl) (by kernel_rfl) (fun _ _ _ h => h) (Or.inl ⟨by rfl, ?yy24_2_16⟩) hHeld ?_
            case yy24_2_16 => (intro W hx; go_simp; try with_reducible rfl)
            simp only [Act.put, List.setIfInBounds_toArray, List.set_cons_zero, List.set_cons_succ]
            refine wpAnyH_take (i := 17) (oi := { dst := some 35, op := Op.pick (Operand.tmp 31) (Operand.tmp 34) (Operand.const (Value.bool false)), type := 4, pos := "ref.go:46", after := #[{ on := 13, ground := Ground.data }, { on := 16, ground := Ground.data }, { on := 10, ground := Ground.guard }], guard := some (10, false) }) (v := ?vv25_2_17) rfl (by kernel_rfl) (by kernel_rfl) (by kernel_rfl) (fun _ _ _ h => h) (Or.inl ⟨by rfl, ?yy25_2_17⟩) hHeld ?_
            case yy25_2_17 => (intro W hx; go_simp; try with_reducible rfl)
            simp only [Act.put, List.setIfInBounds_toArray, List.set_cons_zero, List.set_cons_succ]
            refine wpAnyH_take (i := 18) (oi := { dst := some 36, op := Op.pick (Operand.tmp 28) (Operand.const (Value.bool true)) (Operand.tmp 35), type := 4, pos := "ref.go:46", after := #[{ on := 10, ground := Ground.data }, { on := 17, ground := Ground.data }], guard := none }) (v := ?vv26_2_18) rfl (by kernel_rfl) (by kernel_rfl) (by kernel_rfl) (fun _ _ _ h => h) (Or.inl ⟨by rfl, ?yy26_2_18⟩) hHeld ?_
            case yy26_2_18 => (intro W hx; go_simp; try with_reducible rfl)
            simp only [Act.put, List.setIfInBounds_toArray, List.set_cons_zero, List.set_cons_succ]
            refine wpAnyH_done (by kernel_rfl) ?_ _
            have zend := zz1.trans hHeld
            go_wp2
            go_meet
            case rel => exact ⟨congrArg Value.bool (by simp [*]), congrArg Value.bool (by simp [*]), congrArg Value.bool (by simp [badR, *]), v1.trans zend, zend⟩
          · have tok := True.intro
            refine wp_region_held_drew (S := Ext W1) (by kernel_rfl) ((Ext.refl _).drew) (fun hHeld => ?_)
            obtain ⟨wD27, hwD⟩ : ∃ V, V = World.drew W1 := ⟨_, rfl⟩
            rw [← hwD]
            clear hHeld
            have zz0 : Ext W1 wD27 := by rw [hwD]; exact (Ext.refl _).drew
            clear hwD
            refine wpAnyH_imp (S' := Ext wD27) (fun W h => Ext.trans zz0 h) _ _ _ _ ?_
            have hHeld := Ext.refl wD27
            refine wpAnyH_take (i := 0) (oi := { dst := some 18, op := Op.move (Operand.tmp 7), type := 4, pos := "ref.go:46", after := #[], guard := none }) (v := ?vv28_2_0) rfl (by kernel_rfl) (by kernel_rfl) (by kernel_rfl) (fun _ _ _ h => h) (Or.inl ⟨by rfl, ?yy28_2_0⟩) hHeld ?_
            case yy28_2_0 => (intro W hx; go_simp; try with_reducible rfl)
            simp only [Act.put, List.setIfInBounds_toArray, List.set_cons_zero, List.set_cons_succ]
            refine wpAnyH_take (i := 1) (oi := { dst := some 19, op := Op.unOp UnOp.not 4 (Operand.tmp 18), type := 4, pos := "ref.go:46", after := #[{ on := 0, ground := Ground.data }], guard := none }) (v := ?vv29_2_1) rfl (by kernel_rfl) (by kernel_rfl) (by kernel_rfl) (fun _ _ _ h => h) (Or.inl ⟨by rfl, ?yy29_2_1⟩) hHeld ?_
            case yy29_2_1 => (intro W hx; go_simp; try with_reducible rfl)
            simp only [Act.put, List.setIfInBounds_toArray, List.set_cons_zero, List.set_cons_succ]
            refine wpAnyH_take (i := 2) (oi := { dst := some 20, op := Op.move (Operand.tmp 19), type := 4, pos := "ref.go:46", after := #[{ on := 1, ground := Ground.data }], guard := none }) (v := ?vv30_2_2) rfl (by kernel_rfl) (by kernel_rfl) (by kernel_rfl) (fun _ _ _ h => h) (Or.inl ⟨by rfl, ?yy30_2_2⟩) hHeld ?_
            case yy30_2_2 => (intro W hx; go_simp; try with_reducible rfl)
            simp only [Act.put, List.setIfInBounds_toArray, List.set_cons_zero, List.set_cons_succ]
            refine wpAnyH_take (i := 3) (oi := { dst := some 21, op := Op.fieldAddr 26 (Operand.tmp 1) 3, type := 0, pos := "ref.go:46", after := #[{ on := 2, ground := Ground.guard }], guard := some (2, false) }) (v := ?vv31_2_3) rfl (by kernel_rfl) (by kernel_rfl) (by kernel_rfl) (fun _ _ _ h => h) (Or.inl ⟨by rfl, ?yy31_2_3⟩) hHeld ?_
            case yy31_2_3 => (intro W hx; go_simp; try with_reducible rfl)
            simp only [Act.put, List.setIfInBounds_toArray, List.set_cons_zero, List.set_cons_succ]
            refine wpAnyH_take (i := 4) (oi := { dst := some 22, op := Op.load 24 (Operand.tmp 21), type := 24, pos := "ref.go:46", after := #[{ on := 3, ground := Ground.data }, { on := 2, ground := Ground.guard }], guard := some (2, false) }) (v := ?vv32_2_4) rfl (by kernel_rfl) (by kernel_rfl) (by kernel_rfl) (fun _ _ _ h => h) (Or.inl ⟨by rfl, ?yy32_2_4⟩) hHeld ?_
            case yy32_2_4 => (intro W hx; have hz := zz0.trans hx; obtain ⟨f0, f1, f2, f3, f4, f5, f6, f7⟩ := cells8 ((hz.block _ (blk_lt K1)).trans K1); go_simp; try with_reducible rfl)
            simp only [Act.put, List.setIfInBounds_toArray, List.set_cons_zero, List.set_cons_succ]
            refine wpAnyH_take (i := 5) (oi := { dst := some 23, op := Op.call { callee := Callee.builtin Builtin.len, args := #[Operand.tmp 22], argTypes := #[24] }, type := 3, pos := "ref.go:46", after := #[{ on := 4, ground := Ground.data }, { on := 2, ground := Ground.guard }], guard := some (2, false) }) (v := ?vv33_2_5) rfl (by kernel_rfl) (by kernel_rfl) (by kernel_rfl) (fun _ _ _ h => h) (Or.inl ⟨by rfl, ?yy33_2_5⟩) hHeld ?_
            case yy33_2_5 => (intro W hx; go_simp; try with_reducible rfl)
            simp only [Act.put, List.setIfInBounds_toArray, List.set_cons_zero, List.set_cons_succ]
            refine wpAnyH_take (i := 6) (oi := { dst := some 24, op := Op.load 26 (Operand.tmp 1), type := 26, pos := "ref.go:46", after := #[{ on := 2, ground := Ground.guard }], guard := some (2, false) }) (v := ?vv34_2_6) rfl (by kernel_rfl) (by kernel_rfl) (by kernel_rfl) (fun _ _ _ h => h) (Or.inl ⟨by rfl, ?yy34_2_6⟩) hHeld ?_
            case yy34_2_6 => (intro W hx; have hz := zz0.trans hx; obtain ⟨f0, f1, f2, f3, f4, f5, f6, f7⟩ := cells8 ((hz.block _ (blk_lt K1)).trans K1); go_simp; try with_reducible rfl)
            simp only [Act.put, List.setIfInBounds_toArray, List.set_cons_zero, List.set_cons_succ]
            refine wpAnyH_ready (rs := [7]) (by kernel_rfl) (by simp) (AllReadyH.cons rfl (fun K hK => ?_) AllReadyH.nil)
            go_simp
            go_wp2_with (go_at_call 21; (with_reducible refine (many_any _ _ _ _ _ _ _ _ _ _ _ h0 h1 a00 a01).mono ?_); rintro e w5 ⟨rfl, x5⟩)
            refine hK.out _ _ x5 (fun hHeld => ?_)
            clear hK K
            refine wpAnyH_imp (S' := Ext w5) (fun W h => Ext.trans x5 h) _ _ _ _ ?_
            replace hHeld := Ext.refl w5
            have zz1 := zz0.trans x5
            refine wpAnyH_take (i := 8) (oi := { dst := some 26, op := Op.binOp BinOp.neq 3 (Operand.tmp 23) (Operand.tmp 25) 3, type := 4, pos := "ref.go:46", after := #[{ on := 5, ground := Ground.data }, { on := 7, ground := Ground.data }, { on := 2, ground := Ground.guard }], guard := some (2, false) }) (v := ?vv35_2_8) rfl (by kernel_rfl) (by kernel_rfl) (by kernel_rfl) (fun _ _ _ h => h) (Or.inl ⟨by rfl, ?yy35_2_8⟩) hHeld ?_
            case yy35_2_8 => (intro W hx; go_simp; try with_reducible rfl)
            simp only [Act.put, List.setIfInBounds_toArray, List.set_cons_zero, List.set_cons_succ]
            refine wpAnyH_take (i := 9) (oi := { dst := some 27, op := Op.pick (Operand.tmp 20) (Operand.const (Value.bool true)) (Operand.tmp 26), type := 4, pos := "ref.go:46", after := #[{ on := 2, ground := Ground.data }, { on := 8, ground := Ground.data }], guard := none }) (v := ?vv36_2_9) rfl (by kernel_rfl) (by kernel_rfl) (by kernel_rfl) (fun _ _ _ h => h) (Or.inl ⟨by rfl, ?yy36_2_9⟩) hHeld ?_
            case yy36_2_9 => (intro W hx; go_simp; try with_reducible rfl)
            simp only [Act.put, List.setIfInBounds_toArray, List.set_cons_zero, List.set_cons_succ]
            refine wpAnyH_take (i := 10) (oi := { dst := some 28, op := Op.move (Operand.tmp 27), type := 4, pos := "ref.go:46", after := #[{ on := 9, ground := Ground.data }, { on := 7, ground := Ground.chain }], guard := none }) (v := ?vv37_2_10) rfl (by kernel_rfl) (by kernel_rfl) (by kernel_rfl) (fun _ _ _ h => h) (Or.inl ⟨by rfl, ?yy37_2_10⟩) hHeld ?_
            case yy37_2_10 => (intro W hx; go_simp; try with_reducible rfl)
            simp only [Act.put, List.setIfInBounds_toArray, List.set_cons_zero, List.set_cons_succ]
            refine wpAnyH_take (i := 11) (oi := { dst := some 29, op := Op.move (Operand.tmp 5), type := 4, pos := "ref.go:46", after := #[{ on := 10, ground := Ground.guard }], guard := some (10, false) }) (v := ?vv38_2_11) rfl (by kernel_rfl) (by kernel_rfl) (by kernel_rfl) (fun _ _ _ h => h) (Or.inl ⟨by rfl, ?yy38_2_11⟩) hHeld ?_
            case yy38_2_11 => (intro W hx; go_simp; try with_reducible rfl)
            simp only [Act.put, List.setIfInBounds_toArray, List.set_cons_zero, List.set_cons_succ]
            refine wpAnyH_take (i := 12) (oi := { dst := some 30, op := Op.unOp UnOp.not 4 (Operand.tmp 29), type := 4, pos := "ref.go:46", after := #[{ on := 11, ground := Ground.data }, { on := 10, ground := Ground.guard }], guard := some (10, false) }) (v := ?vv39_2_12) rfl (by kernel_rfl) (by kernel_rfl) (by kernel_rfl) (fun _ _ _ h => h) (Or.inl ⟨by rfl, ?yy39_2_12⟩) hHeld ?_
            case yy39_2_12 => (intro W hx; go_simp; try with_reducible rfl)
            simp only [Act.put, List.setIfInBounds_toArray, List.set_cons_zero, List.set_cons_succ]
            refine wpAnyH_take (i := 13) (oi := { dst := some 31, op := Op.move (Operand.tmp 30), type := 4, pos := "ref.go:46", after := #[{ on := 12, ground := Ground.data }, { on := 10, ground := Ground.chain }, { on := 10, ground := Ground.guard }], guard := some (10, false) }) (v := ?vv40_2_13) rfl (by kernel_rfl) (by kernel_rfl) (by kernel_rfl) (fun _ _ _ h => h) (Or.inl ⟨by rfl, ?yy40_2_13⟩) hHeld ?_
            case yy40_2_13 => (intro W hx; go_simp; try with_reducible rfl)
            simp only [Act.put, List.setIfInBounds_toArray, List.set_cons_zero, List.set_cons_succ]
            refine wpAnyH_take (i := 14) (oi := { dst := some 32, op := Op.fieldAddr 26 (Operand.tmp 1) 2, type := 0, pos := "ref.go:46", after := #[{ on := 13, ground := Ground.guard }], guard := some (13, true) }) (v := ?vv41_2_14) rfl (by kernel_rfl) (by kernel_rfl) (by kernel_rfl) (fun _ _ _ h => h) (Or.inl ⟨by rfl, ?yy41_2_14⟩) hHeld ?_
            case yy41_2_14 => (intro W hx; go_simp; try with_reducible rfl)
            simp only [Act.put, List.setIfInBounds_toArray, List.set_cons_zero, List.set_cons_succ]
            refine wpAnyH_take (i := 15) (oi := { dst := some 33, op := Op.load 23 (Operand.tmp 32), type := 23, pos := "ref.go:46", after := #[{ on := 14, ground := Ground.data }, { on := 13, ground := Ground.guard }], guard := some (13, true) }) (v := ?vv42_2_15) rfl (by kernel_rfl) (by kernel_rfl) (by kernel_rfl) (fun _ _ _ h => h) (Or.inl ⟨by rfl, ?yy42_2_15⟩) hHeld ?_
            case yy42_2_15 => (intro W hx; have hz := zz1.trans hx; obtain ⟨f0, f1, f2, f3, f4, f5, f6, f7⟩ := cells8 ((hz.block _ (blk_lt K1)).trans K1); go_simp; try with_reducible rfl)
            simp only [Act.put, List.setIfInBounds_toArray, List.set_cons_zero, List.set_cons_succ]
            refine wpAnyH_take (i := 16) (oi := { dst := some 34, op := Op.binOp BinOp.neq 23 (Operand.tmp 33) (Operand.const (Value.int IntKind.u32 0)) 23, type := 4, pos := "ref.go:46", after := #[{ on := 15, ground := Ground.data }, { on := 13, ground := Ground.guard }], guard := some (13, true) }) (v := ?vv43_2_16) rfl (by kernel_rfl) (by kernel_rfl) (by kernel_rfl) (fun _ _ _ h => h) (Or.inl ⟨by rfl, ?yy43_2_16⟩) hHeld ?_
            case yy43_2_16 => (intro W hx; go_simp; try with_reducible rfl)
            simp only [Act.put, List.setIfInBounds_toArray, List.set_cons_zero, List.set_cons_succ]
            refine wpAnyH_take (i := 17) (oi := { dst := some 35, op := Op.pick (Operand.tmp 31) (Operand.tmp 34) (Operand.const (Value.bool false)), type := 4, pos := "ref.go:46", after := #[{ on := 13, ground := Ground.data }, { on := 16, ground := Ground.data }, { on := 10, ground := Ground.guard }], guard := some (10, false) }) (v := ?vv44_2_17) rfl (by kernel_rfl) (by kernel_rfl) (by kernel_rfl) (fun _ _ _ h => h) (Or.inl ⟨by rfl, ?yy44_2_17⟩) hHeld ?_
            case yy44_2_17 => (intro W hx; go_simp; try with_reducible rfl)
            simp only [Act.put, List.setIfInBounds_toArray, List.set_cons_zero, List.set_cons_succ]
            refine wpAnyH_take (i := 18) (oi := { dst := some 36, op := Op.pick (Operand.tmp 28) (Operand.const (Value.bool true)) (Operand.tmp 35), type := 4, pos := "ref.go:46", after := #[{ on := 10, ground := Ground.data }, { on := 17, ground := Ground.data }], guard := none }) (v := ?vv45_2_18) rfl (by kernel_rfl) (by kernel_rfl) (by kernel_rfl) (fun _ _ _ h => h) (Or.inl ⟨by rfl, ?yy45_2_18⟩) hHeld ?_
            case yy45_2_18 => (intro W hx; go_simp; try with_reducible rfl)
            simp only [Act.put, List.setIfInBounds_toArray, List.set_cons_zero, List.set_cons_succ]
            refine wpAnyH_done (by kernel_rfl) ?_ _
            have zend := zz1.trans hHeld
            go_wp2
            go_meet
            case rel => exact ⟨congrArg Value.bool (by simp [*]), congrArg Value.bool (by simp [*]), congrArg Value.bool (by simp [badR, *]), v1.trans zend, zend⟩
        · have tok := True.intro
          refine wp_region_held_drew (S := Ext W1) (by kernel_rfl) ((Ext.refl _).drew) (fun hHeld => ?_)
          obtain ⟨wD46, hwD⟩ : ∃ V, V = World.drew W1 := ⟨_, rfl⟩
          rw [← hwD]
          clear hHeld
          have zz0 : Ext W1 wD46 := by rw [hwD]; exact (Ext.refl _).drew
          clear hwD
          refine wpAnyH_imp (S' := Ext wD46) (fun W h => Ext.trans zz0 h) _ _ _ _ ?_
          have hHeld := Ext.refl wD46
          refine wpAnyH_take (i := 0) (oi := { dst := some 18, op := Op.move (Operand.tmp 7), type := 4, pos := "ref.go:46", after := #[], guard := none }) (v := ?vv47_2_0) rfl (by kernel_rfl) (by kernel_rfl) (by kernel_rfl) (fun _ _ _ h => h) (Or.inl ⟨by rfl, ?yy47_2_0⟩) hHeld ?_
          case yy47_2_0 => (intro W hx; go_simp; try with_reducible rfl)
          simp only [Act.put, List.setIfInBounds_toArray, List.set_cons_zero, List.set_cons_succ]
          refine wpAnyH_take (i := 1) (oi := { dst := some 19, op := Op.unOp UnOp.not 4 (Operand.tmp 18), type := 4, pos := "ref.go:46", after := #[{ on := 0, ground := Ground.data }], guard := none }) (v := ?vv48_2_1) rfl (by kernel_rfl) (by kernel_rfl) (by kernel_rfl) (fun _ _ _ h => h) (Or.inl ⟨by rfl, ?yy48_2_1⟩) hHeld ?_
          case yy48_2_1 => (intro W hx; go_simp; try with_reducible rfl)
          simp only [Act.put, List.setIfInBounds_toArray, List.set_cons_zero, List.set_cons_succ]
          refine wpAnyH_take (i := 2) (oi := { dst := some 20, op := Op.move (Operand.tmp 19), type := 4, pos := "ref.go:46", after := #[{ on := 1, ground := Ground.data }], guard := none }) (v := ?vv49_2_2) rfl (by kernel_rfl) (by kernel_rfl) (by kernel_rfl) (fun _ _ _ h => h) (Or.inl ⟨by rfl, ?yy49_2_2⟩) hHeld ?_
          case yy49_2_2 => (intro W hx; go_simp; try with_reducible rfl)
          simp only [Act.put, List.setIfInBounds_toArray, List.set_cons_zero, List.set_cons_succ]
          refine wpAnyH_take (i := 3) (oi := { dst := some 21, op := Op.fieldAddr 26 (Operand.tmp 1) 3, type := 0, pos := "ref.go:46", after := #[{ on := 2, ground := Ground.guard }], guard := some (2, false) }) (v := ?vv50_2_3) rfl (by kernel_rfl) (by kernel_rfl) (by kernel_rfl) (fun _ _ _ h => h) (Or.inl ⟨by rfl, ?yy50_2_3⟩) hHeld ?_
          case yy50_2_3 => (intro W hx; go_simp; try with_reducible rfl)
          simp only [Act.put, List.setIfInBounds_toArray, List.set_cons_zero, List.set_cons_succ]
          refine wpAnyH_take (i := 4) (oi := { dst := some 22, op := Op.load 24 (Operand.tmp 21), type := 24, pos := "ref.go:46", after := #[{ on := 3, ground := Ground.data }, { on := 2, ground := Ground.guard }], guard := some (2, false) }) (v := ?vv51_2_4) rfl (by kernel_rfl) (by kernel_rfl) (by kernel_rfl) (fun _ _ _ h => h) (Or.inl ⟨by rfl, ?yy51_2_4⟩) hHeld ?_
          case yy51_2_4 => (intro W hx; have hz := zz0.trans hx; obtain ⟨f0, f1, f2, f3, f4, f5, f6, f7⟩ := cells8 ((hz.block _ (blk_lt K1)).trans K1); go_simp; try with_reducible rfl)
          simp only [Act.put, List.setIfInBounds_toArray, List.set_cons_zero, List.set_cons_succ]
          refine wpAnyH_take (i := 5) (oi := { dst := some 23, op := Op.call { callee := Callee.builtin Builtin.len, args := #[Operand.tmp 22], argTypes := #[24] }, type := 3, pos := "ref.go:46", after := #[{ on := 4, ground := Ground.data }, { on := 2, ground := Ground.guard }], guard := some (2, false) }) (v := ?vv52_2_5) rfl (by kernel_rfl) (by kernel_rfl) (by kernel_rfl) (fun _ _ _ h => h) (Or.inl ⟨by rfl, ?yy52_2_5⟩) hHeld ?_
          case yy52_2_5 => (intro W hx; go_simp; try with_reducible rfl)
          simp only [Act.put, List.setIfInBounds_toArray, List.set_cons_zero, List.set_cons_succ]
          refine wpAnyH_take (i := 6) (oi := { dst := some 24, op := Op.load 26 (Operand.tmp 1), type := 26, pos := "ref.go:46", after := #[{ on := 2, ground := Ground.guard }], guard := some (2, false) }) (v := ?vv53_2_6) rfl (by kernel_rfl) (by kernel_rfl) (by kernel_rfl) (fun _ _ _ h => h) (Or.inl ⟨by rfl, ?yy53_2_6⟩) hHeld ?_
          case yy53_2_6 => (intro W hx; have hz := zz0.trans hx; obtain ⟨f0, f1, f2, f3, f4, f5, f6, f7⟩ := cells8 ((hz.block _ (blk_lt K1)).trans K1); go_simp; try with_reducible rfl)
          simp only [Act.put, List.setIfInBounds_toArray, List.set_cons_zero, List.set_cons_succ]
          refine wpAnyH_ready (rs := [7]) (by kernel_rfl) (by simp) (AllReadyH.cons rfl (fun K hK => ?_) AllReadyH.nil)
          go_simp
          go_wp2_with (go_at_call 21; (with_reducible refine (many_any _ _ _ _ _ _ _ _ _ _ _ h0 h1 a00 a01).mono ?_); rintro e w5 ⟨rfl, x5⟩)
          refine hK.out _ _ x5 (fun hHeld => ?_)
          clear hK K
          refine wpAnyH_imp (S' := Ext w5) (fun W h => Ext.trans x5 h) _ _ _ _ ?_
          replace hHeld := Ext.refl w5
          have zz1 := zz0.trans x5
          refine wpAnyH_take (i := 8) (oi := { dst := some 26, op := Op.binOp BinOp.neq 3 (Operand.tmp 23) (Operand.tmp 25) 3, type := 4, pos := "ref.go:46", after := #[{ on := 5, ground := Ground.data }, { on := 7, ground := Ground.data }, { on := 2, ground := Ground.guard }], guard := some (2, false) }) (v := ?vv54_2_8) rfl (by kernel_rfl) (by kernel_rfl) (by kernel_rfl) (fun _ _ _ h => h) (Or.inl ⟨by rfl, ?yy54_2_8⟩) hHeld ?_
          case yy54_2_8 => (intro W hx; go_simp; try with_reducible rfl)
          simp only [Act.put, List.setIfInBounds_toArray, List.set_cons_zero, List.set_cons_succ]
          refine wpAnyH_take (i := 9) (oi := { dst := some 27, op := Op.pick (Operand.tmp 20) (Operand.const (Value.bool true)) (Operand.tmp 26), type := 4, pos := "ref.go:46", after := #[{ on := 2, ground := Ground.data }, { on := 8, ground := Ground.data }], guard := none }) (v := ?vv55_2_9) rfl (by kernel_rfl) (by kernel_rfl) (by kernel_rfl) (fun _ _ _ h => h) (Or.inl ⟨by rfl, ?yy55_2_9⟩) hHeld ?_
          case yy55_2_9 => (intro W hx; go_simp; try with_reducible rfl)
          simp only [Act.put, List.setIfInBounds_toArray, List.set_cons_zero, List.set_cons_succ]
          refine wpAnyH_take (i := 10) (oi := { dst := some 28, op := Op.move (Operand.tmp 27), type := 4, pos := "ref.go:46", after := #[{ on := 9, ground := Ground.data }, { on := 7, ground := Ground.chain }], guard := none }) (v := ?vv56_2_10) rfl (by kernel_rfl) (by kernel_rfl) (by kernel_rfl) (fun _ _ _ h => h) (Or.inl ⟨by rfl, ?yy56_2_10⟩) hHeld ?_
          case yy56_2_10 => (intro W hx; go_simp; try with_reducible rfl)
          simp only [Act.put, List.setIfInBounds_toArray, List.set_cons_zero, List.set_cons_succ]
          refine wpAnyH_take (i := 11) (oi := { dst := some 29, op := Op.move (Operand.tmp 5), type := 4, pos := "ref.go:46", after := #[{ on := 10, ground := Ground.guard }], guard := some (10, false) }) (v := ?vv57_2_11) rfl (by kernel_rfl) (by kernel_rfl) (by kernel_rfl) (fun _ _ _ h => h) (Or.inl ⟨by rfl, ?yy57_2_11⟩) hHeld ?_
          case yy57_2_11 => (intro W hx; go_simp; try with_reducible rfl)
          simp only [Act.put, List.setIfInBounds_toArray, List.set_cons_zero, List.set_cons_succ]
          refine wpAnyH_take (i := 12) (oi := { dst := some 30, op := Op.unOp UnOp.not 4 (Operand.tmp 29), type := 4, pos := "ref.go:46", after := #[{ on := 11, ground := Ground.data }, { on := 10, ground := Ground.guard }], guard := some (10, false) }) (v := ?vv58_2_12) rfl (by kernel_rfl) (by kernel_rfl) (by kernel_rfl) (fun _ _ _ h => h) (Or.inl ⟨by rfl, ?yy58_2_12⟩) hHeld ?_
          case yy58_2_12 => (intro W hx; go_simp; try with_reducible rfl)
          simp only [Act.put, List.setIfInBounds_toArray, List.set_cons_zero, List.set_cons_succ]
          refine wpAnyH_take (i := 13) (oi := { dst := some 31, op := Op.move (Operand.tmp 30), type := 4, pos := "ref.go:46", after := #[{ on := 12, ground := Ground.data }, { on := 10, ground := Ground.chain }, { on := 10, ground := Ground.guard }], guard := some (10, false) }) (v := ?vv59_2_13) rfl (by kernel_rfl) (by kernel_rfl) (by kernel_rfl) (fun _ _ _ h => h) (Or.inl ⟨by rfl, ?yy59_2_13⟩) hHeld ?_
          case yy59_2_13 => (intro W hx; go_simp; try with_reducible rfl)
          simp only [Act.put, List.setIfInBounds_toArray, List.set_cons_zero, List.set_cons_succ]
          refine wpAnyH_take (i := 14) (oi := { dst := some 32, op := Op.fieldAddr 26 (Operand.tmp 1) 2, type := 0, pos := "ref.go:46", after := #[{ on := 13, ground := Ground.guard }], guard := some (13, true) }) (v := undef) rfl (by kernel_rfl) (by kernel_rfl) (by kernel_rfl) (fun _ _ _ h => h) (Or.inr ⟨by rfl, rfl⟩) hHeld ?_
          simp only [Act.put, List.setIfInBounds_toArray, List.set_cons_zero, List.set_cons_succ]
          refine wpAnyH_take (i := 15) (oi := { dst := some 33, op := Op.load 23 (Operand.tmp 32), type := 23, pos := "ref.go:46", after := #[{ on := 14, ground := Ground.data }, { on := 13, ground := Ground.guard }], guard := some (13, true) }) (v := undef) rfl (by kernel_rfl) (by kernel_rfl) (by kernel_rfl) (fun _ _ _ h => h) (Or.inr ⟨by rfl, rfl⟩) hHeld ?_
          simp only [Act.put, List.setIfInBounds_toArray, List.set_cons_zero, List.set_cons_succ]
          refine wpAnyH_take (i := 16) (oi := { dst := some 34, op := Op.binOp BinOp.neq 23 (Operand.tmp 33) (Operand.const (Value.int IntKind.u32 0)) 23, type := 4, pos := "ref.go:46", after := #[{ on := 15, ground := Ground.data }, { on := 13, ground := Ground.guard }], guard := some (13, true) }) (v := undef) rfl (by kernel_rfl) (by kernel_rfl) (by kernel_rfl) (fun _ _ _ h => h) (Or.inr ⟨by rfl, rfl⟩) hHeld ?_
          simp only [Act.put, List.setIfInBounds_toArray, List.set_cons_zero, List.set_cons_succ]
          refine wpAnyH_take (i := 17) (oi := { dst := some 35, op := Op.pick (Operand.tmp 31) (Operand.tmp 34) (Operand.const (Value.bool false)), type := 4, pos := "ref.go:46", after := #[{ on := 13, ground := Ground.data }, { on := 16, ground := Ground.data }, { on := 10, ground := Ground.guard }], guard := some (10, false) }) (v := ?vv60_2_17) rfl (by kernel_rfl) (by kernel_rfl) (by kernel_rfl) (fun _ _ _ h => h) (Or.inl ⟨by rfl, ?yy60_2_17⟩) hHeld ?_
          case yy60_2_17 => (intro W hx; go_simp; try with_reducible rfl)
          simp only [Act.put, List.setIfInBounds_toArray, List.set_cons_zero, List.set_cons_succ]
          refine wpAnyH_take (i := 18) (oi := { dst := some 36, op := Op.pick (Operand.tmp 28) (Operand.const (Value.bool true)) (Operand.tmp 35), type := 4, pos := "ref.go:46", after := #[{ on := 10, ground := Ground.data }, { on := 17, ground := Ground.data }], guard := none }) (v := ?vv61_2_18) rfl (by kernel_rfl) (by kernel_rfl) (by kernel_rfl) (fun _ _ _ h => h) (Or.inl ⟨by rfl, ?yy61_2_18⟩) hHeld ?_
          case yy61_2_18 => (intro W hx; go_simp; try with_reducible rfl)
          simp only [Act.put, List.setIfInBounds_toArray, List.set_cons_zero, List.set_cons_succ]
          refine wpAnyH_done (by kernel_rfl) ?_ _
          have zend := zz1.trans hHeld
          go_wp2
          go_meet
          case rel => exact ⟨congrArg Value.bool (by simp [*]), congrArg Value.bool (by simp [*]), congrArg Value.bool (by simp [badR, *]), v1.trans zend, zend⟩
      · have tok := True.intro
        refine wp_region_held_drew (S := Ext W1) (by kernel_rfl) ((Ext.refl _).drew) (fun hHeld => ?_)
        obtain ⟨wD62, hwD⟩ : ∃ V, V = World.drew W1 := ⟨_, rfl⟩
        rw [← hwD]
        clear hHeld
        have zz0 : Ext W1 wD62 := by rw [hwD]; exact (Ext.refl _).drew
        clear hwD
        refine wpAnyH_imp (S' := Ext wD62) (fun W h => Ext.trans zz0 h) _ _ _ _ ?_
        have hHeld := Ext.refl wD62
        refine wpAnyH_take (i := 0) (oi := { dst := some 18, op := Op.move (Operand.tmp 7), type := 4, pos := "ref.go:46", after := #[], guard := none }) (v := ?vv63_2_0) rfl (by kernel_rfl) (by kernel_rfl) (by kernel_rfl) (fun _ _ _ h => h) (Or.inl ⟨by rfl, ?yy63_2_0⟩) hHeld ?_
        case yy63_2_0 => (intro W hx; go_simp; try with_reducible rfl)
        simp only [Act.put, List.setIfInBounds_toArray, List.set_cons_zero, List.set_cons_succ]
        refine wpAnyH_take (i := 1) (oi := { dst := some 19, op := Op.unOp UnOp.not 4 (Operand.tmp 18), type := 4, pos := "ref.go:46", after := #[{ on := 0, ground := Ground.data }], guard := none }) (v := ?vv64_2_1) rfl (by kernel_rfl) (by kernel_rfl) (by kernel_rfl) (fun _ _ _ h => h) (Or.inl ⟨by rfl, ?yy64_2_1⟩) hHeld ?_
        case yy64_2_1 => (intro W hx; go_simp; try with_reducible rfl)
        simp only [Act.put, List.setIfInBounds_toArray, List.set_cons_zero, List.set_cons_succ]
        refine wpAnyH_take (i := 2) (oi := { dst := some 20, op := Op.move (Operand.tmp 19), type := 4, pos := "ref.go:46", after := #[{ on := 1, ground := Ground.data }], guard := none }) (v := ?vv65_2_2) rfl (by kernel_rfl) (by kernel_rfl) (by kernel_rfl) (fun _ _ _ h => h) (Or.inl ⟨by rfl, ?yy65_2_2⟩) hHeld ?_
        case yy65_2_2 => (intro W hx; go_simp; try with_reducible rfl)
        simp only [Act.put, List.setIfInBounds_toArray, List.set_cons_zero, List.set_cons_succ]
        refine wpAnyH_take (i := 3) (oi := { dst := some 21, op := Op.fieldAddr 26 (Operand.tmp 1) 3, type := 0, pos := "ref.go:46", after := #[{ on := 2, ground := Ground.guard }], guard := some (2, false) }) (v := ?vv66_2_3) rfl (by kernel_rfl) (by kernel_rfl) (by kernel_rfl) (fun _ _ _ h => h) (Or.inl ⟨by rfl, ?yy66_2_3⟩) hHeld ?_
        case yy66_2_3 => (intro W hx; go_simp; try with_reducible rfl)
        simp only [Act.put, List.setIfInBounds_toArray, List.set_cons_zero, List.set_cons_succ]
        refine wpAnyH_take (i := 4) (oi := { dst := some 22, op := Op.load 24 (Operand.tmp 21), type := 24, pos := "ref.go:46", after := #[{ on := 3, ground := Ground.data }, { on := 2, ground := Ground.guard }], guard := some (2, false) }) (v := ?vv67_2_4) rfl (by kernel_rfl) (by kernel_rfl) (by kernel_rfl) (fun _ _ _ h => h) (Or.inl ⟨by rfl, ?yy67_2_4⟩) hHeld ?_
        case yy67_2_4 => (intro W hx; have hz := zz0.trans hx; obtain ⟨f0, f1, f2, f3, f4, f5, f6, f7⟩ := cells8 ((hz.block _ (blk_lt K1)).trans K1); go_simp; try with_reducible rfl)
        simp only [Act.put, List.setIfInBounds_toArray, List.set_cons_zero, List.set_cons_succ]
        refine wpAnyH_take (i := 5) (oi := { dst := some 23, op := Op.call { callee := Callee.builtin Builtin.len, args := #[Operand.tmp 22], argTypes := #[24] }, type := 3, pos := "ref.go:46", after := #[{ on := 4, ground := Ground.data }, { on := 2, ground := Ground.guard }], guard := some (2, false) }) (v := ?vv68_2_5) rfl (by kernel_rfl) (by kernel_rfl) (by kernel_rfl) (fun _ _ _ h => h) (Or.inl ⟨by rfl, ?yy68_2_5⟩) hHeld ?_
        case yy68_2_5 => (intro W hx; go_simp; try with_reducible rfl)
        simp only [Act.put, List.setIfInBounds_toArray, List.set_cons_zero, List.set_cons_succ]
        refine wpAnyH_take (i := 6) (oi := { dst := some 24, op := Op.load 26 (Operand.tmp 1), type := 26, pos := "ref.go:46", after := #[{ on := 2, ground := Ground.guard }], guard := some (2, false) }) (v := ?vv69_2_6) rfl (by kernel_rfl) (by kernel_rfl) (by kernel_rfl) (fun _ _ _ h => h) (Or.inl ⟨by rfl, ?yy69_2_6⟩) hHeld ?_
        case yy69_2_6 => (intro W hx; have hz := zz0.trans hx; obtain ⟨f0, f1, f2, f3, f4, f5, f6, f7⟩ := cells8 ((hz.block _ (blk_lt K1)).trans K1); go_simp; try with_reducible rfl)
        simp only [Act.put, List.setIfInBounds_toArray, List.set_cons_zero, List.set_cons_succ]
        refine wpAnyH_ready (rs := [7]) (by kernel_rfl) (by simp) (AllReadyH.cons rfl (fun K hK => ?_) AllReadyH.nil)
        go_simp
        go_wp2_with (go_at_call 21; (with_reducible refine (many_any _ _ _ _ _ _ _ _ _ _ _ h0 h1 a00 a01).mono ?_); rintro e w5 ⟨rfl, x5⟩)
        refine hK.out _ _ x5 (fun hHeld => ?_)
        clear hK K
        refine wpAnyH_imp (S' := Ext w5) (fun W h => Ext.trans x5 h) _ _ _ _ ?_
        replace hHeld := Ext.refl w5
        have zz1 := zz0.trans x5
        refine wpAnyH_take (i := 8) (oi := { dst := some 26, op := Op.binOp BinOp.neq 3 (Operand.tmp 23) (Operand.tmp 25) 3, type := 4, pos := "ref.go:46", after := #[{ on := 5, ground := Ground.data }, { on := 7, ground := Ground.data }, { on := 2, ground := Ground.guard }], guard := some (2, false) }) (v := ?vv70_2_8) rfl (by kernel_rfl) (by kernel_rfl) (by kernel_rfl) (fun _ _ _ h => h) (Or.inl ⟨by rfl, ?yy70_2_8⟩) hHeld ?_
        case yy70_2_8 => (intro W hx; go_simp; try with_reducible rfl)
        simp only [Act.put, List.setIfInBounds_toArray, List.set_cons_zero, List.set_cons_succ]
        refine wpAnyH_take (i := 9) (oi := { dst := some 27, op := Op.pick (Operand.tmp 20) (Operand.const (Value.bool true)) (Operand.tmp 26), type := 4, pos := "ref.go:46", after := #[{ on := 2, ground := Ground.data }, { on := 8, ground := Ground.data }], guard := none }) (v := ?vv71_2_9) rfl (by kernel_rfl) (by kernel_rfl) (by kernel_rfl) (fun _ _ _ h => h) (Or.inl ⟨by rfl, ?yy71_2_9⟩) hHeld ?_
        case yy71_2_9 => (intro W hx; go_simp; try with_reducible rfl)
        simp only [Act.put, List.setIfInBounds_toArray, List.set_cons_zero, List.set_cons_succ]
        refine wpAnyH_take (i := 10) (oi := { dst := some 28, op := Op.move (Operand.tmp 27), type := 4, pos := "ref.go:46", after := #[{ on := 9, ground := Ground.data }, { on := 7, ground := Ground.chain }], guard := none }) (v := ?vv72_2_10) rfl (by kernel_rfl) (by kernel_rfl) (by kernel_rfl) (fun _ _ _ h => h) (Or.inl ⟨by rfl, ?yy72_2_10⟩) hHeld ?_
        case yy72_2_10 => (intro W hx; go_simp; try with_reducible rfl)
        simp only [Act.put, List.setIfInBounds_toArray, List.set_cons_zero, List.set_cons_succ]
        refine wpAnyH_take (i := 11) (oi := { dst := some 29, op := Op.move (Operand.tmp 5), type := 4, pos := "ref.go:46", after := #[{ on := 10, ground := Ground.guard }], guard := some (10, false) }) (v := undef) rfl (by kernel_rfl) (by kernel_rfl) (by kernel_rfl) (fun _ _ _ h => h) (Or.inr ⟨by rfl, rfl⟩) hHeld ?_
        simp only [Act.put, List.setIfInBounds_toArray, List.set_cons_zero, List.set_cons_succ]
        refine wpAnyH_take (i := 12) (oi := { dst := some 30, op := Op.unOp UnOp.not 4 (Operand.tmp 29), type := 4, pos := "ref.go:46", after := #[{ on := 11, ground := Ground.data }, { on := 10, ground := Ground.guard }], guard := some (10, false) }) (v := undef) rfl (by kernel_rfl) (by kernel_rfl) (by kernel_rfl) (fun _ _ _ h => h) (Or.inr ⟨by rfl, rfl⟩) hHeld ?_
        simp only [Act.put, List.setIfInBounds_toArray, List.set_cons_zero, List.set_cons_succ]
        refine wpAnyH_take (i := 13) (oi := { dst := some 31, op := Op.move (Operand.tmp 30), type := 4, pos := "ref.go:46", after := #[{ on := 12, ground := Ground.data }, { on := 10, ground := Ground.chain }, { on := 10, ground := Ground.guard }], guard := some (10, false) }) (v := undef) rfl (by kernel_rfl) (by kernel_rfl) (by kernel_rfl) (fun _ _ _ h => h) (Or.inr ⟨by rfl, rfl⟩) hHeld ?_
        simp only [Act.put, List.setIfInBounds_toArray, List.set_cons_zero, List.set_cons_succ]
        refine wpAnyH_take (i := 14) (oi := { dst := some 32, op := Op.fieldAddr 26 (Operand.tmp 1) 2, type := 0, pos := "ref.go:46", after := #[{ on := 13, ground := Ground.guard }], guard := some (13, true) }) (v := undef) rfl (by kernel_rfl) (by kernel_rfl) (by kernel_rfl) (fun _ _ _ h => h) (Or.inr ⟨by rfl, rfl⟩) hHeld ?_
        simp only [Act.put, List.setIfInBounds_toArray, List.set_cons_zero, List.set_cons_succ]
        refine wpAnyH_take (i := 15) (oi := { dst := some 33, op := Op.load 23 (Operand.tmp 32), type := 23, pos := "ref.go:46", after := #[{ on := 14, ground := Ground.data }, { on := 13, ground := Ground.guard }], guard := some (13, true) }) (v := undef) rfl (by kernel_rfl) (by kernel_rfl) (by kernel_rfl) (fun _ _ _ h => h) (Or.inr ⟨by rfl, rfl⟩) hHeld ?_
        simp only [Act.put, List.setIfInBounds_toArray, List.set_cons_zero, List.set_cons_succ]
        refine wpAnyH_take (i := 16) (oi := { dst := some 34, op := Op.binOp BinOp.neq 23 (Operand.tmp 33) (Operand.const (Value.int IntKind.u32 0)) 23, type := 4, pos := "ref.go:46", after := #[{ on := 15, ground := Ground.data }, { on := 13, ground := Ground.guard }], guard := some (13, true) }) (v := undef) rfl (by kernel_rfl) (by kernel_rfl) (by kernel_rfl) (fun _ _ _ h => h) (Or.inr ⟨by rfl, rfl⟩) hHeld ?_
        simp only [Act.put, List.setIfInBounds_toArray, List.set_cons_zero, List.set_cons_succ]
        refine wpAnyH_take (i := 17) (oi := { dst := some 35, op := Op.pick (Operand.tmp 31) (Operand.tmp 34) (Operand.const (Value.bool false)), type := 4, pos := "ref.go:46", after := #[{ on := 13, ground := Ground.data }, { on := 16, ground := Ground.data }, { on := 10, ground := Ground.guard }], guard := some (10, false) }) (v := undef) rfl (by kernel_rfl) (by kernel_rfl) (by kernel_rfl) (fun _ _ _ h => h) (Or.inr ⟨by rfl, rfl⟩) hHeld ?_
        simp only [Act.put, List.setIfInBounds_toArray, List.set_cons_zero, List.set_cons_succ]
        refine wpAnyH_take (i := 18) (oi := { dst := some 36, op := Op.pick (Operand.tmp 28) (Operand.const (Value.bool true)) (Operand.tmp 35), type := 4, pos := "ref.go:46", after := #[{ on := 10, ground := Ground.data }, { on := 17, ground := Ground.data }], guard := none }) (v := ?vv73_2_18) rfl (by kernel_rfl) (by kernel_rfl) (by kernel_rfl) (fun _ _ _ h => h) (Or.inl ⟨by rfl, ?yy73_2_18⟩) hHeld ?_
        case yy73_2_18 => (intro W hx; go_simp; try with_reducible rfl)
        simp only [Act.put, List.setIfInBounds_toArray, List.set_cons_zero, List.set_cons_succ]
        refine wpAnyH_done (by kernel_rfl) ?_ _
        have zend := zz1.trans hHeld
        go_wp2
        go_meet
        case rel => exact ⟨congrArg Value.bool (by simp [*]), congrArg Value.bool (by simp [*]), congrArg Value.bool (by simp [badR, *]), v1.trans zend, zend⟩
  case rest =>
    obtain ⟨rfl, rfl, rfl, vA, x1A⟩ := hcut
    obtain ⟨wA, rfl⟩ : ∃ z : World, z = wc := ⟨_, rfl⟩
    have KA := (x1A.block _ (blk_lt K1)).trans K1
    have hrA := hr.ext vA
    clear K1 x1A v1 hr
    rcases hbad : badR c [a0, a1, a2, a3, a4] W n with _ | _
    · have HBAD := Lib.hid hbad
      have hbk : ∀ k, Byts ([a0, a1, a2, a3, a4].take k) := fun k b hb => hal b (List.mem_of_mem_take hb)
      have hs0 : (0 : Int) ≤ sm c := by omega
      have hs5 : (sm c : Int) ≤ 5 := by omega
      obtain ⟨f0, f1, f2, f3, f4, f5, f6, f7⟩ := cells8 KA
      go_wp2
      clear f0 f1 f2 f3 f4 f5 f6 f7
      go_loopw [8, 9] (fun o v wr => ∃ k : Nat, k ≤ 5 ∧ v = .int .i64 k ∧ wr.ownsRow wA.heap.size 5 1 o (1 + min k (sm c)) (u8s ([c] ++ [a0, a1, a2, a3, a4].take (min k (sm c)))) ∧ Zs [a0, a1, a2, a3, a4] (sm c) k ∧ Ext wA wr) (fun _ v _ => (5 - intOf v).toNat)
      case atStart => exact ⟨0, by omega, rfl, by simpa [u8s] using own_lit (w := wA) (e := 5) (size := 1) #[.int .u8 c] 1 rfl (Nat.le_refl _) (le_max (by omega)) rfl, fun j _ h => absurd h (by omega), (Ext.refl _).alloc _⟩
      case round =>
        obtain ⟨k, hk, rfl, hown, hz, hx⟩ := hrel
        obtain ⟨wr, rfl⟩ : ∃ z : World, z = wr := ⟨_, rfl⟩
        have k0 : (0 : Int) ≤ k := by omega
        by_cases hlt : (k : Int) < 5
        · have hc := blk8 ((hx.block _ (blk_lt KA)).trans KA) k (by omega)
          have HZ := Lib.hid fun h => hz.succ h
          by_cases hks : (k : Int) < sm c
          · have HT := Lib.hid (take_min [a0, a1, a2, a3, a4] (sm c) k rfl (by omega) s5)
            generalize [a0, a1, a2, a3, a4].getD k 0 = x at *
            go_wp2_with (at_builtin; refine wpList_app el24 rfl _ _ rfl (hown.alloc _) rfl (Shows.new1 _ _ _) rfl (one1 _ _) (le_max (by omega)) (by omega) rfl (hx.alloc _) ?_; intro v9 w9 hown9 x9 hg9 hat9)
            go_roundw
            case rel => exact ⟨k + 1, by omega, by go_num, by rw [HT.out, ← List.append_assoc, u8s_append, show 1 + min (k + 1) (sm c) = 1 + min k (sm c) + 1 by omega]; exact hown9, HZ.out (fun h => absurd h (by omega)), x9⟩
            case measure => simp [intOf]; omega
          · have hm : min (k + 1) (sm c) = min k (sm c) := by omega
            have HM := Lib.hid hm; clear hm
            have HB := Lib.hid (fun h => beh_t (sm c) (k - sm c) [a0, a1, a2, a3, a4] rfl (by omega) h)
            rw [show sm c + (k - sm c) = k by omega] at HB
            generalize [a0, a1, a2, a3, a4].getD k 0 = x at *
            rcases hx0 : (x != 0) with _ | _
            · have hx0' : x = 0 := by simpa using hx0
              have HX := Lib.hid hx0'; clear hx0'
              go_wp2
              go_roundw
              case rel => exact ⟨k + 1, by omega, by go_num, by rw [HM.out]; exact hown, HZ.out (fun _ => HX.out), hx⟩
              case measure => simp [intOf]; omega
            · have hx0' : x ≠ 0 := by simpa using hx0
              have hb := HB.out hx0'
              have HB2 := Lib.hid hb
              clear hx0' hb
              go_wp2
              go_ret2
              exact .inl ⟨by rw [badC_R, HB2.out]; simp, rfl, vA.trans hx⟩
        · obtain rfl : k = 5 := by omega
          have hbC : badC c [a0, a1, a2, a3, a4] W n = false := by rw [badC_R, HBAD.out, hz.beh rfl s5]; rfl
          have HBC := Lib.hid hbC; clear hbC
          rw [show min 5 (sm c) = sm c by omega] at hown
          have hbL : Byts ([c] ++ [a0, a1, a2, a3, a4].take (sm c)) := Byts.append (by intro b hb; simp at hb; omega) (hbk _)
          have hrr := hrA.ext hx
          have Kr := (hx.block _ (blk_lt KA)).trans KA
          rcases hg : gr c with _ | _
          · have HG := Lib.hid hg
            obtain ⟨f0, f1, f2, f3, f4, f5, f6, f7⟩ := cells8 Kr
            go_wp2_with (at_builtin; refine wpList_app el24 rfl _ _ rfl hown rfl hrr.shows rfl (u8s_one _) (le_max (by omega)) (by omega) rfl hx ?_; intro v9 w9 hown9 x9 hg9 hat9)
            go_ret2
            rw [← u8s_append] at hown9
            obtain ⟨A', c', rfl, l1, l2, r9⟩ := put_end (c := c) (al := [a0, a1, a2, a3, a4]) (bs := bs) (n := n) (W := W) hown9 (hbL.append hrr.byts) (by simp [putL, HG.out]) (by simp [putN, HG.out])
            exact .inr ⟨HBC.out, A', c', rfl, l1, l2, vA.trans x9, r9⟩
          · have HG := Lib.hid hg
            obtain ⟨A8, c8, rfl, _, _, r8⟩ := own_rd hown hbL
            obtain ⟨f0, f1, f2, f3, f4, f5, f6, f7⟩ := cells8 Kr
            go_wp2_with (first
              | (go_at_call 22; (with_reducible refine (rput4 _ _ _ _ _ _ r8 (by omega) W0 W1').mono ?_); rintro e w9 ⟨A9, c9, rfl, x9, hown9⟩; clear f0 f1 f2 f3 f4 f5 f6 f7; obtain ⟨f0, f1, f2, f3, f4, f5, f6, f7⟩ := cells8 ((x9.block _ (blk_lt Kr)).trans Kr))
              | (at_builtin; refine wpList_app el24 rfl _ _ rfl hown9 rfl (hrr.ext x9).shows rfl (u8s_one _) (le_max (by omega)) (by omega) rfl x9 ?_; intro v10 w10 hown10 x10 hg10 hat10))
            go_ret2
            rw [← u8s_append] at hown10
            obtain ⟨A', c', rfl, l1, l2, r9⟩ := put_end (c := c) (al := [a0, a1, a2, a3, a4]) (bs := bs) (n := n) (W := W) hown10 ((hbL.append (putB_byts _ _ _)).append hrr.byts) (by simp [putL, HG.out]) (by simp [putN, HG.out])
            exact .inr ⟨HBC.out, A', c', rfl, l1, l2, vA.trans (hx.trans x10), r9⟩
    · go_wp2
      go_ret2
      exact .inl ⟨by rw [badC_R, hbad]; rfl, rfl, vA⟩
end Go.Proofs.Ytnfipfgbckbaeaa
