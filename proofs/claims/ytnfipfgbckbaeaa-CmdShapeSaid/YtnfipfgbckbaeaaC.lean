import Derived.Test.YtnfipfgbckbaeaaB
import Derived.Test.YtnfipfgbckbaeaaM
import Derived.Deep.DeepCutAuto
set_option linter.unusedVariables false
namespace Go.Proofs.Ytnfipfgbckbaeaa
open Go.RowKit
theorem el24 : Elem Try.prog 24 5 1 1 (.int .u8 0) := Elem.mk' Try.underlying24 (by kernel_rfl) rfl (by omega)
theorem cells8 {w : World} {g : Nat} {t : TypeId} {fr : Nat × Nat} {x0 x1 x2 x3 x4 x5 x6 x7 : Value} (h : w.heap[g]? = some (.cells #[x0, x1, x2, x3, x4, x5, x6, x7] t fr)) :
    w.cell? ⟨g, 0, none⟩ = some x0 ∧ w.cell? ⟨g, 1, none⟩ = some x1 ∧ w.cell? ⟨g, 2, none⟩ = some x2 ∧ w.cell? ⟨g, 3, none⟩ = some x3 ∧ w.cell? ⟨g, 4, none⟩ = some x4 ∧ w.cell? ⟨g, 5, none⟩ = some x5 ∧ w.cell? ⟨g, 6, none⟩ = some x6 ∧ w.cell? ⟨g, 7, none⟩ = some x7 :=
  ⟨blk_cell h rfl, blk_cell h rfl, blk_cell h rfl, blk_cell h rfl, blk_cell h rfl, blk_cell h rfl, blk_cell h rfl, blk_cell h rfl⟩
def badC (c : Int) (al : List Int) (W : Int) (n : Nat) : Bool := !ok c || behB (sm c) al || (!gr c && W != 0) || ((n : Int) != nbC c (al.getD 0 0))
def putL (c : Int) (al : List Int) (W : Int) (bs : List Int) : List Int := [c] ++ al.take (sm c) ++ (if gr c then putB W 4 true else []) ++ bs
def putN (c : Int) (n : Nat) : Nat := 1 + sm c + (if gr c then 4 else 0) + n
def PutP (c : Int) (al : List Int) (W : Int) (n : Nat) (bs : List Int) (w : World) (e : Ending) (w' : World) : Prop :=
  (badC c al W n = true ∧ e = .returned (.tuple #[.slice none 0 0, .int .i64 1]) ∧ Ext w w') ∨
      (badC c al W n = false ∧ ∃ A' c', e = .returned (.tuple #[.slice A' (putN c n) c', .int .i64 0]) ∧ putN c n ≤ c' ∧ c' ≤ maxLen ∧ Ext w w' ∧ Rd w' A' (putN c n) (putL c al W bs))
theorem arr_rd {w : World} {g : Nat} {t : TypeId} {c a0 a1 a2 a3 a4 : Int} {x y : Value} (h : w.heap[g]? = some (.cells #[.int .u8 c, .int .u8 a0, .int .u8 a1, .int .u8 a2, .int .u8 a3, .int .u8 a4, x, y] t (0, 0))) (hb : Byts [a0, a1, a2, a3, a4]) (s : Nat) (hs : s ≤ 5) :
    Rd w (some ⟨g, 1, none⟩) s ([a0, a1, a2, a3, a4].take s) := by
  have h5 : Rd w (some ⟨g, 1, none⟩) 5 [a0, a1, a2, a3, a4] := by
    refine ⟨⟨rfl, fun _ => ⟨_, rfl, blk_lt h, fun j u hu => cells_of_blk h j u ?_⟩⟩, hb⟩
    match j, hu with
    | 0, hu => exact hu
    | 1, hu => exact hu
    | 2, hu => exact hu
    | 3, hu => exact hu
    | 4, hu => exact hu
    | j + 5, hu => simp [u8s] at hu
  exact h5.take hs
theorem put4 (A : Option Addr) (n c : Nat) (bs : List Int) (v : Int) (w : World) (hr : Rd w A n bs) (hn : n ≤ 1000) (h0 : 0 ≤ v) (h1 : v < 4294967296) :
    Calls Try.prog 20 #[.slice A n c, .int .u64 v, .int .i64 4, .bool true] w fun e w' => ∃ A' c', e = .returned (.tuple #[.slice A' (n + 4) c', .int .i64 0]) ∧ Ext w w' ∧ w'.ownsRow w.heap.size 5 1 (.slice A' (n + 4) c') (n + 4) (u8s (bs ++ putB v 4 true)) :=
  (put_anyF A n c bs v 4 true w hr hn rfl h0 (by omega)).mono fun e w' ⟨A', c', he, _, _, hx, _, _, ho⟩ => ⟨A', c', he, hx, ho⟩
theorem rput4 (A : Option Addr) (n c : Nat) (bs : List Int) (v : Int) (w : World) (hr : Rd w A n bs) (hn : n ≤ 1000) (h0 : 0 ≤ v) (h1 : v < 4294967296) :
    Calls Try.prog 22 #[.slice A n c, .int .u64 v, .int .i64 4, .bool true] w fun e w' => ∃ A' c', e = .returned (.tuple #[.slice A' (n + 4) c', .int .i64 0]) ∧ Ext w w' ∧ w'.ownsRow w.heap.size 5 1 (.slice A' (n + 4) c') (n + 4) (u8s (bs ++ putB v 4 true)) :=
  (rput_own A n c bs v 4 true w hr hn rfl h0 (by omega)).mono fun e w' ⟨A', c', he, _, _, hx, _, ho⟩ => ⟨A', c', he, hx, ho⟩
theorem put_end {w : World} {base : Nat} {c W : Int} {al bs xs : List Int} {v : Value} {n N : Nat} (hown : w.ownsRow base 5 1 v N (u8s xs)) (hb : Byts xs) (hx : xs = putL c al W bs) (hN : N = putN c n) :
    ∃ A' c', v = .slice A' (putN c n) c' ∧ putN c n ≤ c' ∧ c' ≤ maxLen ∧ Rd w A' (putN c n) (putL c al W bs) := by
  subst hx hN
  exact own_rd hown hb
set_option maxHeartbeats 2000000 in
theorem put_walk (c a0 a1 a2 a3 a4 W : Int) (A : Option Addr) (n cp : Nat) (bs : List Int) (w : World) (h0 : 0 ≤ c) (h1 : c < 256) (hal : Byts [a0, a1, a2, a3, a4]) (W0 : 0 ≤ W) (W1' : W < 4294967296) (hr : Rd w A n bs) (hn : n ≤ 20) :
    Calls Try.prog 8 #[.agg #[.int .u8 c, .int .u8 a0, .int .u8 a1, .int .u8 a2, .int .u8 a3, .int .u8 a4, .int .u32 W, .slice A n cp]] w fun e w' => PutP c [a0, a1, a2, a3, a4] W n bs w e w' := by
  have s5 := sm_le c
  have m7 := mo_le c
  have a00 : 0 ≤ a0 := (hal a0 (by simp)).1
  have a01 : a0 < 256 := (hal a0 (by simp)).2
  go_enter Try.func8, Try.ntmps8
  go_upto_region 2 with (go_at_call 11; (with_reducible refine (shape_any _ _ h0 h1).mono ?_); rintro e w1 ⟨rfl, rfl⟩)
  obtain ⟨W1, hW1⟩ : ∃ V, V = w.alloc (.cells #[.int .u8 c, .int .u8 a0, .int .u8 a1, .int .u8 a2, .int .u8 a3, .int .u8 a4, .int .u32 W, .slice A n cp] 26) := ⟨_, rfl⟩
  rw [← hW1]
  have v1 : Ext w W1 := by rw [hW1]; exact (Ext.refl _).alloc _
  have K1 : W1.heap[w.heap.size]? = some (.cells #[.int .u8 c, .int .u8 a0, .int .u8 a1, .int .u8 a2, .int .u8 a3, .int .u8 a4, .int .u32 W, .slice A n cp] 26 (0, 0)) := by rw [hW1]; exact heap_alloc_new _ _
  clear hW1
  go_cut [5, 7, 46] (fun v5 v7 v46 wr => v5 = .bool (gr c) ∧ v7 = .bool (ok c) ∧ v46 = .bool (badC c [a0, a1, a2, a3, a4] W n) ∧ Ext w wr ∧ Ext W1 wr)
  case first =>
    cases hok : ok c
    · have tok := True.intro
      refine wp_region_held_drew (S := Ext W1) (by kernel_rfl) ((Ext.refl _).drew) (fun hHeld => ?_)
      obtain ⟨wD1, hwD⟩ : ∃ V, V = World.drew W1 := ⟨_, rfl⟩
      rw [← hwD]
      clear hHeld
      have zz0 : Ext W1 wD1 := by rw [hwD]; exact (Ext.refl _).drew
      clear hwD
      refine wpAnyH_imp (S' := Ext wD1) (fun W h => Ext.trans zz0 h) _ _ _ _ ?_
      have hHeld := Ext.refl wD1
      refine wpAnyH_take (i := 0) (oi := { dst := some 18, op := Op.move (Operand.tmp 7), type := 4, pos := "cmd.go:50", after := #[], guard := none }) (v := ?vv2_2_0) rfl (by kernel_rfl) (by kernel_rfl) (by kernel_rfl) (fun _ _ _ h => h) (Or.inl ⟨by rfl, ?yy2_2_0⟩) hHeld ?_
      case yy2_2_0 => (intro W hx; go_simp; try with_reducible rfl)
      simp only [Act.put, List.setIfInBounds_toArray, List.set_cons_zero, List.set_cons_succ]
      refine wpAnyH_take (i := 1) (oi := { dst := some 19, op := Op.unOp UnOp.not 4 (Operand.tmp 18), type := 4, pos := "cmd.go:50", after := #[{ on := 0, ground := Ground.data }], guard := none }) (v := ?vv3_2_1) rfl (by kernel_rfl) (by kernel_rfl) (by kernel_rfl) (fun _ _ _ h => h) (Or.inl ⟨by rfl, ?yy3_2_1⟩) hHeld ?_
      case yy3_2_1 => (intro W hx; go_simp; try with_reducible rfl)
      simp only [Act.put, List.setIfInBounds_toArray, List.set_cons_zero, List.set_cons_succ]
      refine wpAnyH_take (i := 2) (oi := { dst := some 20, op := Op.move (Operand.tmp 19), type := 4, pos := "cmd.go:50", after := #[{ on := 1, ground := Ground.data }], guard := none }) (v := ?vv4_2_2) rfl (by kernel_rfl) (by kernel_rfl) (by kernel_rfl) (fun _ _ _ h => h) (Or.inl ⟨by rfl, ?yy4_2_2⟩) hHeld ?_
      case yy4_2_2 => (intro W hx; go_simp; try with_reducible rfl)
      simp only [Act.put, List.setIfInBounds_toArray, List.set_cons_zero, List.set_cons_succ]
      refine wpAnyH_take (i := 3) (oi := { dst := some 21, op := Op.fieldAddr 26 (Operand.tmp 1) 1, type := 0, pos := "cmd.go:50", after := #[{ on := 2, ground := Ground.guard }], guard := some (2, false) }) (v := undef) rfl (by kernel_rfl) (by kernel_rfl) (by kernel_rfl) (fun _ _ _ h => h) (Or.inr ⟨by rfl, rfl⟩) hHeld ?_
      simp only [Act.put, List.setIfInBounds_toArray, List.set_cons_zero, List.set_cons_succ]
      refine wpAnyH_take (i := 4) (oi := { dst := some 22, op := Op.load 22 (Operand.tmp 21), type := 22, pos := "cmd.go:50", after := #[{ on := 3, ground := Ground.data }, { on := 2, ground := Ground.guard }], guard := some (2, false) }) (v := undef) rfl (by kernel_rfl) (by kernel_rfl) (by kernel_rfl) (fun _ _ _ h => h) (Or.inr ⟨by rfl, rfl⟩) hHeld ?_
      simp only [Act.put, List.setIfInBounds_toArray, List.set_cons_zero, List.set_cons_succ]
      refine wpAnyH_take (i := 5) (oi := { dst := some 23, op := Op.move (Operand.tmp 4), type := 3, pos := "cmd.go:50", after := #[{ on := 2, ground := Ground.guard }], guard := some (2, false) }) (v := undef) rfl (by kernel_rfl) (by kernel_rfl) (by kernel_rfl) (fun _ _ _ h => h) (Or.inr ⟨by rfl, rfl⟩) hHeld ?_
      simp only [Act.put, List.setIfInBounds_toArray, List.set_cons_zero, List.set_cons_succ]
      refine wpAnyH_take (i := 6) (oi := { dst := some 24, op := Op.call { callee := Callee.value (Operand.func 18), args := #[Operand.tmp 22, Operand.tmp 23], argTypes := #[22, 3] }, type := 4, pos := "cmd.go:50", after := #[{ on := 4, ground := Ground.data }, { on := 5, ground := Ground.data }, { on := 2, ground := Ground.chain }, { on := 2, ground := Ground.guard }], guard := some (2, false) }) (v := undef) rfl (by kernel_rfl) (by kernel_rfl) (by kernel_rfl) (fun _ _ _ h => h) (Or.inr ⟨by rfl, rfl⟩) hHeld ?_
      simp only [Act.put, List.setIfInBounds_toArray, List.set_cons_zero, List.set_cons_succ]
      refine wpAnyH_take (i := 7) (oi := { dst := some 25, op := Op.pick (Operand.tmp 20) (Operand.const (Value.bool true)) (Operand.tmp 24), type := 4, pos := "cmd.go:50", after := #[{ on := 2, ground := Ground.data }, { on := 6, ground := Ground.data }], guard := none }) (v := ?vv5_2_7) rfl (by kernel_rfl) (by kernel_rfl) (by kernel_rfl) (fun _ _ _ h => h) (Or.inl ⟨by rfl, ?yy5_2_7⟩) hHeld ?_
      case yy5_2_7 => (intro W hx; go_simp; try with_reducible rfl)
      simp only [Act.put, List.setIfInBounds_toArray, List.set_cons_zero, List.set_cons_succ]
      refine wpAnyH_take (i := 8) (oi := { dst := some 26, op := Op.move (Operand.tmp 25), type := 4, pos := "cmd.go:50", after := #[{ on := 7, ground := Ground.data }, { on := 6, ground := Ground.chain }], guard := none }) (v := ?vv6_2_8) rfl (by kernel_rfl) (by kernel_rfl) (by kernel_rfl) (fun _ _ _ h => h) (Or.inl ⟨by rfl, ?yy6_2_8⟩) hHeld ?_
      case yy6_2_8 => (intro W hx; go_simp; try with_reducible rfl)
      simp only [Act.put, List.setIfInBounds_toArray, List.set_cons_zero, List.set_cons_succ]
      refine wpAnyH_take (i := 9) (oi := { dst := some 27, op := Op.move (Operand.tmp 5), type := 4, pos := "cmd.go:50", after := #[{ on := 8, ground := Ground.guard }], guard := some (8, false) }) (v := undef) rfl (by kernel_rfl) (by kernel_rfl) (by kernel_rfl) (fun _ _ _ h => h) (Or.inr ⟨by rfl, rfl⟩) hHeld ?_
      simp only [Act.put, List.setIfInBounds_toArray, List.set_cons_zero, List.set_cons_succ]
      refine wpAnyH_take (i := 10) (oi := { dst := some 28, op := Op.unOp UnOp.not 4 (Operand.tmp 27), type := 4, pos := "cmd.go:50", after := #[{ on := 9, ground := Ground.data }, { on := 8, ground := Ground.guard }], guard := some (8, false) }) (v := undef) rfl (by kernel_rfl) (by kernel_rfl) (by kernel_rfl) (fun _ _ _ h => h) (Or.inr ⟨by rfl, rfl⟩) hHeld ?_
      simp only [Act.put, List.setIfInBounds_toArray, List.set_cons_zero, List.set_cons_succ]
      refine wpAnyH_take (i := 11) (oi := { dst := some 29, op := Op.move (Operand.tmp 28), type := 4, pos := "cmd.go:50", after := #[{ on := 10, ground := Ground.data }, { on := 8, ground := Ground.chain }, { on := 8, ground := Ground.guard }], guard := some (8, false) }) (v := undef) rfl (by kernel_rfl) (by kernel_rfl) (by kernel_rfl) (fun _ _ _ h => h) (Or.inr ⟨by rfl, rfl⟩) hHeld ?_
      simp only [Act.put, List.setIfInBounds_toArray, List.set_cons_zero, List.set_cons_succ]
      refine wpAnyH_take (i := 12) (oi := { dst := some 30, op := Op.fieldAddr 26 (Operand.tmp 1) 2, type := 0, pos := "cmd.go:50", after := #[{ on := 11, ground := Ground.guard }], guard := some (11, true) }) (v := undef) rfl (by kernel_rfl) (by kernel_rfl) (by kernel_rfl) (fun _ _ _ h => h) (Or.inr ⟨by rfl, rfl⟩) hHeld ?_
      simp only [Act.put, List.setIfInBounds_toArray, List.set_cons_zero, List.set_cons_succ]
      refine wpAnyH_take (i := 13) (oi := { dst := some 31, op := Op.load 23 (Operand.tmp 30), type := 23, pos := "cmd.go:50", after := #[{ on := 12, ground := Ground.data }, { on := 11, ground := Ground.guard }], guard := some (11, true) }) (v := undef) rfl (by kernel_rfl) (by kernel_rfl) (by kernel_rfl) (fun _ _ _ h => h) (Or.inr ⟨by rfl, rfl⟩) hHeld ?_
      simp only [Act.put, List.setIfInBounds_toArray, List.set_cons_zero, List.set_cons_succ]
      refine wpAnyH_take (i := 14) (oi := { dst := some 32, op := Op.binOp BinOp.neq 23 (Operand.tmp 31) (Operand.const (Value.int IntKind.u32 0)) 23, type := 4, pos := "cmd.go:50", after := #[{ on := 13, ground := Ground.data }, { on := 11, ground := Ground.guard }], guard := some (11, true) }) (v := undef) rfl (by kernel_rfl) (by kernel_rfl) (by kernel_rfl) (fun _ _ _ h => h) (Or.inr ⟨by rfl, rfl⟩) hHeld ?_
      simp only [Act.put, List.setIfInBounds_toArray, List.set_cons_zero, List.set_cons_succ]
      refine wpAnyH_take (i := 15) (oi := { dst := some 33, op := Op.pick (Operand.tmp 29) (Operand.tmp 32) (Operand.const (Value.bool false)), type := 4, pos := "cmd.go:50", after := #[{ on := 11, ground := Ground.data }, { on := 14, ground := Ground.data }, { on := 8, ground := Ground.guard }], guard := some (8, false) }) (v := undef) rfl (by kernel_rfl) (by kernel_rfl) (by kernel_rfl) (fun _ _ _ h => h) (Or.inr ⟨by rfl, rfl⟩) hHeld ?_
      simp only [Act.put, List.setIfInBounds_toArray, List.set_cons_zero, List.set_cons_succ]
      refine wpAnyH_take (i := 16) (oi := { dst := some 34, op := Op.pick (Operand.tmp 26) (Operand.const (Value.bool true)) (Operand.tmp 33), type := 4, pos := "cmd.go:50", after := #[{ on := 8, ground := Ground.data }, { on := 15, ground := Ground.data }], guard := none }) (v := ?vv7_2_16) rfl (by kernel_rfl) (by kernel_rfl) (by kernel_rfl) (fun _ _ _ h => h) (Or.inl ⟨by rfl, ?yy7_2_16⟩) hHeld ?_
      case yy7_2_16 => (intro W hx; go_simp; try with_reducible rfl)
      simp only [Act.put, List.setIfInBounds_toArray, List.set_cons_zero, List.set_cons_succ]
      refine wpAnyH_take (i := 17) (oi := { dst := some 35, op := Op.move (Operand.tmp 34), type := 4, pos := "cmd.go:50", after := #[{ on := 16, ground := Ground.data }, { on := 11, ground := Ground.chain }], guard := none }) (v := ?vv8_2_17) rfl (by kernel_rfl) (by kernel_rfl) (by kernel_rfl) (fun _ _ _ h => h) (Or.inl ⟨by rfl, ?yy8_2_17⟩) hHeld ?_
      case yy8_2_17 => (intro W hx; go_simp; try with_reducible rfl)
      simp only [Act.put, List.setIfInBounds_toArray, List.set_cons_zero, List.set_cons_succ]
      refine wpAnyH_take (i := 18) (oi := { dst := some 36, op := Op.fieldAddr 26 (Operand.tmp 1) 3, type := 0, pos := "cmd.go:50", after := #[{ on := 17, ground := Ground.guard }], guard := some (17, false) }) (v := undef) rfl (by kernel_rfl) (by kernel_rfl) (by kernel_rfl) (fun _ _ _ h => h) (Or.inr ⟨by rfl, rfl⟩) hHeld ?_
      simp only [Act.put, List.setIfInBounds_toArray, List.set_cons_zero, List.set_cons_succ]
      refine wpAnyH_take (i := 19) (oi := { dst := some 37, op := Op.load 24 (Operand.tmp 36), type := 24, pos := "cmd.go:50", after := #[{ on := 18, ground := Ground.data }, { on := 17, ground := Ground.guard }], guard := some (17, false) }) (v := undef) rfl (by kernel_rfl) (by kernel_rfl) (by kernel_rfl) (fun _ _ _ h => h) (Or.inr ⟨by rfl, rfl⟩) hHeld ?_
      simp only [Act.put, List.setIfInBounds_toArray, List.set_cons_zero, List.set_cons_succ]
      refine wpAnyH_take (i := 20) (oi := { dst := some 38, op := Op.call { callee := Callee.builtin Builtin.len, args := #[Operand.tmp 37], argTypes := #[24] }, type := 3, pos := "cmd.go:50", after := #[{ on := 19, ground := Ground.data }, { on := 17, ground := Ground.guard }], guard := some (17, false) }) (v := undef) rfl (by kernel_rfl) (by kernel_rfl) (by kernel_rfl) (fun _ _ _ h => h) (Or.inr ⟨by rfl, rfl⟩) hHeld ?_
      simp only [Act.put, List.setIfInBounds_toArray, List.set_cons_zero, List.set_cons_succ]
      refine wpAnyH_take (i := 21) (oi := { dst := some 39, op := Op.move (Operand.tmp 4), type := 3, pos := "cmd.go:50", after := #[{ on := 17, ground := Ground.guard }], guard := some (17, false) }) (v := undef) rfl (by kernel_rfl) (by kernel_rfl) (by kernel_rfl) (fun _ _ _ h => h) (Or.inr ⟨by rfl, rfl⟩) hHeld ?_
      simp only [Act.put, List.setIfInBounds_toArray, List.set_cons_zero, List.set_cons_succ]
      refine wpAnyH_take (i := 22) (oi := { dst := some 40, op := Op.move (Operand.tmp 6), type := 3, pos := "cmd.go:50", after := #[{ on := 17, ground := Ground.guard }], guard := some (17, false) }) (v := undef) rfl (by kernel_rfl) (by kernel_rfl) (by kernel_rfl) (fun _ _ _ h => h) (Or.inr ⟨by rfl, rfl⟩) hHeld ?_
      simp only [Act.put, List.setIfInBounds_toArray, List.set_cons_zero, List.set_cons_succ]
      refine wpAnyH_take (i := 23) (oi := { dst := some 41, op := Op.fieldAddr 26 (Operand.tmp 1) 1, type := 0, pos := "cmd.go:50", after := #[{ on := 17, ground := Ground.guard }], guard := some (17, false) }) (v := undef) rfl (by kernel_rfl) (by kernel_rfl) (by kernel_rfl) (fun _ _ _ h => h) (Or.inr ⟨by rfl, rfl⟩) hHeld ?_
      simp only [Act.put, List.setIfInBounds_toArray, List.set_cons_zero, List.set_cons_succ]
      refine wpAnyH_take (i := 24) (oi := { dst := some 42, op := Op.indexAddr 22 (Operand.tmp 41) (Operand.const (Value.int IntKind.i64 0)), type := 0, pos := "cmd.go:50", after := #[{ on := 23, ground := Ground.data }, { on := 17, ground := Ground.guard }], guard := some (17, false) }) (v := undef) rfl (by kernel_rfl) (by kernel_rfl) (by kernel_rfl) (fun _ _ _ h => h) (Or.inr ⟨by rfl, rfl⟩) hHeld ?_
      simp only [Act.put, List.setIfInBounds_toArray, List.set_cons_zero, List.set_cons_succ]
      refine wpAnyH_take (i := 25) (oi := { dst := some 43, op := Op.load 5 (Operand.tmp 42), type := 5, pos := "cmd.go:50", after := #[{ on := 24, ground := Ground.data }, { on := 17, ground := Ground.guard }], guard := some (17, false) }) (v := undef) rfl (by kernel_rfl) (by kernel_rfl) (by kernel_rfl) (fun _ _ _ h => h) (Or.inr ⟨by rfl, rfl⟩) hHeld ?_
      simp only [Act.put, List.setIfInBounds_toArray, List.set_cons_zero, List.set_cons_succ]
      refine wpAnyH_take (i := 26) (oi := { dst := some 44, op := Op.call { callee := Callee.value (Operand.func 19), args := #[Operand.tmp 39, Operand.tmp 40, Operand.tmp 43], argTypes := #[3, 3, 5] }, type := 3, pos := "cmd.go:50", after := #[{ on := 21, ground := Ground.data }, { on := 22, ground := Ground.data }, { on := 25, ground := Ground.data }, { on := 17, ground := Ground.chain }, { on := 17, ground := Ground.guard }], guard := some (17, false) }) (v := undef) rfl (by kernel_rfl) (by kernel_rfl) (by kernel_rfl) (fun _ _ _ h => h) (Or.inr ⟨by rfl, rfl⟩) hHeld ?_
      simp only [Act.put, List.setIfInBounds_toArray, List.set_cons_zero, List.set_cons_succ]
      refine wpAnyH_take (i := 27) (oi := { dst := some 45, op := Op.binOp BinOp.neq 3 (Operand.tmp 38) (Operand.tmp 44) 3, type := 4, pos := "cmd.go:50", after := #[{ on := 20, ground := Ground.data }, { on := 26, ground := Ground.data }, { on := 17, ground := Ground.guard }], guard := some (17, false) }) (v := undef) rfl (by kernel_rfl) (by kernel_rfl) (by kernel_rfl) (fun _ _ _ h => h) (Or.inr ⟨by rfl, rfl⟩) hHeld ?_
      simp only [Act.put, List.setIfInBounds_toArray, List.set_cons_zero, List.set_cons_succ]
      refine wpAnyH_take (i := 28) (oi := { dst := some 46, op := Op.pick (Operand.tmp 35) (Operand.const (Value.bool true)) (Operand.tmp 45), type := 4, pos := "cmd.go:50", after := #[{ on := 17, ground := Ground.data }, { on := 27, ground := Ground.data }], guard := none }) (v := ?vv9_2_28) rfl (by kernel_rfl) (by kernel_rfl) (by kernel_rfl) (fun _ _ _ h => h) (Or.inl ⟨by rfl, ?yy9_2_28⟩) hHeld ?_
      case yy9_2_28 => (intro W hx; go_simp; try with_reducible rfl)
      simp only [Act.put, List.setIfInBounds_toArray, List.set_cons_zero, List.set_cons_succ]
      refine wpAnyH_done (by kernel_rfl) ?_ _
      have zend := zz0.trans hHeld
      go_wp2
      go_meet
      case rel => exact ⟨congrArg Value.bool (by simp [*]), congrArg Value.bool (by simp [*]), congrArg Value.bool (by simp [badC, nbC, *]), v1.trans zend, zend⟩
    · cases hbe : behB (sm c) [a0, a1, a2, a3, a4]
      · have HB := Lib.hid hbe
        cases hgr : gr c
        · rcases hw : (W != 0) with _ | _
          · have tok := True.intro
            refine wp_region_held_drew (S := Ext W1) (by kernel_rfl) ((Ext.refl _).drew) (fun hHeld => ?_)
            obtain ⟨wD10, hwD⟩ : ∃ V, V = World.drew W1 := ⟨_, rfl⟩
            rw [← hwD]
            clear hHeld
            have zz0 : Ext W1 wD10 := by rw [hwD]; exact (Ext.refl _).drew
            clear hwD
            refine wpAnyH_imp (S' := Ext wD10) (fun W h => Ext.trans zz0 h) _ _ _ _ ?_
            have hHeld := Ext.refl wD10
            refine wpAnyH_take (i := 0) (oi := { dst := some 18, op := Op.move (Operand.tmp 7), type := 4, pos := "cmd.go:50", after := #[], guard := none }) (v := ?vv11_2_0) rfl (by kernel_rfl) (by kernel_rfl) (by kernel_rfl) (fun _ _ _ h => h) (Or.inl ⟨by rfl, ?yy11_2_0⟩) hHeld ?_
            case yy11_2_0 => (intro W hx; go_simp; try with_reducible rfl)
            simp only [Act.put, List.setIfInBounds_toArray, List.set_cons_zero, List.set_cons_succ]
            refine wpAnyH_take (i := 1) (oi := { dst := some 19, op := Op.unOp UnOp.not 4 (Operand.tmp 18), type := 4, pos := "cmd.go:50", after := #[{ on := 0, ground := Ground.data }], guard := none }) (v := ?vv12_2_1) rfl (by kernel_rfl) (by kernel_rfl) (by kernel_rfl) (fun _ _ _ h => h) (Or.inl ⟨by rfl, ?yy12_2_1⟩) hHeld ?_
            case yy12_2_1 => (intro W hx; go_simp; try with_reducible rfl)
            simp only [Act.put, List.setIfInBounds_toArray, List.set_cons_zero, List.set_cons_succ]
            refine wpAnyH_take (i := 2) (oi := { dst := some 20, op := Op.move (Operand.tmp 19), type := 4, pos := "cmd.go:50", after := #[{ on := 1, ground := Ground.data }], guard := none }) (v := ?vv13_2_2) rfl (by kernel_rfl) (by kernel_rfl) (by kernel_rfl) (fun _ _ _ h => h) (Or.inl ⟨by rfl, ?yy13_2_2⟩) hHeld ?_
            case yy13_2_2 => (intro W hx; go_simp; try with_reducible rfl)
            simp only [Act.put, List.setIfInBounds_toArray, List.set_cons_zero, List.set_cons_succ]
            refine wpAnyH_take (i := 3) (oi := { dst := some 21, op := Op.fieldAddr 26 (Operand.tmp 1) 1, type := 0, pos := "cmd.go:50", after := #[{ on := 2, ground := Ground.guard }], guard := some (2, false) }) (v := ?vv14_2_3) rfl (by kernel_rfl) (by kernel_rfl) (by kernel_rfl) (fun _ _ _ h => h) (Or.inl ⟨by rfl, ?yy14_2_3⟩) hHeld ?_
            case yy14_2_3 => (intro W hx; go_simp; try with_reducible rfl)
            simp only [Act.put, List.setIfInBounds_toArray, List.set_cons_zero, List.set_cons_succ]
            refine wpAnyH_take (i := 4) (oi := { dst := some 22, op := Op.load 22 (Operand.tmp 21), type := 22, pos := "cmd.go:50", after := #[{ on := 3, ground := Ground.data }, { on := 2, ground := Ground.guard }], guard := some (2, false) }) (v := ?vv15_2_4) rfl (by kernel_rfl) (by kernel_rfl) (by kernel_rfl) (fun _ _ _ h => h) (Or.inl ⟨by rfl, ?yy15_2_4⟩) hHeld ?_
            case yy15_2_4 => (intro W hx; have hz := zz0.trans hx; obtain ⟨f0, f1, f2, f3, f4, f5, f6, f7⟩ := cells8 ((hz.block _ (blk_lt K1)).trans K1); go_simp; try with_reducible rfl)
            simp only [Act.put, List.setIfInBounds_toArray, List.set_cons_zero, List.set_cons_succ]
            refine wpAnyH_take (i := 5) (oi := { dst := some 23, op := Op.move (Operand.tmp 4), type := 3, pos := "cmd.go:50", after := #[{ on := 2, ground := Ground.guard }], guard := some (2, false) }) (v := ?vv16_2_5) rfl (by kernel_rfl) (by kernel_rfl) (by kernel_rfl) (fun _ _ _ h => h) (Or.inl ⟨by rfl, ?yy16_2_5⟩) hHeld ?_
            case yy16_2_5 => (intro W hx; go_simp; try with_reducible rfl)
            simp only [Act.put, List.setIfInBounds_toArray, List.set_cons_zero, List.set_cons_succ]
            refine wpAnyH_ready (rs := [6]) (by kernel_rfl) (by simp) (AllReadyH.cons rfl (fun K hK => ?_) AllReadyH.nil)
            go_simp
            go_wp2_with (go_at_call 18; (with_reducible refine (behind_any _ _ _ _ _ _ _ s5).mono ?_); rintro e w5 ⟨rfl, x5⟩; rw [HB.out])
            refine hK.out _ _ x5 (fun hHeld => ?_)
            clear hK K
            refine wpAnyH_imp (S' := Ext w5) (fun W h => Ext.trans x5 h) _ _ _ _ ?_
            replace hHeld := Ext.refl w5
            have zz1 := zz0.trans x5
            refine wpAnyH_take (i := 7) (oi := { dst := some 25, op := Op.pick (Operand.tmp 20) (Operand.const (Value.bool true)) (Operand.tmp 24), type := 4, pos := "cmd.go:50", after := #[{ on := 2, ground := Ground.data }, { on := 6, ground := Ground.data }], guard := none }) (v := ?vv17_2_7) rfl (by kernel_rfl) (by kernel_rfl) (by kernel_rfl) (fun _ _ _ h => h) (Or.inl ⟨by rfl, ?yy17_2_7⟩) hHeld ?_
            case yy17_2_7 => (intro W hx; go_simp; try with_reducible rfl)
            simp only [Act.put, List.setIfInBounds_toArray, List.set_cons_zero, List.set_cons_succ]
            refine wpAnyH_take (i := 8) (oi := { dst := some 26, op := Op.move (Operand.tmp 25), type := 4, pos := "cmd.go:50", after := #[{ on := 7, ground := Ground.data }, { on := 6, ground := Ground.chain }], guard := none }) (v := ?vv18_2_8) rfl (by kernel_rfl) (by kernel_rfl) (by kernel_rfl) (fun _ _ _ h => h) (Or.inl ⟨by rfl, ?yy18_2_8⟩) hHeld ?_
            case yy18_2_8 => (intro W hx; go_simp; try with_reducible rfl)
            simp only [Act.put, List.setIfInBounds_toArray, List.set_cons_zero, List.set_cons_succ]
            refine wpAnyH_take (i := 9) (oi := { dst := some 27, op := Op.move (Operand.tmp 5), type := 4, pos := "cmd.go:50", after := #[{ on := 8, ground := Ground.guard }], guard := some (8, false) }) (v := ?vv19_2_9) rfl (by kernel_rfl) (by kernel_rfl) (by kernel_rfl) (fun _ _ _ h => h) (Or.inl ⟨by rfl, ?yy19_2_9⟩) hHeld ?_
            case yy19_2_9 => (intro W hx; go_simp; try with_reducible rfl)
            simp only [Act.put, List.setIfInBounds_toArray, List.set_cons_zero, List.set_cons_succ]
            refine wpAnyH_take (i := 10) (oi := { dst := some 28, op := Op.unOp UnOp.not 4 (Operand.tmp 27), type := 4, pos := "cmd.go:50", after := #[{ on := 9, ground := Ground.data }, { on := 8, ground := Ground.guard }], guard := some (8, false) }) (v := ?vv20_2_10) rfl (by kernel_rfl) (by kernel_rfl) (by kernel_rfl) (fun _ _ _ h => h) (Or.inl ⟨by rfl, ?yy20_2_10⟩) hHeld ?_
            case yy20_2_10 => (intro W hx; go_simp; try with_reducible rfl)
            simp only [Act.put, List.setIfInBounds_toArray, List.set_cons_zero, List.set_cons_succ]
            refine wpAnyH_take (i := 11) (oi := { dst := some 29, op := Op.move (Operand.tmp 28), type := 4, pos := "cmd.go:50", after := #[{ on := 10, ground := Ground.data }, { on := 8, ground := Ground.chain }, { on := 8, ground := Ground.guard }], guard := some (8, false) }) (v := ?vv21_2_11) rfl (by kernel_rfl) (by kernel_rfl) (by kernel_rfl) (fun _ _ _ h => h) (Or.inl ⟨by rfl, ?yy21_2_11⟩) hHeld ?_
            case yy21_2_11 => (intro W hx; go_simp; try with_reducible rfl)
            simp only [Act.put, List.setIfInBounds_toArray, List.set_cons_zero, List.set_cons_succ]
            refine wpAnyH_take (i := 12) (oi := { dst := some 30, op := Op.fieldAddr 26 (Operand.tmp 1) 2, type := 0, pos := "cmd.go:50", after := #[{ on := 11, ground := Ground.guard }], guard := some (11, true) }) (v := ?vv22_2_12) rfl (by kernel_rfl) (by kernel_rfl) (by kernel_rfl) (fun _ _ _ h => h) (Or.inl ⟨by rfl, ?yy22_2_12⟩) hHeld ?_
            case yy22_2_12 => (intro W hx; go_simp; try with_reducible rfl)
            simp only [Act.put, List.setIfInBounds_toArray, List.set_cons_zero, List.set_cons_succ]
            refine wpAnyH_take (i := 13) (oi := { dst := some 31, op := Op.load 23 (Operand.tmp 30), type := 23, pos := "cmd.go:50", after := #[{ on := 12, ground := Ground.data }, { on := 11, ground := Ground.guard }], guard := some (11, true) }) (v := ?vv23_2_13) rfl (by kernel_rfl) (by kernel_rfl) (by kernel_rfl) (fun _ _ _ h => h) (Or.inl ⟨by rfl, ?yy23_2_13⟩) hHeld ?_
            case yy23_2_13 => (intro W hx; have hz := zz1.trans hx; obtain ⟨f0, f1, f2, f3, f4, f5, f6, f7⟩ := cells8 ((hz.block _ (blk_lt K1)).trans K1); go_simp; try with_reducible rfl)
            simp only [Act.put, List.setIfInBounds_toArray, List.set_cons_zero, List.set_cons_succ]
            refine wpAnyH_take (i := 14) (oi := { dst := some 32, op := Op.binOp BinOp.neq 23 (Operand.tmp 31) (Operand.const (Value.int IntKind.u32 0)) 23, type := 4, pos := "cmd.go:50", after := #[{ on := 13, ground := Ground.data }, { on := 11, ground := Ground.guard }], guard := some (11, true) }) (v := ?vv24_2_14) rfl (by kernel_rfl) (by kernel_rfl) (by kernel_rfl) (fun _ _ _ h => h) (Or.inl ⟨by rfl, ?yy24_2_14⟩) hHeld ?_
            case yy24_2_14 => (intro W hx; go_simp; try with_reducible rfl)
            simp only [Act.put, List.setIfInBounds_toArray, List.set_cons_zero, List.set_cons_succ]
            refine wpAnyH_take (i := 15) (oi := { dst := some 33, op := Op.pick (Operand.tmp 29) (Operand.tmp 32) (Operand.const (Value.bool false)), type := 4, pos := "cmd.go:50", after := #[{ on := 11, ground := Ground.data }, { on := 14, ground := Ground.data }, { on := 8, ground := Ground.guard }], guard := some (8, false) }) (v := ?vv25_2_15) rfl (by kernel_rfl) (by kernel_rfl) (by kernel_rfl) (fun _ _ _ h => h) (Or.inl ⟨by rfl, ?yy25_2_15⟩) hHeld ?_
            case yy25_2_15 => (intro W hx; go_simp; try with_reducible rfl)
            simp only [Act.put, List.setIfInBounds_toArray, List.set_cons_zero, List.set_cons_succ]
            refine wpAnyH_take (i := 16) (oi := { dst := some 34, op := Op.pick (Operand.tmp 26) (Operand.const (Value.bool true)) (Operand.tmp 33), type := 4, pos := "cmd.go:50", after := #[{ on := 8, ground := Ground.data }, { on := 15, ground := Ground.data }], guard := none }) (v := ?vv26_2_16) rfl (by kernel_rfl) (by kernel_rfl) (by kernel_rfl) (fun _ _ _ h => h) (Or.inl ⟨by rfl, ?yy26_2_16⟩) hHeld ?_
            case yy26_2_16 => (intro W hx; go_simp; try with_reducible rfl)
            simp only [Act.put, List.setIfInBounds_toArray, List.set_cons_zero, List.set_cons_succ]
            refine wpAnyH_take (i := 17) (oi := { dst := some 35, op := Op.move (Operand.tmp 34), type := 4, pos := "cmd.go:50", after := #[{ on := 16, ground := Ground.data }, { on := 11, ground := Ground.chain }], guard := none }) (v := ?vv27_2_17) rfl (by kernel_rfl) (by kernel_rfl) (by kernel_rfl) (fun _ _ _ h => h) (Or.inl ⟨by rfl, ?yy27_2_17⟩) hHeld ?_
            case yy27_2_17 => (intro W hx; go_simp; try with_reducible rfl)
            simp only [Act.put, List.setIfInBounds_toArray, List.set_cons_zero, List.set_cons_succ]
            refine wpAnyH_take (i := 18) (oi := { dst := some 36, op := Op.fieldAddr 26 (Operand.tmp 1) 3, type := 0, pos := "cmd.go:50", after := #[{ on := 17, ground := Ground.guard }], guard := some (17, false) }) (v := ?vv28_2_18) rfl (by kernel_rfl) (by kernel_rfl) (by kernel_rfl) (fun _ _ _ h => h) (Or.inl ⟨by rfl, ?yy28_2_18⟩) hHeld ?_
            case yy28_2_18 => (intro W hx; go_simp; try with_reducible rfl)
            simp only [Act.put, List.setIfInBounds_toArray, List.set_cons_zero, List.set_cons_succ]
            refine wpAnyH_take (i := 19) (oi := { dst := some 37, op := Op.load 24 (Operand.tmp 36), type := 24, pos := "cmd.go:50", after := #[{ on := 18, ground := Ground.data }, { on := 17, ground := Ground.guard }], guard := some (17, false) }) (v := ?vv29_2_19) rfl (by kernel_rfl) (by kernel_rfl) (by kernel_rfl) (fun _ _ _ h => h) (Or.inl ⟨by rfl, ?yy29_2_19⟩) hHeld ?_
            case yy29_2_19 => (intro W hx; have hz := zz1.trans hx; obtain ⟨f0, f1, f2, f3, f4, f5, f6, f7⟩ := cells8 ((hz.block _ (blk_lt K1)).trans K1); go_simp; try with_reducible rfl)
            simp only [Act.put, List.setIfInBounds_toArray, List.set_cons_zero, List.set_cons_succ]
            refine wpAnyH_take (i := 20) (oi := { dst := some 38, op := Op.call { callee := Callee.builtin Builtin.len, args := #[Operand.tmp 37], argTypes := #[24] }, type := 3, pos := "cmd.go:50", after := #[{ on := 19, ground := Ground.data }, { on := 17, ground := Ground.guard }], guard := some (17, false) }) (v := ?vv30_2_20) rfl (by kernel_rfl) (by kernel_rfl) (by kernel_rfl) (fun _ _ _ h => h) (Or.inl ⟨by rfl, ?yy30_2_20⟩) hHeld ?_
            case yy30_2_20 => (intro W hx; go_simp; try with_reducible rfl)
            simp only [Act.put, List.setIfInBounds_toArray, List.set_cons_zero, List.set_cons_succ]
            refine wpAnyH_take (i := 21) (oi := { dst := some 39, op := Op.move (Operand.tmp 4), type := 3, pos := "cmd.go:50", after := #[{ on := 17, ground := Ground.guard }], guard := some (17, false) }) (v := ?vv31_2_21) rfl (by kernel_rfl) (by kernel_rfl) (by kernel_rfl) (fun _ _ _ h => h) (Or.inl ⟨by rfl, ?yy31_2_21⟩) hHeld ?_
            case yy31_2_21 => (intro W hx; go_simp; try with_reducible rfl)
            simp only [Act.put, List.setIfInBounds_toArray, List.set_cons_zero, List.set_cons_succ]
            refine wpAnyH_take (i := 22) (oi := { dst := some 40, op := Op.move (Operand.tmp 6), type := 3, pos := "cmd.go:50", after := #[{ on := 17, ground := Ground.guard }], guard := some (17, false) }) (v := ?vv32_2_22) rfl (by kernel_rfl) (by kernel_rfl) (by kernel_rfl) (fun _ _ _ h => h) (Or.inl ⟨by rfl, ?yy32_2_22⟩) hHeld ?_
            case yy32_2_22 => (intro W hx; go_simp; try with_reducible rfl)
            simp only [Act.put, List.setIfInBounds_toArray, List.set_cons_zero, List.set_cons_succ]
            refine wpAnyH_take (i := 23) (oi := { dst := some 41, op := Op.fieldAddr 26 (Operand.tmp 1) 1, type := 0, pos := "cmd.go:50", after := #[{ on := 17, ground := Ground.guard }], guard := some (17, false) }) (v := ?vv33_2_23) rfl (by kernel_rfl) (by kernel_rfl) (by kernel_rfl) (fun _ _ _ h => h) (Or.inl ⟨by rfl, ?yy33_2_23⟩) hHeld ?_
            case yy33_2_23 => (intro W hx; go_simp; try with_reducible rfl)
            simp only [Act.put, List.setIfInBounds_toArray, List.set_cons_zero, List.set_cons_succ]
            refine wpAnyH_take (i := 24) (oi := { dst := some 42, op := Op.indexAddr 22 (Operand.tmp 41) (Operand.const (Value.int IntKind.i64 0)), type := 0, pos := "cmd.go:50", after := #[{ on := 23, ground := Ground.data }, { on := 17, ground := Ground.guard }], guard := some (17, false) }) (v := ?vv34_2_24) rfl (by kernel_rfl) (by kernel_rfl) (by kernel_rfl) (fun _ _ _ h => h) (Or.inl ⟨by rfl, ?yy34_2_24⟩) hHeld ?_
            case yy34_2_24 => (intro W hx; go_simp; try with_reducible rfl)
            simp only [Act.put, List.setIfInBounds_toArray, List.set_cons_zero, List.set_cons_succ]
            refine wpAnyH_take (i := 25) (oi := { dst := some 43, op := Op.load 5 (Operand.tmp 42), type := 5, pos := "cmd.go:50", after := #[{ on := 24, ground := Ground.data }, { on := 17, ground := Ground.guard }], guard := some (17, false) }) (v := ?vv35_2_25) rfl (by kernel_rfl) (by kernel_rfl) (by kernel_rfl) (fun _ _ _ h => h) (Or.inl ⟨by rfl, ?yy35_2_25⟩) hHeld ?_
            case yy35_2_25 => (intro W hx; have hz := zz1.trans hx; obtain ⟨f0, f1, f2, f3, f4, f5, f6, f7⟩ := cells8 ((hz.block _ (blk_lt K1)).trans K1); go_simp; try with_reducible rfl)
            simp only [Act.put, List.setIfInBounds_toArray, List.set_cons_zero, List.set_cons_succ]
            refine wpAnyH_ready (rs := [26]) (by kernel_rfl) (by simp) (AllReadyH.cons rfl (fun K hK => ?_) AllReadyH.nil)
            go_simp
            go_wp2_with (go_at_call 19; (with_reducible refine (bytesOf_any _ _ _ _ a00 a01 m7 s5).mono ?_); rintro e w6 ⟨rfl, rfl⟩)
            refine hK.out _ _ hHeld (fun hHeld => ?_)
            clear hK K
            refine wpAnyH_take (i := 27) (oi := { dst := some 45, op := Op.binOp BinOp.neq 3 (Operand.tmp 38) (Operand.tmp 44) 3, type := 4, pos := "cmd.go:50", after := #[{ on := 20, ground := Ground.data }, { on := 26, ground := Ground.data }, { on := 17, ground := Ground.guard }], guard := some (17, false) }) (v := ?vv36_2_27) rfl (by kernel_rfl) (by kernel_rfl) (by kernel_rfl) (fun _ _ _ h => h) (Or.inl ⟨by rfl, ?yy36_2_27⟩) hHeld ?_
            case yy36_2_27 => (intro W hx; go_simp; try with_reducible rfl)
            simp only [Act.put, List.setIfInBounds_toArray, List.set_cons_zero, List.set_cons_succ]
            refine wpAnyH_take (i := 28) (oi := { dst := some 46, op := Op.pick (Operand.tmp 35) (Operand.const (Value.bool true)) (Operand.tmp 45), type := 4, pos := "cmd.go:50", after := #[{ on := 17, ground := Ground.data }, { on := 27, ground := Ground.data }], guard := none }) (v := ?vv37_2_28) rfl (by kernel_rfl) (by kernel_rfl) (by kernel_rfl) (fun _ _ _ h => h) (Or.inl ⟨by rfl, ?yy37_2_28⟩) hHeld ?_
            case yy37_2_28 => (intro W hx; go_simp; try with_reducible rfl)
            simp only [Act.put, List.setIfInBounds_toArray, List.set_cons_zero, List.set_cons_succ]
            refine wpAnyH_done (by kernel_rfl) ?_ _
            have zend := zz1.trans hHeld
            go_wp2
            go_meet
            case rel => exact ⟨congrArg Value.bool (by simp [*]), congrArg Value.bool (by simp [*]), congrArg Value.bool (by simp [badC, nbC, *]), v1.trans zend, zend⟩
          · have tok := True.intro
            refine wp_region_held_drew (S := Ext W1) (by kernel_rfl) ((Ext.refl _).drew) (fun hHeld => ?_)
            obtain ⟨wD38, hwD⟩ : ∃ V, V = World.drew W1 := ⟨_, rfl⟩
            rw [← hwD]
            clear hHeld
            have zz0 : Ext W1 wD38 := by rw [hwD]; exact (Ext.refl _).drew
            clear hwD
            refine wpAnyH_imp (S' := Ext wD38) (fun W h => Ext.trans zz0 h) _ _ _ _ ?_
            have hHeld := Ext.refl wD38
            refine wpAnyH_take (i := 0) (oi := { dst := some 18, op := Op.move (Operand.tmp 7), type := 4, pos := "cmd.go:50", after := #[], guard := none }) (v := ?vv39_2_0) rfl (by kernel_rfl) (by kernel_rfl) (by kernel_rfl) (fun _ _ _ h => h) (Or.inl ⟨by rfl, ?yy39_2_0⟩) hHeld ?_
            case yy39_2_0 => (intro W hx; go_simp; try with_reducible rfl)
            simp only [Act.put, List.setIfInBounds_toArray, List.set_cons_zero, List.set_cons_succ]
            refine wpAnyH_take (i := 1) (oi := { dst := some 19, op := Op.unOp UnOp.not 4 (Operand.tmp 18), type := 4, pos := "cmd.go:50", after := #[{ on := 0, ground := Ground.data }], guard := none }) (v := ?vv40_2_1) rfl (by kernel_rfl) (by kernel_rfl) (by kernel_rfl) (fun _ _ _ h => h) (Or.inl ⟨by rfl, ?yy40_2_1⟩) hHeld ?_
            case yy40_2_1 => (intro W hx; go_simp; try with_reducible rfl)
            simp only [Act.put, List.setIfInBounds_toArray, List.set_cons_zero, List.set_cons_succ]
            refine wpAnyH_take (i := 2) (oi := { dst := some 20, op := Op.move (Operand.tmp 19), type := 4, pos := "cmd.go:50", after := #[{ on := 1, ground := Ground.data }], guard := none }) (v := ?vv41_2_2) rfl (by kernel_rfl) (by kernel_rfl) (by kernel_rfl) (fun _ _ _ h => h) (Or.inl ⟨by rfl, ?yy41_2_2⟩) hHeld ?_
            case yy41_2_2 => (intro W hx; go_simp; try with_reducible rfl)
            simp only [Act.put, List.setIfInBounds_toArray, List.set_cons_zero, List.set_cons_succ]
            refine wpAnyH_take (i := 3) (oi := { dst := some 21, op := Op.fieldAddr 26 (Operand.tmp 1) 1, type := 0, pos := "cmd.go:50", after := #[{ on := 2, ground := Ground.guard }], guard := some (2, false) }) (v := ?vv42_2_3) rfl (by kernel_rfl) (by kernel_rfl) (by kernel_rfl) (fun _ _ _ h => h) (Or.inl ⟨by rfl, ?yy42_2_3⟩) hHeld ?_
            case yy42_2_3 => (intro W hx; go_simp; try with_reducible rfl)
            simp only [Act.put, List.setIfInBounds_toArray, List.set_cons_zero, List.set_cons_succ]
            refine wpAnyH_take (i := 4) (oi := { dst := some 22, op := Op.load 22 (Operand.tmp 21), type := 22, pos := "cmd.go:50", after := #[{ on := 3, ground := Ground.data }, { on := 2, ground := Ground.guard }], guard := some (2, false) }) (v := ?vv43_2_4) rfl (by kernel_rfl) (by kernel_rfl) (by kernel_rfl) (fun _ _ _ h => h) (Or.inl ⟨by rfl, ?yy43_2_4⟩) hHeld ?_
            case yy43_2_4 => (intro W hx; have hz := zz0.trans hx; obtain ⟨f0, f1, f2, f3, f4, f5, f6, f7⟩ := cells8 ((hz.block _ (blk_lt K1)).trans K1); go_simp; try with_reducible rfl)
            simp only [Act.put, List.setIfInBounds_toArray, List.set_cons_zero, List.set_cons_succ]
            refine wpAnyH_take (i := 5) (oi := { dst := some 23, op := Op.move (Operand.tmp 4), type := 3, pos := "cmd.go:50", after := #[{ on := 2, ground := Ground.guard }], guard := some (2, false) }) (v := ?vv44_2_5) rfl (by kernel_rfl) (by kernel_rfl) (by kernel_rfl) (fun _ _ _ h => h) (Or.inl ⟨by rfl, ?yy44_2_5⟩) hHeld ?_
            case yy44_2_5 => (intro W hx; go_simp; try with_reducible rfl)
            simp only [Act.put, List.setIfInBounds_toArray, List.set_cons_zero, List.set_cons_succ]
            refine wpAnyH_ready (rs := [6]) (by kernel_rfl) (by simp) (AllReadyH.cons rfl (fun K hK => ?_) AllReadyH.nil)
            go_simp
            go_wp2_with (go_at_call 18; (with_reducible refine (behind_any _ _ _ _ _ _ _ s5).mono ?_); rintro e w5 ⟨rfl, x5⟩; rw [HB.out])
            refine hK.out _ _ x5 (fun hHeld => ?_)
            clear hK K
            refine wpAnyH_imp (S' := Ext w5) (fun W h => Ext.trans x5 h) _ _ _ _ ?_
            replace hHeld := Ext.refl w5
            have zz1 := zz0.trans x5
            refine wpAnyH_take (i := 7) (oi := { dst := some 25, op := Op.pick (Operand.tmp 20) (Operand.const (Value.bool true)) (Operand.tmp 24), type := 4, pos := "cmd.go:50", after := #[{ on := 2, ground := Ground.data }, { on := 6, ground := Ground.data }], guard := none }) (v := ?vv45_2_7) rfl (by kernel_rfl) (by kernel_rfl) (by kernel_rfl) (fun _ _ _ h => h) (Or.inl ⟨by rfl, ?yy45_2_7⟩) hHeld ?_
            case yy45_2_7 => (intro W hx; go_simp; try with_reducible rfl)
            simp only [Act.put, List.setIfInBounds_toArray, List.set_cons_zero, List.set_cons_succ]
            refine wpAnyH_take (i := 8) (oi := { dst := some 26, op := Op.move (Operand.tmp 25), type := 4, pos := "cmd.go:50", after := #[{ on := 7, ground := Ground.data }, { on := 6, ground := Ground.chain }], guard := none }) (v := ?vv46_2_8) rfl (by kernel_rfl) (by kernel_rfl) (by kernel_rfl) (fun _ _ _ h => h) (Or.inl ⟨by rfl, ?yy46_2_8⟩) hHeld ?_
            case yy46_2_8 => (intro W hx; go_simp; try with_reducible rfl)
            simp only [Act.put, List.setIfInBounds_toArray, List.set_cons_zero, List.set_cons_succ]
            refine wpAnyH_take (i := 9) (oi := { dst := some 27, op := Op.move (Operand.tmp 5), type := 4, pos := "cmd.go:50", after := #[{ on := 8, ground := Ground.guard }], guard := some (8, false) }) (v := ?vv47_2_9) rfl (by kernel_rfl) (by kernel_rfl) (by kernel_rfl) (fun _ _ _ h => h) (Or.inl ⟨by rfl, ?yy47_2_9⟩) hHeld ?_
            case yy47_2_9 => (intro W hx; go_simp; try with_reducible rfl)
            simp only [Act.put, List.setIfInBounds_toArray, List.set_cons_zero, List.set_cons_succ]
            refine wpAnyH_take (i := 10) (oi := { dst := some 28, op := Op.unOp UnOp.not 4 (Operand.tmp 27), type := 4, pos := "cmd.go:50", after := #[{ on := 9, ground := Ground.data }, { on := 8, ground := Ground.guard }], guard := some (8, false) }) (v := ?vv48_2_10) rfl (by kernel_rfl) (by kernel_rfl) (by kernel_rfl) (fun _ _ _ h => h) (Or.inl ⟨by rfl, ?yy48_2_10⟩) hHeld ?_
            case yy48_2_10 => (intro W hx; go_simp; try with_reducible rfl)
            simp only [Act.put, List.setIfInBounds_toArray, List.set_cons_zero, List.set_cons_succ]
            refine wpAnyH_take (i := 11) (oi := { dst := some 29, op := Op.move (Operand.tmp 28), type := 4, pos := "cmd.go:50", after := #[{ on := 10, ground := Ground.data }, { on := 8, ground := Ground.chain }, { on := 8, ground := Ground.guard }], guard := some (8, false) }) (v := ?vv49_2_11) rfl (by kernel_rfl) (by kernel_rfl) (by kernel_rfl) (fun _ _ _ h => h) (Or.inl ⟨by rfl, ?yy49_2_11⟩) hHeld ?_
            case yy49_2_11 => (intro W hx; go_simp; try with_reducible rfl)
            simp only [Act.put, List.setIfInBounds_toArray, List.set_cons_zero, List.set_cons_succ]
            refine wpAnyH_take (i := 12) (oi := { dst := some 30, op := Op.fieldAddr 26 (Operand.tmp 1) 2, type := 0, pos := "cmd.go:50", after := #[{ on := 11, ground := Ground.guard }], guard := some (11, true) }) (v := ?vv50_2_12) rfl (by kernel_rfl) (by kernel_rfl) (by kernel_rfl) (fun _ _ _ h => h) (Or.inl ⟨by rfl, ?yy50_2_12⟩) hHeld ?_
            case yy50_2_12 => (intro W hx; go_simp; try with_reducible rfl)
            simp only [Act.put, List.setIfInBounds_toArray, List.set_cons_zero, List.set_cons_succ]
            refine wpAnyH_take (i := 13) (oi := { dst := some 31, op := Op.load 23 (Operand.tmp 30), type := 23, pos := "cmd.go:50", after := #[{ on := 12, ground := Ground.data }, { on := 11, ground := Ground.guard }], guard := some (11, true) }) (v := ?vv51_2_13) rfl (by kernel_rfl) (by kernel_rfl) (by kernel_rfl) (fun _ _ _ h => h) (Or.inl ⟨by rfl, ?yy51_2_13⟩) hHeld ?_
            case yy51_2_13 => (intro W hx; have hz := zz1.trans hx; obtain ⟨f0, f1, f2, f3, f4, f5, f6, f7⟩ := cells8 ((hz.block _ (blk_lt K1)).trans K1); go_simp; try with_reducible rfl)
            simp only [Act.put, List.setIfInBounds_toArray, List.set_cons_zero, List.set_cons_succ]
            refine wpAnyH_take (i := 14) (oi := { dst := some 32, op := Op.binOp BinOp.neq 23 (Operand.tmp 31) (Operand.const (Value.int IntKind.u32 0)) 23, type := 4, pos := "cmd.go:50", after := #[{ on := 13, ground := Ground.data }, { on := 11, ground := Ground.guard }], guard := some (11, true) }) (v := ?vv52_2_14) rfl (by kernel_rfl) (by kernel_rfl) (by kernel_rfl) (fun _ _ _ h => h) (Or.inl ⟨by rfl, ?yy52_2_14⟩) hHeld ?_
            case yy52_2_14 => (intro W hx; go_simp; try with_reducible rfl)
            simp only [Act.put, List.setIfInBounds_toArray, List.set_cons_zero, List.set_cons_succ]
            refine wpAnyH_take (i := 15) (oi := { dst := some 33, op := Op.pick (Operand.tmp 29) (Operand.tmp 32) (Operand.const (Value.bool false)), type := 4, pos := "cmd.go:50", after := #[{ on := 11, ground := Ground.data }, { on := 14, ground := Ground.data }, { on := 8, ground := Ground.guard }], guard := some (8, false) }) (v := ?vv53_2_15) rfl (by kernel_rfl) (by kernel_rfl) (by kernel_rfl) (fun _ _ _ h => h) (Or.inl ⟨by rfl, ?yy53_2_15⟩) hHeld ?_
            case yy53_2_15 => (intro W hx; go_simp; try with_reducible rfl)
            simp only [Act.put, List.setIfInBounds_toArray, List.set_cons_zero, List.set_cons_succ]
            refine wpAnyH_take (i := 16) (oi := { dst := some 34, op := Op.pick (Operand.tmp 26) (Operand.const (Value.bool true)) (Operand.tmp 33), type := 4, pos := "cmd.go:50", after := #[{ on := 8, ground := Ground.data }, { on := 15, ground := Ground.data }], guard := none }) (v := ?vv54_2_16) rfl (by kernel_rfl) (by kernel_rfl) (by kernel_rfl) (fun _ _ _ h => h) (Or.inl ⟨by rfl, ?yy54_2_16⟩) hHeld ?_
            case yy54_2_16 => (intro W hx; go_simp; try with_reducible rfl)
            simp only [Act.put, List.setIfInBounds_toArray, List.set_cons_zero, List.set_cons_succ]
            refine wpAnyH_take (i := 17) (oi := { dst := some 35, op := Op.move (Operand.tmp 34), type := 4, pos := "cmd.go:50", after := #[{ on := 16, ground := Ground.data }, { on := 11, ground := Ground.chain }], guard := none }) (v := ?vv55_2_17) rfl (by kernel_rfl) (by kernel_rfl) (by kernel_rfl) (fun _ _ _ h => h) (Or.inl ⟨by rfl, ?yy55_2_17⟩) hHeld ?_
            case yy55_2_17 => (intro W hx; go_simp; try with_reducible rfl)
            simp only [Act.put, List.setIfInBounds_toArray, List.set_cons_zero, List.set_cons_succ]
            refine wpAnyH_take (i := 18) (oi := { dst := some 36, op := Op.fieldAddr 26 (Operand.tmp 1) 3, type := 0, pos := "cmd.go:50", after := #[{ on := 17, ground := Ground.guard }], guard := some (17, false) }) (v := undef) rfl (by kernel_rfl) (by kernel_rfl) (by kernel_rfl) (fun _ _ _ h => h) (Or.inr ⟨by rfl, rfl⟩) hHeld ?_
            simp only [Act.put, List.setIfInBounds_toArray, List.set_cons_zero, List.set_cons_succ]
            refine wpAnyH_take (i := 19) (oi := { dst := some 37, op := Op.load 24 (Operand.tmp 36), type := 24, pos := "cmd.go:50", after := #[{ on := 18, ground := Ground.data }, { on := 17, ground := Ground.guard }], guard := some (17, false) }) (v := undef) rfl (by kernel_rfl) (by kernel_rfl) (by kernel_rfl) (fun _ _ _ h => h) (Or.inr ⟨by rfl, rfl⟩) hHeld ?_
            simp only [Act.put, List.setIfInBounds_toArray, List.set_cons_zero, List.set_cons_succ]
            refine wpAnyH_take (i := 20) (oi := { dst := some 38, op := Op.call { callee := Callee.builtin Builtin.len, args := #[Operand.tmp 37], argTypes := #[24] }, type := 3, pos := "cmd.go:50", after := #[{ on := 19, ground := Ground.data }, { on := 17, ground := Ground.guard }], guard := some (17, false) }) (v := undef) rfl (by kernel_rfl) (by kernel_rfl) (by kernel_rfl) (fun _ _ _ h => h) (Or.inr ⟨by rfl, rfl⟩) hHeld ?_
            simp only [Act.put, List.setIfInBounds_toArray, List.set_cons_zero, List.set_cons_succ]
            refine wpAnyH_take (i := 21) (oi := { dst := some 39, op := Op.move (Operand.tmp 4), type := 3, pos := "cmd.go:50", after := #[{ on := 17, ground := Ground.guard }], guard := some (17, false) }) (v := undef) rfl (by kernel_rfl) (by kernel_rfl) (by kernel_rfl) (fun _ _ _ h => h) (Or.inr ⟨by rfl, rfl⟩) hHeld ?_
            simp only [Act.put, List.setIfInBounds_toArray, List.set_cons_zero, List.set_cons_succ]
            refine wpAnyH_take (i := 22) (oi := { dst := some 40, op := Op.move (Operand.tmp 6), type := 3, pos := "cmd.go:50", after := #[{ on := 17, ground := Ground.guard }], guard := some (17, false) }) (v := undef) rfl (by kernel_rfl) (by kernel_rfl) (by kernel_rfl) (fun _ _ _ h => h) (Or.inr ⟨by rfl, rfl⟩) hHeld ?_
            simp only [Act.put, List.setIfInBounds_toArray, List.set_cons_zero, List.set_cons_succ]
            refine wpAnyH_take (i := 23) (oi := { dst := some 41, op := Op.fieldAddr 26 (Operand.tmp 1) 1, type := 0, pos := "cmd.go:50", after := #[{ on := 17, ground := Ground.guard }], guard := some (17, false) }) (v := undef) rfl (by kernel_rfl) (by kernel_rfl) (by kernel_rfl) (fun _ _ _ h => h) (Or.inr ⟨by rfl, rfl⟩) hHeld ?_
            simp only [Act.put, List.setIfInBounds_toArray, List.set_cons_zero, List.set_cons_succ]
            refine wpAnyH_take (i := 24) (oi := { dst := some 42, op := Op.indexAddr 22 (Operand.tmp 41) (Operand.const (Value.int IntKind.i64 0)), type := 0, pos := "cmd.go:50", after := #[{ on := 23, ground := Ground.data }, { on := 17, ground := Ground.guard }], guard := some (17, false) }) (v := undef) rfl (by kernel_rfl) (by kernel_rfl) (by kernel_rfl) (fun _ _ _ h => h) (Or.inr ⟨by rfl, rfl⟩) hHeld ?_
            simp only [Act.put, List.setIfInBounds_toArray, List.set_cons_zero, List.set_cons_succ]
            refine wpAnyH_take (i := 25) (oi := { dst := some 43, op := Op.load 5 (Operand.tmp 42), type := 5, pos := "cmd.go:50", after := #[{ on := 24, ground := Ground.data }, { on := 17, ground := Ground.guard }], guard := some (17, false) }) (v := undef) rfl (by kernel_rfl) (by kernel_rfl) (by kernel_rfl) (fun _ _ _ h => h) (Or.inr ⟨by rfl, rfl⟩) hHeld ?_
            simp only [Act.put, List.setIfInBounds_toArray, List.set_cons_zero, List.set_cons_succ]
            refine wpAnyH_take (i := 26) (oi := { dst := some 44, op := Op.call { callee := Callee.value (Operand.func 19), args := #[Operand.tmp 39, Operand.tmp 40, Operand.tmp 43], argTypes := #[3, 3, 5] }, type := 3, pos := "cmd.go:50", after := #[{ on := 21, ground := Ground.data }, { on := 22, ground := Ground.data }, { on := 25, ground := Ground.data }, { on := 17, ground := Ground.chain }, { on := 17, ground := Ground.guard }], guard := some (17, false) }) (v := undef) rfl (by kernel_rfl) (by kernel_rfl) (by kernel_rfl) (fun _ _ _ h => h) (Or.inr ⟨by rfl, rfl⟩) hHeld ?_
            simp only [Act.put, List.setIfInBounds_toArray, List.set_cons_zero, List.set_cons_succ]
            refine wpAnyH_take (i := 27) (oi := { dst := some 45, op := Op.binOp BinOp.neq 3 (Operand.tmp 38) (Operand.tmp 44) 3, type := 4, pos := "cmd.go:50", after := #[{ on := 20, ground := Ground.data }, { on := 26, ground := Ground.data }, { on := 17, ground := Ground.guard }], guard := some (17, false) }) (v := undef) rfl (by kernel_rfl) (by kernel_rfl) (by kernel_rfl) (fun _ _ _ h => h) (Or.inr ⟨by rfl, rfl⟩) hHeld ?_
            simp only [Act.put, List.setIfInBounds_toArray, List.set_cons_zero, List.set_cons_succ]
            refine wpAnyH_take (i := 28) (oi := { dst := some 46, op := Op.pick (Operand.tmp 35) (Operand.const (Value.bool true)) (Operand.tmp 45), type := 4, pos := "cmd.go:50", after := #[{ on := 17, ground := Ground.data }, { on := 27, ground := Ground.data }], guard := none }) (v := ?vv56_2_28) rfl (by kernel_rfl) (by kernel_rfl) (by kernel_rfl) (fun _ _ _ h => h) (Or.inl ⟨by rfl, ?yy56_2_28⟩) hHeld ?_
            case yy56_2_28 => (intro W hx; go_simp; try with_reducible rfl)
            simp only [Act.put, List.setIfInBounds_toArray, List.set_cons_zero, List.set_cons_succ]
            refine wpAnyH_done (by kernel_rfl) ?_ _
            have zend := zz1.trans hHeld
            go_wp2
            go_meet
            case rel => exact ⟨congrArg Value.bool (by simp [*]), congrArg Value.bool (by simp [*]), congrArg Value.bool (by simp [badC, nbC, *]), v1.trans zend, zend⟩
        · have tok := True.intro
          refine wp_region_held_drew (S := Ext W1) (by kernel_rfl) ((Ext.refl _).drew) (fun hHeld => ?_)
          obtain ⟨wD57, hwD⟩ : ∃ V, V = World.drew W1 := ⟨_, rfl⟩
          rw [← hwD]
          clear hHeld
          have zz0 : Ext W1 wD57 := by rw [hwD]; exact (Ext.refl _).drew
          clear hwD
          refine wpAnyH_imp (S' := Ext wD57) (fun W h => Ext.trans zz0 h) _ _ _ _ ?_
          have hHeld := Ext.refl wD57
          refine wpAnyH_take (i := 0) (oi := { dst := some 18, op := Op.move (Operand.tmp 7), type := 4, pos := "cmd.go:50", after := #[], guard := none }) (v := ?vv58_2_0) rfl (by kernel_rfl) (by kernel_rfl) (by kernel_rfl) (fun _ _ _ h => h) (Or.inl ⟨by rfl, ?yy58_2_0⟩) hHeld ?_
          case yy58_2_0 => (intro W hx; go_simp; try with_reducible rfl)
          simp only [Act.put, List.setIfInBounds_toArray, List.set_cons_zero, List.set_cons_succ]
          refine wpAnyH_take (i := 1) (oi := { dst := some 19, op := Op.unOp UnOp.not 4 (Operand.tmp 18), type := 4, pos := "cmd.go:50", after := #[{ on := 0, ground := Ground.data }], guard := none }) (v := ?vv59_2_1) rfl (by kernel_rfl) (by kernel_rfl) (by kernel_rfl) (fun _ _ _ h => h) (Or.inl ⟨by rfl, ?yy59_2_1⟩) hHeld ?_
          case yy59_2_1 => (intro W hx; go_simp; try with_reducible rfl)
          simp only [Act.put, List.setIfInBounds_toArray, List.set_cons_zero, List.set_cons_succ]
          refine wpAnyH_take (i := 2) (oi := { dst := some 20, op := Op.move (Operand.tmp 19), type := 4, pos := "cmd.go:50", after := #[{ on := 1, ground := Ground.data }], guard := none }) (v := ?vv60_2_2) rfl (by kernel_rfl) (by kernel_rfl) (by kernel_rfl) (fun _ _ _ h => h) (Or.inl ⟨by rfl, ?yy60_2_2⟩) hHeld ?_
          case yy60_2_2 => (intro W hx; go_simp; try with_reducible rfl)
          simp only [Act.put, List.setIfInBounds_toArray, List.set_cons_zero, List.set_cons_succ]
          refine wpAnyH_take (i := 3) (oi := { dst := some 21, op := Op.fieldAddr 26 (Operand.tmp 1) 1, type := 0, pos := "cmd.go:50", after := #[{ on := 2, ground := Ground.guard }], guard := some (2, false) }) (v := ?vv61_2_3) rfl (by kernel_rfl) (by kernel_rfl) (by kernel_rfl) (fun _ _ _ h => h) (Or.inl ⟨by rfl, ?yy61_2_3⟩) hHeld ?_
          case yy61_2_3 => (intro W hx; go_simp; try with_reducible rfl)
          simp only [Act.put, List.setIfInBounds_toArray, List.set_cons_zero, List.set_cons_succ]
          refine wpAnyH_take (i := 4) (oi := { dst := some 22, op := Op.load 22 (Operand.tmp 21), type := 22, pos := "cmd.go:50", after := #[{ on := 3, ground := Ground.data }, { on := 2, ground := Ground.guard }], guard := some (2, false) }) (v := ?vv62_2_4) rfl (by kernel_rfl) (by kernel_rfl) (by kernel_rfl) (fun _ _ _ h => h) (Or.inl ⟨by rfl, ?yy62_2_4⟩) hHeld ?_
          case yy62_2_4 => (intro W hx; have hz := zz0.trans hx; obtain ⟨f0, f1, f2, f3, f4, f5, f6, f7⟩ := cells8 ((hz.block _ (blk_lt K1)).trans K1); go_simp; try with_reducible rfl)
          simp only [Act.put, List.setIfInBounds_toArray, List.set_cons_zero, List.set_cons_succ]
          refine wpAnyH_take (i := 5) (oi := { dst := some 23, op := Op.move (Operand.tmp 4), type := 3, pos := "cmd.go:50", after := #[{ on := 2, ground := Ground.guard }], guard := some (2, false) }) (v := ?vv63_2_5) rfl (by kernel_rfl) (by kernel_rfl) (by kernel_rfl) (fun _ _ _ h => h) (Or.inl ⟨by rfl, ?yy63_2_5⟩) hHeld ?_
          case yy63_2_5 => (intro W hx; go_simp; try with_reducible rfl)
          simp only [Act.put, List.setIfInBounds_toArray, List.set_cons_zero, List.set_cons_succ]
          refine wpAnyH_ready (rs := [6]) (by kernel_rfl) (by simp) (AllReadyH.cons rfl (fun K hK => ?_) AllReadyH.nil)
          go_simp
          go_wp2_with (go_at_call 18; (with_reducible refine (behind_any _ _ _ _ _ _ _ s5).mono ?_); rintro e w5 ⟨rfl, x5⟩; rw [HB.out])
          refine hK.out _ _ x5 (fun hHeld => ?_)
          clear hK K
          refine wpAnyH_imp (S' := Ext w5) (fun W h => Ext.trans x5 h) _ _ _ _ ?_
          replace hHeld := Ext.refl w5
          have zz1 := zz0.trans x5
          refine wpAnyH_take (i := 7) (oi := { dst := some 25, op := Op.pick (Operand.tmp 20) (Operand.const (Value.bool true)) (Operand.tmp 24), type := 4, pos := "cmd.go:50", after := #[{ on := 2, ground := Ground.data }, { on := 6, ground := Ground.data }], guard := none }) (v := ?vv64_2_7) rfl (by kernel_rfl) (by kernel_rfl) (by kernel_rfl) (fun _ _ _ h => h) (Or.inl ⟨by rfl, ?yy64_2_7⟩) hHeld ?_
          case yy64_2_7 => (intro W hx; go_simp; try with_reducible rfl)
          simp only [Act.put, List.setIfInBounds_toArray, List.set_cons_zero, List.set_cons_succ]
          refine wpAnyH_take (i := 8) (oi := { dst := some 26, op := Op.move (Operand.tmp 25), type := 4, pos := "cmd.go:50", after := #[{ on := 7, ground := Ground.data }, { on := 6, ground := Ground.chain }], guard := none }) (v := ?vv65_2_8) rfl (by kernel_rfl) (by kernel_rfl) (by kernel_rfl) (fun _ _ _ h => h) (Or.inl ⟨by rfl, ?yy65_2_8⟩) hHeld ?_
          case yy65_2_8 => (intro W hx; go_simp; try with_reducible rfl)
          simp only [Act.put, List.setIfInBounds_toArray, List.set_cons_zero, List.set_cons_succ]
          refine wpAnyH_take (i := 9) (oi := { dst := some 27, op := Op.move (Operand.tmp 5), type := 4, pos := "cmd.go:50", after := #[{ on := 8, ground := Ground.guard }], guard := some (8, false) }) (v := ?vv66_2_9) rfl (by kernel_rfl) (by kernel_rfl) (by kernel_rfl) (fun _ _ _ h => h) (Or.inl ⟨by rfl, ?yy66_2_9⟩) hHeld ?_
          case yy66_2_9 => (intro W hx; go_simp; try with_reducible rfl)
          simp only [Act.put, List.setIfInBounds_toArray, List.set_cons_zero, List.set_cons_succ]
          refine wpAnyH_take (i := 10) (oi := { dst := some 28, op := Op.unOp UnOp.not 4 (Operand.tmp 27), type := 4, pos := "cmd.go:50", after := #[{ on := 9, ground := Ground.data }, { on := 8, ground := Ground.guard }], guard := some (8, false) }) (v := ?vv67_2_10) rfl (by kernel_rfl) (by kernel_rfl) (by kernel_rfl) (fun _ _ _ h => h) (Or.inl ⟨by rfl, ?yy67_2_10⟩) hHeld ?_
          case yy67_2_10 => (intro W hx; go_simp; try with_reducible rfl)
          simp only [Act.put, List.setIfInBounds_toArray, List.set_cons_zero, List.set_cons_succ]
          refine wpAnyH_take (i := 11) (oi := { dst := some 29, op := Op.move (Operand.tmp 28), type := 4, pos := "cmd.go:50", after := #[{ on := 10, ground := Ground.data }, { on := 8, ground := Ground.chain }, { on := 8, ground := Ground.guard }], guard := some (8, false) }) (v := ?vv68_2_11) rfl (by kernel_rfl) (by kernel_rfl) (by kernel_rfl) (fun _ _ _ h => h) (Or.inl ⟨by rfl, ?yy68_2_11⟩) hHeld ?_
          case yy68_2_11 => (intro W hx; go_simp; try with_reducible rfl)
          simp only [Act.put, List.setIfInBounds_toArray, List.set_cons_zero, List.set_cons_succ]
          refine wpAnyH_take (i := 12) (oi := { dst := some 30, op := Op.fieldAddr 26 (Operand.tmp 1) 2, type := 0, pos := "cmd.go:50", after := #[{ on := 11, ground := Ground.guard }], guard := some (11, true) }) (v := undef) rfl (by kernel_rfl) (by kernel_rfl) (by kernel_rfl) (fun _ _ _ h => h) (Or.inr ⟨by rfl, rfl⟩) hHeld ?_
          simp only [Act.put, List.setIfInBounds_toArray, List.set_cons_zero, List.set_cons_succ]
          refine wpAnyH_take (i := 13) (oi := { dst := some 31, op := Op.load 23 (Operand.tmp 30), type := 23, pos := "cmd.go:50", after := #[{ on := 12, ground := Ground.data }, { on := 11, ground := Ground.guard }], guard := some (11, true) }) (v := undef) rfl (by kernel_rfl) (by kernel_rfl) (by kernel_rfl) (fun _ _ _ h => h) (Or.inr ⟨by rfl, rfl⟩) hHeld ?_
          simp only [Act.put, List.setIfInBounds_toArray, List.set_cons_zero, List.set_cons_succ]
          refine wpAnyH_take (i := 14) (oi := { dst := some 32, op := Op.binOp BinOp.neq 23 (Operand.tmp 31) (Operand.const (Value.int IntKind.u32 0)) 23, type := 4, pos := "cmd.go:50", after := #[{ on := 13, ground := Ground.data }, { on := 11, ground := Ground.guard }], guard := some (11, true) }) (v := undef) rfl (by kernel_rfl) (by kernel_rfl) (by kernel_rfl) (fun _ _ _ h => h) (Or.inr ⟨by rfl, rfl⟩) hHeld ?_
          simp only [Act.put, List.setIfInBounds_toArray, List.set_cons_zero, List.set_cons_succ]
          refine wpAnyH_take (i := 15) (oi := { dst := some 33, op := Op.pick (Operand.tmp 29) (Operand.tmp 32) (Operand.const (Value.bool false)), type := 4, pos := "cmd.go:50", after := #[{ on := 11, ground := Ground.data }, { on := 14, ground := Ground.data }, { on := 8, ground := Ground.guard }], guard := some (8, false) }) (v := ?vv69_2_15) rfl (by kernel_rfl) (by kernel_rfl) (by kernel_rfl) (fun _ _ _ h => h) (Or.inl ⟨by rfl, ?yy69_2_15⟩) hHeld ?_
          case yy69_2_15 => (intro W hx; go_simp; try with_reducible rfl)
          simp only [Act.put, List.setIfInBounds_toArray, List.set_cons_zero, List.set_cons_succ]
          refine wpAnyH_take (i := 16) (oi := { dst := some 34, op := Op.pick (Operand.tmp 26) (Operand.const (Value.bool true)) (Operand.tmp 33), type := 4, pos := "cmd.go:50", after := #[{ on := 8, ground := Ground.data }, { on := 15, ground := Ground.data }], guard := none }) (v := ?vv70_2_16) rfl (by kernel_rfl) (by kernel_rfl) (by kernel_rfl) (fun _ _ _ h => h) (Or.inl ⟨by rfl, ?yy70_2_16⟩) hHeld ?_
          case yy70_2_16 => (intro W hx; go_simp; try with_reducible rfl)
          simp only [Act.put, List.setIfInBounds_toArray, List.set_cons_zero, List.set_cons_succ]
          refine wpAnyH_take (i := 17) (oi := { dst := some 35, op := Op.move (Operand.tmp 34), type := 4, pos := "cmd.go:50", after := #[{ on := 16, ground := Ground.data }, { on := 11, ground := Ground.chain }], guard := none }) (v := ?vv71_2_17) rfl (by kernel_rfl) (by kernel_rfl) (by kernel_rfl) (fun _ _ _ h => h) (Or.inl ⟨by rfl, ?yy71_2_17⟩) hHeld ?_
          case yy71_2_17 => (intro W hx; go_simp; try with_reducible rfl)
          simp only [Act.put, List.setIfInBounds_toArray, List.set_cons_zero, List.set_cons_succ]
          refine wpAnyH_take (i := 18) (oi := { dst := some 36, op := Op.fieldAddr 26 (Operand.tmp 1) 3, type := 0, pos := "cmd.go:50", after := #[{ on := 17, ground := Ground.guard }], guard := some (17, false) }) (v := ?vv72_2_18) rfl (by kernel_rfl) (by kernel_rfl) (by kernel_rfl) (fun _ _ _ h => h) (Or.inl ⟨by rfl, ?yy72_2_18⟩) hHeld ?_
          case yy72_2_18 => (intro W hx; go_simp; try with_reducible rfl)
          simp only [Act.put, List.setIfInBounds_toArray, List.set_cons_zero, List.set_cons_succ]
          refine wpAnyH_take (i := 19) (oi := { dst := some 37, op := Op.load 24 (Operand.tmp 36), type := 24, pos := "cmd.go:50", after := #[{ on := 18, ground := Ground.data }, { on := 17, ground := Ground.guard }], guard := some (17, false) }) (v := ?vv73_2_19) rfl (by kernel_rfl) (by kernel_rfl) (by kernel_rfl) (fun _ _ _ h => h) (Or.inl ⟨by rfl, ?yy73_2_19⟩) hHeld ?_
          case yy73_2_19 => (intro W hx; have hz := zz1.trans hx; obtain ⟨f0, f1, f2, f3, f4, f5, f6, f7⟩ := cells8 ((hz.block _ (blk_lt K1)).trans K1); go_simp; try with_reducible rfl)
          simp only [Act.put, List.setIfInBounds_toArray, List.set_cons_zero, List.set_cons_succ]
          refine wpAnyH_take (i := 20) (oi := { dst := some 38, op := Op.call { callee := Callee.builtin Builtin.len, args := #[Operand.tmp 37], argTypes := #[24] }, type := 3, pos := "cmd.go:50", after := #[{ on := 19, ground := Ground.data }, { on := 17, ground := Ground.guard }], guard := some (17, false) }) (v := ?vv74_2_20) rfl (by kernel_rfl) (by kernel_rfl) (by kernel_rfl) (fun _ _ _ h => h) (Or.inl ⟨by rfl, ?yy74_2_20⟩) hHeld ?_
          case yy74_2_20 => (intro W hx; go_simp; try with_reducible rfl)
          simp only [Act.put, List.setIfInBounds_toArray, List.set_cons_zero, List.set_cons_succ]
          refine wpAnyH_take (i := 21) (oi := { dst := some 39, op := Op.move (Operand.tmp 4), type := 3, pos := "cmd.go:50", after := #[{ on := 17, ground := Ground.guard }], guard := some (17, false) }) (v := ?vv75_2_21) rfl (by kernel_rfl) (by kernel_rfl) (by kernel_rfl) (fun _ _ _ h => h) (Or.inl ⟨by rfl, ?yy75_2_21⟩) hHeld ?_
          case yy75_2_21 => (intro W hx; go_simp; try with_reducible rfl)
          simp only [Act.put, List.setIfInBounds_toArray, List.set_cons_zero, List.set_cons_succ]
          refine wpAnyH_take (i := 22) (oi := { dst := some 40, op := Op.move (Operand.tmp 6), type := 3, pos := "cmd.go:50", after := #[{ on := 17, ground := Ground.guard }], guard := some (17, false) }) (v := ?vv76_2_22) rfl (by kernel_rfl) (by kernel_rfl) (by kernel_rfl) (fun _ _ _ h => h) (Or.inl ⟨by rfl, ?yy76_2_22⟩) hHeld ?_
          case yy76_2_22 => (intro W hx; go_simp; try with_reducible rfl)
          simp only [Act.put, List.setIfInBounds_toArray, List.set_cons_zero, List.set_cons_succ]
          refine wpAnyH_take (i := 23) (oi := { dst := some 41, op := Op.fieldAddr 26 (Operand.tmp 1) 1, type := 0, pos := "cmd.go:50", after := #[{ on := 17, ground := Ground.guard }], guard := some (17, false) }) (v := ?vv77_2_23) rfl (by kernel_rfl) (by kernel_rfl) (by kernel_rfl) (fun _ _ _ h => h) (Or.inl ⟨by rfl, ?yy77_2_23⟩) hHeld ?_
          case yy77_2_23 => (intro W hx; go_simp; try with_reducible rfl)
          simp only [Act.put, List.setIfInBounds_toArray, List.set_cons_zero, List.set_cons_succ]
          refine wpAnyH_take (i := 24) (oi := { dst := some 42, op := Op.indexAddr 22 (Operand.tmp 41) (Operand.const (Value.int IntKind.i64 0)), type := 0, pos := "cmd.go:50", after := #[{ on := 23, ground := Ground.data }, { on := 17, ground := Ground.guard }], guard := some (17, false) }) (v := ?vv78_2_24) rfl (by kernel_rfl) (by kernel_rfl) (by kernel_rfl) (fun _ _ _ h => h) (Or.inl ⟨by rfl, ?yy78_2_24⟩) hHeld ?_
          case yy78_2_24 => (intro W hx; go_simp; try with_reducible rfl)
          simp only [Act.put, List.setIfInBounds_toArray, List.set_cons_zero, List.set_cons_succ]
          refine wpAnyH_take (i := 25) (oi := { dst := some 43, op := Op.load 5 (Operand.tmp 42), type := 5, pos := "cmd.go:50", after := #[{ on := 24, ground := Ground.data }, { on := 17, ground := Ground.guard }], guard := some (17, false) }) (v := ?vv79_2_25) rfl (by kernel_rfl) (by kernel_rfl) (by kernel_rfl) (fun _ _ _ h => h) (Or.inl ⟨by rfl, ?yy79_2_25⟩) hHeld ?_
          case yy79_2_25 => (intro W hx; have hz := zz1.trans hx; obtain ⟨f0, f1, f2, f3, f4, f5, f6, f7⟩ := cells8 ((hz.block _ (blk_lt K1)).trans K1); go_simp; try with_reducible rfl)
          simp only [Act.put, List.setIfInBounds_toArray, List.set_cons_zero, List.set_cons_succ]
          refine wpAnyH_ready (rs := [26]) (by kernel_rfl) (by simp) (AllReadyH.cons rfl (fun K hK => ?_) AllReadyH.nil)
          go_simp
          go_wp2_with (go_at_call 19; (with_reducible refine (bytesOf_any _ _ _ _ a00 a01 m7 s5).mono ?_); rintro e w6 ⟨rfl, rfl⟩)
          refine hK.out _ _ hHeld (fun hHeld => ?_)
          clear hK K
          refine wpAnyH_take (i := 27) (oi := { dst := some 45, op := Op.binOp BinOp.neq 3 (Operand.tmp 38) (Operand.tmp 44) 3, type := 4, pos := "cmd.go:50", after := #[{ on := 20, ground := Ground.data }, { on := 26, ground := Ground.data }, { on := 17, ground := Ground.guard }], guard := some (17, false) }) (v := ?vv80_2_27) rfl (by kernel_rfl) (by kernel_rfl) (by kernel_rfl) (fun _ _ _ h => h) (Or.inl ⟨by rfl, ?yy80_2_27⟩) hHeld ?_
          case yy80_2_27 => (intro W hx; go_simp; try with_reducible rfl)
          simp only [Act.put, List.setIfInBounds_toArray, List.set_cons_zero, List.set_cons_succ]
          refine wpAnyH_take (i := 28) (oi := { dst := some 46, op := Op.pick (Operand.tmp 35) (Operand.const (Value.bool true)) (Operand.tmp 45), type := 4, pos := "cmd.go:50", after := #[{ on := 17, ground := Ground.data }, { on := 27, ground := Ground.data }], guard := none }) (v := ?vv81_2_28) rfl (by kernel_rfl) (by kernel_rfl) (by kernel_rfl) (fun _ _ _ h => h) (Or.inl ⟨by rfl, ?yy81_2_28⟩) hHeld ?_
          case yy81_2_28 => (intro W hx; go_simp; try with_reducible rfl)
          simp only [Act.put, List.setIfInBounds_toArray, List.set_cons_zero, List.set_cons_succ]
          refine wpAnyH_done (by kernel_rfl) ?_ _
          have zend := zz1.trans hHeld
          go_wp2
          go_meet
          case rel => exact ⟨congrArg Value.bool (by simp [*]), congrArg Value.bool (by simp [*]), congrArg Value.bool (by simp [badC, nbC, *]), v1.trans zend, zend⟩
      · have HB := Lib.hid hbe
        refine wp_region_held_drew (S := Ext W1) (by kernel_rfl) ((Ext.refl _).drew) (fun hHeld => ?_)
        obtain ⟨wD82, hwD⟩ : ∃ V, V = World.drew W1 := ⟨_, rfl⟩
        rw [← hwD]
        clear hHeld
        have zz0 : Ext W1 wD82 := by rw [hwD]; exact (Ext.refl _).drew
        clear hwD
        refine wpAnyH_imp (S' := Ext wD82) (fun W h => Ext.trans zz0 h) _ _ _ _ ?_
        have hHeld := Ext.refl wD82
        refine wpAnyH_take (i := 0) (oi := { dst := some 18, op := Op.move (Operand.tmp 7), type := 4, pos := "cmd.go:50", after := #[], guard := none }) (v := ?vv83_2_0) rfl (by kernel_rfl) (by kernel_rfl) (by kernel_rfl) (fun _ _ _ h => h) (Or.inl ⟨by rfl, ?yy83_2_0⟩) hHeld ?_
        case yy83_2_0 => (intro W hx; go_simp; try with_reducible rfl)
        simp only [Act.put, List.setIfInBounds_toArray, List.set_cons_zero, List.set_cons_succ]
        refine wpAnyH_take (i := 1) (oi := { dst := some 19, op := Op.unOp UnOp.not 4 (Operand.tmp 18), type := 4, pos := "cmd.go:50", after := #[{ on := 0, ground := Ground.data }], guard := none }) (v := ?vv84_2_1) rfl (by kernel_rfl) (by kernel_rfl) (by kernel_rfl) (fun _ _ _ h => h) (Or.inl ⟨by rfl, ?yy84_2_1⟩) hHeld ?_
        case yy84_2_1 => (intro W hx; go_simp; try with_reducible rfl)
        simp only [Act.put, List.setIfInBounds_toArray, List.set_cons_zero, List.set_cons_succ]
        refine wpAnyH_take (i := 2) (oi := { dst := some 20, op := Op.move (Operand.tmp 19), type := 4, pos := "cmd.go:50", after := #[{ on := 1, ground := Ground.data }], guard := none }) (v := ?vv85_2_2) rfl (by kernel_rfl) (by kernel_rfl) (by kernel_rfl) (fun _ _ _ h => h) (Or.inl ⟨by rfl, ?yy85_2_2⟩) hHeld ?_
        case yy85_2_2 => (intro W hx; go_simp; try with_reducible rfl)
        simp only [Act.put, List.setIfInBounds_toArray, List.set_cons_zero, List.set_cons_succ]
        refine wpAnyH_take (i := 3) (oi := { dst := some 21, op := Op.fieldAddr 26 (Operand.tmp 1) 1, type := 0, pos := "cmd.go:50", after := #[{ on := 2, ground := Ground.guard }], guard := some (2, false) }) (v := ?vv86_2_3) rfl (by kernel_rfl) (by kernel_rfl) (by kernel_rfl) (fun _ _ _ h => h) (Or.inl ⟨by rfl, ?yy86_2_3⟩) hHeld ?_
        case yy86_2_3 => (intro W hx; go_simp; try with_reducible rfl)
        simp only [Act.put, List.setIfInBounds_toArray, List.set_cons_zero, List.set_cons_succ]
        refine wpAnyH_take (i := 4) (oi := { dst := some 22, op := Op.load 22 (Operand.tmp 21), type := 22, pos := "cmd.go:50", after := #[{ on := 3, ground := Ground.data }, { on := 2, ground := Ground.guard }], guard := some (2, false) }) (v := ?vv87_2_4) rfl (by kernel_rfl) (by kernel_rfl) (by kernel_rfl) (fun _ _ _ h => h) (Or.inl ⟨by rfl, ?yy87_2_4⟩) hHeld ?_
        case yy87_2_4 => (intro W hx; have hz := zz0.trans hx; obtain ⟨f0, f1, f2, f3, f4, f5, f6, f7⟩ := cells8 ((hz.block _ (blk_lt K1)).trans K1); go_simp; try with_reducible rfl)
        simp only [Act.put, List.setIfInBounds_toArray, List.set_cons_zero, List.set_cons_succ]
        refine wpAnyH_take (i := 5) (oi := { dst := some 23, op := Op.move (Operand.tmp 4), type := 3, pos := "cmd.go:50", after := #[{ on := 2, ground := Ground.guard }], guard := some (2, false) }) (v := ?vv88_2_5) rfl (by kernel_rfl) (by kernel_rfl) (by kernel_rfl) (fun _ _ _ h => h) (Or.inl ⟨by rfl, ?yy88_2_5⟩) hHeld ?_
        case yy88_2_5 => (intro W hx; go_simp; try with_reducible rfl)
        simp only [Act.put, List.setIfInBounds_toArray, List.set_cons_zero, List.set_cons_succ]
        refine wpAnyH_ready (rs := [6]) (by kernel_rfl) (by simp) (AllReadyH.cons rfl (fun K hK => ?_) AllReadyH.nil)
        go_simp
        go_wp2_with (go_at_call 18; (with_reducible refine (behind_any _ _ _ _ _ _ _ s5).mono ?_); rintro e w5 ⟨rfl, x5⟩; rw [HB.out])
        refine hK.out _ _ x5 (fun hHeld => ?_)
        clear hK K
        refine wpAnyH_imp (S' := Ext w5) (fun W h => Ext.trans x5 h) _ _ _ _ ?_
        replace hHeld := Ext.refl w5
        have zz1 := zz0.trans x5
        refine wpAnyH_take (i := 7) (oi := { dst := some 25, op := Op.pick (Operand.tmp 20) (Operand.const (Value.bool true)) (Operand.tmp 24), type := 4, pos := "cmd.go:50", after := #[{ on := 2, ground := Ground.data }, { on := 6, ground := Ground.data }], guard := none }) (v := ?vv89_2_7) rfl (by kernel_rfl) (by kernel_rfl) (by kernel_rfl) (fun _ _ _ h => h) (Or.inl ⟨by rfl, ?yy89_2_7⟩) hHeld ?_
        case yy89_2_7 => (intro W hx; go_simp; try with_reducible rfl)
        simp only [Act.put, List.setIfInBounds_toArray, List.set_cons_zero, List.set_cons_succ]
        refine wpAnyH_take (i := 8) (oi := { dst := some 26, op := Op.move (Operand.tmp 25), type := 4, pos := "cmd.go:50", after := #[{ on := 7, ground := Ground.data }, { on := 6, ground := Ground.chain }], guard := none }) (v := ?vv90_2_8) rfl (by kernel_rfl) (by kernel_rfl) (by kernel_rfl) (fun _ _ _ h => h) (Or.inl ⟨by rfl, ?yy90_2_8⟩) hHeld ?_
        case yy90_2_8 => (intro W hx; go_simp; try with_reducible rfl)
        simp only [Act.put, List.setIfInBounds_toArray, List.set_cons_zero, List.set_cons_succ]
        refine wpAnyH_take (i := 9) (oi := { dst := some 27, op := Op.move (Operand.tmp 5), type := 4, pos := "cmd.go:50", after := #[{ on := 8, ground := Ground.guard }], guard := some (8, false) }) (v := undef) rfl (by kernel_rfl) (by kernel_rfl) (by kernel_rfl) (fun _ _ _ h => h) (Or.inr ⟨by rfl, rfl⟩) hHeld ?_
        simp only [Act.put, List.setIfInBounds_toArray, List.set_cons_zero, List.set_cons_succ]
        refine wpAnyH_take (i := 10) (oi := { dst := some 28, op := Op.unOp UnOp.not 4 (Operand.tmp 27), type := 4, pos := "cmd.go:50", after := #[{ on := 9, ground := Ground.data }, { on := 8, ground := Ground.guard }], guard := some (8, false) }) (v := undef) rfl (by kernel_rfl) (by kernel_rfl) (by kernel_rfl) (fun _ _ _ h => h) (Or.inr ⟨by rfl, rfl⟩) hHeld ?_
        simp only [Act.put, List.setIfInBounds_toArray, List.set_cons_zero, List.set_cons_succ]
        refine wpAnyH_take (i := 11) (oi := { dst := some 29, op := Op.move (Operand.tmp 28), type := 4, pos := "cmd.go:50", after := #[{ on := 10, ground := Ground.data }, { on := 8, ground := Ground.chain }, { on := 8, ground := Ground.guard }], guard := some (8, false) }) (v := undef) rfl (by kernel_rfl) (by kernel_rfl) (by kernel_rfl) (fun _ _ _ h => h) (Or.inr ⟨by rfl, rfl⟩) hHeld ?_
        simp only [Act.put, List.setIfInBounds_toArray, List.set_cons_zero, List.set_cons_succ]
        refine wpAnyH_take (i := 12) (oi := { dst := some 30, op := Op.fieldAddr 26 (Operand.tmp 1) 2, type := 0, pos := "cmd.go:50", after := #[{ on := 11, ground := Ground.guard }], guard := some (11, true) }) (v := undef) rfl (by kernel_rfl) (by kernel_rfl) (by kernel_rfl) (fun _ _ _ h => h) (Or.inr ⟨by rfl, rfl⟩) hHeld ?_
        simp only [Act.put, List.setIfInBounds_toArray, List.set_cons_zero, List.set_cons_succ]
        refine wpAnyH_take (i := 13) (oi := { dst := some 31, op := Op.load 23 (Operand.tmp 30), type := 23, pos := "cmd.go:50", after := #[{ on := 12, ground := Ground.data }, { on := 11, ground := Ground.guard }], guard := some (11, true) }) (v := undef) rfl (by kernel_rfl) (by kernel_rfl) (by kernel_rfl) (fun _ _ _ h => h) (Or.inr ⟨by rfl, rfl⟩) hHeld ?_
        simp only [Act.put, List.setIfInBounds_toArray, List.set_cons_zero, List.set_cons_succ]
        refine wpAnyH_take (i := 14) (oi := { dst := some 32, op := Op.binOp BinOp.neq 23 (Operand.tmp 31) (Operand.const (Value.int IntKind.u32 0)) 23, type := 4, pos := "cmd.go:50", after := #[{ on := 13, ground := Ground.data }, { on := 11, ground := Ground.guard }], guard := some (11, true) }) (v := undef) rfl (by kernel_rfl) (by kernel_rfl) (by kernel_rfl) (fun _ _ _ h => h) (Or.inr ⟨by rfl, rfl⟩) hHeld ?_
        simp only [Act.put, List.setIfInBounds_toArray, List.set_cons_zero, List.set_cons_succ]
        refine wpAnyH_take (i := 15) (oi := { dst := some 33, op := Op.pick (Operand.tmp 29) (Operand.tmp 32) (Operand.const (Value.bool false)), type := 4, pos := "cmd.go:50", after := #[{ on := 11, ground := Ground.data }, { on := 14, ground := Ground.data }, { on := 8, ground := Ground.guard }], guard := some (8, false) }) (v := undef) rfl (by kernel_rfl) (by kernel_rfl) (by kernel_rfl) (fun _ _ _ h => h) (Or.inr ⟨by rfl, rfl⟩) hHeld ?_
        simp only [Act.put, List.setIfInBounds_toArray, List.set_cons_zero, List.set_cons_succ]
        refine wpAnyH_take (i := 16) (oi := { dst := some 34, op := Op.pick (Operand.tmp 26) (Operand.const (Value.bool true)) (Operand.tmp 33), type := 4, pos := "cmd.go:50", after := #[{ on := 8, ground := Ground.data }, { on := 15, ground := Ground.data }], guard := none }) (v := ?vv91_2_16) rfl (by kernel_rfl) (by kernel_rfl) (by kernel_rfl) (fun _ _ _ h => h) (Or.inl ⟨by rfl, ?yy91_2_16⟩) hHeld ?_
        case yy91_2_16 => (intro W hx; go_simp; try with_reducible rfl)
        simp only [Act.put, List.setIfInBounds_toArray, List.set_cons_zero, List.set_cons_succ]
        refine wpAnyH_take (i := 17) (oi := { dst := some 35, op := Op.move (Operand.tmp 34), type := 4, pos := "cmd.go:50", after := #[{ on := 16, ground := Ground.data }, { on := 11, ground := Ground.chain }], guard := none }) (v := ?vv92_2_17) rfl (by kernel_rfl) (by kernel_rfl) (by kernel_rfl) (fun _ _ _ h => h) (Or.inl ⟨by rfl, ?yy92_2_17⟩) hHeld ?_
        case yy92_2_17 => (intro W hx; go_simp; try with_reducible rfl)
        simp only [Act.put, List.setIfInBounds_toArray, List.set_cons_zero, List.set_cons_succ]
        refine wpAnyH_take (i := 18) (oi := { dst := some 36, op := Op.fieldAddr 26 (Operand.tmp 1) 3, type := 0, pos := "cmd.go:50", after := #[{ on := 17, ground := Ground.guard }], guard := some (17, false) }) (v := undef) rfl (by kernel_rfl) (by kernel_rfl) (by kernel_rfl) (fun _ _ _ h => h) (Or.inr ⟨by rfl, rfl⟩) hHeld ?_
        simp only [Act.put, List.setIfInBounds_toArray, List.set_cons_zero, List.set_cons_succ]
        refine wpAnyH_take (i := 19) (oi := { dst := some 37, op := Op.load 24 (Operand.tmp 36), type := 24, pos := "cmd.go:50", after := #[{ on := 18, ground := Ground.data }, { on := 17, ground := Ground.guard }], guard := some (17, false) }) (v := undef) rfl (by kernel_rfl) (by kernel_rfl) (by kernel_rfl) (fun _ _ _ h => h) (Or.inr ⟨by rfl, rfl⟩) hHeld ?_
        simp only [Act.put, List.setIfInBounds_toArray, List.set_cons_zero, List.set_cons_succ]
        refine wpAnyH_take (i := 20) (oi := { dst := some 38, op := Op.call { callee := Callee.builtin Builtin.len, args := #[Operand.tmp 37], argTypes := #[24] }, type := 3, pos := "cmd.go:50", after := #[{ on := 19, ground := Ground.data }, { on := 17, ground := Ground.guard }], guard := some (17, false) }) (v := undef) rfl (by kernel_rfl) (by kernel_rfl) (by kernel_rfl) (fun _ _ _ h => h) (Or.inr ⟨by rfl, rfl⟩) hHeld ?_
        simp only [Act.put, List.setIfInBounds_toArray, List.set_cons_zero, List.set_cons_succ]
        refine wpAnyH_take (i := 21) (oi := { dst := some 39, op := Op.move (Operand.tmp 4), type := 3, pos := "cmd.go:50", after := #[{ on := 17, ground := Ground.guard }], guard := some (17, false) }) (v := undef) rfl (by kernel_rfl) (by kernel_rfl) (by kernel_rfl) (fun _ _ _ h => h) (Or.inr ⟨by rfl, rfl⟩) hHeld ?_
        simp only [Act.put, List.setIfInBounds_toArray, List.set_cons_zero, List.set_cons_succ]
        refine wpAnyH_take (i := 22) (oi := { dst := some 40, op := Op.move (Operand.tmp 6), type := 3, pos := "cmd.go:50", after := #[{ on := 17, ground := Ground.guard }], guard := some (17, false) }) (v := undef) rfl (by kernel_rfl) (by kernel_rfl) (by kernel_rfl) (fun _ _ _ h => h) (Or.inr ⟨by rfl, rfl⟩) hHeld ?_
        simp only [Act.put, List.setIfInBounds_toArray, List.set_cons_zero, List.set_cons_succ]
        refine wpAnyH_take (i := 23) (oi := { dst := some 41, op := Op.fieldAddr 26 (Operand.tmp 1) 1, type := 0, pos := "cmd.go:50", after := #[{ on := 17, ground := Ground.guard }], guard := some (17, false) }) (v := undef) rfl (by kernel_rfl) (by kernel_rfl) (by kernel_rfl) (fun _ _ _ h => h) (Or.inr ⟨by rfl, rfl⟩) hHeld ?_
        simp only [Act.put, List.setIfInBounds_toArray, List.set_cons_zero, List.set_cons_succ]
        refine wpAnyH_take (i := 24) (oi := { dst := some 42, op := Op.indexAddr 22 (Operand.tmp 41) (Operand.const (Value.int IntKind.i64 0)), type := 0, pos := "cmd.go:50", after := #[{ on := 23, ground := Ground.data }, { on := 17, ground := Ground.guard }], guard := some (17, false) }) (v := undef) rfl (by kernel_rfl) (by kernel_rfl) (by kernel_rfl) (fun _ _ _ h => h) (Or.inr ⟨by rfl, rfl⟩) hHeld ?_
        simp only [Act.put, List.setIfInBounds_toArray, List.set_cons_zero, List.set_cons_succ]
        refine wpAnyH_take (i := 25) (oi := { dst := some 43, op := Op.load 5 (Operand.tmp 42), type := 5, pos := "cmd.go:50", after := #[{ on := 24, ground := Ground.data }, { on := 17, ground := Ground.guard }], guard := some (17, false) }) (v := undef) rfl (by kernel_rfl) (by kernel_rfl) (by kernel_rfl) (fun _ _ _ h => h) (Or.inr ⟨by rfl, rfl⟩) hHeld ?_
        simp only [Act.put, List.setIfInBounds_toArray, List.set_cons_zero, List.set_cons_succ]
        refine wpAnyH_take (i := 26) (oi := { dst := some 44, op := Op.call { callee := Callee.value (Operand.func 19), args := #[Operand.tmp 39, Operand.tmp 40, Operand.tmp 43], argTypes := #[3, 3, 5] }, type := 3, pos := "cmd.go:50", after := #[{ on := 21, ground := Ground.data }, { on := 22, ground := Ground.data }, { on := 25, ground := Ground.data }, { on := 17, ground := Ground.chain }, { on := 17, ground := Ground.guard }], guard := some (17, false) }) (v := undef) rfl (by kernel_rfl) (by kernel_rfl) (by kernel_rfl) (fun _ _ _ h => h) (Or.inr ⟨by rfl, rfl⟩) hHeld ?_
        simp only [Act.put, List.setIfInBounds_toArray, List.set_cons_zero, List.set_cons_succ]
        refine wpAnyH_take (i := 27) (oi := { dst := some 45, op := Op.binOp BinOp.neq 3 (Operand.tmp 38) (Operand.tmp 44) 3, type := 4, pos := "cmd.go:50", after := #[{ on := 20, ground := Ground.data }, { on := 26, ground := Ground.data }, { on := 17, ground := Ground.guard }], guard := some (17, false) }) (v := undef) rfl (by kernel_rfl) (by kernel_rfl) (by kernel_rfl) (fun _ _ _ h => h) (Or.inr ⟨by rfl, rfl⟩) hHeld ?_
        simp only [Act.put, List.setIfInBounds_toArray, List.set_cons_zero, List.set_cons_succ]
        refine wpAnyH_take (i := 28) (oi := { dst := some 46, op := Op.pick (Operand.tmp 35) (Operand.const (Value.bool true)) (Operand.tmp 45), type := 4, pos := "cmd.go:50", after := #[{ on := 17, ground := Ground.data }, { on := 27, ground := Ground.data }], guard := none }) (v := ?vv93_2_28) rfl (by kernel_rfl) (by kernel_rfl) (by kernel_rfl) (fun _ _ _ h => h) (Or.inl ⟨by rfl, ?yy93_2_28⟩) hHeld ?_
        case yy93_2_28 => (intro W hx; go_simp; try with_reducible rfl)
        simp only [Act.put, List.setIfInBounds_toArray, List.set_cons_zero, List.set_cons_succ]
        refine wpAnyH_done (by kernel_rfl) ?_ _
        have zend := zz1.trans hHeld
        go_wp2
        go_meet
        case rel => exact ⟨congrArg Value.bool (by simp [*]), congrArg Value.bool (by simp [*]), congrArg Value.bool (by simp [badC, nbC, *]), v1.trans zend, zend⟩
  case rest =>
    obtain ⟨rfl, rfl, rfl, vA, x1A⟩ := hcut
    obtain ⟨wA, rfl⟩ : ∃ z : World, z = wc := ⟨_, rfl⟩
    have KA := (x1A.block _ (blk_lt K1)).trans K1
    have hrA := hr.ext vA
    clear K1 x1A v1 hr
    rcases hbad : badC c [a0, a1, a2, a3, a4] W n with _ | _
    · have HBAD := Lib.hid hbad
      have hbk : Byts ([a0, a1, a2, a3, a4].take (sm c)) := fun b hb => hal b (List.mem_of_mem_take hb)
      have hs0 : (0 : Int) ≤ sm c := by omega
      have hs5 : (sm c : Int) ≤ 5 := by omega
      go_upto_region 4 with (fail)
      refine wp_region_held_drew (S := Ext wA) (by kernel_rfl) ((Ext.refl _).drew) (fun hHeld => ?_)
      obtain ⟨wR, hwD⟩ : ∃ V, V = World.drew wA := ⟨_, rfl⟩
      rw [← hwD]
      clear hHeld
      have zz0 : Ext wA wR := by rw [hwD]; exact (Ext.refl _).drew
      clear hwD
      refine wpAnyH_imp (S' := Ext wR) (fun W h => Ext.trans zz0 h) _ _ _ _ ?_
      have hHeld := Ext.refl wR
      refine wpAnyH_take (i := 0) (oi := { dst := some 47, op := Op.fieldAddr 26 (Operand.tmp 1) 0, type := 0, pos := "cmd.go:53", after := #[], guard := none }) (v := ?vv95_4_0) rfl (by kernel_rfl) (by kernel_rfl) (by kernel_rfl) (fun _ _ _ h => h) (Or.inl ⟨by rfl, ?yy95_4_0⟩) hHeld ?_
      case yy95_4_0 => (intro W hx; go_simp; try with_reducible rfl)
      simp only [Act.put, List.setIfInBounds_toArray, List.set_cons_zero, List.set_cons_succ]
      refine wpAnyH_take (i := 1) (oi := { dst := some 48, op := Op.load 5 (Operand.tmp 47), type := 5, pos := "cmd.go:53", after := #[{ on := 0, ground := Ground.data }], guard := none }) (v := ?vv96_4_1) rfl (by kernel_rfl) (by kernel_rfl) (by kernel_rfl) (fun _ _ _ h => h) (Or.inl ⟨by rfl, ?yy96_4_1⟩) hHeld ?_
      case yy96_4_1 => (intro W hx; have hz := zz0.trans hx; obtain ⟨f0, f1, f2, f3, f4, f5, f6, f7⟩ := cells8 ((hz.block _ (blk_lt KA)).trans KA); go_simp; try with_reducible rfl)
      simp only [Act.put, List.setIfInBounds_toArray, List.set_cons_zero, List.set_cons_succ]
      refine wpAnyH_take (i := 3) (oi := { dst := some 50, op := Op.fieldAddr 26 (Operand.tmp 1) 1, type := 0, pos := "cmd.go:53", after := #[], guard := none }) (v := ?vv97_4_3) rfl (by kernel_rfl) (by kernel_rfl) (by kernel_rfl) (fun _ _ _ h => h) (Or.inl ⟨by rfl, ?yy97_4_3⟩) hHeld ?_
      case yy97_4_3 => (intro W hx; go_simp; try with_reducible rfl)
      simp only [Act.put, List.setIfInBounds_toArray, List.set_cons_zero, List.set_cons_succ]
      refine wpAnyH_take (i := 4) (oi := { dst := some 51, op := Op.move (Operand.tmp 4), type := 3, pos := "cmd.go:53", after := #[], guard := none }) (v := ?vv98_4_4) rfl (by kernel_rfl) (by kernel_rfl) (by kernel_rfl) (fun _ _ _ h => h) (Or.inl ⟨by rfl, ?yy98_4_4⟩) hHeld ?_
      case yy98_4_4 => (intro W hx; go_simp; try with_reducible rfl)
      simp only [Act.put, List.setIfInBounds_toArray, List.set_cons_zero, List.set_cons_succ]
      refine wpAnyH_take (i := 5) (oi := { dst := some 52, op := Op.slice 22 (Operand.tmp 50) none (some (Operand.tmp 51)) none, type := 24, pos := "cmd.go:53", after := #[{ on := 3, ground := Ground.data }, { on := 4, ground := Ground.data }], guard := none }) (v := ?vv99_4_5) rfl (by kernel_rfl) (by kernel_rfl) (by kernel_rfl) (fun _ _ _ h => h) (Or.inl ⟨by rfl, ?yy99_4_5⟩) hHeld ?_
      case yy99_4_5 => (intro W hx; go_simp; try with_reducible rfl)
      simp only [Act.put, List.setIfInBounds_toArray, List.set_cons_zero, List.set_cons_succ]
      refine wpAnyH_ready (rs := [2]) (by kernel_rfl) (by simp) (AllReadyH.cons rfl (fun K hK => ?_) AllReadyH.nil)
      go_simp
      obtain ⟨wb, hw⟩ : ∃ V, V = World.alloc wR (.cells #[.int .u8 c] 5) := ⟨_, rfl⟩
      rw [← hw]
      have xb : Ext wR wb := by rw [hw]; exact (Ext.refl _).alloc _
      have kb : (World.heap wb)[(World.heap wR).size]? = some (.cells #[.int .u8 c] 5) := by rw [hw]; exact heap_alloc_new _ _
      have HWB := Lib.hid hw; clear hw
      refine hK.out _ _ xb (fun hHeld => ?_)
      clear hK K
      refine wpAnyH_ready (rs := [6]) (by kernel_rfl) (by simp) (AllReadyH.cons rfl (fun K hK => ?_) AllReadyH.nil)
      rw [if_pos (by rfl)]
      refine wp_app (o := { dst := some 53, op := Op.call { callee := Callee.builtin Builtin.append, args := #[Operand.tmp 49, Operand.tmp 52], argTypes := #[24, 24] }, type := 24, pos := "cmd.go:53", after := #[{ on := 2, ground := Ground.data }, { on := 5, ground := Ground.data }], guard := none }) el24 (.tmp 49) (.tmp 52) rfl (by rw [HWB.out]; exact own_lit (e := 5) (size := 1) #[.int .u8 c] 1 rfl (Nat.le_refl _) (le_max (by omega)) rfl) rfl (arr_rd (((zz0.trans xb).block _ (blk_lt KA)).trans KA) hal _ s5).shows rfl (u8s_one _) (le_max (by omega)) (by omega) rfl xb ?_; intro V8 w8 hown8 x8
      simp only [Act.put, List.setIfInBounds_toArray, List.set_cons_zero, List.set_cons_succ]
      refine hK.out _ _ x8 (fun hHeld => ?_)
      clear hK K
      refine wpAnyH_take (i := 7) (oi := { dst := some 8, op := Op.assign (Operand.tmp 53), type := 24, pos := "cmd.go:53", after := #[{ on := 6, ground := Ground.data }, { on := 6, ground := Ground.chain }, { on := 0, ground := Ground.phase }, { on := 1, ground := Ground.phase }, { on := 2, ground := Ground.phase }, { on := 3, ground := Ground.phase }, { on := 4, ground := Ground.phase }, { on := 5, ground := Ground.phase }, { on := 6, ground := Ground.phase }], guard := none }) (v := ?vv100_4_7) rfl (by kernel_rfl) (by kernel_rfl) (by kernel_rfl) (fun _ _ _ h => h) (Or.inl ⟨by rfl, ?yy100_4_7⟩) hHeld ?_
      case yy100_4_7 => (intro W hx; go_simp; try with_reducible rfl)
      simp only [Act.put, List.setIfInBounds_toArray, List.set_cons_zero, List.set_cons_succ]
      refine wpAnyH_done (by kernel_rfl) ?_ _
      have zend := zz0.trans hHeld
      have v8 := vA.trans zend
      have K8 := (zend.block _ (blk_lt KA)).trans KA
      have hr8 := hrA.ext zend
      have hown8' : w8.ownsRow wR.heap.size 5 1 V8 (1 + sm c) (u8s ([c] ++ [a0, a1, a2, a3, a4].take (sm c))) := hown8
      have hbL : Byts ([c] ++ [a0, a1, a2, a3, a4].take (sm c)) := Byts.append (by intro b hb; simp at hb; omega) hbk
      clear hown8
      rcases hg : gr c with _ | _
      · have HG := Lib.hid hg
        obtain ⟨f0, f1, f2, f3, f4, f5, f6, f7⟩ := cells8 K8
        go_wp2_with (at_builtin; refine wpList_app el24 rfl _ _ rfl hown8' rfl hr8.shows rfl (u8s_one _) (le_max (by omega)) (by omega) rfl x8 ?_; intro v9 w9 hown9 x9 hg9 hat9)
        go_ret2
        rw [← u8s_append] at hown9
        obtain ⟨A', c', rfl, l1, l2, r9⟩ := put_end (c := c) (al := [a0, a1, a2, a3, a4]) (bs := bs) (n := n) (W := W) hown9 (hbL.append hr8.byts) (by simp [putL, HG.out]) (by simp [putN, HG.out])
        exact .inr ⟨HBAD.out, A', c', rfl, l1, l2, (vA.trans zz0).trans x9, r9⟩
      · have HG := Lib.hid hg
        obtain ⟨A8, c8, rfl, _, _, r8⟩ := own_rd hown8' hbL
        obtain ⟨f0, f1, f2, f3, f4, f5, f6, f7⟩ := cells8 K8
        go_wp2_with (first
          | (go_at_call 20; (with_reducible refine (put4 _ _ _ _ _ _ r8 (by omega) W0 W1').mono ?_); rintro e w9 ⟨A9, c9, rfl, x9, hown9⟩; clear f0 f1 f2 f3 f4 f5 f6 f7; obtain ⟨f0, f1, f2, f3, f4, f5, f6, f7⟩ := cells8 ((x9.block _ (blk_lt K8)).trans K8))
          | (at_builtin; refine wpList_app el24 rfl _ _ rfl hown9 rfl (hr8.ext x9).shows rfl (u8s_one _) (le_max (by omega)) (by omega) rfl x9 ?_; intro v10 w10 hown10 x10 hg10 hat10))
        go_ret2
        rw [← u8s_append] at hown10
        obtain ⟨A', c', rfl, l1, l2, r9⟩ := put_end (c := c) (al := [a0, a1, a2, a3, a4]) (bs := bs) (n := n) (W := W) hown10 ((hbL.append (putB_byts _ _ _)).append hr8.byts) (by simp [putL, HG.out]) (by simp [putN, HG.out])
        exact .inr ⟨HBAD.out, A', c', rfl, l1, l2, v8.trans x10, r9⟩
    · go_wp2
      go_ret2
      exact .inl ⟨hbad, rfl, vA⟩
end Go.Proofs.Ytnfipfgbckbaeaa
