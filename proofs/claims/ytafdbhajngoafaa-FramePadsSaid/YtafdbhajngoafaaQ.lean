import Derived.Test.YtafdbhajngoafaaK
import Derived.Deep.DeepCutAuto
set_option linter.unusedVariables false
namespace Go.Proofs.Ytafdbhajngoafaa
open Go.RowKit
def Made2 (id : Int) (ext : Bool) (L : Int) (bs : List Int) (v12 v13 : Value) (wr : World) : Prop :=
  (mayB id ext L bs = false ∧ v13 = .int .i64 1) ∨ (mayB id ext L bs = false ∧ id < idsI ext ∧ v13 = .int .i64 0 ∧ ∃ g, v12 = .pointer (some ⟨g, 0, none⟩) ∧ wr.heap[g]? = some (.cells #[.int .u32 id, .bool ext, .int .i64 0, .int .u8 0, .int .u8 0, .int .u8 0, .int .u8 0, .int .u8 0, .int .u8 0, .int .u8 0, .int .u8 0] 26 (0, 0))) ∨
  (mayB id ext L bs = true ∧ v13 = .int .i64 0 ∧ ∃ g, v12 = .pointer (some ⟨g, 0, none⟩) ∧ wr.heap[g]? = some (.cells (.int .u32 id :: .bool ext :: .int .i64 L :: u8s bs).toArray 26 (0, 0)))
theorem may_parts {id : Int} {ext : Bool} {L : Nat} {b0 b1 b2 b3 b4 b5 b6 b7 : Int} (h : mayB id ext L [b0, b1, b2, b3, b4, b5, b6, b7] = true) : id < idsI ext ∧ (L : Int) ≤ 8 ∧ padZ (([b0, b1, b2, b3, b4, b5, b6, b7]).take L) = [b0, b1, b2, b3, b4, b5, b6, b7] := by
  simp [mayB] at h
  obtain ⟨⟨h1, h2⟩, h3⟩ := h
  refine ⟨h1, by omega, ?_⟩
  have hz : ([b0, b1, b2, b3, b4, b5, b6, b7]).drop L = List.replicate (8 - L) 0 := by
    refine List.eq_replicate_of_mem (fun x hx => h3 x hx) |>.trans ?_
    simp
  have := List.take_append_drop L ([b0, b1, b2, b3, b4, b5, b6, b7])
  unfold padZ
  rw [show 8 - (([b0, b1, b2, b3, b4, b5, b6, b7]).take L).length = 8 - L by simp; omega, ← hz, this]
theorem may_zero {id : Int} {ext : Bool} {L b0 b1 b2 b3 b4 b5 b6 b7 : Int} (hid : id < idsI ext) (h : mayB id ext L [b0, b1, b2, b3, b4, b5, b6, b7] = false) : 0 = L → (0 == b0 && (0 == b1 && (0 == b2 && (0 == b3 && (0 == b4 && (0 == b5 && (0 == b6 && 0 == b7))))))) = false := by
  rintro rfl
  rw [Bool.eq_false_iff]
  intro hb
  simp at hb
  obtain ⟨rfl, rfl, rfl, rfl, rfl, rfl, rfl, rfl⟩ := hb
  simp [mayB, hid] at h
def MadeF (id : Int) (ext : Bool) (n : Nat) (bs : List Int) (v10 v11 : Value) (wr : World) : Prop :=
  (∃ e : Int, v11 = .int .i64 e ∧ (e == 0) = false) ∨ (∃ g y0 y1 y2 y3 y4 y5 y6 y7, (n : Int) ≤ 8 ∧ id < idsI ext ∧ padZ bs = [y0, y1, y2, y3, y4, y5, y6, y7] ∧ v11 = .int .i64 0 ∧ v10 = .pointer (some ⟨g, 0, none⟩) ∧ wr.heap[g]? = some (.cells #[.int .u32 id, .bool ext, .int .i64 n, .int .u8 y0, .int .u8 y1, .int .u8 y2, .int .u8 y3, .int .u8 y4, .int .u8 y5, .int .u8 y6, .int .u8 y7] 26 (0, 0)))
theorem padZ_may (id : Int) (ext : Bool) (n : Nat) (bs : List Int) (hl : bs.length = n) (hn : n ≤ 8) (hid : id < idsI ext) : mayB id ext n (padZ bs) = true := by
  refine mayB_of id ext n _ (padZ_len (by omega)) hn hid ?_
  intro j h1 h2
  unfold padZ
  simp [List.getD, List.getElem?_append_right (show bs.length ≤ j by omega), List.getElem?_replicate]
  split <;> rfl
theorem padZ_take (n : Nat) (bs : List Int) (hl : bs.length = n) : (padZ bs).take n = bs := by
  subst hl; simp [padZ]
theorem padZ_byts {bs : List Int} (h : Byts bs) : Byts (padZ bs) := h.append (by intro b hb; have := List.eq_of_mem_replicate hb; omega)
set_option maxHeartbeats 1000000 in
theorem FrameBack_law (w : World) (id : Int) (h0 : 0 ≤ id) (ext : Bool) (A : Option Addr) (n c : Nat) (bs : List Int) (hr : Rd w A n bs) (hnc : n ≤ c) (hc : c ≤ maxLen)
   (gid : Int) (gext : Bool) (L b0 b1 b2 b3 b4 b5 b6 b7 : Int) (g0 : 0 ≤ gid) (g1 : gid < 4294967296) (l0 : -9223372036854775808 ≤ L) (l1 : L < 9223372036854775808) (hb : Byts [b0, b1, b2, b3, b4, b5, b6, b7]) :
    Calls Try.prog 5 #[.int .u32 id, .bool ext, .slice A n c, .agg #[.int .u32 gid, .bool gext, .int .i64 L, .int .u8 b0, .int .u8 b1, .int .u8 b2, .int .u8 b3, .int .u8 b4, .int .u8 b5, .int .u8 b6, .int .u8 b7]] w fun e w' => e = .returned (.bool true) ∧ Ext w w' := by
  have hr' := hr.take (k := min n 20) (by omega)
  generalize hmm : min n 20 = m at *
  have HM := Lib.hid hmm; clear hmm
  go_enter Try.func5, Try.ntmps5
  go_upto_region 2 with (first
      | (go_at_call 13; (with_reducible refine (shown_any _).mono ?_); rintro e w3 ⟨rfl, x3⟩))
  have v3 : Ext w w3 := ((Ext.refl _).alloc _).trans x3
  have K3 := blk_of x3
  go_cut [10, 11] (fun v10 v11 wr => MadeF id ext m (bs.take m) v10 v11 wr ∧ Ext w3 wr)
  case first =>
    by_cases hid : id < idsI ext
    · by_cases hm : (m : Int) ≤ 8
      · go_wp2_with (first
        | (go_at_call 11; (with_reducible refine (few_any _ _ _ _ hnc hc).mono ?_); rintro e w' ⟨rfl, rfl⟩; rw [HM.out])
        | (go_at_call 10; (with_reducible refine (make_any _ _ _ _ _ _ _ (hr'.ext v3) hid hm).mono ?_); rintro e w1 ⟨y0, y1, y2, y3, y4, y5, y6, y7, hy, rfl, x1⟩))
        go_meet
        case rel => exact ⟨.inr ⟨_, y0, y1, y2, y3, y4, y5, y6, y7, hm, hid, hy, rfl, rfl, blk_new rfl⟩, x1.alloc _⟩
      · replace hm : (8 : Int) < m := by omega
        go_wp2_with (first
        | (go_at_call 11; (with_reducible refine (few_any _ _ _ _ hnc hc).mono ?_); rintro e w' ⟨rfl, rfl⟩; rw [HM.out])
        | (go_at_call 10; (with_reducible refine (make_no3 _ _ _ _ _ _ hid hm).mono ?_); rintro e w1 ⟨rfl, x1⟩))
        go_meet
        case rel => exact ⟨.inl ⟨3, rfl, rfl⟩, x1.alloc _⟩
    · replace hid : idsI ext ≤ id := by omega
      go_wp2_with (first
        | (go_at_call 11; (with_reducible refine (few_any _ _ _ _ hnc hc).mono ?_); rintro e w' ⟨rfl, rfl⟩; rw [HM.out])
        | (go_at_call 10; (with_reducible refine (make_no1 _ _ _ _ _ _ hid).mono ?_); rintro e w1 ⟨rfl, x1⟩))
      go_meet
      case rel => exact ⟨.inl ⟨1, rfl, rfl⟩, x1.alloc _⟩
  case rest =>
    obtain ⟨hmf, xc⟩ := hcut
    obtain ⟨wA, rfl⟩ : ∃ z : World, z = wc := ⟨_, rfl⟩
    go_upto_region 3 with (fail)
    go_cut [50] (fun v50 wr => v50 = .bool false ∧ Ext wA wr)
    case first =>
      rcases hmf with ⟨e, rfl, he⟩ | ⟨g, y0, y1, y2, y3, y4, y5, y6, y7, hm8, hid, hy, rfl, rfl, K1⟩
      · have tok := True.intro
        refine wp_region_held_drew (S := Ext wA) (by kernel_rfl) ((Ext.refl _).drew) (fun hHeld => ?_)
        obtain ⟨wD1, hwD⟩ : ∃ V, V = World.drew wA := ⟨_, rfl⟩
        rw [← hwD]
        clear hHeld
        have zz0 : Ext wA wD1 := by rw [hwD]; exact (Ext.refl _).drew
        clear hwD
        refine wpAnyH_imp (S' := Ext wD1) (fun W h => Ext.trans zz0 h) _ _ _ _ ?_
        have hHeld := Ext.refl wD1
        refine wpAnyH_take (i := 0) (oi := { dst := some 23, op := Op.move (Operand.tmp 11), type := 27, pos := "law.go:35", after := #[], guard := none }) (v := ?vv2_3_0) rfl (by kernel_rfl) (by kernel_rfl) (by kernel_rfl) (fun _ _ _ h => h) (Or.inl ⟨by rfl, ?yy2_3_0⟩) hHeld ?_
        case yy2_3_0 => (intro W hx; go_simp; try with_reducible rfl)
        simp only [Act.put, List.setIfInBounds_toArray, List.set_cons_zero, List.set_cons_succ]
        refine wpAnyH_take (i := 1) (oi := { dst := some 24, op := Op.binOp BinOp.eql 27 (Operand.tmp 23) (Operand.const (Value.int IntKind.i64 0)) 27, type := 4, pos := "law.go:35", after := #[{ on := 0, ground := Ground.data }], guard := none }) (v := ?vv3_3_1) rfl (by kernel_rfl) (by kernel_rfl) (by kernel_rfl) (fun _ _ _ h => h) (Or.inl ⟨by rfl, ?yy3_3_1⟩) hHeld ?_
        case yy3_3_1 => (intro W hx; go_simp; try with_reducible rfl)
        simp only [Act.put, List.setIfInBounds_toArray, List.set_cons_zero, List.set_cons_succ]
        refine wpAnyH_take (i := 2) (oi := { dst := some 25, op := Op.move (Operand.tmp 24), type := 4, pos := "law.go:35", after := #[{ on := 1, ground := Ground.data }], guard := none }) (v := ?vv4_3_2) rfl (by kernel_rfl) (by kernel_rfl) (by kernel_rfl) (fun _ _ _ h => h) (Or.inl ⟨by rfl, ?yy4_3_2⟩) hHeld ?_
        case yy4_3_2 => (intro W hx; go_simp; try with_reducible rfl)
        simp only [Act.put, List.setIfInBounds_toArray, List.set_cons_zero, List.set_cons_succ]
        refine wpAnyH_take (i := 3) (oi := { dst := some 26, op := Op.load 26 (Operand.tmp 10), type := 26, pos := "law.go:35", after := #[{ on := 2, ground := Ground.guard }], guard := some (2, true) }) (v := undef) rfl (by kernel_rfl) (by kernel_rfl) (by kernel_rfl) (fun _ _ _ h => h) (Or.inr ⟨by rfl, rfl⟩) hHeld ?_
        simp only [Act.put, List.setIfInBounds_toArray, List.set_cons_zero, List.set_cons_succ]
        refine wpAnyH_take (i := 4) (oi := { dst := some 27, op := Op.call { callee := Callee.value (Operand.func 14), args := #[Operand.tmp 26], argTypes := #[26] }, type := 4, pos := "law.go:35", after := #[{ on := 3, ground := Ground.data }, { on := 2, ground := Ground.chain }, { on := 2, ground := Ground.guard }], guard := some (2, true) }) (v := undef) rfl (by kernel_rfl) (by kernel_rfl) (by kernel_rfl) (fun _ _ _ h => h) (Or.inr ⟨by rfl, rfl⟩) hHeld ?_
        simp only [Act.put, List.setIfInBounds_toArray, List.set_cons_zero, List.set_cons_succ]
        refine wpAnyH_take (i := 5) (oi := { dst := some 28, op := Op.unOp UnOp.not 4 (Operand.tmp 27), type := 4, pos := "law.go:35", after := #[{ on := 4, ground := Ground.data }, { on := 2, ground := Ground.guard }], guard := some (2, true) }) (v := undef) rfl (by kernel_rfl) (by kernel_rfl) (by kernel_rfl) (fun _ _ _ h => h) (Or.inr ⟨by rfl, rfl⟩) hHeld ?_
        simp only [Act.put, List.setIfInBounds_toArray, List.set_cons_zero, List.set_cons_succ]
        refine wpAnyH_take (i := 6) (oi := { dst := some 29, op := Op.move (Operand.tmp 28), type := 4, pos := "law.go:35", after := #[{ on := 5, ground := Ground.data }, { on := 4, ground := Ground.chain }, { on := 2, ground := Ground.guard }], guard := some (2, true) }) (v := undef) rfl (by kernel_rfl) (by kernel_rfl) (by kernel_rfl) (fun _ _ _ h => h) (Or.inr ⟨by rfl, rfl⟩) hHeld ?_
        simp only [Act.put, List.setIfInBounds_toArray, List.set_cons_zero, List.set_cons_succ]
        refine wpAnyH_take (i := 7) (oi := { dst := some 30, op := Op.load 26 (Operand.tmp 10), type := 26, pos := "law.go:35", after := #[{ on := 6, ground := Ground.guard }], guard := some (6, false) }) (v := undef) rfl (by kernel_rfl) (by kernel_rfl) (by kernel_rfl) (fun _ _ _ h => h) (Or.inr ⟨by rfl, rfl⟩) hHeld ?_
        simp only [Act.put, List.setIfInBounds_toArray, List.set_cons_zero, List.set_cons_succ]
        refine wpAnyH_take (i := 8) (oi := { dst := some 31, op := Op.call { callee := Callee.value (Operand.func 16), args := #[Operand.tmp 30], argTypes := #[26] }, type := 23, pos := "law.go:35", after := #[{ on := 7, ground := Ground.data }, { on := 6, ground := Ground.chain }, { on := 6, ground := Ground.guard }], guard := some (6, false) }) (v := undef) rfl (by kernel_rfl) (by kernel_rfl) (by kernel_rfl) (fun _ _ _ h => h) (Or.inr ⟨by rfl, rfl⟩) hHeld ?_
        simp only [Act.put, List.setIfInBounds_toArray, List.set_cons_zero, List.set_cons_succ]
        refine wpAnyH_take (i := 9) (oi := { dst := some 32, op := Op.convert 23 9 (Operand.tmp 31), type := 9, pos := "law.go:35", after := #[{ on := 8, ground := Ground.data }, { on := 6, ground := Ground.guard }], guard := some (6, false) }) (v := undef) rfl (by kernel_rfl) (by kernel_rfl) (by kernel_rfl) (fun _ _ _ h => h) (Or.inr ⟨by rfl, rfl⟩) hHeld ?_
        simp only [Act.put, List.setIfInBounds_toArray, List.set_cons_zero, List.set_cons_succ]
        refine wpAnyH_take (i := 10) (oi := { dst := some 33, op := Op.move (Operand.tmp 2), type := 23, pos := "law.go:35", after := #[{ on := 6, ground := Ground.guard }], guard := some (6, false) }) (v := undef) rfl (by kernel_rfl) (by kernel_rfl) (by kernel_rfl) (fun _ _ _ h => h) (Or.inr ⟨by rfl, rfl⟩) hHeld ?_
        simp only [Act.put, List.setIfInBounds_toArray, List.set_cons_zero, List.set_cons_succ]
        refine wpAnyH_take (i := 11) (oi := { dst := some 34, op := Op.call { callee := Callee.value (Operand.func 11), args := #[Operand.tmp 33], argTypes := #[23] }, type := 23, pos := "law.go:35", after := #[{ on := 10, ground := Ground.data }, { on := 8, ground := Ground.chain }, { on := 6, ground := Ground.guard }], guard := some (6, false) }) (v := undef) rfl (by kernel_rfl) (by kernel_rfl) (by kernel_rfl) (fun _ _ _ h => h) (Or.inr ⟨by rfl, rfl⟩) hHeld ?_
        simp only [Act.put, List.setIfInBounds_toArray, List.set_cons_zero, List.set_cons_succ]
        refine wpAnyH_take (i := 12) (oi := { dst := some 35, op := Op.convert 23 9 (Operand.tmp 34), type := 9, pos := "law.go:35", after := #[{ on := 11, ground := Ground.data }, { on := 6, ground := Ground.guard }], guard := some (6, false) }) (v := undef) rfl (by kernel_rfl) (by kernel_rfl) (by kernel_rfl) (fun _ _ _ h => h) (Or.inr ⟨by rfl, rfl⟩) hHeld ?_
        simp only [Act.put, List.setIfInBounds_toArray, List.set_cons_zero, List.set_cons_succ]
        refine wpAnyH_take (i := 13) (oi := { dst := some 36, op := Op.binOp BinOp.neq 9 (Operand.tmp 32) (Operand.tmp 35) 9, type := 4, pos := "law.go:35", after := #[{ on := 9, ground := Ground.data }, { on := 12, ground := Ground.data }, { on := 6, ground := Ground.guard }], guard := some (6, false) }) (v := undef) rfl (by kernel_rfl) (by kernel_rfl) (by kernel_rfl) (fun _ _ _ h => h) (Or.inr ⟨by rfl, rfl⟩) hHeld ?_
        simp only [Act.put, List.setIfInBounds_toArray, List.set_cons_zero, List.set_cons_succ]
        refine wpAnyH_take (i := 14) (oi := { dst := some 37, op := Op.pick (Operand.tmp 29) (Operand.const (Value.bool true)) (Operand.tmp 36), type := 4, pos := "law.go:35", after := #[{ on := 6, ground := Ground.data }, { on := 13, ground := Ground.data }, { on := 2, ground := Ground.guard }], guard := some (2, true) }) (v := undef) rfl (by kernel_rfl) (by kernel_rfl) (by kernel_rfl) (fun _ _ _ h => h) (Or.inr ⟨by rfl, rfl⟩) hHeld ?_
        simp only [Act.put, List.setIfInBounds_toArray, List.set_cons_zero, List.set_cons_succ]
        refine wpAnyH_take (i := 15) (oi := { dst := some 38, op := Op.move (Operand.tmp 37), type := 4, pos := "law.go:35", after := #[{ on := 14, ground := Ground.data }, { on := 11, ground := Ground.chain }, { on := 2, ground := Ground.guard }], guard := some (2, true) }) (v := undef) rfl (by kernel_rfl) (by kernel_rfl) (by kernel_rfl) (fun _ _ _ h => h) (Or.inr ⟨by rfl, rfl⟩) hHeld ?_
        simp only [Act.put, List.setIfInBounds_toArray, List.set_cons_zero, List.set_cons_succ]
        refine wpAnyH_take (i := 16) (oi := { dst := some 39, op := Op.fieldAddr 26 (Operand.tmp 10) 0, type := 0, pos := "law.go:35", after := #[{ on := 15, ground := Ground.guard }], guard := some (15, false) }) (v := undef) rfl (by kernel_rfl) (by kernel_rfl) (by kernel_rfl) (fun _ _ _ h => h) (Or.inr ⟨by rfl, rfl⟩) hHeld ?_
        simp only [Act.put, List.setIfInBounds_toArray, List.set_cons_zero, List.set_cons_succ]
        refine wpAnyH_take (i := 17) (oi := { dst := some 40, op := Op.load 22 (Operand.tmp 39), type := 22, pos := "law.go:35", after := #[{ on := 16, ground := Ground.data }, { on := 15, ground := Ground.guard }], guard := some (15, false) }) (v := undef) rfl (by kernel_rfl) (by kernel_rfl) (by kernel_rfl) (fun _ _ _ h => h) (Or.inr ⟨by rfl, rfl⟩) hHeld ?_
        simp only [Act.put, List.setIfInBounds_toArray, List.set_cons_zero, List.set_cons_succ]
        refine wpAnyH_take (i := 18) (oi := { dst := some 41, op := Op.move (Operand.tmp 0), type := 22, pos := "law.go:35", after := #[{ on := 15, ground := Ground.guard }], guard := some (15, false) }) (v := undef) rfl (by kernel_rfl) (by kernel_rfl) (by kernel_rfl) (fun _ _ _ h => h) (Or.inr ⟨by rfl, rfl⟩) hHeld ?_
        simp only [Act.put, List.setIfInBounds_toArray, List.set_cons_zero, List.set_cons_succ]
        refine wpAnyH_take (i := 19) (oi := { dst := some 42, op := Op.binOp BinOp.neq 22 (Operand.tmp 40) (Operand.tmp 41) 22, type := 4, pos := "law.go:35", after := #[{ on := 17, ground := Ground.data }, { on := 18, ground := Ground.data }, { on := 15, ground := Ground.guard }], guard := some (15, false) }) (v := undef) rfl (by kernel_rfl) (by kernel_rfl) (by kernel_rfl) (fun _ _ _ h => h) (Or.inr ⟨by rfl, rfl⟩) hHeld ?_
        simp only [Act.put, List.setIfInBounds_toArray, List.set_cons_zero, List.set_cons_succ]
        refine wpAnyH_take (i := 20) (oi := { dst := some 43, op := Op.pick (Operand.tmp 38) (Operand.const (Value.bool true)) (Operand.tmp 42), type := 4, pos := "law.go:35", after := #[{ on := 15, ground := Ground.data }, { on := 19, ground := Ground.data }, { on := 2, ground := Ground.guard }], guard := some (2, true) }) (v := undef) rfl (by kernel_rfl) (by kernel_rfl) (by kernel_rfl) (fun _ _ _ h => h) (Or.inr ⟨by rfl, rfl⟩) hHeld ?_
        simp only [Act.put, List.setIfInBounds_toArray, List.set_cons_zero, List.set_cons_succ]
        refine wpAnyH_take (i := 21) (oi := { dst := some 44, op := Op.move (Operand.tmp 43), type := 4, pos := "law.go:35", after := #[{ on := 20, ground := Ground.data }, { on := 15, ground := Ground.chain }, { on := 2, ground := Ground.guard }], guard := some (2, true) }) (v := undef) rfl (by kernel_rfl) (by kernel_rfl) (by kernel_rfl) (fun _ _ _ h => h) (Or.inr ⟨by rfl, rfl⟩) hHeld ?_
        simp only [Act.put, List.setIfInBounds_toArray, List.set_cons_zero, List.set_cons_succ]
        refine wpAnyH_take (i := 22) (oi := { dst := some 45, op := Op.fieldAddr 26 (Operand.tmp 10) 1, type := 0, pos := "law.go:35", after := #[{ on := 21, ground := Ground.guard }], guard := some (21, false) }) (v := undef) rfl (by kernel_rfl) (by kernel_rfl) (by kernel_rfl) (fun _ _ _ h => h) (Or.inr ⟨by rfl, rfl⟩) hHeld ?_
        simp only [Act.put, List.setIfInBounds_toArray, List.set_cons_zero, List.set_cons_succ]
        refine wpAnyH_take (i := 23) (oi := { dst := some 46, op := Op.load 4 (Operand.tmp 45), type := 4, pos := "law.go:35", after := #[{ on := 22, ground := Ground.data }, { on := 21, ground := Ground.guard }], guard := some (21, false) }) (v := undef) rfl (by kernel_rfl) (by kernel_rfl) (by kernel_rfl) (fun _ _ _ h => h) (Or.inr ⟨by rfl, rfl⟩) hHeld ?_
        simp only [Act.put, List.setIfInBounds_toArray, List.set_cons_zero, List.set_cons_succ]
        refine wpAnyH_take (i := 24) (oi := { dst := some 47, op := Op.move (Operand.tmp 1), type := 4, pos := "law.go:35", after := #[{ on := 21, ground := Ground.guard }], guard := some (21, false) }) (v := undef) rfl (by kernel_rfl) (by kernel_rfl) (by kernel_rfl) (fun _ _ _ h => h) (Or.inr ⟨by rfl, rfl⟩) hHeld ?_
        simp only [Act.put, List.setIfInBounds_toArray, List.set_cons_zero, List.set_cons_succ]
        refine wpAnyH_take (i := 25) (oi := { dst := some 48, op := Op.binOp BinOp.neq 4 (Operand.tmp 46) (Operand.tmp 47) 4, type := 4, pos := "law.go:35", after := #[{ on := 23, ground := Ground.data }, { on := 24, ground := Ground.data }, { on := 21, ground := Ground.guard }], guard := some (21, false) }) (v := undef) rfl (by kernel_rfl) (by kernel_rfl) (by kernel_rfl) (fun _ _ _ h => h) (Or.inr ⟨by rfl, rfl⟩) hHeld ?_
        simp only [Act.put, List.setIfInBounds_toArray, List.set_cons_zero, List.set_cons_succ]
        refine wpAnyH_take (i := 26) (oi := { dst := some 49, op := Op.pick (Operand.tmp 44) (Operand.const (Value.bool true)) (Operand.tmp 48), type := 4, pos := "law.go:35", after := #[{ on := 21, ground := Ground.data }, { on := 25, ground := Ground.data }, { on := 2, ground := Ground.guard }], guard := some (2, true) }) (v := undef) rfl (by kernel_rfl) (by kernel_rfl) (by kernel_rfl) (fun _ _ _ h => h) (Or.inr ⟨by rfl, rfl⟩) hHeld ?_
        simp only [Act.put, List.setIfInBounds_toArray, List.set_cons_zero, List.set_cons_succ]
        refine wpAnyH_take (i := 27) (oi := { dst := some 50, op := Op.pick (Operand.tmp 25) (Operand.tmp 49) (Operand.const (Value.bool false)), type := 4, pos := "law.go:35", after := #[{ on := 2, ground := Ground.data }, { on := 26, ground := Ground.data }], guard := none }) (v := ?vv5_3_27) rfl (by kernel_rfl) (by kernel_rfl) (by kernel_rfl) (fun _ _ _ h => h) (Or.inl ⟨by rfl, ?yy5_3_27⟩) hHeld ?_
        case yy5_3_27 => (intro W hx; go_simp; try with_reducible rfl)
        simp only [Act.put, List.setIfInBounds_toArray, List.set_cons_zero, List.set_cons_succ]
        refine wpAnyH_done (by kernel_rfl) ?_ _
        have zend := zz0
        go_wp2
        go_meet
        case rel => exact ⟨rfl, zz0⟩
      · have hlm : (bs.take m).length = m := hr'.len
        have hmay := Lib.hid (padZ_may id ext m (bs.take m) hlm (by omega) hid)
        have htk := Lib.hid (padZ_take m (bs.take m) hlm)
        rw [hy] at hmay htk
        have hby := padZ_byts hr'.byts
        rw [hy] at hby
        clear hy hlm
        refine wp_region_held_drew (S := Ext wA) (by kernel_rfl) ((Ext.refl _).drew) (fun hHeld => ?_)
        obtain ⟨wD6, hwD⟩ : ∃ V, V = World.drew wA := ⟨_, rfl⟩
        rw [← hwD]
        clear hHeld
        have zz0 : Ext wA wD6 := by rw [hwD]; exact (Ext.refl _).drew
        clear hwD
        refine wpAnyH_imp (S' := Ext wD6) (fun W h => Ext.trans zz0 h) _ _ _ _ ?_
        have hHeld := Ext.refl wD6
        refine wpAnyH_take (i := 0) (oi := { dst := some 23, op := Op.move (Operand.tmp 11), type := 27, pos := "law.go:35", after := #[], guard := none }) (v := ?vv7_3_0) rfl (by kernel_rfl) (by kernel_rfl) (by kernel_rfl) (fun _ _ _ h => h) (Or.inl ⟨by rfl, ?yy7_3_0⟩) hHeld ?_
        case yy7_3_0 => (intro W hx; go_simp; try with_reducible rfl)
        simp only [Act.put, List.setIfInBounds_toArray, List.set_cons_zero, List.set_cons_succ]
        refine wpAnyH_take (i := 1) (oi := { dst := some 24, op := Op.binOp BinOp.eql 27 (Operand.tmp 23) (Operand.const (Value.int IntKind.i64 0)) 27, type := 4, pos := "law.go:35", after := #[{ on := 0, ground := Ground.data }], guard := none }) (v := ?vv8_3_1) rfl (by kernel_rfl) (by kernel_rfl) (by kernel_rfl) (fun _ _ _ h => h) (Or.inl ⟨by rfl, ?yy8_3_1⟩) hHeld ?_
        case yy8_3_1 => (intro W hx; go_simp; try with_reducible rfl)
        simp only [Act.put, List.setIfInBounds_toArray, List.set_cons_zero, List.set_cons_succ]
        refine wpAnyH_take (i := 2) (oi := { dst := some 25, op := Op.move (Operand.tmp 24), type := 4, pos := "law.go:35", after := #[{ on := 1, ground := Ground.data }], guard := none }) (v := ?vv9_3_2) rfl (by kernel_rfl) (by kernel_rfl) (by kernel_rfl) (fun _ _ _ h => h) (Or.inl ⟨by rfl, ?yy9_3_2⟩) hHeld ?_
        case yy9_3_2 => (intro W hx; go_simp; try with_reducible rfl)
        simp only [Act.put, List.setIfInBounds_toArray, List.set_cons_zero, List.set_cons_succ]
        refine wpAnyH_take (i := 3) (oi := { dst := some 26, op := Op.load 26 (Operand.tmp 10), type := 26, pos := "law.go:35", after := #[{ on := 2, ground := Ground.guard }], guard := some (2, true) }) (v := ?vv10_3_3) rfl (by kernel_rfl) (by kernel_rfl) (by kernel_rfl) (fun _ _ _ h => h) (Or.inl ⟨by rfl, ?yy10_3_3⟩) hHeld ?_
        case yy10_3_3 => (intro W hx; have hz := zz0.trans hx; obtain ⟨f0, f1, f2, f3, f4, f5, f6, f7, f8, f9, fa⟩ := cells11 ((hz.block _ (blk_lt K1)).trans K1); go_simp; try with_reducible rfl)
        simp only [Act.put, List.setIfInBounds_toArray, List.set_cons_zero, List.set_cons_succ]
        refine wpAnyH_ready (rs := [4]) (by kernel_rfl) (by simp) (AllReadyH.cons rfl (fun K hK => ?_) AllReadyH.nil)
        go_simp
        go_wp2_with (go_at_call 14; (with_reducible refine (may_any _ _ _ _ _ _ _ _ _ _ _ _).mono ?_); rintro e w4 ⟨rfl, x4⟩; rw [hmay.out])
        refine hK.out _ _ x4 (fun hHeld => ?_)
        clear hK K
        refine wpAnyH_imp (S' := Ext w4) (fun W h => Ext.trans x4 h) _ _ _ _ ?_
        replace hHeld := Ext.refl w4
        have zz1 := zz0.trans x4
        refine wpAnyH_take (i := 5) (oi := { dst := some 28, op := Op.unOp UnOp.not 4 (Operand.tmp 27), type := 4, pos := "law.go:35", after := #[{ on := 4, ground := Ground.data }, { on := 2, ground := Ground.guard }], guard := some (2, true) }) (v := ?vv11_3_5) rfl (by kernel_rfl) (by kernel_rfl) (by kernel_rfl) (fun _ _ _ h => h) (Or.inl ⟨by rfl, ?yy11_3_5⟩) hHeld ?_
        case yy11_3_5 => (intro W hx; go_simp; try with_reducible rfl)
        simp only [Act.put, List.setIfInBounds_toArray, List.set_cons_zero, List.set_cons_succ]
        refine wpAnyH_take (i := 6) (oi := { dst := some 29, op := Op.move (Operand.tmp 28), type := 4, pos := "law.go:35", after := #[{ on := 5, ground := Ground.data }, { on := 4, ground := Ground.chain }, { on := 2, ground := Ground.guard }], guard := some (2, true) }) (v := ?vv12_3_6) rfl (by kernel_rfl) (by kernel_rfl) (by kernel_rfl) (fun _ _ _ h => h) (Or.inl ⟨by rfl, ?yy12_3_6⟩) hHeld ?_
        case yy12_3_6 => (intro W hx; go_simp; try with_reducible rfl)
        simp only [Act.put, List.setIfInBounds_toArray, List.set_cons_zero, List.set_cons_succ]
        refine wpAnyH_take (i := 7) (oi := { dst := some 30, op := Op.load 26 (Operand.tmp 10), type := 26, pos := "law.go:35", after := #[{ on := 6, ground := Ground.guard }], guard := some (6, false) }) (v := ?vv13_3_7) rfl (by kernel_rfl) (by kernel_rfl) (by kernel_rfl) (fun _ _ _ h => h) (Or.inl ⟨by rfl, ?yy13_3_7⟩) hHeld ?_
        case yy13_3_7 => (intro W hx; have hz := zz1.trans hx; obtain ⟨f0, f1, f2, f3, f4, f5, f6, f7, f8, f9, fa⟩ := cells11 ((hz.block _ (blk_lt K1)).trans K1); go_simp; try with_reducible rfl)
        simp only [Act.put, List.setIfInBounds_toArray, List.set_cons_zero, List.set_cons_succ]
        refine wpAnyH_take (i := 10) (oi := { dst := some 33, op := Op.move (Operand.tmp 2), type := 23, pos := "law.go:35", after := #[{ on := 6, ground := Ground.guard }], guard := some (6, false) }) (v := ?vv14_3_10) rfl (by kernel_rfl) (by kernel_rfl) (by kernel_rfl) (fun _ _ _ h => h) (Or.inl ⟨by rfl, ?yy14_3_10⟩) hHeld ?_
        case yy14_3_10 => (intro W hx; go_simp; try with_reducible rfl)
        simp only [Act.put, List.setIfInBounds_toArray, List.set_cons_zero, List.set_cons_succ]
        refine wpAnyH_ready (rs := [8]) (by kernel_rfl) (by simp) (AllReadyH.cons rfl (fun K hK => ?_) AllReadyH.nil)
        go_simp
        go_wp2_with (go_at_call 16; (with_reducible refine (bytes_any _ _ _ _ _ _ _ _ _ _ _ _ hby hmay.out).mono ?_); rintro e w5 ⟨A5, c5, rfl, _, _, x5, r5⟩; rw [htk.out] at r5)
        refine hK.out _ _ x5 (fun hHeld => ?_)
        clear hK K
        refine wpAnyH_imp (S' := Ext w5) (fun W h => Ext.trans x5 h) _ _ _ _ ?_
        replace hHeld := Ext.refl w5
        have zz2 := zz1.trans x5
        refine wpAnyH_take (i := 9) (oi := { dst := some 32, op := Op.convert 23 9 (Operand.tmp 31), type := 9, pos := "law.go:35", after := #[{ on := 8, ground := Ground.data }, { on := 6, ground := Ground.guard }], guard := some (6, false) }) (v := ?vv15_3_9) rfl (by kernel_rfl) (by kernel_rfl) (by kernel_rfl) (fun _ _ _ h => h) (Or.inl ⟨by rfl, ?yy15_3_9⟩) hHeld ?_
        case yy15_3_9 => (intro W hx; have hz := zz2.trans hx; have hs := str (c := c5) (r5.ext hx); go_simp; try with_reducible rfl)
        simp only [Act.put, List.setIfInBounds_toArray, List.set_cons_zero, List.set_cons_succ]
        refine wpAnyH_ready (rs := [11]) (by kernel_rfl) (by simp) (AllReadyH.cons rfl (fun K hK => ?_) AllReadyH.nil)
        go_simp
        go_wp2_with (go_at_call 11; (with_reducible refine (few_any _ _ _ _ hnc hc).mono ?_); rintro e w' ⟨rfl, rfl⟩; rw [HM.out])
        refine hK.out _ _ hHeld (fun hHeld => ?_)
        clear hK K
        refine wpAnyH_take (i := 12) (oi := { dst := some 35, op := Op.convert 23 9 (Operand.tmp 34), type := 9, pos := "law.go:35", after := #[{ on := 11, ground := Ground.data }, { on := 6, ground := Ground.guard }], guard := some (6, false) }) (v := ?vv16_3_12) rfl (by kernel_rfl) (by kernel_rfl) (by kernel_rfl) (fun _ _ _ h => h) (Or.inl ⟨by rfl, ?yy16_3_12⟩) hHeld ?_
        case yy16_3_12 => (intro W hx; have hz := zz2.trans hx; have hs := str (c := c) (hr'.ext (v3.trans (xc.trans hz))); go_simp; try with_reducible rfl)
        simp only [Act.put, List.setIfInBounds_toArray, List.set_cons_zero, List.set_cons_succ]
        refine wpAnyH_take (i := 13) (oi := { dst := some 36, op := Op.binOp BinOp.neq 9 (Operand.tmp 32) (Operand.tmp 35) 9, type := 4, pos := "law.go:35", after := #[{ on := 9, ground := Ground.data }, { on := 12, ground := Ground.data }, { on := 6, ground := Ground.guard }], guard := some (6, false) }) (v := ?vv17_3_13) rfl (by kernel_rfl) (by kernel_rfl) (by kernel_rfl) (fun _ _ _ h => h) (Or.inl ⟨by rfl, ?yy17_3_13⟩) hHeld ?_
        case yy17_3_13 => (intro W hx; go_simp; try with_reducible rfl)
        simp only [Act.put, List.setIfInBounds_toArray, List.set_cons_zero, List.set_cons_succ]
        refine wpAnyH_take (i := 14) (oi := { dst := some 37, op := Op.pick (Operand.tmp 29) (Operand.const (Value.bool true)) (Operand.tmp 36), type := 4, pos := "law.go:35", after := #[{ on := 6, ground := Ground.data }, { on := 13, ground := Ground.data }, { on := 2, ground := Ground.guard }], guard := some (2, true) }) (v := ?vv18_3_14) rfl (by kernel_rfl) (by kernel_rfl) (by kernel_rfl) (fun _ _ _ h => h) (Or.inl ⟨by rfl, ?yy18_3_14⟩) hHeld ?_
        case yy18_3_14 => (intro W hx; go_simp; try with_reducible rfl)
        simp only [Act.put, List.setIfInBounds_toArray, List.set_cons_zero, List.set_cons_succ]
        refine wpAnyH_take (i := 15) (oi := { dst := some 38, op := Op.move (Operand.tmp 37), type := 4, pos := "law.go:35", after := #[{ on := 14, ground := Ground.data }, { on := 11, ground := Ground.chain }, { on := 2, ground := Ground.guard }], guard := some (2, true) }) (v := ?vv19_3_15) rfl (by kernel_rfl) (by kernel_rfl) (by kernel_rfl) (fun _ _ _ h => h) (Or.inl ⟨by rfl, ?yy19_3_15⟩) hHeld ?_
        case yy19_3_15 => (intro W hx; go_simp; try with_reducible rfl)
        simp only [Act.put, List.setIfInBounds_toArray, List.set_cons_zero, List.set_cons_succ]
        refine wpAnyH_take (i := 16) (oi := { dst := some 39, op := Op.fieldAddr 26 (Operand.tmp 10) 0, type := 0, pos := "law.go:35", after := #[{ on := 15, ground := Ground.guard }], guard := some (15, false) }) (v := ?vv20_3_16) rfl (by kernel_rfl) (by kernel_rfl) (by kernel_rfl) (fun _ _ _ h => h) (Or.inl ⟨by rfl, ?yy20_3_16⟩) hHeld ?_
        case yy20_3_16 => (intro W hx; go_simp; try with_reducible rfl)
        simp only [Act.put, List.setIfInBounds_toArray, List.set_cons_zero, List.set_cons_succ]
        refine wpAnyH_take (i := 17) (oi := { dst := some 40, op := Op.load 22 (Operand.tmp 39), type := 22, pos := "law.go:35", after := #[{ on := 16, ground := Ground.data }, { on := 15, ground := Ground.guard }], guard := some (15, false) }) (v := ?vv21_3_17) rfl (by kernel_rfl) (by kernel_rfl) (by kernel_rfl) (fun _ _ _ h => h) (Or.inl ⟨by rfl, ?yy21_3_17⟩) hHeld ?_
        case yy21_3_17 => (intro W hx; have hz := zz2.trans hx; obtain ⟨f0, f1, f2, f3, f4, f5, f6, f7, f8, f9, fa⟩ := cells11 ((hz.block _ (blk_lt K1)).trans K1); go_simp; try with_reducible rfl)
        simp only [Act.put, List.setIfInBounds_toArray, List.set_cons_zero, List.set_cons_succ]
        refine wpAnyH_take (i := 18) (oi := { dst := some 41, op := Op.move (Operand.tmp 0), type := 22, pos := "law.go:35", after := #[{ on := 15, ground := Ground.guard }], guard := some (15, false) }) (v := ?vv22_3_18) rfl (by kernel_rfl) (by kernel_rfl) (by kernel_rfl) (fun _ _ _ h => h) (Or.inl ⟨by rfl, ?yy22_3_18⟩) hHeld ?_
        case yy22_3_18 => (intro W hx; go_simp; try with_reducible rfl)
        simp only [Act.put, List.setIfInBounds_toArray, List.set_cons_zero, List.set_cons_succ]
        refine wpAnyH_take (i := 19) (oi := { dst := some 42, op := Op.binOp BinOp.neq 22 (Operand.tmp 40) (Operand.tmp 41) 22, type := 4, pos := "law.go:35", after := #[{ on := 17, ground := Ground.data }, { on := 18, ground := Ground.data }, { on := 15, ground := Ground.guard }], guard := some (15, false) }) (v := ?vv23_3_19) rfl (by kernel_rfl) (by kernel_rfl) (by kernel_rfl) (fun _ _ _ h => h) (Or.inl ⟨by rfl, ?yy23_3_19⟩) hHeld ?_
        case yy23_3_19 => (intro W hx; go_simp; try with_reducible rfl)
        simp only [Act.put, List.setIfInBounds_toArray, List.set_cons_zero, List.set_cons_succ]
        refine wpAnyH_take (i := 20) (oi := { dst := some 43, op := Op.pick (Operand.tmp 38) (Operand.const (Value.bool true)) (Operand.tmp 42), type := 4, pos := "law.go:35", after := #[{ on := 15, ground := Ground.data }, { on := 19, ground := Ground.data }, { on := 2, ground := Ground.guard }], guard := some (2, true) }) (v := ?vv24_3_20) rfl (by kernel_rfl) (by kernel_rfl) (by kernel_rfl) (fun _ _ _ h => h) (Or.inl ⟨by rfl, ?yy24_3_20⟩) hHeld ?_
        case yy24_3_20 => (intro W hx; go_simp; try with_reducible rfl)
        simp only [Act.put, List.setIfInBounds_toArray, List.set_cons_zero, List.set_cons_succ]
        refine wpAnyH_take (i := 21) (oi := { dst := some 44, op := Op.move (Operand.tmp 43), type := 4, pos := "law.go:35", after := #[{ on := 20, ground := Ground.data }, { on := 15, ground := Ground.chain }, { on := 2, ground := Ground.guard }], guard := some (2, true) }) (v := ?vv25_3_21) rfl (by kernel_rfl) (by kernel_rfl) (by kernel_rfl) (fun _ _ _ h => h) (Or.inl ⟨by rfl, ?yy25_3_21⟩) hHeld ?_
        case yy25_3_21 => (intro W hx; go_simp; try with_reducible rfl)
        simp only [Act.put, List.setIfInBounds_toArray, List.set_cons_zero, List.set_cons_succ]
        refine wpAnyH_take (i := 22) (oi := { dst := some 45, op := Op.fieldAddr 26 (Operand.tmp 10) 1, type := 0, pos := "law.go:35", after := #[{ on := 21, ground := Ground.guard }], guard := some (21, false) }) (v := ?vv26_3_22) rfl (by kernel_rfl) (by kernel_rfl) (by kernel_rfl) (fun _ _ _ h => h) (Or.inl ⟨by rfl, ?yy26_3_22⟩) hHeld ?_
        case yy26_3_22 => (intro W hx; go_simp; try with_reducible rfl)
        simp only [Act.put, List.setIfInBounds_toArray, List.set_cons_zero, List.set_cons_succ]
        refine wpAnyH_take (i := 23) (oi := { dst := some 46, op := Op.load 4 (Operand.tmp 45), type := 4, pos := "law.go:35", after := #[{ on := 22, ground := Ground.data }, { on := 21, ground := Ground.guard }], guard := some (21, false) }) (v := ?vv27_3_23) rfl (by kernel_rfl) (by kernel_rfl) (by kernel_rfl) (fun _ _ _ h => h) (Or.inl ⟨by rfl, ?yy27_3_23⟩) hHeld ?_
        case yy27_3_23 => (intro W hx; have hz := zz2.trans hx; obtain ⟨f0, f1, f2, f3, f4, f5, f6, f7, f8, f9, fa⟩ := cells11 ((hz.block _ (blk_lt K1)).trans K1); go_simp; try with_reducible rfl)
        simp only [Act.put, List.setIfInBounds_toArray, List.set_cons_zero, List.set_cons_succ]
        refine wpAnyH_take (i := 24) (oi := { dst := some 47, op := Op.move (Operand.tmp 1), type := 4, pos := "law.go:35", after := #[{ on := 21, ground := Ground.guard }], guard := some (21, false) }) (v := ?vv28_3_24) rfl (by kernel_rfl) (by kernel_rfl) (by kernel_rfl) (fun _ _ _ h => h) (Or.inl ⟨by rfl, ?yy28_3_24⟩) hHeld ?_
        case yy28_3_24 => (intro W hx; go_simp; try with_reducible rfl)
        simp only [Act.put, List.setIfInBounds_toArray, List.set_cons_zero, List.set_cons_succ]
        refine wpAnyH_take (i := 25) (oi := { dst := some 48, op := Op.binOp BinOp.neq 4 (Operand.tmp 46) (Operand.tmp 47) 4, type := 4, pos := "law.go:35", after := #[{ on := 23, ground := Ground.data }, { on := 24, ground := Ground.data }, { on := 21, ground := Ground.guard }], guard := some (21, false) }) (v := ?vv29_3_25) rfl (by kernel_rfl) (by kernel_rfl) (by kernel_rfl) (fun _ _ _ h => h) (Or.inl ⟨by rfl, ?yy29_3_25⟩) hHeld ?_
        case yy29_3_25 => (intro W hx; go_simp; try with_reducible rfl)
        simp only [Act.put, List.setIfInBounds_toArray, List.set_cons_zero, List.set_cons_succ]
        refine wpAnyH_take (i := 26) (oi := { dst := some 49, op := Op.pick (Operand.tmp 44) (Operand.const (Value.bool true)) (Operand.tmp 48), type := 4, pos := "law.go:35", after := #[{ on := 21, ground := Ground.data }, { on := 25, ground := Ground.data }, { on := 2, ground := Ground.guard }], guard := some (2, true) }) (v := ?vv30_3_26) rfl (by kernel_rfl) (by kernel_rfl) (by kernel_rfl) (fun _ _ _ h => h) (Or.inl ⟨by rfl, ?yy30_3_26⟩) hHeld ?_
        case yy30_3_26 => (intro W hx; go_simp; try with_reducible rfl)
        simp only [Act.put, List.setIfInBounds_toArray, List.set_cons_zero, List.set_cons_succ]
        refine wpAnyH_take (i := 27) (oi := { dst := some 50, op := Op.pick (Operand.tmp 25) (Operand.tmp 49) (Operand.const (Value.bool false)), type := 4, pos := "law.go:35", after := #[{ on := 2, ground := Ground.data }, { on := 26, ground := Ground.data }], guard := none }) (v := ?vv31_3_27) rfl (by kernel_rfl) (by kernel_rfl) (by kernel_rfl) (fun _ _ _ h => h) (Or.inl ⟨by rfl, ?yy31_3_27⟩) hHeld ?_
        case yy31_3_27 => (intro W hx; go_simp; try with_reducible rfl)
        simp only [Act.put, List.setIfInBounds_toArray, List.set_cons_zero, List.set_cons_succ]
        refine wpAnyH_done (by kernel_rfl) ?_ _
        have zend := zz2
        go_wp2
        go_meet
        case rel => exact ⟨rfl, zz2⟩
    case rest =>
      obtain ⟨rfl, xd⟩ := hcut
      obtain ⟨wB, hwB⟩ : ∃ z : World, z = wc := ⟨_, rfl⟩
      subst hwB
      have Kg := (xd.block _ (blk_lt ((xc.block _ (blk_lt K3)).trans K3))).trans ((xc.block _ (blk_lt K3)).trans K3)
      have vd := v3.trans (xc.trans xd)
      go_upto_region 5 with (fail)
      go_cut [12, 13] (fun v12 v13 wr => Made2 gid gext L [b0, b1, b2, b3, b4, b5, b6, b7] v12 v13 wr ∧ Ext wB wr)
      case first =>
        by_cases hm : mayB gid gext L [b0, b1, b2, b3, b4, b5, b6, b7] = true
        · obtain ⟨L, rfl⟩ := may_nat hm
          obtain ⟨hid, hL8, hpz'⟩ := may_parts hm
          have hpz := Lib.hid hpz'
          have hmh := Lib.hid hm
          have hbb := Lib.hid hb
          clear hm hpz' hb
          refine wp_region_held_drew (S := Ext wB) (by kernel_rfl) ((Ext.refl _).drew) (fun hHeld => ?_)
          obtain ⟨wD32, hwD⟩ : ∃ V, V = World.drew wB := ⟨_, rfl⟩
          rw [← hwD]
          clear hHeld
          have zz0 : Ext wB wD32 := by rw [hwD]; exact (Ext.refl _).drew
          clear hwD
          refine wpAnyH_imp (S' := Ext wD32) (fun W h => Ext.trans zz0 h) _ _ _ _ ?_
          have hHeld := Ext.refl wD32
          refine wpAnyH_take (i := 0) (oi := { dst := some 52, op := Op.fieldAddr 26 (Operand.tmp 7) 0, type := 0, pos := "law.go:38", after := #[], guard := none }) (v := ?vv33_5_0) rfl (by kernel_rfl) (by kernel_rfl) (by kernel_rfl) (fun _ _ _ h => h) (Or.inl ⟨by rfl, ?yy33_5_0⟩) hHeld ?_
          case yy33_5_0 => (intro W hx; go_simp; try with_reducible rfl)
          simp only [Act.put, List.setIfInBounds_toArray, List.set_cons_zero, List.set_cons_succ]
          refine wpAnyH_take (i := 1) (oi := { dst := some 53, op := Op.load 22 (Operand.tmp 52), type := 22, pos := "law.go:38", after := #[{ on := 0, ground := Ground.data }], guard := none }) (v := ?vv34_5_1) rfl (by kernel_rfl) (by kernel_rfl) (by kernel_rfl) (fun _ _ _ h => h) (Or.inl ⟨by rfl, ?yy34_5_1⟩) hHeld ?_
          case yy34_5_1 => (intro W hx; have hz := zz0.trans hx; obtain ⟨f0, f1, f2, f3, f4, f5, f6, f7, f8, f9, fa⟩ := cells11 ((hz.block _ (blk_lt Kg)).trans Kg); go_simp; try with_reducible rfl)
          simp only [Act.put, List.setIfInBounds_toArray, List.set_cons_zero, List.set_cons_succ]
          refine wpAnyH_take (i := 2) (oi := { dst := some 54, op := Op.fieldAddr 26 (Operand.tmp 7) 1, type := 0, pos := "law.go:38", after := #[], guard := none }) (v := ?vv35_5_2) rfl (by kernel_rfl) (by kernel_rfl) (by kernel_rfl) (fun _ _ _ h => h) (Or.inl ⟨by rfl, ?yy35_5_2⟩) hHeld ?_
          case yy35_5_2 => (intro W hx; go_simp; try with_reducible rfl)
          simp only [Act.put, List.setIfInBounds_toArray, List.set_cons_zero, List.set_cons_succ]
          refine wpAnyH_take (i := 3) (oi := { dst := some 55, op := Op.load 4 (Operand.tmp 54), type := 4, pos := "law.go:38", after := #[{ on := 2, ground := Ground.data }], guard := none }) (v := ?vv36_5_3) rfl (by kernel_rfl) (by kernel_rfl) (by kernel_rfl) (fun _ _ _ h => h) (Or.inl ⟨by rfl, ?yy36_5_3⟩) hHeld ?_
          case yy36_5_3 => (intro W hx; have hz := zz0.trans hx; obtain ⟨f0, f1, f2, f3, f4, f5, f6, f7, f8, f9, fa⟩ := cells11 ((hz.block _ (blk_lt Kg)).trans Kg); go_simp; try with_reducible rfl)
          simp only [Act.put, List.setIfInBounds_toArray, List.set_cons_zero, List.set_cons_succ]
          refine wpAnyH_take (i := 4) (oi := { dst := some 56, op := Op.load 26 (Operand.tmp 7), type := 26, pos := "law.go:38", after := #[], guard := none }) (v := ?vv37_5_4) rfl (by kernel_rfl) (by kernel_rfl) (by kernel_rfl) (fun _ _ _ h => h) (Or.inl ⟨by rfl, ?yy37_5_4⟩) hHeld ?_
          case yy37_5_4 => (intro W hx; have hz := zz0.trans hx; obtain ⟨f0, f1, f2, f3, f4, f5, f6, f7, f8, f9, fa⟩ := cells11 ((hz.block _ (blk_lt Kg)).trans Kg); go_simp; try with_reducible rfl)
          simp only [Act.put, List.setIfInBounds_toArray, List.set_cons_zero, List.set_cons_succ]
          refine wpAnyH_ready (rs := [5, 10]) (by kernel_rfl) (by simp) (AllReadyH.cons rfl (fun K hK => ?_) (AllReadyH.cons rfl (fun K hK => ?_) AllReadyH.nil))
          · have tok := True.intro
            go_simp
            go_wp2_with (go_at_call 16; (with_reducible refine (bytes_any _ _ _ _ _ _ _ _ _ _ _ _ hbb.out hmh.out).mono ?_); rintro e w5 ⟨A5, c5, rfl, _, _, x5, r5⟩)
            refine hK.out _ _ x5 (fun hHeld => ?_)
            clear hK K
            refine wpAnyH_imp (S' := Ext w5) (fun W h => Ext.trans x5 h) _ _ _ _ ?_
            replace hHeld := Ext.refl w5
            have zz1 := zz0.trans x5
            refine wpAnyH_ready (rs := [6, 10]) (by kernel_rfl) (by simp) (AllReadyH.cons rfl (fun K hK => ?_) (AllReadyH.cons rfl (fun K hK => ?_) AllReadyH.nil))
            · have tok := True.intro
              go_simp
              go_wp2_with (go_at_call 10; (with_reducible refine (make_any _ _ _ _ _ _ _ (by first | exact r5 | exact r5.ext xa) hid hL8).mono ?_); rintro e w6 ⟨y0, y1, y2, y3, y4, y5, y6, y7, hy, rfl, x6⟩; go_must (rw [hpz.out] at hy); go_must (obtain ⟨rfl, rfl, rfl, rfl, rfl, rfl, rfl, rfl⟩ : b0 = y0 ∧ b1 = y1 ∧ b2 = y2 ∧ b3 = y3 ∧ b4 = y4 ∧ b5 = y5 ∧ b6 = y6 ∧ b7 = y7 := (by simpa using hy)); clear hy)
              refine hK.out _ _ x6 (fun hHeld => ?_)
              clear hK K
              refine wpAnyH_imp (S' := Ext w6) (fun W h => Ext.trans x6 h) _ _ _ _ ?_
              replace hHeld := Ext.refl w6
              have zz2 := zz1.trans x6
              refine wpAnyH_take (i := 7) (oi := { dst := some 51, op := Op.move (Operand.tmp 58), type := 28, pos := "law.go:38", after := #[{ on := 6, ground := Ground.data }], guard := none }) (v := ?vv38_5_7) rfl (by kernel_rfl) (by kernel_rfl) (by kernel_rfl) (fun _ _ _ h => h) (Or.inl ⟨by rfl, ?yy38_5_7⟩) hHeld ?_
              case yy38_5_7 => (intro W hx; go_simp; try with_reducible rfl)
              simp only [Act.put, List.setIfInBounds_toArray, List.set_cons_zero, List.set_cons_succ]
              refine wpAnyH_take (i := 8) (oi := { dst := some 59, op := Op.extract (Operand.tmp 51) 0, type := 26, pos := "law.go:38", after := #[{ on := 7, ground := Ground.data }], guard := none }) (v := ?vv39_5_8) rfl (by kernel_rfl) (by kernel_rfl) (by kernel_rfl) (fun _ _ _ h => h) (Or.inl ⟨by rfl, ?yy39_5_8⟩) hHeld ?_
              case yy39_5_8 => (intro W hx; go_simp; try with_reducible rfl)
              simp only [Act.put, List.setIfInBounds_toArray, List.set_cons_zero, List.set_cons_succ]
              refine wpAnyH_take (i := 9) (oi := { dst := some 60, op := Op.extract (Operand.tmp 51) 1, type := 27, pos := "law.go:38", after := #[{ on := 7, ground := Ground.data }, { on := 11, ground := Ground.gcOnly Departure.lateStores }], guard := none }) (v := ?vv40_5_9) rfl (by kernel_rfl) (by kernel_rfl) (by kernel_rfl) (fun _ _ _ h => h) (Or.inl ⟨by rfl, ?yy40_5_9⟩) hHeld ?_
              case yy40_5_9 => (intro W hx; go_simp; try with_reducible rfl)
              simp only [Act.put, List.setIfInBounds_toArray, List.set_cons_zero, List.set_cons_succ]
              refine wpAnyH_ready (rs := [10]) (by kernel_rfl) (by simp) (AllReadyH.cons rfl (fun K hK => ?_) AllReadyH.nil)
              go_simp
              obtain ⟨wL, hw⟩ : ∃ V, V = World.alloc w6 (.cells #[.int .u32 0, .bool false, .int .i64 0, .int .u8 0, .int .u8 0, .int .u8 0, .int .u8 0, .int .u8 0, .int .u8 0, .int .u8 0, .int .u8 0] 26) := ⟨_, rfl⟩
              rw [← hw]
              have xa : Ext w6 wL := by rw [hw]; exact (Ext.refl _).alloc _
              have kg : (World.heap wL)[(World.heap w6).size]? = some (.cells #[.int .u32 0, .bool false, .int .i64 0, .int .u8 0, .int .u8 0, .int .u8 0, .int .u8 0, .int .u8 0, .int .u8 0, .int .u8 0, .int .u8 0] 26) := by rw [hw]; exact heap_alloc_new _ _
              have gle := zz2.size
              clear hw
              refine hK.out _ _ xa (fun hHeld => ?_)
              clear hK K
              refine wpAnyH_imp (S' := fun W => World.grownBy wL W (some (World.heap w6).size)) (fun W h => Ext.of_grown xa h (fun k e => by cases e; exact Nat.le_refl _)) _ _ _ _ ?_
              replace hHeld := World.grownBy.refl wL (some (World.heap w6).size)
              have zz3 := zz2.trans xa
              refine wpAnyH_ready (rs := [11]) (by kernel_rfl) (by simp) (AllReadyH.cons rfl (fun K hK => ?_) AllReadyH.nil)
              rw [if_pos (by rfl)]
              refine wp_strow (o := { dst := none, op := Op.store 26 (Operand.tmp 12) (Operand.tmp 59), type := 0, pos := "law.go:38", after := #[{ on := 10, ground := Ground.data }, { on := 8, ground := Ground.data }, { on := 6, ground := Ground.chain }, { on := 0, ground := Ground.phase }, { on := 1, ground := Ground.phase }, { on := 2, ground := Ground.phase }, { on := 3, ground := Ground.phase }, { on := 4, ground := Ground.phase }, { on := 5, ground := Ground.phase }, { on := 6, ground := Ground.phase }, { on := 7, ground := Ground.phase }, { on := 8, ground := Ground.phase }, { on := 9, ground := Ground.textOnly Departure.lateStores }, { on := 10, ground := Ground.phase }], guard := none }) _ _ _ rfl kg rfl rfl (by kernel_rfl) rfl (by simp [Value.oneCell']) ?_
              clear kg
              intro wS kg xg
              simp only [Act.put]
              refine hK.out _ _ xg (fun hHeld => ?_)
              clear hK K
              refine wpAnyH_imp (S' := fun W => World.grownBy wS W (some (World.heap w6).size)) (fun W h => World.grownBy_trans xg h) _ _ _ _ ?_
              replace hHeld := World.grownBy.refl wS (some (World.heap w6).size)
              have zz4 := Ext.of_grown zz3 xg (fun k e => by cases e; exact gle)
              refine wpAnyH_take (i := 12) (oi := { dst := some 13, op := Op.assign (Operand.tmp 60), type := 27, pos := "law.go:38", after := #[{ on := 9, ground := Ground.data }, { on := 11, ground := Ground.chain }, { on := 0, ground := Ground.phase }, { on := 1, ground := Ground.phase }, { on := 2, ground := Ground.phase }, { on := 3, ground := Ground.phase }, { on := 4, ground := Ground.phase }, { on := 5, ground := Ground.phase }, { on := 6, ground := Ground.phase }, { on := 7, ground := Ground.phase }, { on := 8, ground := Ground.phase }, { on := 9, ground := Ground.phase }, { on := 10, ground := Ground.phase }, { on := 11, ground := Ground.phase }], guard := none }) (v := ?vv41_5_12) rfl (by kernel_rfl) (by kernel_rfl) (by kernel_rfl) (fun _ _ _ h => h) (Or.inl ⟨by rfl, ?yy41_5_12⟩) hHeld ?_
              case yy41_5_12 => (intro W hx; go_simp; try with_reducible rfl)
              simp only [Act.put, List.setIfInBounds_toArray, List.set_cons_zero, List.set_cons_succ]
              refine wpAnyH_done (by kernel_rfl) ?_ _
              have zend := zz4
              have kend := Lib.hid kg
              clear kg
              go_wp2
              go_meet
              case rel => exact ⟨.inr (.inr ⟨hmh.out, rfl, _, rfl, kend.out⟩), zend⟩
            · have tok := True.intro
              go_simp
              obtain ⟨wL, hw⟩ : ∃ V, V = World.alloc w5 (.cells #[.int .u32 0, .bool false, .int .i64 0, .int .u8 0, .int .u8 0, .int .u8 0, .int .u8 0, .int .u8 0, .int .u8 0, .int .u8 0, .int .u8 0] 26) := ⟨_, rfl⟩
              rw [← hw]
              have xa : Ext w5 wL := by rw [hw]; exact (Ext.refl _).alloc _
              have kg : (World.heap wL)[(World.heap w5).size]? = some (.cells #[.int .u32 0, .bool false, .int .i64 0, .int .u8 0, .int .u8 0, .int .u8 0, .int .u8 0, .int .u8 0, .int .u8 0, .int .u8 0, .int .u8 0] 26) := by rw [hw]; exact heap_alloc_new _ _
              have gle := zz1.size
              clear hw
              refine hK.out _ _ xa (fun hHeld => ?_)
              clear hK K
              refine wpAnyH_imp (S' := fun W => World.grownBy wL W (some (World.heap w5).size)) (fun W h => Ext.of_grown xa h (fun k e => by cases e; exact Nat.le_refl _)) _ _ _ _ ?_
              replace hHeld := World.grownBy.refl wL (some (World.heap w5).size)
              have zz2 := zz1.trans xa
              refine wpAnyH_ready (rs := [6]) (by kernel_rfl) (by simp) (AllReadyH.cons rfl (fun K hK => ?_) AllReadyH.nil)
              go_simp
              go_wp2_with (go_at_call 10; (with_reducible refine (make_any _ _ _ _ _ _ _ (by first | exact r5 | exact r5.ext xa) hid hL8).mono ?_); rintro e w6 ⟨y0, y1, y2, y3, y4, y5, y6, y7, hy, rfl, x6⟩; go_must (rw [hpz.out] at hy); go_must (obtain ⟨rfl, rfl, rfl, rfl, rfl, rfl, rfl, rfl⟩ : b0 = y0 ∧ b1 = y1 ∧ b2 = y2 ∧ b3 = y3 ∧ b4 = y4 ∧ b5 = y5 ∧ b6 = y6 ∧ b7 = y7 := (by simpa using hy)); clear hy)
              refine hK.out _ _ (World.grownBy_ext x6) (fun hHeld => ?_)
              clear hK K
              refine wpAnyH_imp (S' := fun W => World.grownBy w6 W (some (World.heap w5).size)) (fun W h => World.grownBy_trans (World.grownBy_ext x6) h) _ _ _ _ ?_
              replace hHeld := World.grownBy.refl w6 (some (World.heap w5).size)
              have kg := (x6.block _ (blk_lt kg)).trans kg
              have zz3 := zz2.trans x6
              refine wpAnyH_take (i := 7) (oi := { dst := some 51, op := Op.move (Operand.tmp 58), type := 28, pos := "law.go:38", after := #[{ on := 6, ground := Ground.data }], guard := none }) (v := ?vv42_5_7) rfl (by kernel_rfl) (by kernel_rfl) (by kernel_rfl) (fun _ _ _ h => h) (Or.inl ⟨by rfl, ?yy42_5_7⟩) hHeld ?_
              case yy42_5_7 => (intro W hx; go_simp; try with_reducible rfl)
              simp only [Act.put, List.setIfInBounds_toArray, List.set_cons_zero, List.set_cons_succ]
              refine wpAnyH_take (i := 8) (oi := { dst := some 59, op := Op.extract (Operand.tmp 51) 0, type := 26, pos := "law.go:38", after := #[{ on := 7, ground := Ground.data }], guard := none }) (v := ?vv43_5_8) rfl (by kernel_rfl) (by kernel_rfl) (by kernel_rfl) (fun _ _ _ h => h) (Or.inl ⟨by rfl, ?yy43_5_8⟩) hHeld ?_
              case yy43_5_8 => (intro W hx; go_simp; try with_reducible rfl)
              simp only [Act.put, List.setIfInBounds_toArray, List.set_cons_zero, List.set_cons_succ]
              refine wpAnyH_take (i := 9) (oi := { dst := some 60, op := Op.extract (Operand.tmp 51) 1, type := 27, pos := "law.go:38", after := #[{ on := 7, ground := Ground.data }, { on := 11, ground := Ground.gcOnly Departure.lateStores }], guard := none }) (v := ?vv44_5_9) rfl (by kernel_rfl) (by kernel_rfl) (by kernel_rfl) (fun _ _ _ h => h) (Or.inl ⟨by rfl, ?yy44_5_9⟩) hHeld ?_
              case yy44_5_9 => (intro W hx; go_simp; try with_reducible rfl)
              simp only [Act.put, List.setIfInBounds_toArray, List.set_cons_zero, List.set_cons_succ]
              refine wpAnyH_ready (rs := [11]) (by kernel_rfl) (by simp) (AllReadyH.cons rfl (fun K hK => ?_) AllReadyH.nil)
              rw [if_pos (by rfl)]
              refine wp_strow (o := { dst := none, op := Op.store 26 (Operand.tmp 12) (Operand.tmp 59), type := 0, pos := "law.go:38", after := #[{ on := 10, ground := Ground.data }, { on := 8, ground := Ground.data }, { on := 6, ground := Ground.chain }, { on := 0, ground := Ground.phase }, { on := 1, ground := Ground.phase }, { on := 2, ground := Ground.phase }, { on := 3, ground := Ground.phase }, { on := 4, ground := Ground.phase }, { on := 5, ground := Ground.phase }, { on := 6, ground := Ground.phase }, { on := 7, ground := Ground.phase }, { on := 8, ground := Ground.phase }, { on := 9, ground := Ground.textOnly Departure.lateStores }, { on := 10, ground := Ground.phase }], guard := none }) _ _ _ rfl kg rfl rfl (by kernel_rfl) rfl (by simp [Value.oneCell']) ?_
              clear kg
              intro wS kg xg
              simp only [Act.put]
              refine hK.out _ _ xg (fun hHeld => ?_)
              clear hK K
              refine wpAnyH_imp (S' := fun W => World.grownBy wS W (some (World.heap w5).size)) (fun W h => World.grownBy_trans xg h) _ _ _ _ ?_
              replace hHeld := World.grownBy.refl wS (some (World.heap w5).size)
              have zz4 := Ext.of_grown zz3 xg (fun k e => by cases e; exact gle)
              refine wpAnyH_take (i := 12) (oi := { dst := some 13, op := Op.assign (Operand.tmp 60), type := 27, pos := "law.go:38", after := #[{ on := 9, ground := Ground.data }, { on := 11, ground := Ground.chain }, { on := 0, ground := Ground.phase }, { on := 1, ground := Ground.phase }, { on := 2, ground := Ground.phase }, { on := 3, ground := Ground.phase }, { on := 4, ground := Ground.phase }, { on := 5, ground := Ground.phase }, { on := 6, ground := Ground.phase }, { on := 7, ground := Ground.phase }, { on := 8, ground := Ground.phase }, { on := 9, ground := Ground.phase }, { on := 10, ground := Ground.phase }, { on := 11, ground := Ground.phase }], guard := none }) (v := ?vv45_5_12) rfl (by kernel_rfl) (by kernel_rfl) (by kernel_rfl) (fun _ _ _ h => h) (Or.inl ⟨by rfl, ?yy45_5_12⟩) hHeld ?_
              case yy45_5_12 => (intro W hx; go_simp; try with_reducible rfl)
              simp only [Act.put, List.setIfInBounds_toArray, List.set_cons_zero, List.set_cons_succ]
              refine wpAnyH_done (by kernel_rfl) ?_ _
              have zend := zz4
              have kend := Lib.hid kg
              clear kg
              go_wp2
              go_meet
              case rel => exact ⟨.inr (.inr ⟨hmh.out, rfl, _, rfl, kend.out⟩), zend⟩
          · have tok := True.intro
            go_simp
            obtain ⟨wL, hw⟩ : ∃ V, V = World.alloc wD32 (.cells #[.int .u32 0, .bool false, .int .i64 0, .int .u8 0, .int .u8 0, .int .u8 0, .int .u8 0, .int .u8 0, .int .u8 0, .int .u8 0, .int .u8 0] 26) := ⟨_, rfl⟩
            rw [← hw]
            have xa : Ext wD32 wL := by rw [hw]; exact (Ext.refl _).alloc _
            have kg : (World.heap wL)[(World.heap wD32).size]? = some (.cells #[.int .u32 0, .bool false, .int .i64 0, .int .u8 0, .int .u8 0, .int .u8 0, .int .u8 0, .int .u8 0, .int .u8 0, .int .u8 0, .int .u8 0] 26) := by rw [hw]; exact heap_alloc_new _ _
            have gle := zz0.size
            clear hw
            refine hK.out _ _ xa (fun hHeld => ?_)
            clear hK K
            refine wpAnyH_imp (S' := fun W => World.grownBy wL W (some (World.heap wD32).size)) (fun W h => Ext.of_grown xa h (fun k e => by cases e; exact Nat.le_refl _)) _ _ _ _ ?_
            replace hHeld := World.grownBy.refl wL (some (World.heap wD32).size)
            have zz1 := zz0.trans xa
            refine wpAnyH_ready (rs := [5]) (by kernel_rfl) (by simp) (AllReadyH.cons rfl (fun K hK => ?_) AllReadyH.nil)
            go_simp
            go_wp2_with (go_at_call 16; (with_reducible refine (bytes_any _ _ _ _ _ _ _ _ _ _ _ _ hbb.out hmh.out).mono ?_); rintro e w5 ⟨A5, c5, rfl, _, _, x5, r5⟩)
            refine hK.out _ _ (World.grownBy_ext x5) (fun hHeld => ?_)
            clear hK K
            refine wpAnyH_imp (S' := fun W => World.grownBy w5 W (some (World.heap wD32).size)) (fun W h => World.grownBy_trans (World.grownBy_ext x5) h) _ _ _ _ ?_
            replace hHeld := World.grownBy.refl w5 (some (World.heap wD32).size)
            have kg := (x5.block _ (blk_lt kg)).trans kg
            have zz2 := zz1.trans x5
            refine wpAnyH_ready (rs := [6]) (by kernel_rfl) (by simp) (AllReadyH.cons rfl (fun K hK => ?_) AllReadyH.nil)
            go_simp
            go_wp2_with (go_at_call 10; (with_reducible refine (make_any _ _ _ _ _ _ _ (by first | exact r5 | exact r5.ext xa) hid hL8).mono ?_); rintro e w6 ⟨y0, y1, y2, y3, y4, y5, y6, y7, hy, rfl, x6⟩; go_must (rw [hpz.out] at hy); go_must (obtain ⟨rfl, rfl, rfl, rfl, rfl, rfl, rfl, rfl⟩ : b0 = y0 ∧ b1 = y1 ∧ b2 = y2 ∧ b3 = y3 ∧ b4 = y4 ∧ b5 = y5 ∧ b6 = y6 ∧ b7 = y7 := (by simpa using hy)); clear hy)
            refine hK.out _ _ (World.grownBy_ext x6) (fun hHeld => ?_)
            clear hK K
            refine wpAnyH_imp (S' := fun W => World.grownBy w6 W (some (World.heap wD32).size)) (fun W h => World.grownBy_trans (World.grownBy_ext x6) h) _ _ _ _ ?_
            replace hHeld := World.grownBy.refl w6 (some (World.heap wD32).size)
            have kg := (x6.block _ (blk_lt kg)).trans kg
            have zz3 := zz2.trans x6
            refine wpAnyH_take (i := 7) (oi := { dst := some 51, op := Op.move (Operand.tmp 58), type := 28, pos := "law.go:38", after := #[{ on := 6, ground := Ground.data }], guard := none }) (v := ?vv46_5_7) rfl (by kernel_rfl) (by kernel_rfl) (by kernel_rfl) (fun _ _ _ h => h) (Or.inl ⟨by rfl, ?yy46_5_7⟩) hHeld ?_
            case yy46_5_7 => (intro W hx; go_simp; try with_reducible rfl)
            simp only [Act.put, List.setIfInBounds_toArray, List.set_cons_zero, List.set_cons_succ]
            refine wpAnyH_take (i := 8) (oi := { dst := some 59, op := Op.extract (Operand.tmp 51) 0, type := 26, pos := "law.go:38", after := #[{ on := 7, ground := Ground.data }], guard := none }) (v := ?vv47_5_8) rfl (by kernel_rfl) (by kernel_rfl) (by kernel_rfl) (fun _ _ _ h => h) (Or.inl ⟨by rfl, ?yy47_5_8⟩) hHeld ?_
            case yy47_5_8 => (intro W hx; go_simp; try with_reducible rfl)
            simp only [Act.put, List.setIfInBounds_toArray, List.set_cons_zero, List.set_cons_succ]
            refine wpAnyH_take (i := 9) (oi := { dst := some 60, op := Op.extract (Operand.tmp 51) 1, type := 27, pos := "law.go:38", after := #[{ on := 7, ground := Ground.data }, { on := 11, ground := Ground.gcOnly Departure.lateStores }], guard := none }) (v := ?vv48_5_9) rfl (by kernel_rfl) (by kernel_rfl) (by kernel_rfl) (fun _ _ _ h => h) (Or.inl ⟨by rfl, ?yy48_5_9⟩) hHeld ?_
            case yy48_5_9 => (intro W hx; go_simp; try with_reducible rfl)
            simp only [Act.put, List.setIfInBounds_toArray, List.set_cons_zero, List.set_cons_succ]
            refine wpAnyH_ready (rs := [11]) (by kernel_rfl) (by simp) (AllReadyH.cons rfl (fun K hK => ?_) AllReadyH.nil)
            rw [if_pos (by rfl)]
            refine wp_strow (o := { dst := none, op := Op.store 26 (Operand.tmp 12) (Operand.tmp 59), type := 0, pos := "law.go:38", after := #[{ on := 10, ground := Ground.data }, { on := 8, ground := Ground.data }, { on := 6, ground := Ground.chain }, { on := 0, ground := Ground.phase }, { on := 1, ground := Ground.phase }, { on := 2, ground := Ground.phase }, { on := 3, ground := Ground.phase }, { on := 4, ground := Ground.phase }, { on := 5, ground := Ground.phase }, { on := 6, ground := Ground.phase }, { on := 7, ground := Ground.phase }, { on := 8, ground := Ground.phase }, { on := 9, ground := Ground.textOnly Departure.lateStores }, { on := 10, ground := Ground.phase }], guard := none }) _ _ _ rfl kg rfl rfl (by kernel_rfl) rfl (by simp [Value.oneCell']) ?_
            clear kg
            intro wS kg xg
            simp only [Act.put]
            refine hK.out _ _ xg (fun hHeld => ?_)
            clear hK K
            refine wpAnyH_imp (S' := fun W => World.grownBy wS W (some (World.heap wD32).size)) (fun W h => World.grownBy_trans xg h) _ _ _ _ ?_
            replace hHeld := World.grownBy.refl wS (some (World.heap wD32).size)
            have zz4 := Ext.of_grown zz3 xg (fun k e => by cases e; exact gle)
            refine wpAnyH_take (i := 12) (oi := { dst := some 13, op := Op.assign (Operand.tmp 60), type := 27, pos := "law.go:38", after := #[{ on := 9, ground := Ground.data }, { on := 11, ground := Ground.chain }, { on := 0, ground := Ground.phase }, { on := 1, ground := Ground.phase }, { on := 2, ground := Ground.phase }, { on := 3, ground := Ground.phase }, { on := 4, ground := Ground.phase }, { on := 5, ground := Ground.phase }, { on := 6, ground := Ground.phase }, { on := 7, ground := Ground.phase }, { on := 8, ground := Ground.phase }, { on := 9, ground := Ground.phase }, { on := 10, ground := Ground.phase }, { on := 11, ground := Ground.phase }], guard := none }) (v := ?vv49_5_12) rfl (by kernel_rfl) (by kernel_rfl) (by kernel_rfl) (fun _ _ _ h => h) (Or.inl ⟨by rfl, ?yy49_5_12⟩) hHeld ?_
            case yy49_5_12 => (intro W hx; go_simp; try with_reducible rfl)
            simp only [Act.put, List.setIfInBounds_toArray, List.set_cons_zero, List.set_cons_succ]
            refine wpAnyH_done (by kernel_rfl) ?_ _
            have zend := zz4
            have kend := Lib.hid kg
            clear kg
            go_wp2
            go_meet
            case rel => exact ⟨.inr (.inr ⟨hmh.out, rfl, _, rfl, kend.out⟩), zend⟩
        · by_cases hid : gid < idsI gext
          · have hid' := Lib.hid hid; clear hid
            have hnm := Lib.hid (show mayB gid gext L [b0, b1, b2, b3, b4, b5, b6, b7] = false by simpa using hm)
            clear hm
            refine wp_region_held_drew (S := Ext wB) (by kernel_rfl) ((Ext.refl _).drew) (fun hHeld => ?_)
            obtain ⟨wD50, hwD⟩ : ∃ V, V = World.drew wB := ⟨_, rfl⟩
            rw [← hwD]
            clear hHeld
            have zz0 : Ext wB wD50 := by rw [hwD]; exact (Ext.refl _).drew
            clear hwD
            refine wpAnyH_imp (S' := Ext wD50) (fun W h => Ext.trans zz0 h) _ _ _ _ ?_
            have hHeld := Ext.refl wD50
            refine wpAnyH_take (i := 0) (oi := { dst := some 52, op := Op.fieldAddr 26 (Operand.tmp 7) 0, type := 0, pos := "law.go:38", after := #[], guard := none }) (v := ?vv51_5_0) rfl (by kernel_rfl) (by kernel_rfl) (by kernel_rfl) (fun _ _ _ h => h) (Or.inl ⟨by rfl, ?yy51_5_0⟩) hHeld ?_
            case yy51_5_0 => (intro W hx; go_simp; try with_reducible rfl)
            simp only [Act.put, List.setIfInBounds_toArray, List.set_cons_zero, List.set_cons_succ]
            refine wpAnyH_take (i := 1) (oi := { dst := some 53, op := Op.load 22 (Operand.tmp 52), type := 22, pos := "law.go:38", after := #[{ on := 0, ground := Ground.data }], guard := none }) (v := ?vv52_5_1) rfl (by kernel_rfl) (by kernel_rfl) (by kernel_rfl) (fun _ _ _ h => h) (Or.inl ⟨by rfl, ?yy52_5_1⟩) hHeld ?_
            case yy52_5_1 => (intro W hx; have hz := zz0.trans hx; obtain ⟨f0, f1, f2, f3, f4, f5, f6, f7, f8, f9, fa⟩ := cells11 ((hz.block _ (blk_lt Kg)).trans Kg); go_simp; try with_reducible rfl)
            simp only [Act.put, List.setIfInBounds_toArray, List.set_cons_zero, List.set_cons_succ]
            refine wpAnyH_take (i := 2) (oi := { dst := some 54, op := Op.fieldAddr 26 (Operand.tmp 7) 1, type := 0, pos := "law.go:38", after := #[], guard := none }) (v := ?vv53_5_2) rfl (by kernel_rfl) (by kernel_rfl) (by kernel_rfl) (fun _ _ _ h => h) (Or.inl ⟨by rfl, ?yy53_5_2⟩) hHeld ?_
            case yy53_5_2 => (intro W hx; go_simp; try with_reducible rfl)
            simp only [Act.put, List.setIfInBounds_toArray, List.set_cons_zero, List.set_cons_succ]
            refine wpAnyH_take (i := 3) (oi := { dst := some 55, op := Op.load 4 (Operand.tmp 54), type := 4, pos := "law.go:38", after := #[{ on := 2, ground := Ground.data }], guard := none }) (v := ?vv54_5_3) rfl (by kernel_rfl) (by kernel_rfl) (by kernel_rfl) (fun _ _ _ h => h) (Or.inl ⟨by rfl, ?yy54_5_3⟩) hHeld ?_
            case yy54_5_3 => (intro W hx; have hz := zz0.trans hx; obtain ⟨f0, f1, f2, f3, f4, f5, f6, f7, f8, f9, fa⟩ := cells11 ((hz.block _ (blk_lt Kg)).trans Kg); go_simp; try with_reducible rfl)
            simp only [Act.put, List.setIfInBounds_toArray, List.set_cons_zero, List.set_cons_succ]
            refine wpAnyH_take (i := 4) (oi := { dst := some 56, op := Op.load 26 (Operand.tmp 7), type := 26, pos := "law.go:38", after := #[], guard := none }) (v := ?vv55_5_4) rfl (by kernel_rfl) (by kernel_rfl) (by kernel_rfl) (fun _ _ _ h => h) (Or.inl ⟨by rfl, ?yy55_5_4⟩) hHeld ?_
            case yy55_5_4 => (intro W hx; have hz := zz0.trans hx; obtain ⟨f0, f1, f2, f3, f4, f5, f6, f7, f8, f9, fa⟩ := cells11 ((hz.block _ (blk_lt Kg)).trans Kg); go_simp; try with_reducible rfl)
            simp only [Act.put, List.setIfInBounds_toArray, List.set_cons_zero, List.set_cons_succ]
            refine wpAnyH_ready (rs := [5, 10]) (by kernel_rfl) (by simp) (AllReadyH.cons rfl (fun K hK => ?_) (AllReadyH.cons rfl (fun K hK => ?_) AllReadyH.nil))
            · have tok := True.intro
              go_simp
              go_wp2_with (go_at_call 16; (with_reducible refine (bytes_no _ _ _ _ _ _ _ _ _ _ _ _ hnm.out).mono ?_); rintro e w5 ⟨rfl, x5⟩)
              refine hK.out _ _ x5 (fun hHeld => ?_)
              clear hK K
              refine wpAnyH_imp (S' := Ext w5) (fun W h => Ext.trans x5 h) _ _ _ _ ?_
              replace hHeld := Ext.refl w5
              have zz1 := zz0.trans x5
              refine wpAnyH_ready (rs := [6, 10]) (by kernel_rfl) (by simp) (AllReadyH.cons rfl (fun K hK => ?_) (AllReadyH.cons rfl (fun K hK => ?_) AllReadyH.nil))
              · have tok := True.intro
                go_simp
                go_wp2_with (go_at_call 10; (with_reducible refine (make_any _ _ _ _ _ [] _ Rd.nil hid'.out (by decide)).mono ?_); rintro e w6 ⟨y0, y1, y2, y3, y4, y5, y6, y7, hy, rfl, x6⟩; go_must (obtain ⟨rfl, rfl, rfl, rfl, rfl, rfl, rfl, rfl⟩ : 0 = y0 ∧ 0 = y1 ∧ 0 = y2 ∧ 0 = y3 ∧ 0 = y4 ∧ 0 = y5 ∧ 0 = y6 ∧ 0 = y7 := (by simpa [padZ] using hy)); clear hy)
                refine hK.out _ _ x6 (fun hHeld => ?_)
                clear hK K
                refine wpAnyH_imp (S' := Ext w6) (fun W h => Ext.trans x6 h) _ _ _ _ ?_
                replace hHeld := Ext.refl w6
                have zz2 := zz1.trans x6
                refine wpAnyH_take (i := 7) (oi := { dst := some 51, op := Op.move (Operand.tmp 58), type := 28, pos := "law.go:38", after := #[{ on := 6, ground := Ground.data }], guard := none }) (v := ?vv56_5_7) rfl (by kernel_rfl) (by kernel_rfl) (by kernel_rfl) (fun _ _ _ h => h) (Or.inl ⟨by rfl, ?yy56_5_7⟩) hHeld ?_
                case yy56_5_7 => (intro W hx; go_simp; try with_reducible rfl)
                simp only [Act.put, List.setIfInBounds_toArray, List.set_cons_zero, List.set_cons_succ]
                refine wpAnyH_take (i := 8) (oi := { dst := some 59, op := Op.extract (Operand.tmp 51) 0, type := 26, pos := "law.go:38", after := #[{ on := 7, ground := Ground.data }], guard := none }) (v := ?vv57_5_8) rfl (by kernel_rfl) (by kernel_rfl) (by kernel_rfl) (fun _ _ _ h => h) (Or.inl ⟨by rfl, ?yy57_5_8⟩) hHeld ?_
                case yy57_5_8 => (intro W hx; go_simp; try with_reducible rfl)
                simp only [Act.put, List.setIfInBounds_toArray, List.set_cons_zero, List.set_cons_succ]
                refine wpAnyH_take (i := 9) (oi := { dst := some 60, op := Op.extract (Operand.tmp 51) 1, type := 27, pos := "law.go:38", after := #[{ on := 7, ground := Ground.data }, { on := 11, ground := Ground.gcOnly Departure.lateStores }], guard := none }) (v := ?vv58_5_9) rfl (by kernel_rfl) (by kernel_rfl) (by kernel_rfl) (fun _ _ _ h => h) (Or.inl ⟨by rfl, ?yy58_5_9⟩) hHeld ?_
                case yy58_5_9 => (intro W hx; go_simp; try with_reducible rfl)
                simp only [Act.put, List.setIfInBounds_toArray, List.set_cons_zero, List.set_cons_succ]
                refine wpAnyH_ready (rs := [10]) (by kernel_rfl) (by simp) (AllReadyH.cons rfl (fun K hK => ?_) AllReadyH.nil)
                go_simp
                obtain ⟨wL, hw⟩ : ∃ V, V = World.alloc w6 (.cells #[.int .u32 0, .bool false, .int .i64 0, .int .u8 0, .int .u8 0, .int .u8 0, .int .u8 0, .int .u8 0, .int .u8 0, .int .u8 0, .int .u8 0] 26) := ⟨_, rfl⟩
                rw [← hw]
                have xa : Ext w6 wL := by rw [hw]; exact (Ext.refl _).alloc _
                have kg : (World.heap wL)[(World.heap w6).size]? = some (.cells #[.int .u32 0, .bool false, .int .i64 0, .int .u8 0, .int .u8 0, .int .u8 0, .int .u8 0, .int .u8 0, .int .u8 0, .int .u8 0, .int .u8 0] 26) := by rw [hw]; exact heap_alloc_new _ _
                have gle := zz2.size
                clear hw
                refine hK.out _ _ xa (fun hHeld => ?_)
                clear hK K
                refine wpAnyH_imp (S' := fun W => World.grownBy wL W (some (World.heap w6).size)) (fun W h => Ext.of_grown xa h (fun k e => by cases e; exact Nat.le_refl _)) _ _ _ _ ?_
                replace hHeld := World.grownBy.refl wL (some (World.heap w6).size)
                have zz3 := zz2.trans xa
                refine wpAnyH_ready (rs := [11]) (by kernel_rfl) (by simp) (AllReadyH.cons rfl (fun K hK => ?_) AllReadyH.nil)
                rw [if_pos (by rfl)]
                refine wp_strow (o := { dst := none, op := Op.store 26 (Operand.tmp 12) (Operand.tmp 59), type := 0, pos := "law.go:38", after := #[{ on := 10, ground := Ground.data }, { on := 8, ground := Ground.data }, { on := 6, ground := Ground.chain }, { on := 0, ground := Ground.phase }, { on := 1, ground := Ground.phase }, { on := 2, ground := Ground.phase }, { on := 3, ground := Ground.phase }, { on := 4, ground := Ground.phase }, { on := 5, ground := Ground.phase }, { on := 6, ground := Ground.phase }, { on := 7, ground := Ground.phase }, { on := 8, ground := Ground.phase }, { on := 9, ground := Ground.textOnly Departure.lateStores }, { on := 10, ground := Ground.phase }], guard := none }) _ _ _ rfl kg rfl rfl (by kernel_rfl) rfl (by simp [Value.oneCell']) ?_
                clear kg
                intro wS kg xg
                simp only [Act.put]
                refine hK.out _ _ xg (fun hHeld => ?_)
                clear hK K
                refine wpAnyH_imp (S' := fun W => World.grownBy wS W (some (World.heap w6).size)) (fun W h => World.grownBy_trans xg h) _ _ _ _ ?_
                replace hHeld := World.grownBy.refl wS (some (World.heap w6).size)
                have zz4 := Ext.of_grown zz3 xg (fun k e => by cases e; exact gle)
                refine wpAnyH_take (i := 12) (oi := { dst := some 13, op := Op.assign (Operand.tmp 60), type := 27, pos := "law.go:38", after := #[{ on := 9, ground := Ground.data }, { on := 11, ground := Ground.chain }, { on := 0, ground := Ground.phase }, { on := 1, ground := Ground.phase }, { on := 2, ground := Ground.phase }, { on := 3, ground := Ground.phase }, { on := 4, ground := Ground.phase }, { on := 5, ground := Ground.phase }, { on := 6, ground := Ground.phase }, { on := 7, ground := Ground.phase }, { on := 8, ground := Ground.phase }, { on := 9, ground := Ground.phase }, { on := 10, ground := Ground.phase }, { on := 11, ground := Ground.phase }], guard := none }) (v := ?vv59_5_12) rfl (by kernel_rfl) (by kernel_rfl) (by kernel_rfl) (fun _ _ _ h => h) (Or.inl ⟨by rfl, ?yy59_5_12⟩) hHeld ?_
                case yy59_5_12 => (intro W hx; go_simp; try with_reducible rfl)
                simp only [Act.put, List.setIfInBounds_toArray, List.set_cons_zero, List.set_cons_succ]
                refine wpAnyH_done (by kernel_rfl) ?_ _
                have zend := zz4
                have kend := Lib.hid kg
                clear kg
                go_wp2
                go_meet
                case rel => exact ⟨.inr (.inl ⟨hnm.out, hid'.out, rfl, _, rfl, kend.out⟩), zend⟩
              · have tok := True.intro
                go_simp
                obtain ⟨wL, hw⟩ : ∃ V, V = World.alloc w5 (.cells #[.int .u32 0, .bool false, .int .i64 0, .int .u8 0, .int .u8 0, .int .u8 0, .int .u8 0, .int .u8 0, .int .u8 0, .int .u8 0, .int .u8 0] 26) := ⟨_, rfl⟩
                rw [← hw]
                have xa : Ext w5 wL := by rw [hw]; exact (Ext.refl _).alloc _
                have kg : (World.heap wL)[(World.heap w5).size]? = some (.cells #[.int .u32 0, .bool false, .int .i64 0, .int .u8 0, .int .u8 0, .int .u8 0, .int .u8 0, .int .u8 0, .int .u8 0, .int .u8 0, .int .u8 0] 26) := by rw [hw]; exact heap_alloc_new _ _
                have gle := zz1.size
                clear hw
                refine hK.out _ _ xa (fun hHeld => ?_)
                clear hK K
                refine wpAnyH_imp (S' := fun W => World.grownBy wL W (some (World.heap w5).size)) (fun W h => Ext.of_grown xa h (fun k e => by cases e; exact Nat.le_refl _)) _ _ _ _ ?_
                replace hHeld := World.grownBy.refl wL (some (World.heap w5).size)
                have zz2 := zz1.trans xa
                refine wpAnyH_ready (rs := [6]) (by kernel_rfl) (by simp) (AllReadyH.cons rfl (fun K hK => ?_) AllReadyH.nil)
                go_simp
                go_wp2_with (go_at_call 10; (with_reducible refine (make_any _ _ _ _ _ [] _ Rd.nil hid'.out (by decide)).mono ?_); rintro e w6 ⟨y0, y1, y2, y3, y4, y5, y6, y7, hy, rfl, x6⟩; go_must (obtain ⟨rfl, rfl, rfl, rfl, rfl, rfl, rfl, rfl⟩ : 0 = y0 ∧ 0 = y1 ∧ 0 = y2 ∧ 0 = y3 ∧ 0 = y4 ∧ 0 = y5 ∧ 0 = y6 ∧ 0 = y7 := (by simpa [padZ] using hy)); clear hy)
                refine hK.out _ _ (World.grownBy_ext x6) (fun hHeld => ?_)
                clear hK K
                refine wpAnyH_imp (S' := fun W => World.grownBy w6 W (some (World.heap w5).size)) (fun W h => World.grownBy_trans (World.grownBy_ext x6) h) _ _ _ _ ?_
                replace hHeld := World.grownBy.refl w6 (some (World.heap w5).size)
                have kg := (x6.block _ (blk_lt kg)).trans kg
                have zz3 := zz2.trans x6
                refine wpAnyH_take (i := 7) (oi := { dst := some 51, op := Op.move (Operand.tmp 58), type := 28, pos := "law.go:38", after := #[{ on := 6, ground := Ground.data }], guard := none }) (v := ?vv60_5_7) rfl (by kernel_rfl) (by kernel_rfl) (by kernel_rfl) (fun _ _ _ h => h) (Or.inl ⟨by rfl, ?yy60_5_7⟩) hHeld ?_
                case yy60_5_7 => (intro W hx; go_simp; try with_reducible rfl)
                simp only [Act.put, List.setIfInBounds_toArray, List.set_cons_zero, List.set_cons_succ]
                refine wpAnyH_take (i := 8) (oi := { dst := some 59, op := Op.extract (Operand.tmp 51) 0, type := 26, pos := "law.go:38", after := #[{ on := 7, ground := Ground.data }], guard := none }) (v := ?vv61_5_8) rfl (by kernel_rfl) (by kernel_rfl) (by kernel_rfl) (fun _ _ _ h => h) (Or.inl ⟨by rfl, ?yy61_5_8⟩) hHeld ?_
                case yy61_5_8 => (intro W hx; go_simp; try with_reducible rfl)
                simp only [Act.put, List.setIfInBounds_toArray, List.set_cons_zero, List.set_cons_succ]
                refine wpAnyH_take (i := 9) (oi := { dst := some 60, op := Op.extract (Operand.tmp 51) 1, type := 27, pos := "law.go:38", after := #[{ on := 7, ground := Ground.data }, { on := 11, ground := Ground.gcOnly Departure.lateStores }], guard := none }) (v := ?vv62_5_9) rfl (by kernel_rfl) (by kernel_rfl) (by kernel_rfl) (fun _ _ _ h => h) (Or.inl ⟨by rfl, ?yy62_5_9⟩) hHeld ?_
                case yy62_5_9 => (intro W hx; go_simp; try with_reducible rfl)
                simp only [Act.put, List.setIfInBounds_toArray, List.set_cons_zero, List.set_cons_succ]
                refine wpAnyH_ready (rs := [11]) (by kernel_rfl) (by simp) (AllReadyH.cons rfl (fun K hK => ?_) AllReadyH.nil)
                rw [if_pos (by rfl)]
                refine wp_strow (o := { dst := none, op := Op.store 26 (Operand.tmp 12) (Operand.tmp 59), type := 0, pos := "law.go:38", after := #[{ on := 10, ground := Ground.data }, { on := 8, ground := Ground.data }, { on := 6, ground := Ground.chain }, { on := 0, ground := Ground.phase }, { on := 1, ground := Ground.phase }, { on := 2, ground := Ground.phase }, { on := 3, ground := Ground.phase }, { on := 4, ground := Ground.phase }, { on := 5, ground := Ground.phase }, { on := 6, ground := Ground.phase }, { on := 7, ground := Ground.phase }, { on := 8, ground := Ground.phase }, { on := 9, ground := Ground.textOnly Departure.lateStores }, { on := 10, ground := Ground.phase }], guard := none }) _ _ _ rfl kg rfl rfl (by kernel_rfl) rfl (by simp [Value.oneCell']) ?_
                clear kg
                intro wS kg xg
                simp only [Act.put]
                refine hK.out _ _ xg (fun hHeld => ?_)
                clear hK K
                refine wpAnyH_imp (S' := fun W => World.grownBy wS W (some (World.heap w5).size)) (fun W h => World.grownBy_trans xg h) _ _ _ _ ?_
                replace hHeld := World.grownBy.refl wS (some (World.heap w5).size)
                have zz4 := Ext.of_grown zz3 xg (fun k e => by cases e; exact gle)
                refine wpAnyH_take (i := 12) (oi := { dst := some 13, op := Op.assign (Operand.tmp 60), type := 27, pos := "law.go:38", after := #[{ on := 9, ground := Ground.data }, { on := 11, ground := Ground.chain }, { on := 0, ground := Ground.phase }, { on := 1, ground := Ground.phase }, { on := 2, ground := Ground.phase }, { on := 3, ground := Ground.phase }, { on := 4, ground := Ground.phase }, { on := 5, ground := Ground.phase }, { on := 6, ground := Ground.phase }, { on := 7, ground := Ground.phase }, { on := 8, ground := Ground.phase }, { on := 9, ground := Ground.phase }, { on := 10, ground := Ground.phase }, { on := 11, ground := Ground.phase }], guard := none }) (v := ?vv63_5_12) rfl (by kernel_rfl) (by kernel_rfl) (by kernel_rfl) (fun _ _ _ h => h) (Or.inl ⟨by rfl, ?yy63_5_12⟩) hHeld ?_
                case yy63_5_12 => (intro W hx; go_simp; try with_reducible rfl)
                simp only [Act.put, List.setIfInBounds_toArray, List.set_cons_zero, List.set_cons_succ]
                refine wpAnyH_done (by kernel_rfl) ?_ _
                have zend := zz4
                have kend := Lib.hid kg
                clear kg
                go_wp2
                go_meet
                case rel => exact ⟨.inr (.inl ⟨hnm.out, hid'.out, rfl, _, rfl, kend.out⟩), zend⟩
            · have tok := True.intro
              go_simp
              obtain ⟨wL, hw⟩ : ∃ V, V = World.alloc wD50 (.cells #[.int .u32 0, .bool false, .int .i64 0, .int .u8 0, .int .u8 0, .int .u8 0, .int .u8 0, .int .u8 0, .int .u8 0, .int .u8 0, .int .u8 0] 26) := ⟨_, rfl⟩
              rw [← hw]
              have xa : Ext wD50 wL := by rw [hw]; exact (Ext.refl _).alloc _
              have kg : (World.heap wL)[(World.heap wD50).size]? = some (.cells #[.int .u32 0, .bool false, .int .i64 0, .int .u8 0, .int .u8 0, .int .u8 0, .int .u8 0, .int .u8 0, .int .u8 0, .int .u8 0, .int .u8 0] 26) := by rw [hw]; exact heap_alloc_new _ _
              have gle := zz0.size
              clear hw
              refine hK.out _ _ xa (fun hHeld => ?_)
              clear hK K
              refine wpAnyH_imp (S' := fun W => World.grownBy wL W (some (World.heap wD50).size)) (fun W h => Ext.of_grown xa h (fun k e => by cases e; exact Nat.le_refl _)) _ _ _ _ ?_
              replace hHeld := World.grownBy.refl wL (some (World.heap wD50).size)
              have zz1 := zz0.trans xa
              refine wpAnyH_ready (rs := [5]) (by kernel_rfl) (by simp) (AllReadyH.cons rfl (fun K hK => ?_) AllReadyH.nil)
              go_simp
              go_wp2_with (go_at_call 16; (with_reducible refine (bytes_no _ _ _ _ _ _ _ _ _ _ _ _ hnm.out).mono ?_); rintro e w5 ⟨rfl, x5⟩)
              refine hK.out _ _ (World.grownBy_ext x5) (fun hHeld => ?_)
              clear hK K
              refine wpAnyH_imp (S' := fun W => World.grownBy w5 W (some (World.heap wD50).size)) (fun W h => World.grownBy_trans (World.grownBy_ext x5) h) _ _ _ _ ?_
              replace hHeld := World.grownBy.refl w5 (some (World.heap wD50).size)
              have kg := (x5.block _ (blk_lt kg)).trans kg
              have zz2 := zz1.trans x5
              refine wpAnyH_ready (rs := [6]) (by kernel_rfl) (by simp) (AllReadyH.cons rfl (fun K hK => ?_) AllReadyH.nil)
              go_simp
              go_wp2_with (go_at_call 10; (with_reducible refine (make_any _ _ _ _ _ [] _ Rd.nil hid'.out (by decide)).mono ?_); rintro e w6 ⟨y0, y1, y2, y3, y4, y5, y6, y7, hy, rfl, x6⟩; go_must (obtain ⟨rfl, rfl, rfl, rfl, rfl, rfl, rfl, rfl⟩ : 0 = y0 ∧ 0 = y1 ∧ 0 = y2 ∧ 0 = y3 ∧ 0 = y4 ∧ 0 = y5 ∧ 0 = y6 ∧ 0 = y7 := (by simpa [padZ] using hy)); clear hy)
              refine hK.out _ _ (World.grownBy_ext x6) (fun hHeld => ?_)
              clear hK K
              refine wpAnyH_imp (S' := fun W => World.grownBy w6 W (some (World.heap wD50).size)) (fun W h => World.grownBy_trans (World.grownBy_ext x6) h) _ _ _ _ ?_
              replace hHeld := World.grownBy.refl w6 (some (World.heap wD50).size)
              have kg := (x6.block _ (blk_lt kg)).trans kg
              have zz3 := zz2.trans x6
              refine wpAnyH_take (i := 7) (oi := { dst := some 51, op := Op.move (Operand.tmp 58), type := 28, pos := "law.go:38", after := #[{ on := 6, ground := Ground.data }], guard := none }) (v := ?vv64_5_7) rfl (by kernel_rfl) (by kernel_rfl) (by kernel_rfl) (fun _ _ _ h => h) (Or.inl ⟨by rfl, ?yy64_5_7⟩) hHeld ?_
              case yy64_5_7 => (intro W hx; go_simp; try with_reducible rfl)
              simp only [Act.put, List.setIfInBounds_toArray, List.set_cons_zero, List.set_cons_succ]
              refine wpAnyH_take (i := 8) (oi := { dst := some 59, op := Op.extract (Operand.tmp 51) 0, type := 26, pos := "law.go:38", after := #[{ on := 7, ground := Ground.data }], guard := none }) (v := ?vv65_5_8) rfl (by kernel_rfl) (by kernel_rfl) (by kernel_rfl) (fun _ _ _ h => h) (Or.inl ⟨by rfl, ?yy65_5_8⟩) hHeld ?_
              case yy65_5_8 => (intro W hx; go_simp; try with_reducible rfl)
              simp only [Act.put, List.setIfInBounds_toArray, List.set_cons_zero, List.set_cons_succ]
              refine wpAnyH_take (i := 9) (oi := { dst := some 60, op := Op.extract (Operand.tmp 51) 1, type := 27, pos := "law.go:38", after := #[{ on := 7, ground := Ground.data }, { on := 11, ground := Ground.gcOnly Departure.lateStores }], guard := none }) (v := ?vv66_5_9) rfl (by kernel_rfl) (by kernel_rfl) (by kernel_rfl) (fun _ _ _ h => h) (Or.inl ⟨by rfl, ?yy66_5_9⟩) hHeld ?_
              case yy66_5_9 => (intro W hx; go_simp; try with_reducible rfl)
              simp only [Act.put, List.setIfInBounds_toArray, List.set_cons_zero, List.set_cons_succ]
              refine wpAnyH_ready (rs := [11]) (by kernel_rfl) (by simp) (AllReadyH.cons rfl (fun K hK => ?_) AllReadyH.nil)
              rw [if_pos (by rfl)]
              refine wp_strow (o := { dst := none, op := Op.store 26 (Operand.tmp 12) (Operand.tmp 59), type := 0, pos := "law.go:38", after := #[{ on := 10, ground := Ground.data }, { on := 8, ground := Ground.data }, { on := 6, ground := Ground.chain }, { on := 0, ground := Ground.phase }, { on := 1, ground := Ground.phase }, { on := 2, ground := Ground.phase }, { on := 3, ground := Ground.phase }, { on := 4, ground := Ground.phase }, { on := 5, ground := Ground.phase }, { on := 6, ground := Ground.phase }, { on := 7, ground := Ground.phase }, { on := 8, ground := Ground.phase }, { on := 9, ground := Ground.textOnly Departure.lateStores }, { on := 10, ground := Ground.phase }], guard := none }) _ _ _ rfl kg rfl rfl (by kernel_rfl) rfl (by simp [Value.oneCell']) ?_
              clear kg
              intro wS kg xg
              simp only [Act.put]
              refine hK.out _ _ xg (fun hHeld => ?_)
              clear hK K
              refine wpAnyH_imp (S' := fun W => World.grownBy wS W (some (World.heap wD50).size)) (fun W h => World.grownBy_trans xg h) _ _ _ _ ?_
              replace hHeld := World.grownBy.refl wS (some (World.heap wD50).size)
              have zz4 := Ext.of_grown zz3 xg (fun k e => by cases e; exact gle)
              refine wpAnyH_take (i := 12) (oi := { dst := some 13, op := Op.assign (Operand.tmp 60), type := 27, pos := "law.go:38", after := #[{ on := 9, ground := Ground.data }, { on := 11, ground := Ground.chain }, { on := 0, ground := Ground.phase }, { on := 1, ground := Ground.phase }, { on := 2, ground := Ground.phase }, { on := 3, ground := Ground.phase }, { on := 4, ground := Ground.phase }, { on := 5, ground := Ground.phase }, { on := 6, ground := Ground.phase }, { on := 7, ground := Ground.phase }, { on := 8, ground := Ground.phase }, { on := 9, ground := Ground.phase }, { on := 10, ground := Ground.phase }, { on := 11, ground := Ground.phase }], guard := none }) (v := ?vv67_5_12) rfl (by kernel_rfl) (by kernel_rfl) (by kernel_rfl) (fun _ _ _ h => h) (Or.inl ⟨by rfl, ?yy67_5_12⟩) hHeld ?_
              case yy67_5_12 => (intro W hx; go_simp; try with_reducible rfl)
              simp only [Act.put, List.setIfInBounds_toArray, List.set_cons_zero, List.set_cons_succ]
              refine wpAnyH_done (by kernel_rfl) ?_ _
              have zend := zz4
              have kend := Lib.hid kg
              clear kg
              go_wp2
              go_meet
              case rel => exact ⟨.inr (.inl ⟨hnm.out, hid'.out, rfl, _, rfl, kend.out⟩), zend⟩
          · have hid' := Lib.hid (show idsI gext ≤ gid by omega); clear hid
            have hnm := Lib.hid (show mayB gid gext L [b0, b1, b2, b3, b4, b5, b6, b7] = false by simpa using hm)
            clear hm
            refine wp_region_held_drew (S := Ext wB) (by kernel_rfl) ((Ext.refl _).drew) (fun hHeld => ?_)
            obtain ⟨wD68, hwD⟩ : ∃ V, V = World.drew wB := ⟨_, rfl⟩
            rw [← hwD]
            clear hHeld
            have zz0 : Ext wB wD68 := by rw [hwD]; exact (Ext.refl _).drew
            clear hwD
            refine wpAnyH_imp (S' := Ext wD68) (fun W h => Ext.trans zz0 h) _ _ _ _ ?_
            have hHeld := Ext.refl wD68
            refine wpAnyH_take (i := 0) (oi := { dst := some 52, op := Op.fieldAddr 26 (Operand.tmp 7) 0, type := 0, pos := "law.go:38", after := #[], guard := none }) (v := ?vv69_5_0) rfl (by kernel_rfl) (by kernel_rfl) (by kernel_rfl) (fun _ _ _ h => h) (Or.inl ⟨by rfl, ?yy69_5_0⟩) hHeld ?_
            case yy69_5_0 => (intro W hx; go_simp; try with_reducible rfl)
            simp only [Act.put, List.setIfInBounds_toArray, List.set_cons_zero, List.set_cons_succ]
            refine wpAnyH_take (i := 1) (oi := { dst := some 53, op := Op.load 22 (Operand.tmp 52), type := 22, pos := "law.go:38", after := #[{ on := 0, ground := Ground.data }], guard := none }) (v := ?vv70_5_1) rfl (by kernel_rfl) (by kernel_rfl) (by kernel_rfl) (fun _ _ _ h => h) (Or.inl ⟨by rfl, ?yy70_5_1⟩) hHeld ?_
            case yy70_5_1 => (intro W hx; have hz := zz0.trans hx; obtain ⟨f0, f1, f2, f3, f4, f5, f6, f7, f8, f9, fa⟩ := cells11 ((hz.block _ (blk_lt Kg)).trans Kg); go_simp; try with_reducible rfl)
            simp only [Act.put, List.setIfInBounds_toArray, List.set_cons_zero, List.set_cons_succ]
            refine wpAnyH_take (i := 2) (oi := { dst := some 54, op := Op.fieldAddr 26 (Operand.tmp 7) 1, type := 0, pos := "law.go:38", after := #[], guard := none }) (v := ?vv71_5_2) rfl (by kernel_rfl) (by kernel_rfl) (by kernel_rfl) (fun _ _ _ h => h) (Or.inl ⟨by rfl, ?yy71_5_2⟩) hHeld ?_
            case yy71_5_2 => (intro W hx; go_simp; try with_reducible rfl)
            simp only [Act.put, List.setIfInBounds_toArray, List.set_cons_zero, List.set_cons_succ]
            refine wpAnyH_take (i := 3) (oi := { dst := some 55, op := Op.load 4 (Operand.tmp 54), type := 4, pos := "law.go:38", after := #[{ on := 2, ground := Ground.data }], guard := none }) (v := ?vv72_5_3) rfl (by kernel_rfl) (by kernel_rfl) (by kernel_rfl) (fun _ _ _ h => h) (Or.inl ⟨by rfl, ?yy72_5_3⟩) hHeld ?_
            case yy72_5_3 => (intro W hx; have hz := zz0.trans hx; obtain ⟨f0, f1, f2, f3, f4, f5, f6, f7, f8, f9, fa⟩ := cells11 ((hz.block _ (blk_lt Kg)).trans Kg); go_simp; try with_reducible rfl)
            simp only [Act.put, List.setIfInBounds_toArray, List.set_cons_zero, List.set_cons_succ]
            refine wpAnyH_take (i := 4) (oi := { dst := some 56, op := Op.load 26 (Operand.tmp 7), type := 26, pos := "law.go:38", after := #[], guard := none }) (v := ?vv73_5_4) rfl (by kernel_rfl) (by kernel_rfl) (by kernel_rfl) (fun _ _ _ h => h) (Or.inl ⟨by rfl, ?yy73_5_4⟩) hHeld ?_
            case yy73_5_4 => (intro W hx; have hz := zz0.trans hx; obtain ⟨f0, f1, f2, f3, f4, f5, f6, f7, f8, f9, fa⟩ := cells11 ((hz.block _ (blk_lt Kg)).trans Kg); go_simp; try with_reducible rfl)
            simp only [Act.put, List.setIfInBounds_toArray, List.set_cons_zero, List.set_cons_succ]
            refine wpAnyH_ready (rs := [5, 10]) (by kernel_rfl) (by simp) (AllReadyH.cons rfl (fun K hK => ?_) (AllReadyH.cons rfl (fun K hK => ?_) AllReadyH.nil))
            · have tok := True.intro
              go_simp
              go_wp2_with (go_at_call 16; (with_reducible refine (bytes_no _ _ _ _ _ _ _ _ _ _ _ _ hnm.out).mono ?_); rintro e w5 ⟨rfl, x5⟩)
              refine hK.out _ _ x5 (fun hHeld => ?_)
              clear hK K
              refine wpAnyH_imp (S' := Ext w5) (fun W h => Ext.trans x5 h) _ _ _ _ ?_
              replace hHeld := Ext.refl w5
              have zz1 := zz0.trans x5
              refine wpAnyH_ready (rs := [6, 10]) (by kernel_rfl) (by simp) (AllReadyH.cons rfl (fun K hK => ?_) (AllReadyH.cons rfl (fun K hK => ?_) AllReadyH.nil))
              · have tok := True.intro
                go_simp
                go_wp2_with (go_at_call 10; (with_reducible refine (make_no1 _ _ _ _ _ _ hid'.out).mono ?_); rintro e w6 ⟨rfl, x6⟩)
                refine hK.out _ _ x6 (fun hHeld => ?_)
                clear hK K
                refine wpAnyH_imp (S' := Ext w6) (fun W h => Ext.trans x6 h) _ _ _ _ ?_
                replace hHeld := Ext.refl w6
                have zz2 := zz1.trans x6
                refine wpAnyH_take (i := 7) (oi := { dst := some 51, op := Op.move (Operand.tmp 58), type := 28, pos := "law.go:38", after := #[{ on := 6, ground := Ground.data }], guard := none }) (v := ?vv74_5_7) rfl (by kernel_rfl) (by kernel_rfl) (by kernel_rfl) (fun _ _ _ h => h) (Or.inl ⟨by rfl, ?yy74_5_7⟩) hHeld ?_
                case yy74_5_7 => (intro W hx; go_simp; try with_reducible rfl)
                simp only [Act.put, List.setIfInBounds_toArray, List.set_cons_zero, List.set_cons_succ]
                refine wpAnyH_take (i := 8) (oi := { dst := some 59, op := Op.extract (Operand.tmp 51) 0, type := 26, pos := "law.go:38", after := #[{ on := 7, ground := Ground.data }], guard := none }) (v := ?vv75_5_8) rfl (by kernel_rfl) (by kernel_rfl) (by kernel_rfl) (fun _ _ _ h => h) (Or.inl ⟨by rfl, ?yy75_5_8⟩) hHeld ?_
                case yy75_5_8 => (intro W hx; go_simp; try with_reducible rfl)
                simp only [Act.put, List.setIfInBounds_toArray, List.set_cons_zero, List.set_cons_succ]
                refine wpAnyH_take (i := 9) (oi := { dst := some 60, op := Op.extract (Operand.tmp 51) 1, type := 27, pos := "law.go:38", after := #[{ on := 7, ground := Ground.data }, { on := 11, ground := Ground.gcOnly Departure.lateStores }], guard := none }) (v := ?vv76_5_9) rfl (by kernel_rfl) (by kernel_rfl) (by kernel_rfl) (fun _ _ _ h => h) (Or.inl ⟨by rfl, ?yy76_5_9⟩) hHeld ?_
                case yy76_5_9 => (intro W hx; go_simp; try with_reducible rfl)
                simp only [Act.put, List.setIfInBounds_toArray, List.set_cons_zero, List.set_cons_succ]
                refine wpAnyH_ready (rs := [10]) (by kernel_rfl) (by simp) (AllReadyH.cons rfl (fun K hK => ?_) AllReadyH.nil)
                go_simp
                obtain ⟨wL, hw⟩ : ∃ V, V = World.alloc w6 (.cells #[.int .u32 0, .bool false, .int .i64 0, .int .u8 0, .int .u8 0, .int .u8 0, .int .u8 0, .int .u8 0, .int .u8 0, .int .u8 0, .int .u8 0] 26) := ⟨_, rfl⟩
                rw [← hw]
                have xa : Ext w6 wL := by rw [hw]; exact (Ext.refl _).alloc _
                have kg : (World.heap wL)[(World.heap w6).size]? = some (.cells #[.int .u32 0, .bool false, .int .i64 0, .int .u8 0, .int .u8 0, .int .u8 0, .int .u8 0, .int .u8 0, .int .u8 0, .int .u8 0, .int .u8 0] 26) := by rw [hw]; exact heap_alloc_new _ _
                have gle := zz2.size
                clear hw
                refine hK.out _ _ xa (fun hHeld => ?_)
                clear hK K
                refine wpAnyH_imp (S' := fun W => World.grownBy wL W (some (World.heap w6).size)) (fun W h => Ext.of_grown xa h (fun k e => by cases e; exact Nat.le_refl _)) _ _ _ _ ?_
                replace hHeld := World.grownBy.refl wL (some (World.heap w6).size)
                have zz3 := zz2.trans xa
                refine wpAnyH_ready (rs := [11]) (by kernel_rfl) (by simp) (AllReadyH.cons rfl (fun K hK => ?_) AllReadyH.nil)
                rw [if_pos (by rfl)]
                refine wp_strow (o := { dst := none, op := Op.store 26 (Operand.tmp 12) (Operand.tmp 59), type := 0, pos := "law.go:38", after := #[{ on := 10, ground := Ground.data }, { on := 8, ground := Ground.data }, { on := 6, ground := Ground.chain }, { on := 0, ground := Ground.phase }, { on := 1, ground := Ground.phase }, { on := 2, ground := Ground.phase }, { on := 3, ground := Ground.phase }, { on := 4, ground := Ground.phase }, { on := 5, ground := Ground.phase }, { on := 6, ground := Ground.phase }, { on := 7, ground := Ground.phase }, { on := 8, ground := Ground.phase }, { on := 9, ground := Ground.textOnly Departure.lateStores }, { on := 10, ground := Ground.phase }], guard := none }) _ _ _ rfl kg rfl rfl (by kernel_rfl) rfl (by simp [Value.oneCell']) ?_
                clear kg
                intro wS kg xg
                simp only [Act.put]
                refine hK.out _ _ xg (fun hHeld => ?_)
                clear hK K
                refine wpAnyH_imp (S' := fun W => World.grownBy wS W (some (World.heap w6).size)) (fun W h => World.grownBy_trans xg h) _ _ _ _ ?_
                replace hHeld := World.grownBy.refl wS (some (World.heap w6).size)
                have zz4 := Ext.of_grown zz3 xg (fun k e => by cases e; exact gle)
                refine wpAnyH_take (i := 12) (oi := { dst := some 13, op := Op.assign (Operand.tmp 60), type := 27, pos := "law.go:38", after := #[{ on := 9, ground := Ground.data }, { on := 11, ground := Ground.chain }, { on := 0, ground := Ground.phase }, { on := 1, ground := Ground.phase }, { on := 2, ground := Ground.phase }, { on := 3, ground := Ground.phase }, { on := 4, ground := Ground.phase }, { on := 5, ground := Ground.phase }, { on := 6, ground := Ground.phase }, { on := 7, ground := Ground.phase }, { on := 8, ground := Ground.phase }, { on := 9, ground := Ground.phase }, { on := 10, ground := Ground.phase }, { on := 11, ground := Ground.phase }], guard := none }) (v := ?vv77_5_12) rfl (by kernel_rfl) (by kernel_rfl) (by kernel_rfl) (fun _ _ _ h => h) (Or.inl ⟨by rfl, ?yy77_5_12⟩) hHeld ?_
                case yy77_5_12 => (intro W hx; go_simp; try with_reducible rfl)
                simp only [Act.put, List.setIfInBounds_toArray, List.set_cons_zero, List.set_cons_succ]
                refine wpAnyH_done (by kernel_rfl) ?_ _
                have zend := zz4
                clear kg
                go_wp2
                go_meet
                case rel => exact ⟨.inl ⟨hnm.out, rfl⟩, zend⟩
              · have tok := True.intro
                go_simp
                obtain ⟨wL, hw⟩ : ∃ V, V = World.alloc w5 (.cells #[.int .u32 0, .bool false, .int .i64 0, .int .u8 0, .int .u8 0, .int .u8 0, .int .u8 0, .int .u8 0, .int .u8 0, .int .u8 0, .int .u8 0] 26) := ⟨_, rfl⟩
                rw [← hw]
                have xa : Ext w5 wL := by rw [hw]; exact (Ext.refl _).alloc _
                have kg : (World.heap wL)[(World.heap w5).size]? = some (.cells #[.int .u32 0, .bool false, .int .i64 0, .int .u8 0, .int .u8 0, .int .u8 0, .int .u8 0, .int .u8 0, .int .u8 0, .int .u8 0, .int .u8 0] 26) := by rw [hw]; exact heap_alloc_new _ _
                have gle := zz1.size
                clear hw
                refine hK.out _ _ xa (fun hHeld => ?_)
                clear hK K
                refine wpAnyH_imp (S' := fun W => World.grownBy wL W (some (World.heap w5).size)) (fun W h => Ext.of_grown xa h (fun k e => by cases e; exact Nat.le_refl _)) _ _ _ _ ?_
                replace hHeld := World.grownBy.refl wL (some (World.heap w5).size)
                have zz2 := zz1.trans xa
                refine wpAnyH_ready (rs := [6]) (by kernel_rfl) (by simp) (AllReadyH.cons rfl (fun K hK => ?_) AllReadyH.nil)
                go_simp
                go_wp2_with (go_at_call 10; (with_reducible refine (make_no1 _ _ _ _ _ _ hid'.out).mono ?_); rintro e w6 ⟨rfl, x6⟩)
                refine hK.out _ _ (World.grownBy_ext x6) (fun hHeld => ?_)
                clear hK K
                refine wpAnyH_imp (S' := fun W => World.grownBy w6 W (some (World.heap w5).size)) (fun W h => World.grownBy_trans (World.grownBy_ext x6) h) _ _ _ _ ?_
                replace hHeld := World.grownBy.refl w6 (some (World.heap w5).size)
                have kg := (x6.block _ (blk_lt kg)).trans kg
                have zz3 := zz2.trans x6
                refine wpAnyH_take (i := 7) (oi := { dst := some 51, op := Op.move (Operand.tmp 58), type := 28, pos := "law.go:38", after := #[{ on := 6, ground := Ground.data }], guard := none }) (v := ?vv78_5_7) rfl (by kernel_rfl) (by kernel_rfl) (by kernel_rfl) (fun _ _ _ h => h) (Or.inl ⟨by rfl, ?yy78_5_7⟩) hHeld ?_
                case yy78_5_7 => (intro W hx; go_simp; try with_reducible rfl)
                simp only [Act.put, List.setIfInBounds_toArray, List.set_cons_zero, List.set_cons_succ]
                refine wpAnyH_take (i := 8) (oi := { dst := some 59, op := Op.extract (Operand.tmp 51) 0, type := 26, pos := "law.go:38", after := #[{ on := 7, ground := Ground.data }], guard := none }) (v := ?vv79_5_8) rfl (by kernel_rfl) (by kernel_rfl) (by kernel_rfl) (fun _ _ _ h => h) (Or.inl ⟨by rfl, ?yy79_5_8⟩) hHeld ?_
                case yy79_5_8 => (intro W hx; go_simp; try with_reducible rfl)
                simp only [Act.put, List.setIfInBounds_toArray, List.set_cons_zero, List.set_cons_succ]
                refine wpAnyH_take (i := 9) (oi := { dst := some 60, op := Op.extract (Operand.tmp 51) 1, type := 27, pos := "law.go:38", after := #[{ on := 7, ground := Ground.data }, { on := 11, ground := Ground.gcOnly Departure.lateStores }], guard := none }) (v := ?vv80_5_9) rfl (by kernel_rfl) (by kernel_rfl) (by kernel_rfl) (fun _ _ _ h => h) (Or.inl ⟨by rfl, ?yy80_5_9⟩) hHeld ?_
                case yy80_5_9 => (intro W hx; go_simp; try with_reducible rfl)
                simp only [Act.put, List.setIfInBounds_toArray, List.set_cons_zero, List.set_cons_succ]
                refine wpAnyH_ready (rs := [11]) (by kernel_rfl) (by simp) (AllReadyH.cons rfl (fun K hK => ?_) AllReadyH.nil)
                rw [if_pos (by rfl)]
                refine wp_strow (o := { dst := none, op := Op.store 26 (Operand.tmp 12) (Operand.tmp 59), type := 0, pos := "law.go:38", after := #[{ on := 10, ground := Ground.data }, { on := 8, ground := Ground.data }, { on := 6, ground := Ground.chain }, { on := 0, ground := Ground.phase }, { on := 1, ground := Ground.phase }, { on := 2, ground := Ground.phase }, { on := 3, ground := Ground.phase }, { on := 4, ground := Ground.phase }, { on := 5, ground := Ground.phase }, { on := 6, ground := Ground.phase }, { on := 7, ground := Ground.phase }, { on := 8, ground := Ground.phase }, { on := 9, ground := Ground.textOnly Departure.lateStores }, { on := 10, ground := Ground.phase }], guard := none }) _ _ _ rfl kg rfl rfl (by kernel_rfl) rfl (by simp [Value.oneCell']) ?_
                clear kg
                intro wS kg xg
                simp only [Act.put]
                refine hK.out _ _ xg (fun hHeld => ?_)
                clear hK K
                refine wpAnyH_imp (S' := fun W => World.grownBy wS W (some (World.heap w5).size)) (fun W h => World.grownBy_trans xg h) _ _ _ _ ?_
                replace hHeld := World.grownBy.refl wS (some (World.heap w5).size)
                have zz4 := Ext.of_grown zz3 xg (fun k e => by cases e; exact gle)
                refine wpAnyH_take (i := 12) (oi := { dst := some 13, op := Op.assign (Operand.tmp 60), type := 27, pos := "law.go:38", after := #[{ on := 9, ground := Ground.data }, { on := 11, ground := Ground.chain }, { on := 0, ground := Ground.phase }, { on := 1, ground := Ground.phase }, { on := 2, ground := Ground.phase }, { on := 3, ground := Ground.phase }, { on := 4, ground := Ground.phase }, { on := 5, ground := Ground.phase }, { on := 6, ground := Ground.phase }, { on := 7, ground := Ground.phase }, { on := 8, ground := Ground.phase }, { on := 9, ground := Ground.phase }, { on := 10, ground := Ground.phase }, { on := 11, ground := Ground.phase }], guard := none }) (v := ?vv81_5_12) rfl (by kernel_rfl) (by kernel_rfl) (by kernel_rfl) (fun _ _ _ h => h) (Or.inl ⟨by rfl, ?yy81_5_12⟩) hHeld ?_
                case yy81_5_12 => (intro W hx; go_simp; try with_reducible rfl)
                simp only [Act.put, List.setIfInBounds_toArray, List.set_cons_zero, List.set_cons_succ]
                refine wpAnyH_done (by kernel_rfl) ?_ _
                have zend := zz4
                clear kg
                go_wp2
                go_meet
                case rel => exact ⟨.inl ⟨hnm.out, rfl⟩, zend⟩
            · have tok := True.intro
              go_simp
              obtain ⟨wL, hw⟩ : ∃ V, V = World.alloc wD68 (.cells #[.int .u32 0, .bool false, .int .i64 0, .int .u8 0, .int .u8 0, .int .u8 0, .int .u8 0, .int .u8 0, .int .u8 0, .int .u8 0, .int .u8 0] 26) := ⟨_, rfl⟩
              rw [← hw]
              have xa : Ext wD68 wL := by rw [hw]; exact (Ext.refl _).alloc _
              have kg : (World.heap wL)[(World.heap wD68).size]? = some (.cells #[.int .u32 0, .bool false, .int .i64 0, .int .u8 0, .int .u8 0, .int .u8 0, .int .u8 0, .int .u8 0, .int .u8 0, .int .u8 0, .int .u8 0] 26) := by rw [hw]; exact heap_alloc_new _ _
              have gle := zz0.size
              clear hw
              refine hK.out _ _ xa (fun hHeld => ?_)
              clear hK K
              refine wpAnyH_imp (S' := fun W => World.grownBy wL W (some (World.heap wD68).size)) (fun W h => Ext.of_grown xa h (fun k e => by cases e; exact Nat.le_refl _)) _ _ _ _ ?_
              replace hHeld := World.grownBy.refl wL (some (World.heap wD68).size)
              have zz1 := zz0.trans xa
              refine wpAnyH_ready (rs := [5]) (by kernel_rfl) (by simp) (AllReadyH.cons rfl (fun K hK => ?_) AllReadyH.nil)
              go_simp
              go_wp2_with (go_at_call 16; (with_reducible refine (bytes_no _ _ _ _ _ _ _ _ _ _ _ _ hnm.out).mono ?_); rintro e w5 ⟨rfl, x5⟩)
              refine hK.out _ _ (World.grownBy_ext x5) (fun hHeld => ?_)
              clear hK K
              refine wpAnyH_imp (S' := fun W => World.grownBy w5 W (some (World.heap wD68).size)) (fun W h => World.grownBy_trans (World.grownBy_ext x5) h) _ _ _ _ ?_
              replace hHeld := World.grownBy.refl w5 (some (World.heap wD68).size)
              have kg := (x5.block _ (blk_lt kg)).trans kg
              have zz2 := zz1.trans x5
              refine wpAnyH_ready (rs := [6]) (by kernel_rfl) (by simp) (AllReadyH.cons rfl (fun K hK => ?_) AllReadyH.nil)
              go_simp
              go_wp2_with (go_at_call 10; (with_reducible refine (make_no1 _ _ _ _ _ _ hid'.out).mono ?_); rintro e w6 ⟨rfl, x6⟩)
              refine hK.out _ _ (World.grownBy_ext x6) (fun hHeld => ?_)
              clear hK K
              refine wpAnyH_imp (S' := fun W => World.grownBy w6 W (some (World.heap wD68).size)) (fun W h => World.grownBy_trans (World.grownBy_ext x6) h) _ _ _ _ ?_
              replace hHeld := World.grownBy.refl w6 (some (World.heap wD68).size)
              have kg := (x6.block _ (blk_lt kg)).trans kg
              have zz3 := zz2.trans x6
              refine wpAnyH_take (i := 7) (oi := { dst := some 51, op := Op.move (Operand.tmp 58), type := 28, pos := "law.go:38", after := #[{ on := 6, ground := Ground.data }], guard := none }) (v := ?vv82_5_7) rfl (by kernel_rfl) (by kernel_rfl) (by kernel_rfl) (fun _ _ _ h => h) (Or.inl ⟨by rfl, ?yy82_5_7⟩) hHeld ?_
              case yy82_5_7 => (intro W hx; go_simp; try with_reducible rfl)
              simp only [Act.put, List.setIfInBounds_toArray, List.set_cons_zero, List.set_cons_succ]
              refine wpAnyH_take (i := 8) (oi := { dst := some 59, op := Op.extract (Operand.tmp 51) 0, type := 26, pos := "law.go:38", after := #[{ on := 7, ground := Ground.data }], guard := none }) (v := ?vv83_5_8) rfl (by kernel_rfl) (by kernel_rfl) (by kernel_rfl) (fun _ _ _ h => h) (Or.inl ⟨by rfl, ?yy83_5_8⟩) hHeld ?_
              case yy83_5_8 => (intro W hx; go_simp; try with_reducible rfl)
              simp only [Act.put, List.setIfInBounds_toArray, List.set_cons_zero, List.set_cons_succ]
              refine wpAnyH_take (i := 9) (oi := { dst := some 60, op := Op.extract (Operand.tmp 51) 1, type := 27, pos := "law.go:38", after := #[{ on := 7, ground := Ground.data }, { on := 11, ground := Ground.gcOnly Departure.lateStores }], guard := none }) (v := ?vv84_5_9) rfl (by kernel_rfl) (by kernel_rfl) (by kernel_rfl) (fun _ _ _ h => h) (Or.inl ⟨by rfl, ?yy84_5_9⟩) hHeld ?_
              case yy84_5_9 => (intro W hx; go_simp; try with_reducible rfl)
              simp only [Act.put, List.setIfInBounds_toArray, List.set_cons_zero, List.set_cons_succ]
              refine wpAnyH_ready (rs := [11]) (by kernel_rfl) (by simp) (AllReadyH.cons rfl (fun K hK => ?_) AllReadyH.nil)
              rw [if_pos (by rfl)]
              refine wp_strow (o := { dst := none, op := Op.store 26 (Operand.tmp 12) (Operand.tmp 59), type := 0, pos := "law.go:38", after := #[{ on := 10, ground := Ground.data }, { on := 8, ground := Ground.data }, { on := 6, ground := Ground.chain }, { on := 0, ground := Ground.phase }, { on := 1, ground := Ground.phase }, { on := 2, ground := Ground.phase }, { on := 3, ground := Ground.phase }, { on := 4, ground := Ground.phase }, { on := 5, ground := Ground.phase }, { on := 6, ground := Ground.phase }, { on := 7, ground := Ground.phase }, { on := 8, ground := Ground.phase }, { on := 9, ground := Ground.textOnly Departure.lateStores }, { on := 10, ground := Ground.phase }], guard := none }) _ _ _ rfl kg rfl rfl (by kernel_rfl) rfl (by simp [Value.oneCell']) ?_
              clear kg
              intro wS kg xg
              simp only [Act.put]
              refine hK.out _ _ xg (fun hHeld => ?_)
              clear hK K
              refine wpAnyH_imp (S' := fun W => World.grownBy wS W (some (World.heap wD68).size)) (fun W h => World.grownBy_trans xg h) _ _ _ _ ?_
              replace hHeld := World.grownBy.refl wS (some (World.heap wD68).size)
              have zz4 := Ext.of_grown zz3 xg (fun k e => by cases e; exact gle)
              refine wpAnyH_take (i := 12) (oi := { dst := some 13, op := Op.assign (Operand.tmp 60), type := 27, pos := "law.go:38", after := #[{ on := 9, ground := Ground.data }, { on := 11, ground := Ground.chain }, { on := 0, ground := Ground.phase }, { on := 1, ground := Ground.phase }, { on := 2, ground := Ground.phase }, { on := 3, ground := Ground.phase }, { on := 4, ground := Ground.phase }, { on := 5, ground := Ground.phase }, { on := 6, ground := Ground.phase }, { on := 7, ground := Ground.phase }, { on := 8, ground := Ground.phase }, { on := 9, ground := Ground.phase }, { on := 10, ground := Ground.phase }, { on := 11, ground := Ground.phase }], guard := none }) (v := ?vv85_5_12) rfl (by kernel_rfl) (by kernel_rfl) (by kernel_rfl) (fun _ _ _ h => h) (Or.inl ⟨by rfl, ?yy85_5_12⟩) hHeld ?_
              case yy85_5_12 => (intro W hx; go_simp; try with_reducible rfl)
              simp only [Act.put, List.setIfInBounds_toArray, List.set_cons_zero, List.set_cons_succ]
              refine wpAnyH_done (by kernel_rfl) ?_ _
              have zend := zz4
              clear kg
              go_wp2
              go_meet
              case rel => exact ⟨.inl ⟨hnm.out, rfl⟩, zend⟩
      case rest =>
        obtain ⟨hm2, xe⟩ := hcut
        obtain ⟨wC, hwC⟩ : ∃ z : World, z = wc := ⟨_, rfl⟩
        subst hwC
        have Kh := (xe.block _ (blk_lt Kg)).trans Kg
        have heq := fun d W => run_eq8 d W
        rcases hm2 with ⟨hm, rfl⟩ | ⟨hm, hid, rfl, g, rfl, K2⟩ | ⟨hm, rfl, g, rfl, K2⟩
        all_goals (have HM := Lib.hid hm; clear hm)
        · obtain ⟨f0, f1, f2, f3, f4, f5, f6, f7, f8, f9, fa⟩ := cells11 Kh
          go_wp2_with (go_at_call 14; (with_reducible refine (may_any _ _ _ _ _ _ _ _ _ _ _ _).mono ?_); rintro e w4 ⟨rfl, x4⟩; rw [HM.out])
          go_ret
          exact ⟨by simp, vd.trans (xe.trans x4)⟩
        · have hne := Lib.hid (may_zero hid HM.out)
          obtain ⟨f0, f1, f2, f3, f4, f5, f6, f7, f8, f9, fa⟩ := cells11 Kh
          go_wp2_with (go_at_call 14; (with_reducible refine (may_any _ _ _ _ _ _ _ _ _ _ _ _).mono ?_); rintro e w4 ⟨rfl, x4⟩; rw [HM.out]; obtain ⟨f0, f1, f2, f3, f4, f5, f6, f7, f8, f9, fa⟩ := cells11 ((x4.block _ (blk_lt Kh)).trans Kh); obtain ⟨g0, g1, g2, g3, g4, g5, g6, g7, g8, g9, ga⟩ := cells11 ((x4.block _ (blk_lt K2)).trans K2))
          · go_ret
            exact ⟨by simp [*], vd.trans (xe.trans x4)⟩
          · exact absurd (hne.out ‹_›) ‹_›
          · go_ret
            exact ⟨by simp [*], vd.trans (xe.trans x4)⟩
        · obtain ⟨f0, f1, f2, f3, f4, f5, f6, f7, f8, f9, fa⟩ := cells11 Kh
          go_wp2_with (go_at_call 14; (with_reducible refine (may_any _ _ _ _ _ _ _ _ _ _ _ _).mono ?_); rintro e w4 ⟨rfl, x4⟩; rw [HM.out]; obtain ⟨f0, f1, f2, f3, f4, f5, f6, f7, f8, f9, fa⟩ := cells11 ((x4.block _ (blk_lt Kh)).trans Kh); obtain ⟨g0, g1, g2, g3, g4, g5, g6, g7, g8, g9, ga⟩ := cells11 ((x4.block _ (blk_lt K2)).trans K2))
          go_ret
          exact ⟨by simp, vd.trans (xe.trans x4)⟩
end Go.Proofs.Ytafdbhajngoafaa
