import Derived.Test.YtafdbhajngoafaaQ
set_option linter.unusedVariables false
namespace Go.Proofs.Ytafdbhajngoafaa
open Go.RowKit
theorem padW_may {id : Int} {ext : Bool} {L : Nat} {bs : List Int} (x : Int) (hl : bs.length = 8) (h : mayB id ext L bs = true) : mayB id ext (8 : Nat) (padW bs L x) = true := by
  simp [mayB] at h
  obtain ⟨⟨h1, h2⟩, _⟩ := h
  have e : (padW bs L x).drop 8 = [] := List.drop_eq_nil_of_le (by simp [padW]; omega)
  simp [mayB, h1, e]
theorem padW_take (bs : List Int) (L : Nat) (x : Int) (hl : bs.length = 8) (h : L ≤ 8) : (padW bs L x).take L = bs.take L := by
  unfold padW
  rw [List.take_append_of_le_length (by simp; omega), List.take_take, Nat.min_self]
theorem padW_drop (bs : List Int) (L : Nat) (x : Int) (hl : bs.length = 8) (h : L ≤ 8) : (padW bs L x).drop L = List.replicate (8 - L) x := by
  unfold padW
  rw [List.drop_append]
  have e : (bs.take L).length = L := by simp; omega
  simp [e]
theorem padW_byts {bs : List Int} {L : Nat} {x : Int} (h : Byts bs) (x0 : 0 ≤ x) (x1 : x < 256) : Byts (padW bs L x) := by
  intro b hb
  rcases List.mem_append.1 hb with h' | h'
  · exact h b (List.mem_of_mem_take h')
  · have := List.eq_of_mem_replicate h'; omega
theorem drop_get {ys : List Int} {L n k : Nat} {x : Int} (h : ys.drop L = List.replicate n x) (hk : k < n) : ys.getD (L + k) 0 = x := by
  have : (ys.drop L)[k]? = some x := by rw [h]; simp [hk]
  rw [List.getElem?_drop] at this
  simp [List.getD, this]
theorem padW_8 {y0 y1 y2 y3 y4 y5 y6 y7 : Int} (o : Int) : padW [y0, y1, y2, y3, y4, y5, y6, y7] 8 o = [y0, y1, y2, y3, y4, y5, y6, y7] := by simp [padW]
set_option maxHeartbeats 1000000 in
theorem pads_no (w : World) (id : Int) (ext : Bool) (len b0 b1 b2 b3 b4 b5 b6 b7 : Int) (x o : Int) (hm : mayB id ext len [b0, b1, b2, b3, b4, b5, b6, b7] = false) :
    Calls Try.prog 7 #[.agg #[.int .u32 id, .bool ext, .int .i64 len, .int .u8 b0, .int .u8 b1, .int .u8 b2, .int .u8 b3, .int .u8 b4, .int .u8 b5, .int .u8 b6, .int .u8 b7], .int .u8 x, .int .u8 o] w fun e w' => e = .returned (.bool true) ∧ Ext w w' := by
  have heq := fun d W => run_eq8 d W
  have HM := Lib.hid hm; clear hm
  go_enter Try.func7, Try.ntmps7
  go_wp2_with (first
    | (go_at_call 13; (with_reducible refine (shown_any _).mono ?_); rintro e w1 ⟨rfl, x1⟩; have K1 := blk_of x1; have HK1 := Lib.hid K1; obtain ⟨f0, f1, f2, f3, f4, f5, f6, f7, f8, f9, fa⟩ := cells11 K1; clear K1)
    | (go_at_call 18; (with_reducible refine (pad_no _ _ _ _ _ _ _ _ _ _ _ _ _ HM.out).mono ?_); rintro e w2 ⟨rfl, x2⟩; clear f0 f1 f2 f3 f4 f5 f6 f7 f8 f9 fa; have K2 := Lib.hid ((x2.block _ (blk_lt HK1.out)).trans HK1.out); obtain ⟨f0, f1, f2, f3, f4, f5, f6, f7, f8, f9, fa⟩ := cells11 K2.out; have z2 := blk_lt K2.out)
    | (go_at_call 14; (with_reducible refine (may_any _ _ _ _ _ _ _ _ _ _ _ _).mono ?_); rintro e w3 ⟨rfl, x3⟩; rw [HM.out]; clear f0 f1 f2 f3 f4 f5 f6 f7 f8 f9 fa; obtain ⟨g0, g1, g2, g3, g4, g5, g6, g7, g8, g9, ga⟩ := cells11 (blk_of x3); obtain ⟨f0, f1, f2, f3, f4, f5, f6, f7, f8, f9, fa⟩ := cells11 ((((Ext.refl _).alloc _).trans x3).block _ (blk_lt K2.out) |>.trans K2.out)))
  go_ret
  exact ⟨by simp, ((Ext.refl _).alloc _).trans (x1.trans (x2.trans (((Ext.refl _).alloc _).trans x3)))⟩
theorem rankM (id : Int) (ext : Bool) (L : Nat) (b0 b1 b2 b3 b4 b5 b6 b7 : Int) (w : World) (hid : 0 ≤ id) (hm : mayB id ext L [b0, b1, b2, b3, b4, b5, b6, b7] = true) :
    Calls Try.prog 20 #[.agg #[.int .u32 id, .bool ext, .int .i64 L, .int .u8 b0, .int .u8 b1, .int .u8 b2, .int .u8 b3, .int .u8 b4, .int .u8 b5, .int .u8 b6, .int .u8 b7]] w fun e w' => e = .returned (.int .u32 (rankI id ext)) ∧ Ext w w' := rank_any id ext L b0 b1 b2 b3 b4 b5 b6 b7 w hid hm
theorem bytes8 (id : Int) (ext : Bool) (b0 b1 b2 b3 b4 b5 b6 b7 : Int) (w : World) (hb : Byts [b0, b1, b2, b3, b4, b5, b6, b7]) (hm : mayB id ext 8 [b0, b1, b2, b3, b4, b5, b6, b7] = true) :
    Calls Try.prog 16 #[.agg #[.int .u32 id, .bool ext, .int .i64 8, .int .u8 b0, .int .u8 b1, .int .u8 b2, .int .u8 b3, .int .u8 b4, .int .u8 b5, .int .u8 b6, .int .u8 b7]] w fun e w' => ∃ A c, e = .returned (.slice A 8 c) ∧ 8 ≤ c ∧ c ≤ maxLen ∧ Ext w w' ∧ Rd w' A 8 [b0, b1, b2, b3, b4, b5, b6, b7] := bytes_any id ext 8 b0 b1 b2 b3 b4 b5 b6 b7 w hb hm
theorem pad8 (id : Int) (ext : Bool) (b0 b1 b2 b3 b4 b5 b6 b7 : Int) (x : Int) (w : World) (hm : mayB id ext 8 [b0, b1, b2, b3, b4, b5, b6, b7] = true) :
    Calls Try.prog 18 #[.agg #[.int .u32 id, .bool ext, .int .i64 8, .int .u8 b0, .int .u8 b1, .int .u8 b2, .int .u8 b3, .int .u8 b4, .int .u8 b5, .int .u8 b6, .int .u8 b7], .int .u8 x] w fun e w' => e = .returned (.agg #[.int .u32 id, .bool ext, .int .i64 8, .int .u8 b0, .int .u8 b1, .int .u8 b2, .int .u8 b3, .int .u8 b4, .int .u8 b5, .int .u8 b6, .int .u8 b7]) ∧ Ext w w' :=
  (pad_any id ext 8 b0 b1 b2 b3 b4 b5 b6 b7 x w hm).mono fun e w' ⟨y0, y1, y2, y3, y4, y5, y6, y7, hy, he, hx⟩ => by
    rw [padW_8] at hy
    obtain ⟨rfl, rfl, rfl, rfl, rfl, rfl, rfl, rfl⟩ : b0 = y0 ∧ b1 = y1 ∧ b2 = y2 ∧ b3 = y3 ∧ b4 = y4 ∧ b5 = y5 ∧ b6 = y6 ∧ b7 = y7 := by simpa using hy
    exact ⟨he, hx⟩
theorem rank8 (id : Int) (ext : Bool) (b0 b1 b2 b3 b4 b5 b6 b7 : Int) (w : World) (hid : 0 ≤ id) (hm : mayB id ext 8 [b0, b1, b2, b3, b4, b5, b6, b7] = true) :
    Calls Try.prog 20 #[.agg #[.int .u32 id, .bool ext, .int .i64 8, .int .u8 b0, .int .u8 b1, .int .u8 b2, .int .u8 b3, .int .u8 b4, .int .u8 b5, .int .u8 b6, .int .u8 b7]] w fun e w' => e = .returned (.int .u32 (rankI id ext)) ∧ Ext w w' := rank_any id ext 8 b0 b1 b2 b3 b4 b5 b6 b7 w hid hm
set_option maxHeartbeats 2000000 in
theorem pads_yes (w : World) (id : Int) (ext : Bool) (L : Nat) (b0 b1 b2 b3 b4 b5 b6 b7 : Int) (i0 : 0 ≤ id) (hb : Byts [b0, b1, b2, b3, b4, b5, b6, b7]) (x o : Int) (x0 : 0 ≤ x) (x1 : x < 256) (hm : mayB id ext L [b0, b1, b2, b3, b4, b5, b6, b7] = true) :
    Calls Try.prog 7 #[.agg #[.int .u32 id, .bool ext, .int .i64 L, .int .u8 b0, .int .u8 b1, .int .u8 b2, .int .u8 b3, .int .u8 b4, .int .u8 b5, .int .u8 b6, .int .u8 b7], .int .u8 x, .int .u8 o] w fun e w' => e = .returned (.bool true) ∧ Ext w w' := by
  have heq := fun d W => run_eq8 d W
  obtain ⟨_, hL8, _⟩ := may_parts hm
  have hL0 : (0 : Int) ≤ L := by omega
  have HM := Lib.hid hm
  have HB := Lib.hid hb
  have M8 : mayB id ext 8 (padW [b0, b1, b2, b3, b4, b5, b6, b7] L x) = true := padW_may x (by simp) hm
  have T8 := padW_take [b0, b1, b2, b3, b4, b5, b6, b7] L x (by simp) (by omega)
  have D8 := padW_drop [b0, b1, b2, b3, b4, b5, b6, b7] L x (by simp) (by omega)
  have B8 := padW_byts (L := L) hb x0 x1
  clear hm hb
  go_enter Try.func7, Try.ntmps7
  go_upto_region 3 with (first
    | (go_at_call 13; (with_reducible refine (shown_any _).mono ?_); rintro e w1 ⟨rfl, x1⟩; have K1 := blk_of x1; have HK1 := Lib.hid K1; obtain ⟨f0, f1, f2, f3, f4, f5, f6, f7, f8, f9, fa⟩ := cells11 K1; clear K1)
    | (go_at_call 18; (with_reducible refine (pad_any _ _ _ _ _ _ _ _ _ _ _ _ _ HM.out).mono ?_); rintro e w2 ⟨y0, y1, y2, y3, y4, y5, y6, y7, hy, rfl, x2⟩; go_must (rw [hy] at M8 T8 D8 B8); clear hy f0 f1 f2 f3 f4 f5 f6 f7 f8 f9 fa))
  obtain ⟨W2, hW2⟩ : ∃ V, V = w2.alloc (.cells (#[.int .u32 id, .bool ext, .int .i64 8, .int .u8 y0, .int .u8 y1, .int .u8 y2, .int .u8 y3, .int .u8 y4, .int .u8 y5, .int .u8 y6, .int .u8 y7]) 26) := ⟨_, rfl⟩
  rw [← hW2]
  have a2 : Ext w2 W2 := by rw [hW2]; exact (Ext.refl _).alloc _
  have KG : W2.heap[w2.heap.size]? = some (.cells (#[.int .u32 id, .bool ext, .int .i64 8, .int .u8 y0, .int .u8 y1, .int .u8 y2, .int .u8 y3, .int .u8 y4, .int .u8 y5, .int .u8 y6, .int .u8 y7]) 26 (0, 0)) := by rw [hW2]; exact heap_alloc_new _ _
  clear hW2
  have vG : Ext w W2 := ((Ext.refl _).alloc _).trans (x1.trans (x2.trans a2))
  have KF : W2.heap[w.heap.size]? = some (.cells (#[.int .u32 id, .bool ext, .int .i64 L, .int .u8 b0, .int .u8 b1, .int .u8 b2, .int .u8 b3, .int .u8 b4, .int .u8 b5, .int .u8 b6, .int .u8 b7]) 26 (0, 0)) := blk_of (x1.trans (x2.trans a2))
  clear HK1 x1 x2 a2
  have M8h := Lib.hid M8
  have T8h := Lib.hid T8
  have D8h := Lib.hid D8
  clear M8 T8 D8
  generalize w2.heap.size = gG at *
  obtain ⟨f0, f1, f2, f3, f4, f5, f6, f7, f8, f9, fa⟩ := cells11 KF
  go_upto_region 6 with (first
    | (go_at_call 14; (with_reducible refine (may_any _ _ _ _ _ _ _ _ _ _ _ _).mono ?_); rintro e w3 ⟨rfl, x3⟩; rw [HM.out]; have K3 := Lib.hid ((x3.block _ (blk_lt KG)).trans KG); obtain ⟨g0, g1, g2, g3, g4, g5, g6, g7, g8, g9, ga⟩ := cells11 K3.out)
    | (go_at_call 16; (with_reducible refine (bytes8 _ _ _ _ _ _ _ _ _ _ _ B8 M8h.out).mono ?_); rintro e w4 ⟨A4, c4, rfl, l4, m4, x4, r4⟩))
  clear f0 f1 f2 f3 f4 f5 f6 f7 f8 f9 fa g0 g1 g2 g3 g4 g5 g6 g7 g8 g9 ga
  have KG4 := (x4.block _ (blk_lt K3.out)).trans K3.out
  have KF4 : w4.heap[w.heap.size]? = some (.cells (#[.int .u32 id, .bool ext, .int .i64 L, .int .u8 b0, .int .u8 b1, .int .u8 b2, .int .u8 b3, .int .u8 b4, .int .u8 b5, .int .u8 b6, .int .u8 b7]) 26 (0, 0)) := ((x3.trans x4).block _ (blk_lt KF)).trans KF
  have v4 : Ext w w4 := vG.trans (x3.trans x4)
  clear K3 x3 x4 KF KG vG
  obtain ⟨bb, off, rfl, hbb, _⟩ := r4.cell (k := 0) (by omega)
  have hlc : (L : Int) ≤ c4 := by omega
  refine wp_region_held_drew (S := Ext w4) (by kernel_rfl) ((Ext.refl _).drew) (fun hHeld => ?_)
  obtain ⟨wC, hwD⟩ : ∃ V, V = World.drew w4 := ⟨_, rfl⟩
  rw [← hwD]
  clear hHeld
  have zz0 : Ext w4 wC := by rw [hwD]; exact (Ext.refl _).drew
  clear hwD
  refine wpAnyH_imp (S' := Ext wC) (fun W h => Ext.trans zz0 h) _ _ _ _ ?_
  have hHeld := Ext.refl wC
  refine wpAnyH_take (i := 0) (oi := { dst := some 27, op := Op.move (Operand.tmp 9), type := 23, pos := "law.go:70", after := #[], guard := none }) (v := ?vv2_6_0) rfl (by kernel_rfl) (by kernel_rfl) (by kernel_rfl) (fun _ _ _ h => h) (Or.inl ⟨by rfl, ?yy2_6_0⟩) hHeld ?_
  case yy2_6_0 => (intro W hx; go_simp; try with_reducible rfl)
  simp only [Act.put, List.setIfInBounds_toArray, List.set_cons_zero, List.set_cons_succ]
  refine wpAnyH_take (i := 1) (oi := { dst := some 28, op := Op.call { callee := Callee.builtin Builtin.len, args := #[Operand.tmp 27], argTypes := #[23] }, type := 3, pos := "law.go:70", after := #[{ on := 0, ground := Ground.data }], guard := none }) (v := ?vv3_6_1) rfl (by kernel_rfl) (by kernel_rfl) (by kernel_rfl) (fun _ _ _ h => h) (Or.inl ⟨by rfl, ?yy3_6_1⟩) hHeld ?_
  case yy3_6_1 => (intro W hx; go_simp; try with_reducible rfl)
  simp only [Act.put, List.setIfInBounds_toArray, List.set_cons_zero, List.set_cons_succ]
  refine wpAnyH_take (i := 2) (oi := { dst := some 29, op := Op.binOp BinOp.neq 3 (Operand.tmp 28) (Operand.const (Value.int IntKind.i64 8)) 3, type := 4, pos := "law.go:70", after := #[{ on := 1, ground := Ground.data }], guard := none }) (v := ?vv4_6_2) rfl (by kernel_rfl) (by kernel_rfl) (by kernel_rfl) (fun _ _ _ h => h) (Or.inl ⟨by rfl, ?yy4_6_2⟩) hHeld ?_
  case yy4_6_2 => (intro W hx; go_simp; try with_reducible rfl)
  simp only [Act.put, List.setIfInBounds_toArray, List.set_cons_zero, List.set_cons_succ]
  refine wpAnyH_take (i := 3) (oi := { dst := some 30, op := Op.move (Operand.tmp 29), type := 4, pos := "law.go:70", after := #[{ on := 2, ground := Ground.data }], guard := none }) (v := ?vv5_6_3) rfl (by kernel_rfl) (by kernel_rfl) (by kernel_rfl) (fun _ _ _ h => h) (Or.inl ⟨by rfl, ?yy5_6_3⟩) hHeld ?_
  case yy5_6_3 => (intro W hx; go_simp; try with_reducible rfl)
  simp only [Act.put, List.setIfInBounds_toArray, List.set_cons_zero, List.set_cons_succ]
  refine wpAnyH_take (i := 4) (oi := { dst := some 31, op := Op.move (Operand.tmp 9), type := 23, pos := "law.go:70", after := #[{ on := 3, ground := Ground.guard }], guard := some (3, false) }) (v := ?vv6_6_4) rfl (by kernel_rfl) (by kernel_rfl) (by kernel_rfl) (fun _ _ _ h => h) (Or.inl ⟨by rfl, ?yy6_6_4⟩) hHeld ?_
  case yy6_6_4 => (intro W hx; go_simp; try with_reducible rfl)
  simp only [Act.put, List.setIfInBounds_toArray, List.set_cons_zero, List.set_cons_succ]
  refine wpAnyH_take (i := 5) (oi := { dst := some 32, op := Op.fieldAddr 26 (Operand.tmp 3) 2, type := 0, pos := "law.go:70", after := #[{ on := 3, ground := Ground.guard }], guard := some (3, false) }) (v := ?vv7_6_5) rfl (by kernel_rfl) (by kernel_rfl) (by kernel_rfl) (fun _ _ _ h => h) (Or.inl ⟨by rfl, ?yy7_6_5⟩) hHeld ?_
  case yy7_6_5 => (intro W hx; go_simp; try with_reducible rfl)
  simp only [Act.put, List.setIfInBounds_toArray, List.set_cons_zero, List.set_cons_succ]
  refine wpAnyH_take (i := 6) (oi := { dst := some 33, op := Op.load 3 (Operand.tmp 32), type := 3, pos := "law.go:70", after := #[{ on := 5, ground := Ground.data }, { on := 3, ground := Ground.guard }], guard := some (3, false) }) (v := ?vv8_6_6) rfl (by kernel_rfl) (by kernel_rfl) (by kernel_rfl) (fun _ _ _ h => h) (Or.inl ⟨by rfl, ?yy8_6_6⟩) hHeld ?_
  case yy8_6_6 => (intro W hx; have hz := zz0.trans hx; obtain ⟨f0, f1, f2, f3, f4, f5, f6, f7, f8, f9, fa⟩ := cells11 ((hz.block _ (blk_lt KF4)).trans KF4); go_simp; try with_reducible rfl)
  simp only [Act.put, List.setIfInBounds_toArray, List.set_cons_zero, List.set_cons_succ]
  refine wpAnyH_take (i := 7) (oi := { dst := some 34, op := Op.slice 23 (Operand.tmp 31) none (some (Operand.tmp 33)) none, type := 23, pos := "law.go:70", after := #[{ on := 4, ground := Ground.data }, { on := 6, ground := Ground.data }, { on := 3, ground := Ground.guard }], guard := some (3, false) }) (v := ?vv9_6_7) rfl (by kernel_rfl) (by kernel_rfl) (by kernel_rfl) (fun _ _ _ h => h) (Or.inl ⟨by rfl, ?yy9_6_7⟩) hHeld ?_
  case yy9_6_7 => (intro W hx; go_simp; try with_reducible rfl)
  simp only [Act.put, List.setIfInBounds_toArray, List.set_cons_zero, List.set_cons_succ]
  refine wpAnyH_take (i := 8) (oi := { dst := some 35, op := Op.convert 23 9 (Operand.tmp 34), type := 9, pos := "law.go:70", after := #[{ on := 7, ground := Ground.data }, { on := 3, ground := Ground.guard }], guard := some (3, false) }) (v := ?vv10_6_8) rfl (by kernel_rfl) (by kernel_rfl) (by kernel_rfl) (fun _ _ _ h => h) (Or.inl ⟨by rfl, ?yy10_6_8⟩) hHeld ?_
  case yy10_6_8 => (intro W hx; have hz := zz0.trans hx; have hs := str (c := c4) ((r4.ext hz).take (k := L) (by omega)); rw [T8h.out] at hs; go_simp; try with_reducible rfl)
  simp only [Act.put, List.setIfInBounds_toArray, List.set_cons_zero, List.set_cons_succ]
  refine wpAnyH_take (i := 9) (oi := { dst := some 36, op := Op.load 26 (Operand.tmp 3), type := 26, pos := "law.go:70", after := #[{ on := 3, ground := Ground.guard }], guard := some (3, false) }) (v := ?vv11_6_9) rfl (by kernel_rfl) (by kernel_rfl) (by kernel_rfl) (fun _ _ _ h => h) (Or.inl ⟨by rfl, ?yy11_6_9⟩) hHeld ?_
  case yy11_6_9 => (intro W hx; have hz := zz0.trans hx; obtain ⟨f0, f1, f2, f3, f4, f5, f6, f7, f8, f9, fa⟩ := cells11 ((hz.block _ (blk_lt KF4)).trans KF4); go_simp; try with_reducible rfl)
  simp only [Act.put, List.setIfInBounds_toArray, List.set_cons_zero, List.set_cons_succ]
  refine wpAnyH_ready (rs := [10]) (by kernel_rfl) (by simp) (AllReadyH.cons rfl (fun K hK => ?_) AllReadyH.nil)
  go_simp
  go_wp2_with (go_at_call 16; (with_reducible refine (bytes_any _ _ _ _ _ _ _ _ _ _ _ _ HB.out HM.out).mono ?_); rintro e w5 ⟨A5, c5, rfl, _, _, x5, r5⟩)
  refine hK.out _ _ x5 (fun hHeld => ?_)
  clear hK K
  refine wpAnyH_imp (S' := Ext w5) (fun W h => Ext.trans x5 h) _ _ _ _ ?_
  replace hHeld := Ext.refl w5
  have zz1 := zz0.trans x5
  refine wpAnyH_take (i := 11) (oi := { dst := some 38, op := Op.convert 23 9 (Operand.tmp 37), type := 9, pos := "law.go:70", after := #[{ on := 10, ground := Ground.data }, { on := 3, ground := Ground.guard }], guard := some (3, false) }) (v := ?vv12_6_11) rfl (by kernel_rfl) (by kernel_rfl) (by kernel_rfl) (fun _ _ _ h => h) (Or.inl ⟨by rfl, ?yy12_6_11⟩) hHeld ?_
  case yy12_6_11 => (intro W hx; have hz := zz1.trans hx; have hs := str (c := c5) (r5.ext hx); go_simp; try with_reducible rfl)
  simp only [Act.put, List.setIfInBounds_toArray, List.set_cons_zero, List.set_cons_succ]
  refine wpAnyH_take (i := 12) (oi := { dst := some 39, op := Op.binOp BinOp.neq 9 (Operand.tmp 35) (Operand.tmp 38) 9, type := 4, pos := "law.go:70", after := #[{ on := 8, ground := Ground.data }, { on := 11, ground := Ground.data }, { on := 3, ground := Ground.guard }], guard := some (3, false) }) (v := ?vv13_6_12) rfl (by kernel_rfl) (by kernel_rfl) (by kernel_rfl) (fun _ _ _ h => h) (Or.inl ⟨by rfl, ?yy13_6_12⟩) hHeld ?_
  case yy13_6_12 => (intro W hx; go_simp; try with_reducible rfl)
  simp only [Act.put, List.setIfInBounds_toArray, List.set_cons_zero, List.set_cons_succ]
  refine wpAnyH_take (i := 13) (oi := { dst := some 40, op := Op.pick (Operand.tmp 30) (Operand.const (Value.bool true)) (Operand.tmp 39), type := 4, pos := "law.go:70", after := #[{ on := 3, ground := Ground.data }, { on := 12, ground := Ground.data }], guard := none }) (v := ?vv14_6_13) rfl (by kernel_rfl) (by kernel_rfl) (by kernel_rfl) (fun _ _ _ h => h) (Or.inl ⟨by rfl, ?yy14_6_13⟩) hHeld ?_
  case yy14_6_13 => (intro W hx; go_simp; try with_reducible rfl)
  simp only [Act.put, List.setIfInBounds_toArray, List.set_cons_zero, List.set_cons_succ]
  refine wpAnyH_done (by kernel_rfl) ?_ _
  have zend := zz1
  have r5' := r4.ext zend
  have v5 := v4.trans zend
  have KG5 := (zend.block _ (blk_lt KG4)).trans KG4
  have KF5 := (zend.block _ (blk_lt KF4)).trans KF4
  clear KG4 KF4 r4 hlc x5 r5 v4 hbb
  have f2 : w5.cell? ⟨w.heap.size, 2, none⟩ = some (.int .i64 L) := blk_cell KF5 rfl
  have hc8 : (8 : Int) ≤ c4 := by omega
  by_cases hcl : c4 = L
  · subst hcl
    obtain rfl : c4 = 8 := by omega
    go_wp2
    go_loop [11, 46] (fun v11 v => v = .int .i64 0) (fun _ _ => 0)
    case atStart => rfl
    case round =>
      subst hrel
      go_upto_region 14 with (fail)
      refine wp_region_held_drew (S := Ext w5) (by kernel_rfl) ((Ext.refl _).drew) (fun hHeld => ?_)
      obtain ⟨wD15, hwD⟩ : ∃ V, V = World.drew w5 := ⟨_, rfl⟩
      rw [← hwD]
      clear hHeld
      have zz0 : Ext w5 wD15 := by rw [hwD]; exact (Ext.refl _).drew
      clear hwD
      refine wpAnyH_imp (S' := Ext wD15) (fun W h => Ext.trans zz0 h) _ _ _ _ ?_
      have hHeld := Ext.refl wD15
      refine wpAnyH_take (i := 0) (oi := { dst := some 54, op := Op.move (Operand.tmp 7), type := 4, pos := "law.go:78", after := #[], guard := none }) (v := ?vv16_14_0) rfl (by kernel_rfl) (by kernel_rfl) (by kernel_rfl) (fun _ _ _ h => h) (Or.inl ⟨by rfl, ?yy16_14_0⟩) hHeld ?_
      case yy16_14_0 => (intro W hx; go_simp; try with_reducible rfl)
      simp only [Act.put, List.setIfInBounds_toArray, List.set_cons_zero, List.set_cons_succ]
      refine wpAnyH_take (i := 1) (oi := { dst := some 55, op := Op.move (Operand.tmp 54), type := 4, pos := "law.go:78", after := #[{ on := 0, ground := Ground.data }], guard := none }) (v := ?vv17_14_1) rfl (by kernel_rfl) (by kernel_rfl) (by kernel_rfl) (fun _ _ _ h => h) (Or.inl ⟨by rfl, ?yy17_14_1⟩) hHeld ?_
      case yy17_14_1 => (intro W hx; go_simp; try with_reducible rfl)
      simp only [Act.put, List.setIfInBounds_toArray, List.set_cons_zero, List.set_cons_succ]
      refine wpAnyH_take (i := 2) (oi := { dst := some 56, op := Op.load 26 (Operand.tmp 8), type := 26, pos := "law.go:78", after := #[{ on := 1, ground := Ground.guard }], guard := some (1, true) }) (v := ?vv18_14_2) rfl (by kernel_rfl) (by kernel_rfl) (by kernel_rfl) (fun _ _ _ h => h) (Or.inl ⟨by rfl, ?yy18_14_2⟩) hHeld ?_
      case yy18_14_2 => (intro W hx; have hz := zz0.trans hx; obtain ⟨f0, f1, f2, f3, f4, f5, f6, f7, f8, f9, fa⟩ := cells11 ((hz.block _ (blk_lt KF5)).trans KF5); obtain ⟨g0, g1, g2, g3, g4, g5, g6, g7, g8, g9, ga⟩ := cells11 ((hz.block _ (blk_lt KG5)).trans KG5); go_simp; try with_reducible rfl)
      simp only [Act.put, List.setIfInBounds_toArray, List.set_cons_zero, List.set_cons_succ]
      refine wpAnyH_ready (rs := [3]) (by kernel_rfl) (by simp) (AllReadyH.cons rfl (fun K hK => ?_) AllReadyH.nil)
      go_simp
      go_wp2_with (go_at_call 14; (with_reducible refine (may_any _ _ _ _ _ _ _ _ _ _ _ _).mono ?_); rintro e wp ⟨rfl, xp⟩; rw [M8h.out])
      refine hK.out _ _ xp (fun hHeld => ?_)
      clear hK K
      refine wpAnyH_imp (S' := Ext wp) (fun W h => Ext.trans xp h) _ _ _ _ ?_
      replace hHeld := Ext.refl wp
      have zz1 := zz0.trans xp
      refine wpAnyH_take (i := 4) (oi := { dst := some 58, op := Op.pick (Operand.tmp 55) (Operand.tmp 57) (Operand.const (Value.bool false)), type := 4, pos := "law.go:78", after := #[{ on := 1, ground := Ground.data }, { on := 3, ground := Ground.data }], guard := none }) (v := ?vv19_14_4) rfl (by kernel_rfl) (by kernel_rfl) (by kernel_rfl) (fun _ _ _ h => h) (Or.inl ⟨by rfl, ?yy19_14_4⟩) hHeld ?_
      case yy19_14_4 => (intro W hx; go_simp; try with_reducible rfl)
      simp only [Act.put, List.setIfInBounds_toArray, List.set_cons_zero, List.set_cons_succ]
      refine wpAnyH_take (i := 5) (oi := { dst := some 59, op := Op.move (Operand.tmp 58), type := 4, pos := "law.go:78", after := #[{ on := 4, ground := Ground.data }, { on := 3, ground := Ground.chain }], guard := none }) (v := ?vv20_14_5) rfl (by kernel_rfl) (by kernel_rfl) (by kernel_rfl) (fun _ _ _ h => h) (Or.inl ⟨by rfl, ?yy20_14_5⟩) hHeld ?_
      case yy20_14_5 => (intro W hx; go_simp; try with_reducible rfl)
      simp only [Act.put, List.setIfInBounds_toArray, List.set_cons_zero, List.set_cons_succ]
      refine wpAnyH_take (i := 6) (oi := { dst := some 60, op := Op.load 26 (Operand.tmp 8), type := 26, pos := "law.go:78", after := #[{ on := 5, ground := Ground.guard }], guard := some (5, true) }) (v := ?vv21_14_6) rfl (by kernel_rfl) (by kernel_rfl) (by kernel_rfl) (fun _ _ _ h => h) (Or.inl ⟨by rfl, ?yy21_14_6⟩) hHeld ?_
      case yy21_14_6 => (intro W hx; have hz := zz1.trans hx; obtain ⟨f0, f1, f2, f3, f4, f5, f6, f7, f8, f9, fa⟩ := cells11 ((hz.block _ (blk_lt KF5)).trans KF5); obtain ⟨g0, g1, g2, g3, g4, g5, g6, g7, g8, g9, ga⟩ := cells11 ((hz.block _ (blk_lt KG5)).trans KG5); go_simp; try with_reducible rfl)
      simp only [Act.put, List.setIfInBounds_toArray, List.set_cons_zero, List.set_cons_succ]
      refine wpAnyH_take (i := 7) (oi := { dst := some 61, op := Op.move (Operand.tmp 2), type := 5, pos := "law.go:78", after := #[{ on := 5, ground := Ground.guard }], guard := some (5, true) }) (v := ?vv22_14_7) rfl (by kernel_rfl) (by kernel_rfl) (by kernel_rfl) (fun _ _ _ h => h) (Or.inl ⟨by rfl, ?yy22_14_7⟩) hHeld ?_
      case yy22_14_7 => (intro W hx; go_simp; try with_reducible rfl)
      simp only [Act.put, List.setIfInBounds_toArray, List.set_cons_zero, List.set_cons_succ]
      refine wpAnyH_take (i := 9) (oi := { dst := some 63, op := Op.load 26 (Operand.tmp 8), type := 26, pos := "law.go:78", after := #[{ on := 5, ground := Ground.guard }], guard := some (5, true) }) (v := ?vv23_14_9) rfl (by kernel_rfl) (by kernel_rfl) (by kernel_rfl) (fun _ _ _ h => h) (Or.inl ⟨by rfl, ?yy23_14_9⟩) hHeld ?_
      case yy23_14_9 => (intro W hx; have hz := zz1.trans hx; obtain ⟨f0, f1, f2, f3, f4, f5, f6, f7, f8, f9, fa⟩ := cells11 ((hz.block _ (blk_lt KF5)).trans KF5); obtain ⟨g0, g1, g2, g3, g4, g5, g6, g7, g8, g9, ga⟩ := cells11 ((hz.block _ (blk_lt KG5)).trans KG5); go_simp; try with_reducible rfl)
      simp only [Act.put, List.setIfInBounds_toArray, List.set_cons_zero, List.set_cons_succ]
      refine wpAnyH_ready (rs := [8]) (by kernel_rfl) (by simp) (AllReadyH.cons rfl (fun K hK => ?_) AllReadyH.nil)
      go_simp
      go_wp2_with (go_at_call 18; (with_reducible refine (pad8 _ _ _ _ _ _ _ _ _ _ _ _ M8h.out).mono ?_); rintro e wq ⟨rfl, xq⟩)
      refine hK.out _ _ xq (fun hHeld => ?_)
      clear hK K
      refine wpAnyH_imp (S' := Ext wq) (fun W h => Ext.trans xq h) _ _ _ _ ?_
      replace hHeld := Ext.refl wq
      have zz2 := zz1.trans xq
      refine wpAnyH_take (i := 10) (oi := { dst := some 64, op := Op.binOp BinOp.eql 26 (Operand.tmp 62) (Operand.tmp 63) 26, type := 4, pos := "law.go:78", after := #[{ on := 8, ground := Ground.data }, { on := 9, ground := Ground.data }, { on := 5, ground := Ground.guard }], guard := some (5, true) }) (v := ?vv24_14_10) rfl (by kernel_rfl) (by kernel_rfl) (by kernel_rfl) (fun _ _ _ h => h) (Or.inl ⟨by rfl, ?yy24_14_10⟩) hHeld ?_
      case yy24_14_10 => (intro W hx; go_simp; try with_reducible rfl)
      simp only [Act.put, List.setIfInBounds_toArray, List.set_cons_zero, List.set_cons_succ]
      refine wpAnyH_take (i := 11) (oi := { dst := some 65, op := Op.pick (Operand.tmp 59) (Operand.tmp 64) (Operand.const (Value.bool false)), type := 4, pos := "law.go:78", after := #[{ on := 5, ground := Ground.data }, { on := 10, ground := Ground.data }], guard := none }) (v := ?vv25_14_11) rfl (by kernel_rfl) (by kernel_rfl) (by kernel_rfl) (fun _ _ _ h => h) (Or.inl ⟨by rfl, ?yy25_14_11⟩) hHeld ?_
      case yy25_14_11 => (intro W hx; go_simp; try with_reducible rfl)
      simp only [Act.put, List.setIfInBounds_toArray, List.set_cons_zero, List.set_cons_succ]
      refine wpAnyH_take (i := 12) (oi := { dst := some 66, op := Op.move (Operand.tmp 65), type := 4, pos := "law.go:78", after := #[{ on := 11, ground := Ground.data }, { on := 8, ground := Ground.chain }], guard := none }) (v := ?vv26_14_12) rfl (by kernel_rfl) (by kernel_rfl) (by kernel_rfl) (fun _ _ _ h => h) (Or.inl ⟨by rfl, ?yy26_14_12⟩) hHeld ?_
      case yy26_14_12 => (intro W hx; go_simp; try with_reducible rfl)
      simp only [Act.put, List.setIfInBounds_toArray, List.set_cons_zero, List.set_cons_succ]
      refine wpAnyH_take (i := 13) (oi := { dst := some 67, op := Op.load 26 (Operand.tmp 8), type := 26, pos := "law.go:78", after := #[{ on := 12, ground := Ground.guard }], guard := some (12, true) }) (v := ?vv27_14_13) rfl (by kernel_rfl) (by kernel_rfl) (by kernel_rfl) (fun _ _ _ h => h) (Or.inl ⟨by rfl, ?yy27_14_13⟩) hHeld ?_
      case yy27_14_13 => (intro W hx; have hz := zz2.trans hx; obtain ⟨f0, f1, f2, f3, f4, f5, f6, f7, f8, f9, fa⟩ := cells11 ((hz.block _ (blk_lt KF5)).trans KF5); obtain ⟨g0, g1, g2, g3, g4, g5, g6, g7, g8, g9, ga⟩ := cells11 ((hz.block _ (blk_lt KG5)).trans KG5); go_simp; try with_reducible rfl)
      simp only [Act.put, List.setIfInBounds_toArray, List.set_cons_zero, List.set_cons_succ]
      refine wpAnyH_take (i := 15) (oi := { dst := some 69, op := Op.load 26 (Operand.tmp 3), type := 26, pos := "law.go:78", after := #[{ on := 12, ground := Ground.guard }], guard := some (12, true) }) (v := ?vv28_14_15) rfl (by kernel_rfl) (by kernel_rfl) (by kernel_rfl) (fun _ _ _ h => h) (Or.inl ⟨by rfl, ?yy28_14_15⟩) hHeld ?_
      case yy28_14_15 => (intro W hx; have hz := zz2.trans hx; obtain ⟨f0, f1, f2, f3, f4, f5, f6, f7, f8, f9, fa⟩ := cells11 ((hz.block _ (blk_lt KF5)).trans KF5); obtain ⟨g0, g1, g2, g3, g4, g5, g6, g7, g8, g9, ga⟩ := cells11 ((hz.block _ (blk_lt KG5)).trans KG5); go_simp; try with_reducible rfl)
      simp only [Act.put, List.setIfInBounds_toArray, List.set_cons_zero, List.set_cons_succ]
      refine wpAnyH_ready (rs := [14]) (by kernel_rfl) (by simp) (AllReadyH.cons rfl (fun K hK => ?_) AllReadyH.nil)
      go_simp
      go_wp2_with (go_at_call 20; (with_reducible refine (rank8 _ _ _ _ _ _ _ _ _ _ _ i0 M8h.out).mono ?_); rintro e wr ⟨rfl, xr⟩)
      refine hK.out _ _ xr (fun hHeld => ?_)
      clear hK K
      refine wpAnyH_imp (S' := Ext wr) (fun W h => Ext.trans xr h) _ _ _ _ ?_
      replace hHeld := Ext.refl wr
      have zz3 := zz2.trans xr
      refine wpAnyH_ready (rs := [16]) (by kernel_rfl) (by simp) (AllReadyH.cons rfl (fun K hK => ?_) AllReadyH.nil)
      go_simp
      go_wp2_with (go_at_call 20; (with_reducible refine (rank8 _ _ _ _ _ _ _ _ _ _ _ i0 HM.out).mono ?_); rintro e ws ⟨rfl, xs⟩)
      refine hK.out _ _ xs (fun hHeld => ?_)
      clear hK K
      refine wpAnyH_imp (S' := Ext ws) (fun W h => Ext.trans xs h) _ _ _ _ ?_
      replace hHeld := Ext.refl ws
      have zz4 := zz3.trans xs
      refine wpAnyH_take (i := 17) (oi := { dst := some 71, op := Op.binOp BinOp.eql 22 (Operand.tmp 68) (Operand.tmp 70) 22, type := 4, pos := "law.go:78", after := #[{ on := 14, ground := Ground.data }, { on := 16, ground := Ground.data }, { on := 12, ground := Ground.guard }], guard := some (12, true) }) (v := ?vv29_14_17) rfl (by kernel_rfl) (by kernel_rfl) (by kernel_rfl) (fun _ _ _ h => h) (Or.inl ⟨by rfl, ?yy29_14_17⟩) hHeld ?_
      case yy29_14_17 => (intro W hx; go_simp; try with_reducible rfl)
      simp only [Act.put, List.setIfInBounds_toArray, List.set_cons_zero, List.set_cons_succ]
      refine wpAnyH_take (i := 18) (oi := { dst := some 72, op := Op.pick (Operand.tmp 66) (Operand.tmp 71) (Operand.const (Value.bool false)), type := 4, pos := "law.go:78", after := #[{ on := 12, ground := Ground.data }, { on := 17, ground := Ground.data }], guard := none }) (v := ?vv30_14_18) rfl (by kernel_rfl) (by kernel_rfl) (by kernel_rfl) (fun _ _ _ h => h) (Or.inl ⟨by rfl, ?yy30_14_18⟩) hHeld ?_
      case yy30_14_18 => (intro W hx; go_simp; try with_reducible rfl)
      simp only [Act.put, List.setIfInBounds_toArray, List.set_cons_zero, List.set_cons_succ]
      refine wpAnyH_take (i := 19) (oi := { dst := some 6, op := Op.assign (Operand.tmp 72), type := 4, pos := "law.go:78", after := #[{ on := 18, ground := Ground.data }, { on := 16, ground := Ground.chain }, { on := 0, ground := Ground.phase }, { on := 1, ground := Ground.phase }, { on := 2, ground := Ground.phase }, { on := 3, ground := Ground.phase }, { on := 4, ground := Ground.phase }, { on := 5, ground := Ground.phase }, { on := 6, ground := Ground.phase }, { on := 7, ground := Ground.phase }, { on := 8, ground := Ground.phase }, { on := 9, ground := Ground.phase }, { on := 10, ground := Ground.phase }, { on := 11, ground := Ground.phase }, { on := 12, ground := Ground.phase }, { on := 13, ground := Ground.phase }, { on := 14, ground := Ground.phase }, { on := 15, ground := Ground.phase }, { on := 16, ground := Ground.phase }, { on := 17, ground := Ground.phase }, { on := 18, ground := Ground.phase }], guard := none }) (v := ?vv31_14_19) rfl (by kernel_rfl) (by kernel_rfl) (by kernel_rfl) (fun _ _ _ h => h) (Or.inl ⟨by rfl, ?yy31_14_19⟩) hHeld ?_
      case yy31_14_19 => (intro W hx; go_simp; try with_reducible rfl)
      simp only [Act.put, List.setIfInBounds_toArray, List.set_cons_zero, List.set_cons_succ]
      refine wpAnyH_done (by kernel_rfl) ?_ _
      have zend := zz4
      go_wp2
      go_ret
      exact ⟨by simp, v5.trans zend⟩
  · have hlc : (L : Int) ≤ c4 := by omega
    go_wp2
    go_loop [11, 46] (fun v11 v => ∃ k : Nat, k ≤ 8 - L ∧ v = .int .i64 k) (fun _ v => (8 - intOf v).toNat)
    case atStart => exact ⟨0, by omega, rfl⟩
    case round =>
      obtain ⟨k, hk, rfl⟩ := hrel
      have k0 : (0 : Int) ≤ k := by omega
      by_cases hlt : (k : Int) < 8 - L
      · obtain ⟨b', off', hA, _, hc⟩ := r5'.cell (k := L + k) (by omega)
        cases hA
        rw [show off + (L + k) = off + L + k by omega, drop_get D8h.out (by omega)] at hc
        go_wp2
        go_round
        case rel => exact ⟨k + 1, by omega, by go_num⟩
        case measure => simp [intOf]; omega
      · have hge : (8 : Int) - L ≤ k := by omega
        go_upto_region 14 with (fail)
        refine wp_region_held_drew (S := Ext w5) (by kernel_rfl) ((Ext.refl _).drew) (fun hHeld => ?_)
        obtain ⟨wD32, hwD⟩ : ∃ V, V = World.drew w5 := ⟨_, rfl⟩
        rw [← hwD]
        clear hHeld
        have zz0 : Ext w5 wD32 := by rw [hwD]; exact (Ext.refl _).drew
        clear hwD
        refine wpAnyH_imp (S' := Ext wD32) (fun W h => Ext.trans zz0 h) _ _ _ _ ?_
        have hHeld := Ext.refl wD32
        refine wpAnyH_take (i := 0) (oi := { dst := some 54, op := Op.move (Operand.tmp 7), type := 4, pos := "law.go:78", after := #[], guard := none }) (v := ?vv33_14_0) rfl (by kernel_rfl) (by kernel_rfl) (by kernel_rfl) (fun _ _ _ h => h) (Or.inl ⟨by rfl, ?yy33_14_0⟩) hHeld ?_
        case yy33_14_0 => (intro W hx; go_simp; try with_reducible rfl)
        simp only [Act.put, List.setIfInBounds_toArray, List.set_cons_zero, List.set_cons_succ]
        refine wpAnyH_take (i := 1) (oi := { dst := some 55, op := Op.move (Operand.tmp 54), type := 4, pos := "law.go:78", after := #[{ on := 0, ground := Ground.data }], guard := none }) (v := ?vv34_14_1) rfl (by kernel_rfl) (by kernel_rfl) (by kernel_rfl) (fun _ _ _ h => h) (Or.inl ⟨by rfl, ?yy34_14_1⟩) hHeld ?_
        case yy34_14_1 => (intro W hx; go_simp; try with_reducible rfl)
        simp only [Act.put, List.setIfInBounds_toArray, List.set_cons_zero, List.set_cons_succ]
        refine wpAnyH_take (i := 2) (oi := { dst := some 56, op := Op.load 26 (Operand.tmp 8), type := 26, pos := "law.go:78", after := #[{ on := 1, ground := Ground.guard }], guard := some (1, true) }) (v := ?vv35_14_2) rfl (by kernel_rfl) (by kernel_rfl) (by kernel_rfl) (fun _ _ _ h => h) (Or.inl ⟨by rfl, ?yy35_14_2⟩) hHeld ?_
        case yy35_14_2 => (intro W hx; have hz := zz0.trans hx; obtain ⟨f0, f1, f2, f3, f4, f5, f6, f7, f8, f9, fa⟩ := cells11 ((hz.block _ (blk_lt KF5)).trans KF5); obtain ⟨g0, g1, g2, g3, g4, g5, g6, g7, g8, g9, ga⟩ := cells11 ((hz.block _ (blk_lt KG5)).trans KG5); go_simp; try with_reducible rfl)
        simp only [Act.put, List.setIfInBounds_toArray, List.set_cons_zero, List.set_cons_succ]
        refine wpAnyH_ready (rs := [3]) (by kernel_rfl) (by simp) (AllReadyH.cons rfl (fun K hK => ?_) AllReadyH.nil)
        go_simp
        go_wp2_with (go_at_call 14; (with_reducible refine (may_any _ _ _ _ _ _ _ _ _ _ _ _).mono ?_); rintro e wp ⟨rfl, xp⟩; rw [M8h.out])
        refine hK.out _ _ xp (fun hHeld => ?_)
        clear hK K
        refine wpAnyH_imp (S' := Ext wp) (fun W h => Ext.trans xp h) _ _ _ _ ?_
        replace hHeld := Ext.refl wp
        have zz1 := zz0.trans xp
        refine wpAnyH_take (i := 4) (oi := { dst := some 58, op := Op.pick (Operand.tmp 55) (Operand.tmp 57) (Operand.const (Value.bool false)), type := 4, pos := "law.go:78", after := #[{ on := 1, ground := Ground.data }, { on := 3, ground := Ground.data }], guard := none }) (v := ?vv36_14_4) rfl (by kernel_rfl) (by kernel_rfl) (by kernel_rfl) (fun _ _ _ h => h) (Or.inl ⟨by rfl, ?yy36_14_4⟩) hHeld ?_
        case yy36_14_4 => (intro W hx; go_simp; try with_reducible rfl)
        simp only [Act.put, List.setIfInBounds_toArray, List.set_cons_zero, List.set_cons_succ]
        refine wpAnyH_take (i := 5) (oi := { dst := some 59, op := Op.move (Operand.tmp 58), type := 4, pos := "law.go:78", after := #[{ on := 4, ground := Ground.data }, { on := 3, ground := Ground.chain }], guard := none }) (v := ?vv37_14_5) rfl (by kernel_rfl) (by kernel_rfl) (by kernel_rfl) (fun _ _ _ h => h) (Or.inl ⟨by rfl, ?yy37_14_5⟩) hHeld ?_
        case yy37_14_5 => (intro W hx; go_simp; try with_reducible rfl)
        simp only [Act.put, List.setIfInBounds_toArray, List.set_cons_zero, List.set_cons_succ]
        refine wpAnyH_take (i := 6) (oi := { dst := some 60, op := Op.load 26 (Operand.tmp 8), type := 26, pos := "law.go:78", after := #[{ on := 5, ground := Ground.guard }], guard := some (5, true) }) (v := ?vv38_14_6) rfl (by kernel_rfl) (by kernel_rfl) (by kernel_rfl) (fun _ _ _ h => h) (Or.inl ⟨by rfl, ?yy38_14_6⟩) hHeld ?_
        case yy38_14_6 => (intro W hx; have hz := zz1.trans hx; obtain ⟨f0, f1, f2, f3, f4, f5, f6, f7, f8, f9, fa⟩ := cells11 ((hz.block _ (blk_lt KF5)).trans KF5); obtain ⟨g0, g1, g2, g3, g4, g5, g6, g7, g8, g9, ga⟩ := cells11 ((hz.block _ (blk_lt KG5)).trans KG5); go_simp; try with_reducible rfl)
        simp only [Act.put, List.setIfInBounds_toArray, List.set_cons_zero, List.set_cons_succ]
        refine wpAnyH_take (i := 7) (oi := { dst := some 61, op := Op.move (Operand.tmp 2), type := 5, pos := "law.go:78", after := #[{ on := 5, ground := Ground.guard }], guard := some (5, true) }) (v := ?vv39_14_7) rfl (by kernel_rfl) (by kernel_rfl) (by kernel_rfl) (fun _ _ _ h => h) (Or.inl ⟨by rfl, ?yy39_14_7⟩) hHeld ?_
        case yy39_14_7 => (intro W hx; go_simp; try with_reducible rfl)
        simp only [Act.put, List.setIfInBounds_toArray, List.set_cons_zero, List.set_cons_succ]
        refine wpAnyH_take (i := 9) (oi := { dst := some 63, op := Op.load 26 (Operand.tmp 8), type := 26, pos := "law.go:78", after := #[{ on := 5, ground := Ground.guard }], guard := some (5, true) }) (v := ?vv40_14_9) rfl (by kernel_rfl) (by kernel_rfl) (by kernel_rfl) (fun _ _ _ h => h) (Or.inl ⟨by rfl, ?yy40_14_9⟩) hHeld ?_
        case yy40_14_9 => (intro W hx; have hz := zz1.trans hx; obtain ⟨f0, f1, f2, f3, f4, f5, f6, f7, f8, f9, fa⟩ := cells11 ((hz.block _ (blk_lt KF5)).trans KF5); obtain ⟨g0, g1, g2, g3, g4, g5, g6, g7, g8, g9, ga⟩ := cells11 ((hz.block _ (blk_lt KG5)).trans KG5); go_simp; try with_reducible rfl)
        simp only [Act.put, List.setIfInBounds_toArray, List.set_cons_zero, List.set_cons_succ]
        refine wpAnyH_ready (rs := [8]) (by kernel_rfl) (by simp) (AllReadyH.cons rfl (fun K hK => ?_) AllReadyH.nil)
        go_simp
        go_wp2_with (go_at_call 18; (with_reducible refine (pad8 _ _ _ _ _ _ _ _ _ _ _ _ M8h.out).mono ?_); rintro e wq ⟨rfl, xq⟩)
        refine hK.out _ _ xq (fun hHeld => ?_)
        clear hK K
        refine wpAnyH_imp (S' := Ext wq) (fun W h => Ext.trans xq h) _ _ _ _ ?_
        replace hHeld := Ext.refl wq
        have zz2 := zz1.trans xq
        refine wpAnyH_take (i := 10) (oi := { dst := some 64, op := Op.binOp BinOp.eql 26 (Operand.tmp 62) (Operand.tmp 63) 26, type := 4, pos := "law.go:78", after := #[{ on := 8, ground := Ground.data }, { on := 9, ground := Ground.data }, { on := 5, ground := Ground.guard }], guard := some (5, true) }) (v := ?vv41_14_10) rfl (by kernel_rfl) (by kernel_rfl) (by kernel_rfl) (fun _ _ _ h => h) (Or.inl ⟨by rfl, ?yy41_14_10⟩) hHeld ?_
        case yy41_14_10 => (intro W hx; go_simp; try with_reducible rfl)
        simp only [Act.put, List.setIfInBounds_toArray, List.set_cons_zero, List.set_cons_succ]
        refine wpAnyH_take (i := 11) (oi := { dst := some 65, op := Op.pick (Operand.tmp 59) (Operand.tmp 64) (Operand.const (Value.bool false)), type := 4, pos := "law.go:78", after := #[{ on := 5, ground := Ground.data }, { on := 10, ground := Ground.data }], guard := none }) (v := ?vv42_14_11) rfl (by kernel_rfl) (by kernel_rfl) (by kernel_rfl) (fun _ _ _ h => h) (Or.inl ⟨by rfl, ?yy42_14_11⟩) hHeld ?_
        case yy42_14_11 => (intro W hx; go_simp; try with_reducible rfl)
        simp only [Act.put, List.setIfInBounds_toArray, List.set_cons_zero, List.set_cons_succ]
        refine wpAnyH_take (i := 12) (oi := { dst := some 66, op := Op.move (Operand.tmp 65), type := 4, pos := "law.go:78", after := #[{ on := 11, ground := Ground.data }, { on := 8, ground := Ground.chain }], guard := none }) (v := ?vv43_14_12) rfl (by kernel_rfl) (by kernel_rfl) (by kernel_rfl) (fun _ _ _ h => h) (Or.inl ⟨by rfl, ?yy43_14_12⟩) hHeld ?_
        case yy43_14_12 => (intro W hx; go_simp; try with_reducible rfl)
        simp only [Act.put, List.setIfInBounds_toArray, List.set_cons_zero, List.set_cons_succ]
        refine wpAnyH_take (i := 13) (oi := { dst := some 67, op := Op.load 26 (Operand.tmp 8), type := 26, pos := "law.go:78", after := #[{ on := 12, ground := Ground.guard }], guard := some (12, true) }) (v := ?vv44_14_13) rfl (by kernel_rfl) (by kernel_rfl) (by kernel_rfl) (fun _ _ _ h => h) (Or.inl ⟨by rfl, ?yy44_14_13⟩) hHeld ?_
        case yy44_14_13 => (intro W hx; have hz := zz2.trans hx; obtain ⟨f0, f1, f2, f3, f4, f5, f6, f7, f8, f9, fa⟩ := cells11 ((hz.block _ (blk_lt KF5)).trans KF5); obtain ⟨g0, g1, g2, g3, g4, g5, g6, g7, g8, g9, ga⟩ := cells11 ((hz.block _ (blk_lt KG5)).trans KG5); go_simp; try with_reducible rfl)
        simp only [Act.put, List.setIfInBounds_toArray, List.set_cons_zero, List.set_cons_succ]
        refine wpAnyH_take (i := 15) (oi := { dst := some 69, op := Op.load 26 (Operand.tmp 3), type := 26, pos := "law.go:78", after := #[{ on := 12, ground := Ground.guard }], guard := some (12, true) }) (v := ?vv45_14_15) rfl (by kernel_rfl) (by kernel_rfl) (by kernel_rfl) (fun _ _ _ h => h) (Or.inl ⟨by rfl, ?yy45_14_15⟩) hHeld ?_
        case yy45_14_15 => (intro W hx; have hz := zz2.trans hx; obtain ⟨f0, f1, f2, f3, f4, f5, f6, f7, f8, f9, fa⟩ := cells11 ((hz.block _ (blk_lt KF5)).trans KF5); obtain ⟨g0, g1, g2, g3, g4, g5, g6, g7, g8, g9, ga⟩ := cells11 ((hz.block _ (blk_lt KG5)).trans KG5); go_simp; try with_reducible rfl)
        simp only [Act.put, List.setIfInBounds_toArray, List.set_cons_zero, List.set_cons_succ]
        refine wpAnyH_ready (rs := [14]) (by kernel_rfl) (by simp) (AllReadyH.cons rfl (fun K hK => ?_) AllReadyH.nil)
        go_simp
        go_wp2_with (go_at_call 20; (with_reducible refine (rank8 _ _ _ _ _ _ _ _ _ _ _ i0 M8h.out).mono ?_); rintro e wr ⟨rfl, xr⟩)
        refine hK.out _ _ xr (fun hHeld => ?_)
        clear hK K
        refine wpAnyH_imp (S' := Ext wr) (fun W h => Ext.trans xr h) _ _ _ _ ?_
        replace hHeld := Ext.refl wr
        have zz3 := zz2.trans xr
        refine wpAnyH_ready (rs := [16]) (by kernel_rfl) (by simp) (AllReadyH.cons rfl (fun K hK => ?_) AllReadyH.nil)
        go_simp
        go_wp2_with (go_at_call 20; (with_reducible refine (rankM _ _ _ _ _ _ _ _ _ _ _ _ i0 HM.out).mono ?_); rintro e ws ⟨rfl, xs⟩)
        refine hK.out _ _ xs (fun hHeld => ?_)
        clear hK K
        refine wpAnyH_imp (S' := Ext ws) (fun W h => Ext.trans xs h) _ _ _ _ ?_
        replace hHeld := Ext.refl ws
        have zz4 := zz3.trans xs
        refine wpAnyH_take (i := 17) (oi := { dst := some 71, op := Op.binOp BinOp.eql 22 (Operand.tmp 68) (Operand.tmp 70) 22, type := 4, pos := "law.go:78", after := #[{ on := 14, ground := Ground.data }, { on := 16, ground := Ground.data }, { on := 12, ground := Ground.guard }], guard := some (12, true) }) (v := ?vv46_14_17) rfl (by kernel_rfl) (by kernel_rfl) (by kernel_rfl) (fun _ _ _ h => h) (Or.inl ⟨by rfl, ?yy46_14_17⟩) hHeld ?_
        case yy46_14_17 => (intro W hx; go_simp; try with_reducible rfl)
        simp only [Act.put, List.setIfInBounds_toArray, List.set_cons_zero, List.set_cons_succ]
        refine wpAnyH_take (i := 18) (oi := { dst := some 72, op := Op.pick (Operand.tmp 66) (Operand.tmp 71) (Operand.const (Value.bool false)), type := 4, pos := "law.go:78", after := #[{ on := 12, ground := Ground.data }, { on := 17, ground := Ground.data }], guard := none }) (v := ?vv47_14_18) rfl (by kernel_rfl) (by kernel_rfl) (by kernel_rfl) (fun _ _ _ h => h) (Or.inl ⟨by rfl, ?yy47_14_18⟩) hHeld ?_
        case yy47_14_18 => (intro W hx; go_simp; try with_reducible rfl)
        simp only [Act.put, List.setIfInBounds_toArray, List.set_cons_zero, List.set_cons_succ]
        refine wpAnyH_take (i := 19) (oi := { dst := some 6, op := Op.assign (Operand.tmp 72), type := 4, pos := "law.go:78", after := #[{ on := 18, ground := Ground.data }, { on := 16, ground := Ground.chain }, { on := 0, ground := Ground.phase }, { on := 1, ground := Ground.phase }, { on := 2, ground := Ground.phase }, { on := 3, ground := Ground.phase }, { on := 4, ground := Ground.phase }, { on := 5, ground := Ground.phase }, { on := 6, ground := Ground.phase }, { on := 7, ground := Ground.phase }, { on := 8, ground := Ground.phase }, { on := 9, ground := Ground.phase }, { on := 10, ground := Ground.phase }, { on := 11, ground := Ground.phase }, { on := 12, ground := Ground.phase }, { on := 13, ground := Ground.phase }, { on := 14, ground := Ground.phase }, { on := 15, ground := Ground.phase }, { on := 16, ground := Ground.phase }, { on := 17, ground := Ground.phase }, { on := 18, ground := Ground.phase }], guard := none }) (v := ?vv48_14_19) rfl (by kernel_rfl) (by kernel_rfl) (by kernel_rfl) (fun _ _ _ h => h) (Or.inl ⟨by rfl, ?yy48_14_19⟩) hHeld ?_
        case yy48_14_19 => (intro W hx; go_simp; try with_reducible rfl)
        simp only [Act.put, List.setIfInBounds_toArray, List.set_cons_zero, List.set_cons_succ]
        refine wpAnyH_done (by kernel_rfl) ?_ _
        have zend := zz4
        go_wp2
        go_ret
        exact ⟨by simp, v5.trans zend⟩
theorem FramePads_law (w : World) (id : Int) (ext : Bool) (len b0 b1 b2 b3 b4 b5 b6 b7 : Int) (i0 : 0 ≤ id) (i1 : id < 4294967296) (l0 : -9223372036854775808 ≤ len) (l1 : len < 9223372036854775808) (hb : Byts [b0, b1, b2, b3, b4, b5, b6, b7]) (x : Int) (x0 : 0 ≤ x) (x1 : x < 256) (o : Int) (o0 : 0 ≤ o) (o1 : o < 256) :
    Calls Try.prog 7 #[.agg #[.int .u32 id, .bool ext, .int .i64 len, .int .u8 b0, .int .u8 b1, .int .u8 b2, .int .u8 b3, .int .u8 b4, .int .u8 b5, .int .u8 b6, .int .u8 b7], .int .u8 x, .int .u8 o] w fun e w' => e = .returned (.bool true) ∧ Ext w w' := by
  by_cases hm : mayB id ext len [b0, b1, b2, b3, b4, b5, b6, b7] = true
  · obtain ⟨L, rfl⟩ := may_nat hm
    exact pads_yes w id ext L b0 b1 b2 b3 b4 b5 b6 b7 i0 hb x o x0 x1 hm
  · exact pads_no w id ext len b0 b1 b2 b3 b4 b5 b6 b7 x o (by simpa using hm)
end Go.Proofs.Ytafdbhajngoafaa
