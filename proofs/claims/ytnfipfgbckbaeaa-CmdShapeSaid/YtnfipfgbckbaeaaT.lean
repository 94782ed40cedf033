import Derived.Test.YtnfipfgbckbaeaaS
set_option linter.unusedVariables false
namespace Go.Proofs.Ytnfipfgbckbaeaa
open Go.RowKit
theorem shape_no (c : Int) (w : World) (h0 : 0 ≤ c) (h1 : c < 256) (h : c < 1 ∨ 26 < c) :
    Calls Try.prog 11 #[.int .u8 c] w fun e w' => e = .returned (.tuple #[.int .i64 0, .bool false, .int .i64 0, .bool false]) ∧ w = w' :=
  (shape_any c w h0 h1).mono fun e w' ⟨he, hw⟩ => by
    obtain ⟨e1, e2, e3, e4⟩ := sh_out h0 h
    refine ⟨?_, hw⟩
    rw [show e = _ from he, ← e1, ← e2, ← e3, ← e4]; rfl
set_option maxRecDepth 100000 in
set_option maxHeartbeats 2000000 in
theorem of_no (c n0 n1 n2 n3 n4 Wn : Int) (g7 g8 g9 : Nat) (Y : Option Addr) (m d : Nat) (ys : List Int) (w : World) (h0 : 0 ≤ c) (h1 : c < 256) (hno : c < 1 ∨ 26 < c)
    (K9 : w.heap[g9]? = some (.cells #[.slice Y m d] 24 (0, 0)))
    (hy : Rd w Y m ys) (hmd : m ≤ d) (hd : d ≤ maxLen) :
    Calls Try.prog 17 #[.int .u8 c, .pointer (some ⟨g7, 0, none⟩), .pointer (some ⟨g8, 0, none⟩), .pointer (some ⟨g9, 0, none⟩)] w fun e w' => e = .returned (.tuple #[.slice none 0 0, .int .i64 1]) ∧ Ext w w' := by
  have hbad : badC c [0, 0, 0, 0, 0] 0 0 = true := by
    have : ok c = false := (sh_out h0 hno).2.2.2.symm
    simp [badC, this]
  have HBAD := Lib.hid hbad
  clear hbad
  have hz0 : Byts [0, 0, 0, 0, 0] := by intro b hb; simp at hb; omega
  have hno' : (1 : Int) ≤ c → ¬ c ≤ 26 := by omega
  have HNO := Lib.hid hno'
  clear hno'
  go_enter Try.func17, Try.ntmps17
  go_upto_region 3 with (go_at_call 11; (with_reducible refine (shape_no _ _ h0 h1 hno).mono ?_); rintro e w1 ⟨rfl, rfl⟩)
  obtain ⟨W1, hW1⟩ : ∃ V, V = w.alloc (.cells #[.int .u8 c, .int .u8 0, .int .u8 0, .int .u8 0, .int .u8 0, .int .u8 0, .int .u32 0, .slice none 0 0] 26) := ⟨_, rfl⟩
  rw [← hW1]
  have v1 : Ext w W1 := by rw [hW1]; exact (Ext.refl _).alloc _
  have KC : W1.heap[w.heap.size]? = some (.cells #[.int .u8 c, .int .u8 0, .int .u8 0, .int .u8 0, .int .u8 0, .int .u8 0, .int .u32 0, .slice none 0 0] 26 (0, 0)) := by rw [hW1]; exact heap_alloc_new _ _
  clear hW1
  generalize hgg : w.heap.size = g at *
  have HGG := Lib.hid hgg
  clear hgg
  go_cut [30] (fun v30 wr => wr.heap[g]? = some (.cells #[.int .u8 c, .int .u8 0, .int .u8 0, .int .u8 0, .int .u8 0, .int .u8 0, .int .u32 0, .slice none 0 0] 26 (0, 0)) ∧ Ext w wr)
  case first =>
    refine wp_region_held_drew (S := Ext w) (by kernel_rfl) ((v1).drew) (fun hHeld => ?_)
    obtain ⟨wR, hwD⟩ : ∃ V, V = World.drew W1 := ⟨_, rfl⟩
    rw [← hwD] at hHeld ⊢
    have zz0 : Ext W1 wR := by rw [hwD]; exact (Ext.refl _).drew
    clear hwD
    refine wpAnyH_take (i := 0) (oi := { dst := some 24, op := Op.fieldAddr 26 (Operand.tmp 11) 1, type := 0, pos := "law.go:73", after := #[], guard := none }) (v := ?vv2_3_0) rfl (by kernel_rfl) (by kernel_rfl) (by kernel_rfl) (fun _ _ _ h => h) (Or.inl ⟨by rfl, ?yy2_3_0⟩) hHeld ?_
    case yy2_3_0 => (intro W hx; go_simp; try with_reducible rfl)
    simp only [Act.put, List.setIfInBounds_toArray, List.set_cons_zero, List.set_cons_succ]
    refine wpAnyH_take (i := 1) (oi := { dst := some 25, op := Op.move (Operand.tmp 7), type := 3, pos := "law.go:73", after := #[], guard := none }) (v := ?vv3_3_1) rfl (by kernel_rfl) (by kernel_rfl) (by kernel_rfl) (fun _ _ _ h => h) (Or.inl ⟨by rfl, ?yy3_3_1⟩) hHeld ?_
    case yy3_3_1 => (intro W hx; go_simp; try with_reducible rfl)
    simp only [Act.put, List.setIfInBounds_toArray, List.set_cons_zero, List.set_cons_succ]
    refine wpAnyH_take (i := 2) (oi := { dst := some 26, op := Op.call { callee := Callee.builtin Builtin.max, args := #[Operand.tmp 25, Operand.const (Value.int IntKind.i64 0)], argTypes := #[3, 3] }, type := 3, pos := "law.go:73", after := #[{ on := 1, ground := Ground.data }], guard := none }) (v := ?vv4_3_2) rfl (by kernel_rfl) (by kernel_rfl) (by kernel_rfl) (fun _ _ _ h => h) (Or.inl ⟨by rfl, ?yy4_3_2⟩) hHeld ?_
    case yy4_3_2 => (intro W hx; go_simp; try with_reducible rfl)
    simp only [Act.put, List.setIfInBounds_toArray, List.set_cons_zero, List.set_cons_succ]
    refine wpAnyH_take (i := 3) (oi := { dst := some 27, op := Op.call { callee := Callee.builtin Builtin.min, args := #[Operand.tmp 26, Operand.const (Value.int IntKind.i64 5)], argTypes := #[3, 3] }, type := 3, pos := "law.go:73", after := #[{ on := 2, ground := Ground.data }], guard := none }) (v := ?vv5_3_3) rfl (by kernel_rfl) (by kernel_rfl) (by kernel_rfl) (fun _ _ _ h => h) (Or.inl ⟨by rfl, ?yy5_3_3⟩) hHeld ?_
    case yy5_3_3 => (intro W hx; go_simp; try with_reducible rfl)
    simp only [Act.put, List.setIfInBounds_toArray, List.set_cons_zero, List.set_cons_succ]
    refine wpAnyH_take (i := 4) (oi := { dst := some 28, op := Op.slice 22 (Operand.tmp 24) none (some (Operand.tmp 27)) none, type := 24, pos := "law.go:73", after := #[{ on := 0, ground := Ground.data }, { on := 3, ground := Ground.data }], guard := none }) (v := ?vv6_3_4) rfl (by kernel_rfl) (by kernel_rfl) (by kernel_rfl) (fun _ _ _ h => h) (Or.inl ⟨by rfl, ?yy6_3_4⟩) hHeld ?_
    case yy6_3_4 => (intro W hx; go_simp; try with_reducible rfl)
    simp only [Act.put, List.setIfInBounds_toArray, List.set_cons_zero, List.set_cons_succ]
    refine wpAnyH_take (i := 5) (oi := { dst := some 29, op := Op.slice 22 (Operand.tmp 1) none none none, type := 24, pos := "law.go:73", after := #[], guard := none }) (v := ?vv7_3_5) rfl (by kernel_rfl) (by kernel_rfl) (by kernel_rfl) (fun _ _ _ h => h) (Or.inl ⟨by rfl, ?yy7_3_5⟩) hHeld ?_
    case yy7_3_5 => (intro W hx; go_simp; try with_reducible rfl)
    simp only [Act.put, List.setIfInBounds_toArray, List.set_cons_zero, List.set_cons_succ]
    refine wpAnyH_ready (rs := [6]) (by kernel_rfl) (by simp) (AllReadyH.cons rfl (fun K hK => ?_) AllReadyH.nil)
    refine step_copy_splice (o := { dst := some 30, op := Op.call { callee := Callee.builtin Builtin.copy, args := #[Operand.tmp 28, Operand.tmp 29], argTypes := #[24, 24] }, type := 3, pos := "law.go:73", after := #[{ on := 4, ground := Ground.data }, { on := 5, ground := Ground.data }], guard := none }) rfl (.tmp 28) (.tmp 29) 24 24 rfl 5 Try.underlying24 (by kernel_rfl) _ _ _ _ _ _ rfl rfl g 1 [.int .u8 c, .int .u8 0, .int .u8 0, .int .u8 0, .int .u8 0, .int .u8 0, .int .u32 0, .slice none 0 0] 26 ((zz0.block _ (blk_lt KC)).trans KC) [] rfl (fun hp => absurd hp (by simp)) (by simp) (fun v hv => by cases hv) g w (by rw [← HGG.out]; exact hHeld) (Nat.le_refl _) ?_; intro w9 hg9 x9'; have x9 : Ext w w9 := by rw [← HGG.out] at x9'; exact x9'
    simp only [Act.put, List.setIfInBounds_toArray, List.set_cons_zero, List.set_cons_succ]
    refine hK.out _ _ x9 (fun hHeld => ?_)
    clear hK K
    refine wpAnyH_done (by kernel_rfl) ?_ _
    have zend := (Ext.refl w).trans hHeld
    have KD : w9.heap[g]? = some (.cells #[.int .u8 c, .int .u8 0, .int .u8 0, .int .u8 0, .int .u8 0, .int .u8 0, .int .u32 0, .slice none 0 0] 26 (0, 0)) := hg9.out
    clear hg9 x9'
    go_wp2
    go_meet
    case rel => exact ⟨KD, x9⟩
  case rest =>
    obtain ⟨KE, xE⟩ := hcut
    obtain ⟨wB, rfl⟩ : ∃ z : World, z = wc := ⟨_, rfl⟩
    clear KC v1
    have hgw : w.heap.size ≤ g := by rw [HGG.out]; exact Nat.le_refl _
    have f9 := blk_cell (i := 0) ((xE.block _ (blk_lt K9)).trans K9) rfl
    have hyE := hy.ext xE
    have hmd' : (m : Int) ≤ d := by omega
    have hd' := hd
    unfold maxLen at hd'
    go_upto_region 8 with (fail)
    go_cut [12] (fun v12 wr => OfR g v12 ys wr ∧ Ext wB wr)
    case first =>
      have hgl := blk_lt KE
      by_cases h7 : (7 : Int) < m
      · have h7d : (7 : Int) ≤ d := by omega
        have ry := hyE.take (k := 7) (by omega)
        go_wp2_with (refine wpList_app0 rfl (.tmp 49) rfl rfl ry (by omega) ?_; intro c12 w12 x12 l12 m12 r12)
        go_meet
        case rel => exact ⟨⟨_, _, c12, rfl, by omega, l12, m12, r12, by omega⟩, x12⟩
      · have ry : Rd wB Y m (ys.take 7) := by rw [List.take_of_length_le (by have := hy.len; omega)]; exact hyE
        go_wp2_with (refine wpList_app0 rfl (.tmp 49) rfl rfl ry (by omega) ?_; intro c12 w12 x12 l12 m12 r12)
        go_meet
        case rel => exact ⟨⟨_, _, c12, rfl, by omega, l12, m12, r12, by omega⟩, x12⟩
    case rest =>
      obtain ⟨⟨g12, K, c12, rfl, hK7, hKc, hc12, r12, hne⟩, xF⟩ := hcut
      obtain ⟨wF, rfl⟩ : ∃ z : World, z = wc := ⟨_, rfl⟩
      have KF := (xF.block _ (blk_lt KE)).trans KE
      have vF := xE.trans xF
      clear xE xF hyE f9 KE
      have f7 := blk_cell (i := 7) KF rfl
      have ff := blk_free (i := 7) KF
      go_upto_region 10 with (fail)
      have KH : (wF.setCell ⟨g, 7, none⟩ (.slice (some ⟨g12, 0, none⟩) 0 c12)).heap[g]? = some (.cells #[.int .u8 c, .int .u8 0, .int .u8 0, .int .u8 0, .int .u8 0, .int .u8 0, .int .u32 0, .slice (some ⟨g12, 0, none⟩) 0 c12] 26 (0, 0)) := blk_set KF
      have vH : Ext w (wF.setCell ⟨g, 7, none⟩ (.slice (some ⟨g12, 0, none⟩) 0 c12)) := vF.setCell hgw _
      generalize wF.setCell ⟨g, 7, none⟩ (.slice (some ⟨g12, 0, none⟩) 0 c12) = wH at *
      clear f7 ff KF r12
      obtain ⟨f0, f1, f2, f3, f4, f5, f6, f7⟩ := cells8 KH
      by_cases hc1 : (1 : Int) ≤ c
      · have hc26 := HNO.out hc1
        go_wp2_with (go_at_call 8; (with_reducible refine (put_bad _ _ _ _ _ _ _ _ _ _ [] _ h0 h1 hz0 (by omega) (by omega) Rd.nil (by omega) HBAD.out).mono ?_); rintro e w2 ⟨rfl, x2⟩)
        go_ret2
        exact ⟨rfl, vH.trans x2⟩
      · go_wp2_with (go_at_call 8; (with_reducible refine (put_bad _ _ _ _ _ _ _ _ _ _ [] _ h0 h1 hz0 (by omega) (by omega) Rd.nil (by omega) HBAD.out).mono ?_); rintro e w2 ⟨rfl, x2⟩)
        go_ret2
        exact ⟨rfl, vH.trans x2⟩
end Go.Proofs.Ytnfipfgbckbaeaa
