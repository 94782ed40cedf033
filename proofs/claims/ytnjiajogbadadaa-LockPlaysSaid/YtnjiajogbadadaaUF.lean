import Derived.Test.YtnjiajogbadadaaUE
set_option linter.unusedVariables false
set_option linter.unusedSimpArgs false
namespace Go.Proofs.Ytnjiajogbadadaa
open Go.RowKit
theorem back2 {w : World} {base : Nat} {v : Value} {k m : Nat} {L M : List Int} (h : w.ownsRow base 5 1 v (0 + k + m) ((#[] : Array Value).toList ++ u8s L ++ u8s M)) (hb : Byts (L ++ M)) :
    ∃ A c, v = .slice A (k + m) c ∧ k + m ≤ c ∧ c ≤ maxLen ∧ Rd w A (k + m) (L ++ M) ∧ ∀ ad, A = some ad → base ≤ ad.block ∧ ad.block < w.heap.size := by
  have h' : w.ownsRow base 5 1 v (k + m) (u8s (L ++ M)) := by simpa [u8s] using h
  obtain ⟨A, c, rfl, h1, h2, h3⟩ := own_rd h' hb
  refine ⟨A, c, rfl, h1, h2, h3, ?_⟩
  rintro ad rfl
  exact h'.lt ad.block rfl
set_option maxHeartbeats 4000000 in
theorem runlock_yes (g : Nat) (s : LSt) (F : Nat → Prop) (left : Int) (bA : Option Addr) (n c : Nat) (bs : List Int) (w : World) (h : RkC w g s F) (hr : Rd w bA n bs) (hm : mayC s.seed.length s.told s.key.length left n = true) (o : UOut)
    (HO : Hid (o = if s.key.length + n < s.seed.length then ⟨{ s with key := s.key ++ bs }, 0⟩
  else if s.key ++ bs = keyB s.res s.seed then ⟨{ s.clear with lk := bits .andNot .u8 s.lk s.res }, 0⟩
  else ⟨s.clear, 91⟩)) :
    Calls Try.prog 15 #[.pointer (some ⟨g, 0, none⟩), .int .i64 left, .slice bA n c] w (RUnlPost w g F o) := by
  have hes := eqn_some
  obtain ⟨sA, sc, kA, kc, h⟩ := h
  have hl := h.ok.len
  have hk := h.ok.key
  obtain ⟨hn6, htold, hs0, hleft, hnmin⟩ := mayC_n hm hl
  have K := h.row
  have HH := Lib.hid h
  obtain ⟨ad, hsa⟩ : ∃ ad, sA = some ad := by
    rcases sA with _ | ad
    · have := h.nil.2 rfl; omega
    · exact ⟨_, rfl⟩
  clear h hm
  obtain ⟨sn, hsn⟩ : ∃ sn, sn = s.seed.length := ⟨_, rfl⟩
  obtain ⟨kn, hkn⟩ : ∃ kn, kn = s.key.length := ⟨_, rfl⟩
  obtain ⟨d, hd⟩ : ∃ d, d = sn - kn := ⟨_, rfl⟩
  rw [htold, ← hsn, ← hkn] at K
  rw [← hsn, ← hkn] at HO
  rw [← hsn, ← hkn, ← hd] at hleft hnmin
  rw [← hsn] at hs0 hl hk
  rw [← hkn] at hk
  have hsub : (sn : Int) - kn = (d : Int) := by omega
  have hd20 : d ≤ 20 := by omega
  have hwd : IntKind.i64.wrap (d : Int) = d := by rw [IntKind.wrap_i64]; omega
  have hmn : (if (6 : Int) < d then (6 : Int) else d) = n := by split <;> omega
  subst hleft hsa
  have HSN := Lib.hid hsn
  have HKN := Lib.hid hkn
  have HTO := Lib.hid htold
  clear hsn hkn hd htold hnmin
  go_enter Try.func15, Try.ntmps15
  go_upto_region 1 with (fail)
  refine wp_region_held_drew (S := Ext w) (by kernel_rfl) ((Ext.refl _).drew) (fun hHeld => ?_)
  obtain ⟨wD1, hwD⟩ : ∃ V, V = World.drew w := ⟨_, rfl⟩
  rw [← hwD]
  clear hHeld
  have zz0 : Ext w wD1 := by rw [hwD]; exact (Ext.refl _).drew
  clear hwD
  refine wpAnyH_imp (S' := Ext wD1) (fun W h => Ext.trans zz0 h) _ _ _ _ ?_
  have hHeld := Ext.refl wD1
  refine wpAnyH_take (i := 0) (oi := { dst := some 8, op := Op.move (Operand.tmp 0), type := 26, pos := "ref.go:74", after := #[], guard := none }) (v := ?vv2_1_0) rfl (by kernel_rfl) (by kernel_rfl) (by kernel_rfl) (fun _ _ _ h => h) (Or.inl ⟨by rfl, ?yy2_1_0⟩) hHeld ?_
  case yy2_1_0 => (intro W hx; go_simp; try with_reducible rfl)
  simp only [Act.put, List.setIfInBounds_toArray, List.set_cons_zero, List.set_cons_succ]
  refine wpAnyH_take (i := 1) (oi := { dst := some 9, op := Op.nilCheck (Operand.tmp 8), type := 0, pos := "ref.go:74", after := #[{ on := 0, ground := Ground.data }], guard := none }) (v := ?vv3_1_1) rfl (by kernel_rfl) (by kernel_rfl) (by kernel_rfl) (fun _ _ _ h => h) (Or.inl ⟨by rfl, ?yy3_1_1⟩) hHeld ?_
  case yy3_1_1 => (intro W hx; go_simp; try with_reducible rfl)
  simp only [Act.put, List.setIfInBounds_toArray, List.set_cons_zero, List.set_cons_succ]
  refine wpAnyH_take (i := 2) (oi := { dst := some 10, op := Op.fieldAddr 38 (Operand.tmp 9) 2, type := 0, pos := "ref.go:74", after := #[{ on := 1, ground := Ground.data }], guard := none }) (v := ?vv4_1_2) rfl (by kernel_rfl) (by kernel_rfl) (by kernel_rfl) (fun _ _ _ h => h) (Or.inl ⟨by rfl, ?yy4_1_2⟩) hHeld ?_
  case yy4_1_2 => (intro W hx; go_simp; try with_reducible rfl)
  simp only [Act.put, List.setIfInBounds_toArray, List.set_cons_zero, List.set_cons_succ]
  refine wpAnyH_take (i := 3) (oi := { dst := some 11, op := Op.load 29 (Operand.tmp 10), type := 29, pos := "ref.go:74", after := #[{ on := 2, ground := Ground.data }], guard := none }) (v := ?vv5_1_3) rfl (by kernel_rfl) (by kernel_rfl) (by kernel_rfl) (fun _ _ _ h => h) (Or.inl ⟨by rfl, ?yy5_1_3⟩) hHeld ?_
  case yy5_1_3 => (intro W hx; have hz := zz0.trans hx; obtain ⟨f0, f1, f2, f3, f4, f5⟩ := cells6 ((hz.block _ (blk_lt K)).trans K); go_simp; try with_reducible rfl)
  simp only [Act.put, List.setIfInBounds_toArray, List.set_cons_zero, List.set_cons_succ]
  refine wpAnyH_take (i := 4) (oi := { dst := some 12, op := Op.binOp BinOp.eql 29 (Operand.tmp 11) (Operand.const (Value.slice none 0 0)) 29, type := 4, pos := "ref.go:74", after := #[{ on := 3, ground := Ground.data }], guard := none }) (v := ?vv6_1_4) rfl (by kernel_rfl) (by kernel_rfl) (by kernel_rfl) (fun _ _ _ h => h) (Or.inl ⟨by rfl, ?yy6_1_4⟩) hHeld ?_
  case yy6_1_4 => (intro W hx; go_simp; try with_reducible rfl)
  simp only [Act.put, List.setIfInBounds_toArray, List.set_cons_zero, List.set_cons_succ]
  refine wpAnyH_take (i := 5) (oi := { dst := some 13, op := Op.move (Operand.tmp 12), type := 4, pos := "ref.go:74", after := #[{ on := 4, ground := Ground.data }], guard := none }) (v := ?vv7_1_5) rfl (by kernel_rfl) (by kernel_rfl) (by kernel_rfl) (fun _ _ _ h => h) (Or.inl ⟨by rfl, ?yy7_1_5⟩) hHeld ?_
  case yy7_1_5 => (intro W hx; go_simp; try with_reducible rfl)
  simp only [Act.put, List.setIfInBounds_toArray, List.set_cons_zero, List.set_cons_succ]
  refine wpAnyH_take (i := 6) (oi := { dst := some 14, op := Op.move (Operand.tmp 0), type := 26, pos := "ref.go:74", after := #[{ on := 5, ground := Ground.guard }], guard := some (5, false) }) (v := ?vv8_1_6) rfl (by kernel_rfl) (by kernel_rfl) (by kernel_rfl) (fun _ _ _ h => h) (Or.inl ⟨by rfl, ?yy8_1_6⟩) hHeld ?_
  case yy8_1_6 => (intro W hx; go_simp; try with_reducible rfl)
  simp only [Act.put, List.setIfInBounds_toArray, List.set_cons_zero, List.set_cons_succ]
  refine wpAnyH_take (i := 7) (oi := { dst := some 15, op := Op.nilCheck (Operand.tmp 14), type := 0, pos := "ref.go:74", after := #[{ on := 6, ground := Ground.data }, { on := 5, ground := Ground.guard }], guard := some (5, false) }) (v := ?vv9_1_7) rfl (by kernel_rfl) (by kernel_rfl) (by kernel_rfl) (fun _ _ _ h => h) (Or.inl ⟨by rfl, ?yy9_1_7⟩) hHeld ?_
  case yy9_1_7 => (intro W hx; go_simp; try with_reducible rfl)
  simp only [Act.put, List.setIfInBounds_toArray, List.set_cons_zero, List.set_cons_succ]
  refine wpAnyH_take (i := 8) (oi := { dst := some 16, op := Op.fieldAddr 38 (Operand.tmp 15) 4, type := 0, pos := "ref.go:74", after := #[{ on := 7, ground := Ground.data }, { on := 5, ground := Ground.guard }], guard := some (5, false) }) (v := ?vv10_1_8) rfl (by kernel_rfl) (by kernel_rfl) (by kernel_rfl) (fun _ _ _ h => h) (Or.inl ⟨by rfl, ?yy10_1_8⟩) hHeld ?_
  case yy10_1_8 => (intro W hx; go_simp; try with_reducible rfl)
  simp only [Act.put, List.setIfInBounds_toArray, List.set_cons_zero, List.set_cons_succ]
  refine wpAnyH_take (i := 9) (oi := { dst := some 17, op := Op.load 3 (Operand.tmp 16), type := 3, pos := "ref.go:74", after := #[{ on := 8, ground := Ground.data }, { on := 5, ground := Ground.guard }], guard := some (5, false) }) (v := ?vv11_1_9) rfl (by kernel_rfl) (by kernel_rfl) (by kernel_rfl) (fun _ _ _ h => h) (Or.inl ⟨by rfl, ?yy11_1_9⟩) hHeld ?_
  case yy11_1_9 => (intro W hx; have hz := zz0.trans hx; obtain ⟨f0, f1, f2, f3, f4, f5⟩ := cells6 ((hz.block _ (blk_lt K)).trans K); go_simp; try with_reducible rfl)
  simp only [Act.put, List.setIfInBounds_toArray, List.set_cons_zero, List.set_cons_succ]
  refine wpAnyH_take (i := 10) (oi := { dst := some 18, op := Op.move (Operand.tmp 0), type := 26, pos := "ref.go:74", after := #[{ on := 5, ground := Ground.guard }], guard := some (5, false) }) (v := ?vv12_1_10) rfl (by kernel_rfl) (by kernel_rfl) (by kernel_rfl) (fun _ _ _ h => h) (Or.inl ⟨by rfl, ?yy12_1_10⟩) hHeld ?_
  case yy12_1_10 => (intro W hx; go_simp; try with_reducible rfl)
  simp only [Act.put, List.setIfInBounds_toArray, List.set_cons_zero, List.set_cons_succ]
  refine wpAnyH_take (i := 11) (oi := { dst := some 19, op := Op.nilCheck (Operand.tmp 18), type := 0, pos := "ref.go:74", after := #[{ on := 10, ground := Ground.data }, { on := 5, ground := Ground.guard }], guard := some (5, false) }) (v := ?vv13_1_11) rfl (by kernel_rfl) (by kernel_rfl) (by kernel_rfl) (fun _ _ _ h => h) (Or.inl ⟨by rfl, ?yy13_1_11⟩) hHeld ?_
  case yy13_1_11 => (intro W hx; go_simp; try with_reducible rfl)
  simp only [Act.put, List.setIfInBounds_toArray, List.set_cons_zero, List.set_cons_succ]
  refine wpAnyH_take (i := 12) (oi := { dst := some 20, op := Op.fieldAddr 38 (Operand.tmp 19) 2, type := 0, pos := "ref.go:74", after := #[{ on := 11, ground := Ground.data }, { on := 5, ground := Ground.guard }], guard := some (5, false) }) (v := ?vv14_1_12) rfl (by kernel_rfl) (by kernel_rfl) (by kernel_rfl) (fun _ _ _ h => h) (Or.inl ⟨by rfl, ?yy14_1_12⟩) hHeld ?_
  case yy14_1_12 => (intro W hx; go_simp; try with_reducible rfl)
  simp only [Act.put, List.setIfInBounds_toArray, List.set_cons_zero, List.set_cons_succ]
  refine wpAnyH_take (i := 13) (oi := { dst := some 21, op := Op.load 29 (Operand.tmp 20), type := 29, pos := "ref.go:74", after := #[{ on := 12, ground := Ground.data }, { on := 5, ground := Ground.guard }], guard := some (5, false) }) (v := ?vv15_1_13) rfl (by kernel_rfl) (by kernel_rfl) (by kernel_rfl) (fun _ _ _ h => h) (Or.inl ⟨by rfl, ?yy15_1_13⟩) hHeld ?_
  case yy15_1_13 => (intro W hx; have hz := zz0.trans hx; obtain ⟨f0, f1, f2, f3, f4, f5⟩ := cells6 ((hz.block _ (blk_lt K)).trans K); go_simp; try with_reducible rfl)
  simp only [Act.put, List.setIfInBounds_toArray, List.set_cons_zero, List.set_cons_succ]
  refine wpAnyH_take (i := 14) (oi := { dst := some 22, op := Op.call { callee := Callee.builtin Builtin.len, args := #[Operand.tmp 21], argTypes := #[29] }, type := 3, pos := "ref.go:74", after := #[{ on := 13, ground := Ground.data }, { on := 5, ground := Ground.guard }], guard := some (5, false) }) (v := ?vv16_1_14) rfl (by kernel_rfl) (by kernel_rfl) (by kernel_rfl) (fun _ _ _ h => h) (Or.inl ⟨by rfl, ?yy16_1_14⟩) hHeld ?_
  case yy16_1_14 => (intro W hx; go_simp; try with_reducible rfl)
  simp only [Act.put, List.setIfInBounds_toArray, List.set_cons_zero, List.set_cons_succ]
  refine wpAnyH_take (i := 15) (oi := { dst := some 23, op := Op.binOp BinOp.neq 3 (Operand.tmp 17) (Operand.tmp 22) 3, type := 4, pos := "ref.go:74", after := #[{ on := 9, ground := Ground.data }, { on := 14, ground := Ground.data }, { on := 5, ground := Ground.guard }], guard := some (5, false) }) (v := ?vv17_1_15) rfl (by kernel_rfl) (by kernel_rfl) (by kernel_rfl) (fun _ _ _ h => h) (Or.inl ⟨by rfl, ?yy17_1_15⟩) hHeld ?_
  case yy17_1_15 => (intro W hx; go_simp; try with_reducible rfl)
  simp only [Act.put, List.setIfInBounds_toArray, List.set_cons_zero, List.set_cons_succ]
  refine wpAnyH_take (i := 16) (oi := { dst := some 24, op := Op.pick (Operand.tmp 13) (Operand.const (Value.bool true)) (Operand.tmp 23), type := 4, pos := "ref.go:74", after := #[{ on := 5, ground := Ground.data }, { on := 15, ground := Ground.data }], guard := none }) (v := ?vv18_1_16) rfl (by kernel_rfl) (by kernel_rfl) (by kernel_rfl) (fun _ _ _ h => h) (Or.inl ⟨by rfl, ?yy18_1_16⟩) hHeld ?_
  case yy18_1_16 => (intro W hx; go_simp; try with_reducible rfl)
  simp only [Act.put, List.setIfInBounds_toArray, List.set_cons_zero, List.set_cons_succ]
  refine wpAnyH_take (i := 17) (oi := { dst := some 25, op := Op.move (Operand.tmp 24), type := 4, pos := "ref.go:74", after := #[{ on := 16, ground := Ground.data }, { on := 5, ground := Ground.chain }], guard := none }) (v := ?vv19_1_17) rfl (by kernel_rfl) (by kernel_rfl) (by kernel_rfl) (fun _ _ _ h => h) (Or.inl ⟨by rfl, ?yy19_1_17⟩) hHeld ?_
  case yy19_1_17 => (intro W hx; go_simp; try with_reducible rfl)
  simp only [Act.put, List.setIfInBounds_toArray, List.set_cons_zero, List.set_cons_succ]
  refine wpAnyH_take (i := 18) (oi := { dst := some 26, op := Op.move (Operand.tmp 1), type := 3, pos := "ref.go:74", after := #[{ on := 17, ground := Ground.guard }], guard := some (17, false) }) (v := ?vv20_1_18) rfl (by kernel_rfl) (by kernel_rfl) (by kernel_rfl) (fun _ _ _ h => h) (Or.inl ⟨by rfl, ?yy20_1_18⟩) hHeld ?_
  case yy20_1_18 => (intro W hx; go_simp; try with_reducible rfl)
  simp only [Act.put, List.setIfInBounds_toArray, List.set_cons_zero, List.set_cons_succ]
  refine wpAnyH_take (i := 19) (oi := { dst := some 27, op := Op.move (Operand.tmp 0), type := 26, pos := "ref.go:74", after := #[{ on := 17, ground := Ground.guard }], guard := some (17, false) }) (v := ?vv21_1_19) rfl (by kernel_rfl) (by kernel_rfl) (by kernel_rfl) (fun _ _ _ h => h) (Or.inl ⟨by rfl, ?yy21_1_19⟩) hHeld ?_
  case yy21_1_19 => (intro W hx; go_simp; try with_reducible rfl)
  simp only [Act.put, List.setIfInBounds_toArray, List.set_cons_zero, List.set_cons_succ]
  refine wpAnyH_take (i := 20) (oi := { dst := some 28, op := Op.nilCheck (Operand.tmp 27), type := 0, pos := "ref.go:74", after := #[{ on := 19, ground := Ground.data }, { on := 17, ground := Ground.guard }], guard := some (17, false) }) (v := ?vv22_1_20) rfl (by kernel_rfl) (by kernel_rfl) (by kernel_rfl) (fun _ _ _ h => h) (Or.inl ⟨by rfl, ?yy22_1_20⟩) hHeld ?_
  case yy22_1_20 => (intro W hx; go_simp; try with_reducible rfl)
  simp only [Act.put, List.setIfInBounds_toArray, List.set_cons_zero, List.set_cons_succ]
  refine wpAnyH_take (i := 21) (oi := { dst := some 29, op := Op.fieldAddr 38 (Operand.tmp 28) 2, type := 0, pos := "ref.go:74", after := #[{ on := 20, ground := Ground.data }, { on := 17, ground := Ground.guard }], guard := some (17, false) }) (v := ?vv23_1_21) rfl (by kernel_rfl) (by kernel_rfl) (by kernel_rfl) (fun _ _ _ h => h) (Or.inl ⟨by rfl, ?yy23_1_21⟩) hHeld ?_
  case yy23_1_21 => (intro W hx; go_simp; try with_reducible rfl)
  simp only [Act.put, List.setIfInBounds_toArray, List.set_cons_zero, List.set_cons_succ]
  refine wpAnyH_take (i := 22) (oi := { dst := some 30, op := Op.load 29 (Operand.tmp 29), type := 29, pos := "ref.go:74", after := #[{ on := 21, ground := Ground.data }, { on := 17, ground := Ground.guard }], guard := some (17, false) }) (v := ?vv24_1_22) rfl (by kernel_rfl) (by kernel_rfl) (by kernel_rfl) (fun _ _ _ h => h) (Or.inl ⟨by rfl, ?yy24_1_22⟩) hHeld ?_
  case yy24_1_22 => (intro W hx; have hz := zz0.trans hx; obtain ⟨f0, f1, f2, f3, f4, f5⟩ := cells6 ((hz.block _ (blk_lt K)).trans K); go_simp; try with_reducible rfl)
  simp only [Act.put, List.setIfInBounds_toArray, List.set_cons_zero, List.set_cons_succ]
  refine wpAnyH_take (i := 23) (oi := { dst := some 31, op := Op.call { callee := Callee.builtin Builtin.len, args := #[Operand.tmp 30], argTypes := #[29] }, type := 3, pos := "ref.go:74", after := #[{ on := 22, ground := Ground.data }, { on := 17, ground := Ground.guard }], guard := some (17, false) }) (v := ?vv25_1_23) rfl (by kernel_rfl) (by kernel_rfl) (by kernel_rfl) (fun _ _ _ h => h) (Or.inl ⟨by rfl, ?yy25_1_23⟩) hHeld ?_
  case yy25_1_23 => (intro W hx; go_simp; try with_reducible rfl)
  simp only [Act.put, List.setIfInBounds_toArray, List.set_cons_zero, List.set_cons_succ]
  refine wpAnyH_take (i := 24) (oi := { dst := some 32, op := Op.move (Operand.tmp 0), type := 26, pos := "ref.go:74", after := #[{ on := 17, ground := Ground.guard }], guard := some (17, false) }) (v := ?vv26_1_24) rfl (by kernel_rfl) (by kernel_rfl) (by kernel_rfl) (fun _ _ _ h => h) (Or.inl ⟨by rfl, ?yy26_1_24⟩) hHeld ?_
  case yy26_1_24 => (intro W hx; go_simp; try with_reducible rfl)
  simp only [Act.put, List.setIfInBounds_toArray, List.set_cons_zero, List.set_cons_succ]
  refine wpAnyH_take (i := 25) (oi := { dst := some 33, op := Op.nilCheck (Operand.tmp 32), type := 0, pos := "ref.go:74", after := #[{ on := 24, ground := Ground.data }, { on := 17, ground := Ground.guard }], guard := some (17, false) }) (v := ?vv27_1_25) rfl (by kernel_rfl) (by kernel_rfl) (by kernel_rfl) (fun _ _ _ h => h) (Or.inl ⟨by rfl, ?yy27_1_25⟩) hHeld ?_
  case yy27_1_25 => (intro W hx; go_simp; try with_reducible rfl)
  simp only [Act.put, List.setIfInBounds_toArray, List.set_cons_zero, List.set_cons_succ]
  refine wpAnyH_take (i := 26) (oi := { dst := some 34, op := Op.fieldAddr 38 (Operand.tmp 33) 5, type := 0, pos := "ref.go:74", after := #[{ on := 25, ground := Ground.data }, { on := 17, ground := Ground.guard }], guard := some (17, false) }) (v := ?vv28_1_26) rfl (by kernel_rfl) (by kernel_rfl) (by kernel_rfl) (fun _ _ _ h => h) (Or.inl ⟨by rfl, ?yy28_1_26⟩) hHeld ?_
  case yy28_1_26 => (intro W hx; go_simp; try with_reducible rfl)
  simp only [Act.put, List.setIfInBounds_toArray, List.set_cons_zero, List.set_cons_succ]
  refine wpAnyH_take (i := 27) (oi := { dst := some 35, op := Op.load 29 (Operand.tmp 34), type := 29, pos := "ref.go:74", after := #[{ on := 26, ground := Ground.data }, { on := 17, ground := Ground.guard }], guard := some (17, false) }) (v := ?vv29_1_27) rfl (by kernel_rfl) (by kernel_rfl) (by kernel_rfl) (fun _ _ _ h => h) (Or.inl ⟨by rfl, ?yy29_1_27⟩) hHeld ?_
  case yy29_1_27 => (intro W hx; have hz := zz0.trans hx; obtain ⟨f0, f1, f2, f3, f4, f5⟩ := cells6 ((hz.block _ (blk_lt K)).trans K); go_simp; try with_reducible rfl)
  simp only [Act.put, List.setIfInBounds_toArray, List.set_cons_zero, List.set_cons_succ]
  refine wpAnyH_take (i := 28) (oi := { dst := some 36, op := Op.call { callee := Callee.builtin Builtin.len, args := #[Operand.tmp 35], argTypes := #[29] }, type := 3, pos := "ref.go:74", after := #[{ on := 27, ground := Ground.data }, { on := 17, ground := Ground.guard }], guard := some (17, false) }) (v := ?vv30_1_28) rfl (by kernel_rfl) (by kernel_rfl) (by kernel_rfl) (fun _ _ _ h => h) (Or.inl ⟨by rfl, ?yy30_1_28⟩) hHeld ?_
  case yy30_1_28 => (intro W hx; go_simp; try with_reducible rfl)
  simp only [Act.put, List.setIfInBounds_toArray, List.set_cons_zero, List.set_cons_succ]
  refine wpAnyH_take (i := 29) (oi := { dst := some 37, op := Op.binOp BinOp.sub 3 (Operand.tmp 31) (Operand.tmp 36) 3, type := 3, pos := "ref.go:74", after := #[{ on := 23, ground := Ground.data }, { on := 28, ground := Ground.data }, { on := 17, ground := Ground.guard }], guard := some (17, false) }) (v := ?vv31_1_29) rfl (by kernel_rfl) (by kernel_rfl) (by kernel_rfl) (fun _ _ _ h => h) (Or.inl ⟨by rfl, ?yy31_1_29⟩) hHeld ?_
  case yy31_1_29 => (intro W hx; go_simp; try with_reducible rfl)
  simp only [Act.put, List.setIfInBounds_toArray, List.set_cons_zero, List.set_cons_succ]
  refine wpAnyH_take (i := 30) (oi := { dst := some 38, op := Op.binOp BinOp.neq 3 (Operand.tmp 26) (Operand.tmp 37) 3, type := 4, pos := "ref.go:74", after := #[{ on := 18, ground := Ground.data }, { on := 29, ground := Ground.data }, { on := 17, ground := Ground.guard }], guard := some (17, false) }) (v := ?vv32_1_30) rfl (by kernel_rfl) (by kernel_rfl) (by kernel_rfl) (fun _ _ _ h => h) (Or.inl ⟨by rfl, ?yy32_1_30⟩) hHeld ?_
  case yy32_1_30 => (intro W hx; go_simp; try with_reducible rfl)
  simp only [Act.put, List.setIfInBounds_toArray, List.set_cons_zero, List.set_cons_succ]
  refine wpAnyH_take (i := 31) (oi := { dst := some 39, op := Op.pick (Operand.tmp 25) (Operand.const (Value.bool true)) (Operand.tmp 38), type := 4, pos := "ref.go:74", after := #[{ on := 17, ground := Ground.data }, { on := 30, ground := Ground.data }], guard := none }) (v := ?vv33_1_31) rfl (by kernel_rfl) (by kernel_rfl) (by kernel_rfl) (fun _ _ _ h => h) (Or.inl ⟨by rfl, ?yy33_1_31⟩) hHeld ?_
  case yy33_1_31 => (intro W hx; go_simp; try with_reducible rfl)
  simp only [Act.put, List.setIfInBounds_toArray, List.set_cons_zero, List.set_cons_succ]
  refine wpAnyH_take (i := 32) (oi := { dst := some 40, op := Op.move (Operand.tmp 39), type := 4, pos := "ref.go:74", after := #[{ on := 31, ground := Ground.data }, { on := 17, ground := Ground.chain }], guard := none }) (v := ?vv34_1_32) rfl (by kernel_rfl) (by kernel_rfl) (by kernel_rfl) (fun _ _ _ h => h) (Or.inl ⟨by rfl, ?yy34_1_32⟩) hHeld ?_
  case yy34_1_32 => (intro W hx; go_simp; try with_reducible rfl)
  simp only [Act.put, List.setIfInBounds_toArray, List.set_cons_zero, List.set_cons_succ]
  refine wpAnyH_take (i := 33) (oi := { dst := some 41, op := Op.move (Operand.tmp 2), type := 29, pos := "ref.go:74", after := #[{ on := 32, ground := Ground.guard }], guard := some (32, false) }) (v := ?vv35_1_33) rfl (by kernel_rfl) (by kernel_rfl) (by kernel_rfl) (fun _ _ _ h => h) (Or.inl ⟨by rfl, ?yy35_1_33⟩) hHeld ?_
  case yy35_1_33 => (intro W hx; go_simp; try with_reducible rfl)
  simp only [Act.put, List.setIfInBounds_toArray, List.set_cons_zero, List.set_cons_succ]
  refine wpAnyH_take (i := 34) (oi := { dst := some 42, op := Op.call { callee := Callee.builtin Builtin.len, args := #[Operand.tmp 41], argTypes := #[29] }, type := 3, pos := "ref.go:74", after := #[{ on := 33, ground := Ground.data }, { on := 32, ground := Ground.guard }], guard := some (32, false) }) (v := ?vv36_1_34) rfl (by kernel_rfl) (by kernel_rfl) (by kernel_rfl) (fun _ _ _ h => h) (Or.inl ⟨by rfl, ?yy36_1_34⟩) hHeld ?_
  case yy36_1_34 => (intro W hx; go_simp; try with_reducible rfl)
  simp only [Act.put, List.setIfInBounds_toArray, List.set_cons_zero, List.set_cons_succ]
  refine wpAnyH_take (i := 35) (oi := { dst := some 43, op := Op.move (Operand.tmp 1), type := 3, pos := "ref.go:74", after := #[{ on := 32, ground := Ground.guard }], guard := some (32, false) }) (v := ?vv37_1_35) rfl (by kernel_rfl) (by kernel_rfl) (by kernel_rfl) (fun _ _ _ h => h) (Or.inl ⟨by rfl, ?yy37_1_35⟩) hHeld ?_
  case yy37_1_35 => (intro W hx; go_simp; try with_reducible rfl)
  simp only [Act.put, List.setIfInBounds_toArray, List.set_cons_zero, List.set_cons_succ]
  refine wpAnyH_take (i := 36) (oi := { dst := some 44, op := Op.call { callee := Callee.builtin Builtin.min, args := #[Operand.tmp 43, Operand.const (Value.int IntKind.i64 6)], argTypes := #[3, 3] }, type := 3, pos := "ref.go:74", after := #[{ on := 35, ground := Ground.data }, { on := 32, ground := Ground.guard }], guard := some (32, false) }) (v := ?vv38_1_36) rfl (by kernel_rfl) (by kernel_rfl) (by kernel_rfl) (fun _ _ _ h => h) (Or.inl ⟨by rfl, ?yy38_1_36⟩) hHeld ?_
  case yy38_1_36 => (intro W hx; go_simp; try with_reducible rfl)
  simp only [Act.put, List.setIfInBounds_toArray, List.set_cons_zero, List.set_cons_succ]
  refine wpAnyH_take (i := 37) (oi := { dst := some 45, op := Op.binOp BinOp.neq 3 (Operand.tmp 42) (Operand.tmp 44) 3, type := 4, pos := "ref.go:74", after := #[{ on := 34, ground := Ground.data }, { on := 36, ground := Ground.data }, { on := 32, ground := Ground.guard }], guard := some (32, false) }) (v := ?vv39_1_37) rfl (by kernel_rfl) (by kernel_rfl) (by kernel_rfl) (fun _ _ _ h => h) (Or.inl ⟨by rfl, ?yy39_1_37⟩) hHeld ?_
  case yy39_1_37 => (intro W hx; go_simp; try with_reducible rfl)
  simp only [Act.put, List.setIfInBounds_toArray, List.set_cons_zero, List.set_cons_succ]
  refine wpAnyH_take (i := 38) (oi := { dst := some 46, op := Op.pick (Operand.tmp 40) (Operand.const (Value.bool true)) (Operand.tmp 45), type := 4, pos := "ref.go:74", after := #[{ on := 32, ground := Ground.data }, { on := 37, ground := Ground.data }], guard := none }) (v := ?vv40_1_38) rfl (by kernel_rfl) (by kernel_rfl) (by kernel_rfl) (fun _ _ _ h => h) (Or.inl ⟨by rfl, ?yy40_1_38⟩) hHeld ?_
  case yy40_1_38 => (intro W hx; go_simp; try with_reducible rfl)
  simp only [Act.put, List.setIfInBounds_toArray, List.set_cons_zero, List.set_cons_succ]
  refine wpAnyH_done (by kernel_rfl) ?_ _
  have zend := zz0.trans hHeld
  obtain ⟨w1, rfl⟩ : ∃ V : World, V = wD1 := ⟨_, rfl⟩
  have x1 := zend
  clear zend hes hmn hwd hsub
  have K1 := (x1.block _ (blk_lt K)).trans K
  have h1 := HH.out.ext x1
  have r1 := hr.ext x1
  have kr1 := h1.key
  rw [← HKN.out] at kr1
  have hgl := blk_lt K1
  obtain ⟨f0, f1, f2, f3, f4, f5⟩ := cells6 K1
  go_upto_region 5 with (first
    | (at_builtin; refine wpList_app el29 rfl _ _ rfl (World.ownsRow_lit _ #[] 0 (Nat.le_refl _) (by simp) rfl) rfl ((kr1.ext ((Ext.refl _).alloc _)).shows) rfl (u8s_one _) (le_max (by omega)) (by omega) rfl ((Ext.refl _).alloc _) ?_; intro va wa owna xa hga hata; clear hga hata)
    | (at_builtin; refine wpList_app el29 rfl _ _ rfl owna rfl ((r1.ext xa).shows) rfl (u8s_one _) (le_max (by omega)) (by omega) rfl xa ?_; intro vb wb ownb xb hgb hatb; clear hgb hatb; obtain ⟨A4, c4, rfl, l4, m4, r4, q4⟩ := back2 ownb (kr1.byts.append r1.byts); have Kb := (xb.block _ (blk_lt K1)).trans K1; clear f0 f1 f2 f3 f4 f5; obtain ⟨f0, f1, f2, f3, f4, f5⟩ := cells6 Kb; have z5 := blk_free (i := 5) Kb))
  obtain ⟨m, hm⟩ : ∃ m, m = kn + n := ⟨_, rfl⟩
  rw [← hm] at l4 r4
  have hmI : (kn : Int) + n = m := by omega
  obtain ⟨w5, hw5, K5, x5⟩ := set_new 5 (.slice A4 (kn + n) c4) Kb
  rw [← hw5]; clear hw5
  rw [← hm] at K5 HO ⊢
  have kg : Kept (· = g) wb w5 := .of_grown x5 (fun b e => by injection e with e; exact e.symm)
  have hne4 : ∀ ad, A4 = some ad → ad.block ≠ g := fun ad e => by have := (q4 ad e).1; omega
  have rk5 := r4.kept kg hne4
  have sd5 := (h1.seed.ext xb).kept kg (fun ad e => (h1.fs ad e).2)
  have kF : Kept F w w5 := (Kept.of_ext (x1.trans xb)).trans' (.of_grown x5 (fun b e => by injection e with e; subst e; exact h1.fg))
  have K5 : w5.heap[g]? = some (.cells #[.int .u8 s.all, .int .u8 s.lk, .slice (some ad) sn sc, .int .u8 s.res, .int .i64 (sn : Int), .slice A4 m c4] 38 (0, 0)) := by rw [HSN.out]; rw [HSN.out] at K5; exact K5
  have hnew4 : ∀ ad, A4 = some ad → w.heap.size ≤ ad.block ∧ ad.block < w5.heap.size := fun ad e => by
    have h4 := q4 ad e
    have := x1.size
    have := kg.size
    exact ⟨by omega, by omega⟩
  have HN4 := Lib.hid hnew4
  have HKF := Lib.hid kF
  have hresb := h1.ok.res
  obtain ⟨r0, r1'⟩ := hresb
  have hkb : Byts (s.key ++ bs) := kr1.byts.append r1.byts
  have hkl : (s.key ++ bs).length = m := by rw [List.length_append, hr.len, ← HKN.out, hm]
  have HKB := Lib.hid hkl
  have hm26 : m ≤ 26 := by omega
  have hsnc := HSN.out
  rw [← hsnc] at sd5
  clear f0 f1 f2 f3 f4 f5 z5 kg hne4 hnew4 kF hkl hm hmI r4 q4 ownb owna xa xb kr1 r1 x5 Kb K1 K hr hsnc
  obtain ⟨f0, f1, f2, f3, f4, f5⟩ := cells6 K5
  by_cases hlt : m < sn
  · have ho := HO.out
    rw [if_pos hlt] at ho
    subst ho
    have b1 : (m : Int) < sn := by omega
    clear hlt
    go_quiet (fail)
    obtain ⟨w6, hWq⟩ : ∃ z : World, z = World.drewN w5 nq := ⟨_, rfl⟩
    rw [← hWq]
    have xw6 : Ext w5 w6 := by rw [hWq]; exact (Ext.refl _).drewN _
    clear hWq
    go_wp2
    go_ret
    have h := HH.out
    refine ⟨rfl, fun k => F k ∨ ∃ ad, A4 = some ad ∧ k = ad.block, ⟨some ad, sc, A4, c4, ?_⟩, HKF.out.then xw6, ?_⟩
    · exact {
        row := by show w6.heap[g]? = some (.cells #[.int .u8 s.all, .int .u8 s.lk, .slice (some ad) s.seed.length sc, .int .u8 s.res, .int .i64 (s.told : Int), .slice A4 ((s.key ++ bs).length) c4] 38 (0, 0)); rw [HKB.out, HTO.out, ← HSN.out]; exact (xw6.block _ (blk_lt K5)).trans K5
        seed := by show Rd w6 (some ad) s.seed.length s.seed; rw [← HSN.out]; exact sd5.ext xw6
        cap := h.cap
        nil := h.nil
        key := by show Rd w6 A4 (s.key ++ bs).length (s.key ++ bs); rw [HKB.out]; exact rk5.ext xw6
        fg := .inl h.fg
        fs := fun ad e => ⟨.inl (h.fs ad e).1, (h.fs ad e).2⟩
        fk := fun ad e => ⟨.inr ⟨ad, e, rfl⟩, fun e2 => by have := (HN4.out ad e).1; have := h.lt _ h.fg; omega⟩
        lt := by
          rintro i (hi | ⟨ad, e, rfl⟩)
          · have := h.lt i hi; have := HKF.out.size; have := xw6.size; omega
          · have := (HN4.out ad e).2; have := xw6.size; omega
        ok := ⟨h.ok.all, h.ok.lk, h.ok.res, h.ok.told, h.ok.len, by show (s.key ++ bs).length ≤ s.seed.length; rw [HKB.out, ← HSN.out]; omega⟩ }
    · rintro i (hi | ⟨ad, e, rfl⟩)
      · exact .inl hi
      · exact .inr (HN4.out ad e).1
  · have ho := HO.out
    rw [if_neg hlt] at ho
    have HO := Lib.hid ho
    clear ho
    have b1 : ¬ (m : Int) < sn := by omega
    clear hlt
    go_quiet (fail)
    obtain ⟨w6, hWq⟩ : ∃ z : World, z = World.drewN w5 nq := ⟨_, rfl⟩
    rw [← hWq]
    have xw6 : Ext w5 w6 := by rw [hWq]; exact (Ext.refl _).drewN _
    clear hWq
    have K6 := (xw6.block _ (blk_lt K5)).trans K5
    have sd6 := sd5.ext xw6
    have rk6 := rk5.ext xw6
    clear f0 f1 f2 f3 f4 f5
    obtain ⟨good, hgood⟩ : ∃ b, b = decide (s.key ++ bs = keyB s.res s.seed) := ⟨_, rfl⟩
    have hbeq := str_beq hkb (keyB_byts (res := s.res) sd6.byts)
    rw [← hgood] at hbeq
    have HG := Lib.hid hgood
    clear hgood
    go_upto_region 7 with (fail)
    refine wp_region_held_drew (S := Ext w6) (by kernel_rfl) ((Ext.refl _).drew) (fun hHeld => ?_)
    obtain ⟨wD41, hwD⟩ : ∃ V, V = World.drew w6 := ⟨_, rfl⟩
    rw [← hwD]
    clear hHeld
    have zz0 : Ext w6 wD41 := by rw [hwD]; exact (Ext.refl _).drew
    clear hwD
    refine wpAnyH_imp (S' := Ext wD41) (fun W h => Ext.trans zz0 h) _ _ _ _ ?_
    have hHeld := Ext.refl wD41
    refine wpAnyH_take (i := 0) (oi := { dst := some 71, op := Op.move (Operand.tmp 0), type := 26, pos := "ref.go:82", after := #[], guard := none }) (v := ?vv42_7_0) rfl (by kernel_rfl) (by kernel_rfl) (by kernel_rfl) (fun _ _ _ h => h) (Or.inl ⟨by rfl, ?yy42_7_0⟩) hHeld ?_
    case yy42_7_0 => (intro W hx; go_simp; try with_reducible rfl)
    simp only [Act.put, List.setIfInBounds_toArray, List.set_cons_zero, List.set_cons_succ]
    refine wpAnyH_take (i := 1) (oi := { dst := some 72, op := Op.nilCheck (Operand.tmp 71), type := 0, pos := "ref.go:82", after := #[{ on := 0, ground := Ground.data }], guard := none }) (v := ?vv43_7_1) rfl (by kernel_rfl) (by kernel_rfl) (by kernel_rfl) (fun _ _ _ h => h) (Or.inl ⟨by rfl, ?yy43_7_1⟩) hHeld ?_
    case yy43_7_1 => (intro W hx; go_simp; try with_reducible rfl)
    simp only [Act.put, List.setIfInBounds_toArray, List.set_cons_zero, List.set_cons_succ]
    refine wpAnyH_take (i := 2) (oi := { dst := some 73, op := Op.fieldAddr 38 (Operand.tmp 72) 5, type := 0, pos := "ref.go:82", after := #[{ on := 1, ground := Ground.data }], guard := none }) (v := ?vv44_7_2) rfl (by kernel_rfl) (by kernel_rfl) (by kernel_rfl) (fun _ _ _ h => h) (Or.inl ⟨by rfl, ?yy44_7_2⟩) hHeld ?_
    case yy44_7_2 => (intro W hx; go_simp; try with_reducible rfl)
    simp only [Act.put, List.setIfInBounds_toArray, List.set_cons_zero, List.set_cons_succ]
    refine wpAnyH_take (i := 3) (oi := { dst := some 74, op := Op.load 29 (Operand.tmp 73), type := 29, pos := "ref.go:82", after := #[{ on := 2, ground := Ground.data }], guard := none }) (v := ?vv45_7_3) rfl (by kernel_rfl) (by kernel_rfl) (by kernel_rfl) (fun _ _ _ h => h) (Or.inl ⟨by rfl, ?yy45_7_3⟩) hHeld ?_
    case yy45_7_3 => (intro W hx; have hz := zz0.trans hx; obtain ⟨f0, f1, f2, f3, f4, f5⟩ := cells6 ((hz.block _ (blk_lt K6)).trans K6); go_simp; try with_reducible rfl)
    simp only [Act.put, List.setIfInBounds_toArray, List.set_cons_zero, List.set_cons_succ]
    refine wpAnyH_take (i := 4) (oi := { dst := some 75, op := Op.convert 29 9 (Operand.tmp 74), type := 9, pos := "ref.go:82", after := #[{ on := 3, ground := Ground.data }], guard := none }) (v := ?vv46_7_4) rfl (by kernel_rfl) (by kernel_rfl) (by kernel_rfl) (fun _ _ _ h => h) (Or.inl ⟨by rfl, ?yy46_7_4⟩) hHeld ?_
    case yy46_7_4 => (intro W hx; have hz := zz0.trans hx; have hs := str (c := c4) (rk6.ext hz); go_simp; try with_reducible rfl)
    simp only [Act.put, List.setIfInBounds_toArray, List.set_cons_zero, List.set_cons_succ]
    refine wpAnyH_take (i := 5) (oi := { dst := some 76, op := Op.move (Operand.tmp 0), type := 26, pos := "ref.go:82", after := #[], guard := none }) (v := ?vv47_7_5) rfl (by kernel_rfl) (by kernel_rfl) (by kernel_rfl) (fun _ _ _ h => h) (Or.inl ⟨by rfl, ?yy47_7_5⟩) hHeld ?_
    case yy47_7_5 => (intro W hx; go_simp; try with_reducible rfl)
    simp only [Act.put, List.setIfInBounds_toArray, List.set_cons_zero, List.set_cons_succ]
    refine wpAnyH_take (i := 6) (oi := { dst := some 77, op := Op.nilCheck (Operand.tmp 76), type := 0, pos := "ref.go:82", after := #[{ on := 5, ground := Ground.data }], guard := none }) (v := ?vv48_7_6) rfl (by kernel_rfl) (by kernel_rfl) (by kernel_rfl) (fun _ _ _ h => h) (Or.inl ⟨by rfl, ?yy48_7_6⟩) hHeld ?_
    case yy48_7_6 => (intro W hx; go_simp; try with_reducible rfl)
    simp only [Act.put, List.setIfInBounds_toArray, List.set_cons_zero, List.set_cons_succ]
    refine wpAnyH_take (i := 7) (oi := { dst := some 78, op := Op.fieldAddr 38 (Operand.tmp 77) 2, type := 0, pos := "ref.go:82", after := #[{ on := 6, ground := Ground.data }], guard := none }) (v := ?vv49_7_7) rfl (by kernel_rfl) (by kernel_rfl) (by kernel_rfl) (fun _ _ _ h => h) (Or.inl ⟨by rfl, ?yy49_7_7⟩) hHeld ?_
    case yy49_7_7 => (intro W hx; go_simp; try with_reducible rfl)
    simp only [Act.put, List.setIfInBounds_toArray, List.set_cons_zero, List.set_cons_succ]
    refine wpAnyH_take (i := 8) (oi := { dst := some 79, op := Op.load 29 (Operand.tmp 78), type := 29, pos := "ref.go:82", after := #[{ on := 7, ground := Ground.data }], guard := none }) (v := ?vv50_7_8) rfl (by kernel_rfl) (by kernel_rfl) (by kernel_rfl) (fun _ _ _ h => h) (Or.inl ⟨by rfl, ?yy50_7_8⟩) hHeld ?_
    case yy50_7_8 => (intro W hx; have hz := zz0.trans hx; obtain ⟨f0, f1, f2, f3, f4, f5⟩ := cells6 ((hz.block _ (blk_lt K6)).trans K6); go_simp; try with_reducible rfl)
    simp only [Act.put, List.setIfInBounds_toArray, List.set_cons_zero, List.set_cons_succ]
    refine wpAnyH_take (i := 9) (oi := { dst := some 80, op := Op.move (Operand.tmp 0), type := 26, pos := "ref.go:82", after := #[], guard := none }) (v := ?vv51_7_9) rfl (by kernel_rfl) (by kernel_rfl) (by kernel_rfl) (fun _ _ _ h => h) (Or.inl ⟨by rfl, ?yy51_7_9⟩) hHeld ?_
    case yy51_7_9 => (intro W hx; go_simp; try with_reducible rfl)
    simp only [Act.put, List.setIfInBounds_toArray, List.set_cons_zero, List.set_cons_succ]
    refine wpAnyH_take (i := 10) (oi := { dst := some 81, op := Op.nilCheck (Operand.tmp 80), type := 0, pos := "ref.go:82", after := #[{ on := 9, ground := Ground.data }], guard := none }) (v := ?vv52_7_10) rfl (by kernel_rfl) (by kernel_rfl) (by kernel_rfl) (fun _ _ _ h => h) (Or.inl ⟨by rfl, ?yy52_7_10⟩) hHeld ?_
    case yy52_7_10 => (intro W hx; go_simp; try with_reducible rfl)
    simp only [Act.put, List.setIfInBounds_toArray, List.set_cons_zero, List.set_cons_succ]
    refine wpAnyH_take (i := 11) (oi := { dst := some 82, op := Op.fieldAddr 38 (Operand.tmp 81) 3, type := 0, pos := "ref.go:82", after := #[{ on := 10, ground := Ground.data }], guard := none }) (v := ?vv53_7_11) rfl (by kernel_rfl) (by kernel_rfl) (by kernel_rfl) (fun _ _ _ h => h) (Or.inl ⟨by rfl, ?yy53_7_11⟩) hHeld ?_
    case yy53_7_11 => (intro W hx; go_simp; try with_reducible rfl)
    simp only [Act.put, List.setIfInBounds_toArray, List.set_cons_zero, List.set_cons_succ]
    refine wpAnyH_take (i := 12) (oi := { dst := some 83, op := Op.load 5 (Operand.tmp 82), type := 5, pos := "ref.go:82", after := #[{ on := 11, ground := Ground.data }], guard := none }) (v := ?vv54_7_12) rfl (by kernel_rfl) (by kernel_rfl) (by kernel_rfl) (fun _ _ _ h => h) (Or.inl ⟨by rfl, ?yy54_7_12⟩) hHeld ?_
    case yy54_7_12 => (intro W hx; have hz := zz0.trans hx; obtain ⟨f0, f1, f2, f3, f4, f5⟩ := cells6 ((hz.block _ (blk_lt K6)).trans K6); go_simp; try with_reducible rfl)
    simp only [Act.put, List.setIfInBounds_toArray, List.set_cons_zero, List.set_cons_succ]
    refine wpAnyH_ready (rs := [13]) (by kernel_rfl) (by simp) (AllReadyH.cons rfl (fun K hK => ?_) AllReadyH.nil)
    go_simp
    go_wp2_with (go_at_call 16; (refine (rkey_any _ _ _ _ _ _ (sd6.ext zz0) (by omega) r0 r1').mono ?_); rintro e w7 ⟨A7, c7, rfl, l7, m7, x7, r7, q7⟩)
    refine hK.out _ _ x7 (fun hHeld => ?_)
    clear hK K
    refine wpAnyH_imp (S' := Ext w7) (fun W h => Ext.trans x7 h) _ _ _ _ ?_
    replace hHeld := Ext.refl w7
    have zz1 := zz0.trans x7
    refine wpAnyH_take (i := 14) (oi := { dst := some 85, op := Op.convert 29 9 (Operand.tmp 84), type := 9, pos := "ref.go:82", after := #[{ on := 13, ground := Ground.data }], guard := none }) (v := ?vv55_7_14) rfl (by kernel_rfl) (by kernel_rfl) (by kernel_rfl) (fun _ _ _ h => h) (Or.inl ⟨by rfl, ?yy55_7_14⟩) hHeld ?_
    case yy55_7_14 => (intro W hx; have hz := zz1.trans hx; have hs := str (c := c7) (r7.ext hx); go_simp; try with_reducible rfl)
    simp only [Act.put, List.setIfInBounds_toArray, List.set_cons_zero, List.set_cons_succ]
    refine wpAnyH_take (i := 15) (oi := { dst := some 86, op := Op.binOp BinOp.eql 9 (Operand.tmp 75) (Operand.tmp 85) 9, type := 4, pos := "ref.go:82", after := #[{ on := 4, ground := Ground.data }, { on := 14, ground := Ground.data }], guard := none }) (v := ?vv56_7_15) rfl (by kernel_rfl) (by kernel_rfl) (by kernel_rfl) (fun _ _ _ h => h) (Or.inl ⟨by rfl, ?yy56_7_15⟩) hHeld ?_
    case yy56_7_15 => (intro W hx; go_simp; try with_reducible rfl)
    simp only [Act.put, List.setIfInBounds_toArray, List.set_cons_zero, List.set_cons_succ]
    refine wpAnyH_take (i := 16) (oi := { dst := some 7, op := Op.assign (Operand.tmp 86), type := 4, pos := "ref.go:82", after := #[{ on := 15, ground := Ground.data }, { on := 13, ground := Ground.chain }, { on := 0, ground := Ground.phase }, { on := 1, ground := Ground.phase }, { on := 2, ground := Ground.phase }, { on := 3, ground := Ground.phase }, { on := 4, ground := Ground.phase }, { on := 5, ground := Ground.phase }, { on := 6, ground := Ground.phase }, { on := 7, ground := Ground.phase }, { on := 8, ground := Ground.phase }, { on := 9, ground := Ground.phase }, { on := 10, ground := Ground.phase }, { on := 11, ground := Ground.phase }, { on := 12, ground := Ground.phase }, { on := 13, ground := Ground.phase }, { on := 14, ground := Ground.phase }, { on := 15, ground := Ground.phase }], guard := none }) (v := ?vv57_7_16) rfl (by kernel_rfl) (by kernel_rfl) (by kernel_rfl) (fun _ _ _ h => h) (Or.inl ⟨by rfl, ?yy57_7_16⟩) hHeld ?_
    case yy57_7_16 => (intro W hx; go_simp; try with_reducible rfl)
    simp only [Act.put, List.setIfInBounds_toArray, List.set_cons_zero, List.set_cons_succ]
    refine wpAnyH_done (by kernel_rfl) ?_ _
    have zend := zz1.trans hHeld
    obtain ⟨w8, rfl⟩ : ∃ V : World, V = w7 := ⟨_, rfl⟩
    have K8 := (zend.block _ (blk_lt K6)).trans K6
    have h := HH.out
    have xx := xw6.trans zend
    clear hbeq
    clear xw6 zend zz0 sd5 sd6 rk5 rk6 K5 K6 hkb
    rcases good with _ | _
    · have hne := of_decide_eq_false HG.out.symm
      have ho := HO.out
      rw [if_neg hne] at ho
      subst ho
      clear hne
      go_wp2_with (go_at_call 27; (refine (rforget_any _ _ _ _ _ _ _ _ _ _ _ _ K8).mono ?_); rintro e w9 ⟨rfl, K9, x9⟩)
      go_ret
      have k : Kept F w w9 := (HKF.out.then xx).trans' (.of_grown x9 (fun b e => by injection e with e; subst e; exact h.fg))
      exact ⟨rfl, F, ⟨none, 0, none, 0, rclear_of h K9 k.size⟩, k, fun i hi => .inl hi⟩
    · have hne := of_decide_eq_true HG.out.symm
      have ho := HO.out
      rw [if_pos hne] at ho
      subst ho
      clear hne
      obtain ⟨f0, f1, f2, f3, f4, f5⟩ := cells6 K8
      have z1 := blk_free (i := 1) K8
      have hlk := h.ok.lk
      obtain ⟨l0, l1⟩ := hlk
      obtain ⟨an, han⟩ : ∃ an, an = bits .andNot .u8 s.lk s.res := ⟨_, rfl⟩
      have hab := andNot_bd h.ok.lk h.ok.res
      have hsb := sub_and s.lk s.res h.ok.lk h.ok.res
      rw [← han] at hab hsb
      have hwa : IntKind.u8.wrap an = an := by rw [IntKind.wrap_u8]; omega
      obtain ⟨an0, an1⟩ := hab
      have HAN := Lib.hid han
      clear han
      go_upto_region 9 with (fail)
      go_region
      obtain ⟨w9, hw9, K9, x9⟩ := set_new 1 (.int .u8 an) K8
      rw [← hw9]; clear hw9
      have K9' : w9.drew.heap[g]? = some (.cells #[.int .u8 s.all, .int .u8 an, .slice (some ad) sn sc, .int .u8 s.res, .int .i64 (sn : Int), .slice A4 m c4] 38 (0, 0)) := K9
      have x19 : w8.grownBy w9.drew (some g) := ⟨x9.os, by have := x9.tape; simpa using this, x9.output, x9.size, x9.block⟩
      go_wp2_with (go_at_call 27; (refine (rforget_any _ _ _ _ _ _ _ _ _ _ _ _ K9').mono ?_); rintro e wz ⟨rfl, Kz, xz⟩)
      go_ret
      have k : Kept F w wz := ((HKF.out.then xx).trans' (.of_grown x19 (fun b e => by injection e with e; subst e; exact h.fg))).trans' (.of_grown xz (fun b e => by injection e with e; subst e; exact h.fg))
      have hb2 := andNot_bd h.ok.lk h.ok.res
      rw [HAN.out] at Kz
      exact ⟨rfl, F, ⟨none, 0, none, 0, Kz, Rd.nil, Nat.le_refl _, by simp [LSt.clear], Rd.nil, h.fg, (fun ad e => nomatch e), (fun b e => nomatch e), fun i hi => Nat.lt_of_lt_of_le (h.lt i hi) k.size, ⟨h.ok.all, hb2, by simp [LSt.clear], by simp [LSt.clear], by simp [LSt.clear], by simp [LSt.clear]⟩⟩, k, fun i hi => .inl hi⟩
theorem runlock_any (g : Nat) (s : LSt) (F : Nat → Prop) (left : Int) (bA : Option Addr) (n c : Nat) (bs : List Int) (w : World) (h : RkC w g s F) (hr : Rd w bA n bs) :
    Calls Try.prog 15 #[.pointer (some ⟨g, 0, none⟩), .int .i64 left, .slice bA n c] w (RUnlPost w g F (s.doUnlock left bs)) := by
  unfold LSt.doUnlock
  rw [hr.len]
  split
  · rename_i hm
    exact runlock_no g s F left bA n c w h hm
  · rename_i hm
    exact runlock_yes g s F left bA n c bs w h hr (by simpa using hm) _ rfl
end Go.Proofs.Ytnjiajogbadadaa
