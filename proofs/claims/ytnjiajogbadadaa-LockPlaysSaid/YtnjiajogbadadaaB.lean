import Derived.Test.YtnjiajogbadadaaA
set_option linter.unusedVariables false
set_option linter.unusedSimpArgs false
namespace Go.Proofs.Ytnjiajogbadadaa
open Go.RowKit
def partN (sn told : Nat) : Nat := min (sn - told) 6
theorem part_any (g : Nat) (all lk : Int) (sA : Option Addr) (sn sc : Nat) (res : Int) (told : Nat) (kA : Option Addr) (kn kc : Nat) (bs : List Int) (w : World) (K : w.heap[g]? = some (.cells #[.int .u8 all, .int .u8 lk, .slice sA sn sc, .int .u8 res, .int .i64 told, .slice kA kn kc] 48 (0, 0)))
    (hr : Rd w sA sn bs) (hg : ∀ ad, sA = some ad → ad.block ≠ g) (hsc : sn ≤ sc) (hn : sn ≤ 1000) (ht : told ≤ sn) :
    Calls Try.prog 26 #[.pointer (some ⟨g, 0, none⟩)] w fun e w' => ∃ A c, e = .returned (.tuple #[.int .i64 ((sn - told : Nat) : Int), .slice A (partN sn told) c]) ∧ partN sn told ≤ c ∧ c ≤ maxLen ∧ w'.heap[g]? = some (.cells #[.int .u8 all, .int .u8 lk, .slice sA sn sc, .int .u8 res, .int .i64 ((told + partN sn told : Nat) : Int), .slice kA kn kc] 48 (0, 0)) ∧
      Rd w' A (partN sn told) ((bs.drop told).take (partN sn told)) ∧ w.grownBy w' (some g) ∧ ∀ ad, A = some ad → w.heap.size ≤ ad.block := by
  obtain ⟨m, hm⟩ : ∃ m, m = partN sn told := ⟨_, rfl⟩
  obtain ⟨d, hd⟩ : ∃ d, d = sn - told := ⟨_, rfl⟩
  rw [← hm, ← hd]
  have hmin : (if (6 : Int) < d then (6 : Int) else d) = m := by rw [hm]; unfold partN; split <;> omega
  have hsub : (sn : Int) - told = d := by omega
  have hmd : m ≤ d := by rw [hm]; unfold partN; omega
  obtain ⟨q, hq⟩ : ∃ q, q = told + m := ⟨_, rfl⟩
  have hadd : (told : Int) + m = (q : Int) := by omega
  have htm : told + m ≤ sn := by omega
  have hqc : q ≤ sc := by omega
  have htq : told ≤ q := by omega
  have hqt : q - told = m := by omega
  have HADD := Lib.hid hadd
  have HQ := Lib.hid hq
  clear hq
  have hdn : sn - told ≤ d := by omega
  have hdn2 : d ≤ sn - told := by omega
  clear hm hadd hd
  obtain ⟨f0, f1, f2, f3, f4, f5⟩ := cells6 K
  go_enter Try.func26, Try.ntmps26
  go_upto_region 1 with (fail)
  go_quiet (fail)
  obtain ⟨w1, hWq⟩ : ∃ z : World, z = World.drewN w nq := ⟨_, rfl⟩
  rw [← hWq]
  have xw1 : Ext w w1 := by rw [hWq]; exact (Ext.refl _).drewN _
  clear hWq
  have K1 := (xw1.block _ (blk_lt K)).trans K
  clear f0 f1 f2 f3 f4 f5
  obtain ⟨f0, f1, f2, f3, f4, f5⟩ := cells6 K1
  have z4 := blk_free (i := 4) K1
  go_upto_region 4 with (fail)
  obtain ⟨w2, hw2, K2, x2⟩ := set_new 4 (.int .i64 ((told : Int) + m)) K1
  rw [← hw2]
  clear hw2
  have K3 : w2.heap[g]? = some (.cells #[.int .u8 all, .int .u8 lk, .slice sA sn sc, .int .u8 res, .int .i64 (q : Int), .slice kA kn kc] 48 (0, 0)) := by rw [← HADD.out]; exact K2
  have r2 := (hr.ext xw1).grown x2 (fun ad e h => hg ad e (by simpa using h))
  have r3 := (r2.drop (k := told) ht hsc).take (k := m) (by omega)
  clear f0 f1 f2 f3 f4 f5 z4 K2
  obtain ⟨pA, hpA⟩ : ∃ p, (if sc = told then sA else Option.map (fun x => x.add told) sA) = p := ⟨_, rfl⟩
  have r3 : Rd w2 pA m ((bs.drop told).take m) := by rw [← hpA]; simpa using r3
  refine wp_region_held_drew (S := Ext w2) (by kernel_rfl) ((Ext.refl _).drew) (fun hHeld => ?_)
  obtain ⟨wD1, hwD⟩ : ∃ V, V = World.drew w2 := ⟨_, rfl⟩
  rw [← hwD]
  clear hHeld
  have zz0 : Ext w2 wD1 := by rw [hwD]; exact (Ext.refl _).drew
  clear hwD
  refine wpAnyH_imp (S' := Ext wD1) (fun W h => Ext.trans zz0 h) _ _ _ _ ?_
  have hHeld := Ext.refl wD1
  refine wpAnyH_take (i := 0) (oi := { dst := some 29, op := Op.move (Operand.tmp 4), type := 3, pos := "lock.go:90", after := #[], guard := none }) (v := ?vv2_4_0) rfl (by kernel_rfl) (by kernel_rfl) (by kernel_rfl) (fun _ _ _ h => h) (Or.inl ⟨by rfl, ?yy2_4_0⟩) hHeld ?_
  case yy2_4_0 => (intro W hx; go_simp; try with_reducible rfl)
  simp only [Act.put, List.setIfInBounds_toArray, List.set_cons_zero, List.set_cons_succ]
  refine wpAnyH_take (i := 1) (oi := { dst := some 30, op := Op.move (Operand.tmp 0), type := 24, pos := "lock.go:90", after := #[], guard := none }) (v := ?vv3_4_1) rfl (by kernel_rfl) (by kernel_rfl) (by kernel_rfl) (fun _ _ _ h => h) (Or.inl ⟨by rfl, ?yy3_4_1⟩) hHeld ?_
  case yy3_4_1 => (intro W hx; go_simp; try with_reducible rfl)
  simp only [Act.put, List.setIfInBounds_toArray, List.set_cons_zero, List.set_cons_succ]
  refine wpAnyH_take (i := 2) (oi := { dst := some 31, op := Op.nilCheck (Operand.tmp 30), type := 0, pos := "lock.go:90", after := #[{ on := 1, ground := Ground.data }], guard := none }) (v := ?vv4_4_2) rfl (by kernel_rfl) (by kernel_rfl) (by kernel_rfl) (fun _ _ _ h => h) (Or.inl ⟨by rfl, ?yy4_4_2⟩) hHeld ?_
  case yy4_4_2 => (intro W hx; go_simp; try with_reducible rfl)
  simp only [Act.put, List.setIfInBounds_toArray, List.set_cons_zero, List.set_cons_succ]
  refine wpAnyH_take (i := 3) (oi := { dst := some 32, op := Op.fieldAddr 48 (Operand.tmp 31) 2, type := 0, pos := "lock.go:90", after := #[{ on := 2, ground := Ground.data }], guard := none }) (v := ?vv5_4_3) rfl (by kernel_rfl) (by kernel_rfl) (by kernel_rfl) (fun _ _ _ h => h) (Or.inl ⟨by rfl, ?yy5_4_3⟩) hHeld ?_
  case yy5_4_3 => (intro W hx; go_simp; try with_reducible rfl)
  simp only [Act.put, List.setIfInBounds_toArray, List.set_cons_zero, List.set_cons_succ]
  refine wpAnyH_take (i := 4) (oi := { dst := some 33, op := Op.load 29 (Operand.tmp 32), type := 29, pos := "lock.go:90", after := #[{ on := 3, ground := Ground.data }], guard := none }) (v := ?vv6_4_4) rfl (by kernel_rfl) (by kernel_rfl) (by kernel_rfl) (fun _ _ _ h => h) (Or.inl ⟨by rfl, ?yy6_4_4⟩) hHeld ?_
  case yy6_4_4 => (intro W hx; have hz := zz0.trans hx; obtain ⟨f0, f1, f2, f3, f4, f5⟩ := cells6 ((hz.block _ (blk_lt K3)).trans K3); go_simp; try with_reducible rfl)
  simp only [Act.put, List.setIfInBounds_toArray, List.set_cons_zero, List.set_cons_succ]
  refine wpAnyH_take (i := 5) (oi := { dst := some 34, op := Op.move (Operand.tmp 5), type := 3, pos := "lock.go:90", after := #[], guard := none }) (v := ?vv7_4_5) rfl (by kernel_rfl) (by kernel_rfl) (by kernel_rfl) (fun _ _ _ h => h) (Or.inl ⟨by rfl, ?yy7_4_5⟩) hHeld ?_
  case yy7_4_5 => (intro W hx; go_simp; try with_reducible rfl)
  simp only [Act.put, List.setIfInBounds_toArray, List.set_cons_zero, List.set_cons_succ]
  refine wpAnyH_take (i := 6) (oi := { dst := some 35, op := Op.move (Operand.tmp 0), type := 24, pos := "lock.go:90", after := #[], guard := none }) (v := ?vv8_4_6) rfl (by kernel_rfl) (by kernel_rfl) (by kernel_rfl) (fun _ _ _ h => h) (Or.inl ⟨by rfl, ?yy8_4_6⟩) hHeld ?_
  case yy8_4_6 => (intro W hx; go_simp; try with_reducible rfl)
  simp only [Act.put, List.setIfInBounds_toArray, List.set_cons_zero, List.set_cons_succ]
  refine wpAnyH_take (i := 7) (oi := { dst := some 36, op := Op.nilCheck (Operand.tmp 35), type := 0, pos := "lock.go:90", after := #[{ on := 6, ground := Ground.data }], guard := none }) (v := ?vv9_4_7) rfl (by kernel_rfl) (by kernel_rfl) (by kernel_rfl) (fun _ _ _ h => h) (Or.inl ⟨by rfl, ?yy9_4_7⟩) hHeld ?_
  case yy9_4_7 => (intro W hx; go_simp; try with_reducible rfl)
  simp only [Act.put, List.setIfInBounds_toArray, List.set_cons_zero, List.set_cons_succ]
  refine wpAnyH_take (i := 8) (oi := { dst := some 37, op := Op.fieldAddr 48 (Operand.tmp 36) 4, type := 0, pos := "lock.go:90", after := #[{ on := 7, ground := Ground.data }], guard := none }) (v := ?vv10_4_8) rfl (by kernel_rfl) (by kernel_rfl) (by kernel_rfl) (fun _ _ _ h => h) (Or.inl ⟨by rfl, ?yy10_4_8⟩) hHeld ?_
  case yy10_4_8 => (intro W hx; go_simp; try with_reducible rfl)
  simp only [Act.put, List.setIfInBounds_toArray, List.set_cons_zero, List.set_cons_succ]
  refine wpAnyH_take (i := 9) (oi := { dst := some 38, op := Op.load 3 (Operand.tmp 37), type := 3, pos := "lock.go:90", after := #[{ on := 8, ground := Ground.data }], guard := none }) (v := ?vv11_4_9) rfl (by kernel_rfl) (by kernel_rfl) (by kernel_rfl) (fun _ _ _ h => h) (Or.inl ⟨by rfl, ?yy11_4_9⟩) hHeld ?_
  case yy11_4_9 => (intro W hx; have hz := zz0.trans hx; obtain ⟨f0, f1, f2, f3, f4, f5⟩ := cells6 ((hz.block _ (blk_lt K3)).trans K3); go_simp; try with_reducible rfl)
  simp only [Act.put, List.setIfInBounds_toArray, List.set_cons_zero, List.set_cons_succ]
  refine wpAnyH_take (i := 10) (oi := { dst := some 39, op := Op.slice 29 (Operand.tmp 33) (some (Operand.tmp 34)) (some (Operand.tmp 38)) none, type := 29, pos := "lock.go:90", after := #[{ on := 4, ground := Ground.data }, { on := 5, ground := Ground.data }, { on := 9, ground := Ground.data }], guard := none }) (v := ?vv12_4_10) rfl (by kernel_rfl) (by kernel_rfl) (by kernel_rfl) (fun _ _ _ h => h) (Or.inl ⟨by rfl, ?yy12_4_10⟩) hHeld ?_
  case yy12_4_10 => (intro W hx; go_simp; try with_reducible rfl)
  simp only [Act.put, List.setIfInBounds_toArray, List.set_cons_zero, List.set_cons_succ]
  refine wpAnyH_ready (rs := [11]) (by kernel_rfl) (by simp) (AllReadyH.cons rfl (fun K hK => ?_) AllReadyH.nil)
  go_simp
  go_wp2_with (go_at_call 25; (refine (clone_anyF _ _ _ _ _ (r3.ext zz0) (by omega)).mono ?_); rintro e w4 ⟨A4, c4, rfl, l4, m4, x4, r4, q4⟩)
  refine hK.out _ _ x4 (fun hHeld => ?_)
  clear hK K
  refine wpAnyH_imp (S' := Ext w4) (fun W h => Ext.trans x4 h) _ _ _ _ ?_
  replace hHeld := Ext.refl w4
  have zz1 := zz0.trans x4
  refine wpAnyH_take (i := 12) (oi := { dst := some 2, op := Op.assign (Operand.tmp 29), type := 3, pos := "lock.go:90", after := #[{ on := 0, ground := Ground.data }, { on := 11, ground := Ground.chain }, { on := 0, ground := Ground.phase }, { on := 1, ground := Ground.textOnly Departure.lateStores }, { on := 2, ground := Ground.textOnly Departure.lateStores }, { on := 3, ground := Ground.textOnly Departure.lateStores }, { on := 4, ground := Ground.textOnly Departure.lateStores }, { on := 5, ground := Ground.textOnly Departure.lateStores }, { on := 6, ground := Ground.textOnly Departure.lateStores }, { on := 7, ground := Ground.textOnly Departure.lateStores }, { on := 8, ground := Ground.textOnly Departure.lateStores }, { on := 9, ground := Ground.textOnly Departure.lateStores }, { on := 10, ground := Ground.textOnly Departure.lateStoresUnsure }, { on := 11, ground := Ground.textOnly Departure.lateStoresUnsure }], guard := none }) (v := ?vv13_4_12) rfl (by kernel_rfl) (by kernel_rfl) (by kernel_rfl) (fun _ _ _ h => h) (Or.inl ⟨by rfl, ?yy13_4_12⟩) hHeld ?_
  case yy13_4_12 => (intro W hx; go_simp; try with_reducible rfl)
  simp only [Act.put, List.setIfInBounds_toArray, List.set_cons_zero, List.set_cons_succ]
  refine wpAnyH_take (i := 13) (oi := { dst := some 3, op := Op.assign (Operand.tmp 40), type := 29, pos := "lock.go:90", after := #[{ on := 11, ground := Ground.data }, { on := 12, ground := Ground.chain }, { on := 0, ground := Ground.phase }, { on := 1, ground := Ground.phase }, { on := 2, ground := Ground.phase }, { on := 3, ground := Ground.phase }, { on := 4, ground := Ground.phase }, { on := 5, ground := Ground.phase }, { on := 6, ground := Ground.phase }, { on := 7, ground := Ground.phase }, { on := 8, ground := Ground.phase }, { on := 9, ground := Ground.phase }, { on := 10, ground := Ground.phase }, { on := 11, ground := Ground.phase }, { on := 12, ground := Ground.phase }], guard := none }) (v := ?vv14_4_13) rfl (by kernel_rfl) (by kernel_rfl) (by kernel_rfl) (fun _ _ _ h => h) (Or.inl ⟨by rfl, ?yy14_4_13⟩) hHeld ?_
  case yy14_4_13 => (intro W hx; go_simp; try with_reducible rfl)
  simp only [Act.put, List.setIfInBounds_toArray, List.set_cons_zero, List.set_cons_succ]
  refine wpAnyH_done (by kernel_rfl) ?_ _
  have zend := zz1.trans hHeld
  go_wp2
  go_ret2
  have := xw1.size
  have := x2.size
  have := zz0.size
  exact ⟨A4, c4, rfl, l4, m4, by rw [← HQ.out]; exact (zend.block _ (blk_lt K3)).trans K3, r4, grown_ext (ext_grown xw1 x2) zend, fun ad e => by have := q4 ad e; omega⟩
end Go.Proofs.Ytnjiajogbadadaa
