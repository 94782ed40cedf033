import Derived.Test.YtnjiajogbadadaaS
set_option linter.unusedSimpArgs false
set_option linter.unusedVariables false
namespace Go.Proofs.Ytnjiajogbadadaa
open Go.RowKit Go.Maps
theorem new255 : LSt.new 255 = ⟨13, 13, [], 0, 0, []⟩ := by kernel_rfl
theorem andNot13 {r : Int} (h : r = 1 ∨ r = 4 ∨ r = 8) : bits .andNot .u8 13 r = 13 - r := by rcases h with rfl | rfl | rfl <;> kernel_rfl
theorem and13 {r : Int} (h : r = 1 ∨ r = 4 ∨ r = 8) : bits .and .u8 13 r ≠ 0 := by rcases h with rfl | rfl | rfl <;> (intro h; revert h; decide +kernel)
set_option maxRecDepth 100000 in
set_option maxHeartbeats 40000000 in
theorem LockKeys_law (w : World) (wh : Int) (A : Option Addr) (n c : Nat) (bs : List Int) (at_ by_ : Int) (rd : Rd w A n bs) (le : n ≤ c) (cm : c ≤ maxLen) (r0 : 0 ≤ wh) (r1 : wh < 256) (a0 : 0 ≤ at_) (a1 : at_ < 256) (b0 : 0 ≤ by_) (b1 : by_ < 256) :
    Calls Try.prog 4 #[.int .u8 wh, .slice A n c, .int .u8 at_, .int .u8 by_] w fun e w' => e = .returned (.bool true) ∧ Ext w w' := by
  obtain ⟨m, hm0⟩ : ∃ m, m = min n 20 := ⟨_, rfl⟩
  have rdm := rd.take (k := m) (by omega)
  have hmc : m ≤ c := by omega
  have hm20 : m ≤ 20 := by omega
  have hmin : (if (20 : Int) < n then (20 : Int) else n) = m := by rw [hm0]; split <;> omega
  clear hm0 rd
  generalize bs.take m = ys at rdm
  have hlen := Lib.hid rdm.len
  go_enter Try.func4, Try.ntmps4
  go_upto_region 2 with (go_at_call 8; (refine (shown_any _).mono ?_); rintro e w1 ⟨rfl, x1⟩)
  go_cut [10] (fun v8 wr => ∃ r : Int, v8 = .int .u8 r ∧ (r = 1 ∨ r = 4 ∨ r = 8) ∧ Ext w1 wr)
  case first =>
    have K := blk_of (Ext.refl (w1.alloc (.cells #[.int .u8 1, .int .u8 4, .int .u8 8] 5)))
    have f0 := blk_cell (i := 0) K rfl
    have f1 := blk_cell (i := 1) K rfl
    have f2 := blk_cell (i := 2) K rfl
    have ht : wh.tmod 3 = wh % 3 := Int.tmod_eq_emod_of_nonneg r0
    have hc : wh % 3 = 0 ∨ wh % 3 = 1 ∨ wh % 3 = 2 := by omega
    rcases hc with hc | hc | hc
    all_goals
      rw [hc] at ht
      go_wp2
      go_meet
      case rel => exact ⟨_, rfl, by simp, (Ext.refl _).alloc _⟩
  case rest =>
    obtain ⟨r, rfl, hr, xc⟩ := hcut
    have hr0 : 0 ≤ r ∧ r < 256 := by omega
    have hwr : (Lit.int .u8 r).wf = true := by rcases hr with rfl | rfl | rfl <;> rfl
    have ho := Lib.hid (show oneR r = true by rcases hr with rfl | rfl | rfl <;> rfl)
    have hz := Lib.hid (and13 hr)
    have h13 := Lib.hid (andNot13 hr)
    have xw := x1.trans xc
    clear x1 xc
    have hnew := fun W => new_cn 255 W (by omega)
    rw [new255] at hnew
    have HNEW := Lib.hid hnew
    clear hnew
    go_upto_region 5 with (go_at_call 9; (refine ((HNEW.out) _).mono ?_); rintro e w2 ⟨g, F, rfl, L2, x2, f2⟩)
    have hF : 0 < m → ∀ ad, A = some ad → ¬ F ad.block := fun h0 ad e hf => by
      obtain ⟨ad', e', hb, _⟩ := (rdm.ext xw).shows.2 h0
      rw [e] at e'; injection e' with e'; subst e'
      have := f2 _ hf
      omega
    have hf0 : ∀ i, F i → w.heap.size ≤ i := fun i hi => by have := f2 i hi; have := xw.size; omega
    have rd2 := rdm.ext (xw.trans x2)
    go_upto_region 7 with (go_at_call 19; (refine (show Calls Try.prog 19 #[.pointer (some ⟨g, 0, none⟩)] w2 fun e w' => e = .returned (.int .u8 13) ∧ w2 = w' from locked_cn _ _ _ _ L2).mono ?_); rintro e w3 ⟨rfl, rfl⟩)
    by_cases hm1 : m = 0
    · subst hm1
      have hnil : ys = [] := List.eq_nil_of_length_eq_zero hlen.out
      subst hnil
      go_wp2_with (go_at_call 21; (refine (whole_empty _ _ _ _ _ _ _ L2 hr0 rd2).mono ?_); rintro e w4 ⟨rfl, F4, L4, k4, f4⟩)
      go_ret
      exact ⟨by simp, (xw.trans x2).kept k4 hf0⟩
    · have hmn : ((m : Int) == 0) = false := by simp; omega
      have hm1' : 1 ≤ m := by omega
      clear hm1
      obtain ⟨i, hi⟩ : ∃ i : Nat, at_ % m = i := ⟨(at_ % m).toNat, by have := Int.emod_nonneg at_ (show (m : Int) ≠ 0 by omega); omega⟩
      have him : i < m := by have := Int.emod_lt_of_pos at_ (show (0 : Int) < m by omega); omega
      have hit : at_.tmod m = i := by rw [Int.tmod_eq_emod_of_nonneg a0]; exact hi
      go_upto_region 10 with (go_at_call 20; (refine (key_blk _ _ _ _ _ _ rd2 (by omega) hr0.1 hr0.2).mono ?_); rintro e w4 ⟨rfl, x4, K4⟩)
      have hkl : (keyB r ys).length = m := by rw [keyB_len, hlen.out]
      have HKL := Lib.hid hkl
      obtain ⟨kx, hkx⟩ : ∃ kx, kx = (keyB r ys).getD i 0 := ⟨_, rfl⟩
      have hkb := (keyB_byts (res := r) rdm.byts).getD i
      rw [← hkx] at hkb
      have z0 : w4.cell? ⟨w2.heap.size, i, none⟩ = some (.int .u8 kx) := blk_cell K4 (by rw [hkx]; simp [u8s, List.getD_eq_getElem?_getD, List.getElem?_eq_getElem (show i < (keyB r ys).length by omega)])
      have zf := blk_free (i := i) K4
      have HKX := Lib.hid hkx
      have HKB := Lib.hid hkb
      clear hkx hkb hkl
      have L4 := L2.ext x4
      go_upto_region 13 with (fail)
      obtain ⟨w5, hw5, K5, x5⟩ := set_new i (.int .u8 (bits .xor .u8 kx by_)) K4
      rw [← hw5]; clear hw5
      rw [set_u8s] at K5
      obtain ⟨K', hK'⟩ : ∃ K', K' = (keyB r ys).set i (bits .xor .u8 kx by_) := ⟨_, rfl⟩
      rw [← hK'] at K5
      have hxb := xor_bd HKB.out ⟨b0, b1⟩
      have hKb : Byts K' := by
        intro b hb
        rw [hK'] at hb
        rcases List.mem_or_eq_of_mem_set hb with h | h
        · exact keyB_byts rdm.byts b h
        · rw [h]; exact hxb
      have hKl : K'.length = m := by rw [hK', List.length_set, HKL.out]
      have rK := rd_blk K5 hKb
      rw [hKl] at rK
      have hKeq : K' = keyB r ys ↔ by_ = 0 := by
        rw [← xor_eq HKB.out ⟨b0, b1⟩, hK']
        constructor
        · intro h
          have h2 := congrArg (fun l => l.getD i 0) h
          simp only [List.getD_eq_getElem?_getD] at h2
          rw [List.getElem?_set_self (by rw [HKL.out]; exact him)] at h2
          rw [HKX.out, List.getD_eq_getElem?_getD]
          simpa [HKX.out, List.getD_eq_getElem?_getD] using h2
        · intro h
          rw [h, HKX.out]
          apply List.ext_getElem?
          intro j
          rw [List.getElem?_set]
          split
          · rename_i e
            subst e
            rw [if_pos (by rw [HKL.out]; exact him), List.getD_eq_getElem?_getD, List.getElem?_eq_getElem (by rw [HKL.out]; exact him)]
            rfl
          · rfl
      have HKE := Lib.hid hKeq
      have hgl := L2.lt
      have k5 : Kept (· = w2.heap.size) w4 w5 := .of_grown x5 (fun b e => by injection e with e; exact e.symm)
      have L5 := L4.kept k5 (fun i hi e => by have := hgl i hi; omega)
      have rd5 := (rd2.ext x4).kept k5 (fun ad e h => by
        obtain ⟨ad', e', hb, _⟩ := rd2.shows.2 hm1'
        rw [e] at e'; injection e' with e'; subst e'; omega)
      have xw5 : Ext w w5 := ((xw.trans x2).trans x4).kept k5 (fun i hi => by have := (xw.trans x2).size; omega)
      clear hKeq hK' z0 zf hxb hKl
      have hFk : ∀ ad, some (⟨w2.heap.size, 0, none⟩ : Addr) = some ad → ¬ F ad.block := fun ad e h => by injection e with e; subst e; have := hgl _ h; simp at this
      obtain ⟨o, hoo⟩ : ∃ o : UOut, o = if K' = keyB r ys then ⟨⟨13, bits .andNot .u8 13 r, [], 0, 0, []⟩, 0⟩ else ⟨⟨13, 13, [], 0, 0, []⟩, 91⟩ := ⟨_, rfl⟩
      have HOO := Lib.hid hoo
      clear hoo
      go_upto_region 14 with (go_at_call 21; (refine (whole_any 13 r g F _ _ _ ys _ _ K' _ L5 ho.out hz.out hr0 hm1' hm20 rd5 rK (Nat.le_refl _) (hF (by omega)) hFk o HOO).mono ?_); rintro e w13 ⟨rfl, F13, L13, k13, f13⟩)
      obtain ⟨xw13, hf13⟩ := live_step xw5 hf0 k13 f13
      by_cases hby : by_ = 0
      · have hoo := HOO.out
        rw [if_pos (HKE.out.2 hby), h13.out] at hoo
        subst hoo
        subst hby
        have hw13 : IntKind.u8.wrap (13 - r) = 13 - r := by rw [IntKind.wrap_u8]; omega
        have hw14 : (13 - r) % 256 = 13 - r := by omega
        refine wp_region_held_drew (S := Ext w13) (by kernel_rfl) ((Ext.refl _).drew) (fun hHeld => ?_)
        obtain ⟨wD, hwD⟩ : ∃ V, V = World.drew w13 := ⟨_, rfl⟩
        rw [← hwD]
        clear hHeld
        have zz0 : Ext w13 wD := by rw [hwD]; exact (Ext.refl _).drew
        clear hwD
        refine wpAnyH_imp (S' := Ext wD) (fun W h => Ext.trans zz0 h) _ _ _ _ ?_
        have hHeld := Ext.refl wD
        refine wpAnyH_take (i := 0) (oi := { dst := some 69, op := Op.move (Operand.tmp 14), type := 32, pos := "law.go:116", after := #[], guard := none }) (v := ?vv2_14_0) rfl (by kernel_rfl) (by kernel_rfl) (by kernel_rfl) (fun _ _ _ h => h) (Or.inl ⟨by rfl, ?yy2_14_0⟩) hHeld ?_
        case yy2_14_0 => (intro W hx; go_simp; try with_reducible rfl)
        simp only [Act.put, List.setIfInBounds_toArray, List.set_cons_zero, List.set_cons_succ]
        refine wpAnyH_take (i := 1) (oi := { dst := some 70, op := Op.binOp BinOp.eql 32 (Operand.tmp 69) (Operand.const (Value.int IntKind.i64 0)) 32, type := 4, pos := "law.go:116", after := #[{ on := 0, ground := Ground.data }], guard := none }) (v := ?vv3_14_1) rfl (by kernel_rfl) (by kernel_rfl) (by kernel_rfl) (fun _ _ _ h => h) (Or.inl ⟨by rfl, ?yy3_14_1⟩) hHeld ?_
        case yy3_14_1 => (intro W hx; go_simp; try with_reducible rfl)
        simp only [Act.put, List.setIfInBounds_toArray, List.set_cons_zero, List.set_cons_succ]
        refine wpAnyH_take (i := 2) (oi := { dst := some 71, op := Op.move (Operand.tmp 3), type := 5, pos := "law.go:116", after := #[], guard := none }) (v := ?vv4_14_2) rfl (by kernel_rfl) (by kernel_rfl) (by kernel_rfl) (fun _ _ _ h => h) (Or.inl ⟨by rfl, ?yy4_14_2⟩) hHeld ?_
        case yy4_14_2 => (intro W hx; go_simp; try with_reducible rfl)
        simp only [Act.put, List.setIfInBounds_toArray, List.set_cons_zero, List.set_cons_succ]
        refine wpAnyH_take (i := 3) (oi := { dst := some 72, op := Op.binOp BinOp.eql 5 (Operand.tmp 71) (Operand.const (Value.int IntKind.u8 0)) 5, type := 4, pos := "law.go:116", after := #[{ on := 2, ground := Ground.data }], guard := none }) (v := ?vv5_14_3) rfl (by kernel_rfl) (by kernel_rfl) (by kernel_rfl) (fun _ _ _ h => h) (Or.inl ⟨by rfl, ?yy5_14_3⟩) hHeld ?_
        case yy5_14_3 => (intro W hx; go_simp; try with_reducible rfl)
        simp only [Act.put, List.setIfInBounds_toArray, List.set_cons_zero, List.set_cons_succ]
        refine wpAnyH_take (i := 4) (oi := { dst := some 73, op := Op.binOp BinOp.neq 4 (Operand.tmp 70) (Operand.tmp 72) 4, type := 4, pos := "law.go:116", after := #[{ on := 1, ground := Ground.data }, { on := 3, ground := Ground.data }], guard := none }) (v := ?vv6_14_4) rfl (by kernel_rfl) (by kernel_rfl) (by kernel_rfl) (fun _ _ _ h => h) (Or.inl ⟨by rfl, ?yy6_14_4⟩) hHeld ?_
        case yy6_14_4 => (intro W hx; go_simp; try with_reducible rfl)
        simp only [Act.put, List.setIfInBounds_toArray, List.set_cons_zero, List.set_cons_succ]
        refine wpAnyH_take (i := 5) (oi := { dst := some 74, op := Op.move (Operand.tmp 73), type := 4, pos := "law.go:116", after := #[{ on := 4, ground := Ground.data }], guard := none }) (v := ?vv7_14_5) rfl (by kernel_rfl) (by kernel_rfl) (by kernel_rfl) (fun _ _ _ h => h) (Or.inl ⟨by rfl, ?yy7_14_5⟩) hHeld ?_
        case yy7_14_5 => (intro W hx; go_simp; try with_reducible rfl)
        simp only [Act.put, List.setIfInBounds_toArray, List.set_cons_zero, List.set_cons_succ]
        refine wpAnyH_take (i := 6) (oi := { dst := some 75, op := Op.move (Operand.tmp 14), type := 32, pos := "law.go:116", after := #[{ on := 5, ground := Ground.guard }], guard := some (5, false) }) (v := ?vv8_14_6) rfl (by kernel_rfl) (by kernel_rfl) (by kernel_rfl) (fun _ _ _ h => h) (Or.inl ⟨by rfl, ?yy8_14_6⟩) hHeld ?_
        case yy8_14_6 => (intro W hx; go_simp; try with_reducible rfl)
        simp only [Act.put, List.setIfInBounds_toArray, List.set_cons_zero, List.set_cons_succ]
        refine wpAnyH_take (i := 7) (oi := { dst := some 76, op := Op.binOp BinOp.neq 32 (Operand.tmp 75) (Operand.const (Value.int IntKind.i64 0)) 32, type := 4, pos := "law.go:116", after := #[{ on := 6, ground := Ground.data }, { on := 5, ground := Ground.guard }], guard := some (5, false) }) (v := ?vv9_14_7) rfl (by kernel_rfl) (by kernel_rfl) (by kernel_rfl) (fun _ _ _ h => h) (Or.inl ⟨by rfl, ?yy9_14_7⟩) hHeld ?_
        case yy9_14_7 => (intro W hx; go_simp; try with_reducible rfl)
        simp only [Act.put, List.setIfInBounds_toArray, List.set_cons_zero, List.set_cons_succ]
        refine wpAnyH_take (i := 8) (oi := { dst := some 77, op := Op.move (Operand.tmp 76), type := 4, pos := "law.go:116", after := #[{ on := 7, ground := Ground.data }, { on := 5, ground := Ground.chain }, { on := 5, ground := Ground.guard }], guard := some (5, false) }) (v := ?vv10_14_8) rfl (by kernel_rfl) (by kernel_rfl) (by kernel_rfl) (fun _ _ _ h => h) (Or.inl ⟨by rfl, ?yy10_14_8⟩) hHeld ?_
        case yy10_14_8 => (intro W hx; go_simp; try with_reducible rfl)
        simp only [Act.put, List.setIfInBounds_toArray, List.set_cons_zero, List.set_cons_succ]
        refine wpAnyH_take (i := 9) (oi := { dst := some 78, op := Op.move (Operand.tmp 14), type := 32, pos := "law.go:116", after := #[{ on := 8, ground := Ground.guard }], guard := some (8, true) }) (v := undef) rfl (by kernel_rfl) (by kernel_rfl) (by kernel_rfl) (fun _ _ _ h => h) (Or.inr ⟨by rfl, rfl⟩) hHeld ?_
        simp only [Act.put, List.setIfInBounds_toArray, List.set_cons_zero, List.set_cons_succ]
        refine wpAnyH_take (i := 10) (oi := { dst := some 79, op := Op.binOp BinOp.neq 32 (Operand.tmp 78) (Operand.const (Value.int IntKind.i64 91)) 32, type := 4, pos := "law.go:116", after := #[{ on := 9, ground := Ground.data }, { on := 8, ground := Ground.guard }], guard := some (8, true) }) (v := undef) rfl (by kernel_rfl) (by kernel_rfl) (by kernel_rfl) (fun _ _ _ h => h) (Or.inr ⟨by rfl, rfl⟩) hHeld ?_
        simp only [Act.put, List.setIfInBounds_toArray, List.set_cons_zero, List.set_cons_succ]
        refine wpAnyH_take (i := 11) (oi := { dst := some 80, op := Op.pick (Operand.tmp 77) (Operand.tmp 79) (Operand.const (Value.bool false)), type := 4, pos := "law.go:116", after := #[{ on := 8, ground := Ground.data }, { on := 10, ground := Ground.data }, { on := 5, ground := Ground.guard }], guard := some (5, false) }) (v := ?vv11_14_11) rfl (by kernel_rfl) (by kernel_rfl) (by kernel_rfl) (fun _ _ _ h => h) (Or.inl ⟨by rfl, ?yy11_14_11⟩) hHeld ?_
        case yy11_14_11 => (intro W hx; go_simp; try with_reducible rfl)
        simp only [Act.put, List.setIfInBounds_toArray, List.set_cons_zero, List.set_cons_succ]
        refine wpAnyH_take (i := 12) (oi := { dst := some 81, op := Op.pick (Operand.tmp 74) (Operand.const (Value.bool true)) (Operand.tmp 80), type := 4, pos := "law.go:116", after := #[{ on := 5, ground := Ground.data }, { on := 11, ground := Ground.data }], guard := none }) (v := ?vv12_14_12) rfl (by kernel_rfl) (by kernel_rfl) (by kernel_rfl) (fun _ _ _ h => h) (Or.inl ⟨by rfl, ?yy12_14_12⟩) hHeld ?_
        case yy12_14_12 => (intro W hx; go_simp; try with_reducible rfl)
        simp only [Act.put, List.setIfInBounds_toArray, List.set_cons_zero, List.set_cons_succ]
        refine wpAnyH_take (i := 13) (oi := { dst := some 82, op := Op.move (Operand.tmp 81), type := 4, pos := "law.go:116", after := #[{ on := 12, ground := Ground.data }, { on := 8, ground := Ground.chain }], guard := none }) (v := ?vv13_14_13) rfl (by kernel_rfl) (by kernel_rfl) (by kernel_rfl) (fun _ _ _ h => h) (Or.inl ⟨by rfl, ?yy13_14_13⟩) hHeld ?_
        case yy13_14_13 => (intro W hx; go_simp; try with_reducible rfl)
        simp only [Act.put, List.setIfInBounds_toArray, List.set_cons_zero, List.set_cons_succ]
        refine wpAnyH_take (i := 14) (oi := { dst := some 83, op := Op.move (Operand.tmp 12), type := 24, pos := "law.go:116", after := #[{ on := 13, ground := Ground.guard }], guard := some (13, false) }) (v := ?vv14_14_14) rfl (by kernel_rfl) (by kernel_rfl) (by kernel_rfl) (fun _ _ _ h => h) (Or.inl ⟨by rfl, ?yy14_14_14⟩) hHeld ?_
        case yy14_14_14 => (intro W hx; go_simp; try with_reducible rfl)
        simp only [Act.put, List.setIfInBounds_toArray, List.set_cons_zero, List.set_cons_succ]
        refine wpAnyH_take (i := 17) (oi := { dst := some 86, op := Op.move (Operand.tmp 10), type := 5, pos := "law.go:116", after := #[{ on := 13, ground := Ground.guard }], guard := some (13, false) }) (v := ?vv15_14_17) rfl (by kernel_rfl) (by kernel_rfl) (by kernel_rfl) (fun _ _ _ h => h) (Or.inl ⟨by rfl, ?yy15_14_17⟩) hHeld ?_
        case yy15_14_17 => (intro W hx; go_simp; try with_reducible rfl)
        simp only [Act.put, List.setIfInBounds_toArray, List.set_cons_zero, List.set_cons_succ]
        refine wpAnyH_take (i := 20) (oi := { dst := some 88, op := Op.move (Operand.tmp 3), type := 5, pos := "law.go:116", after := #[{ on := 13, ground := Ground.guard }], guard := some (13, false) }) (v := ?vv16_14_20) rfl (by kernel_rfl) (by kernel_rfl) (by kernel_rfl) (fun _ _ _ h => h) (Or.inl ⟨by rfl, ?yy16_14_20⟩) hHeld ?_
        case yy16_14_20 => (intro W hx; go_simp; try with_reducible rfl)
        simp only [Act.put, List.setIfInBounds_toArray, List.set_cons_zero, List.set_cons_succ]
        refine wpAnyH_take (i := 21) (oi := { dst := some 89, op := Op.binOp BinOp.eql 5 (Operand.tmp 88) (Operand.const (Value.int IntKind.u8 0)) 5, type := 4, pos := "law.go:116", after := #[{ on := 20, ground := Ground.data }, { on := 13, ground := Ground.guard }], guard := some (13, false) }) (v := ?vv17_14_21) rfl (by kernel_rfl) (by kernel_rfl) (by kernel_rfl) (fun _ _ _ h => h) (Or.inl ⟨by rfl, ?yy17_14_21⟩) hHeld ?_
        case yy17_14_21 => (intro W hx; go_simp; try with_reducible rfl)
        simp only [Act.put, List.setIfInBounds_toArray, List.set_cons_zero, List.set_cons_succ]
        refine wpAnyH_ready (rs := [15, 16]) (by kernel_rfl) (by simp) (AllReadyH.cons rfl (fun K hK => ?_) (AllReadyH.cons rfl (fun K hK => ?_) AllReadyH.nil))
        · have tok := True.intro
          go_simp
          go_wp2_with (go_at_call 19; (refine (show Calls Try.prog 19 #[.pointer (some ⟨g, 0, none⟩)] _ fun e w' => e = .returned (.int .u8 (13 - r)) ∧ _ = w' from locked_cn _ _ _ _ ((L13.ext zz0).ext hHeld)).mono ?_); rintro e w' ⟨rfl, rfl⟩)
          refine hK.out _ _ hHeld (fun hHeld => ?_)
          clear hK K
          refine wpAnyH_ready (rs := [16]) (by kernel_rfl) (by simp) (AllReadyH.cons rfl (fun K hK => ?_) AllReadyH.nil)
          rw [if_pos (by rfl)]; refine wp_makeMap 42 rfl ?_; have xm := (Ext.refl wD).alloc (.map #[] 0); have own0 := World.ownsMap_made (H := Unit) wD Try.prog 4 (plainElem Try.prog 5)
          simp only [Act.put, List.setIfInBounds_toArray, List.set_cons_zero, List.set_cons_succ]
          refine hK.out _ _ xm (fun hHeld => ?_)
          clear hK K
          refine wpAnyH_ready (rs := [18]) (by kernel_rfl) (by simp) (AllReadyH.cons rfl (fun K hK => ?_) AllReadyH.nil)
          rw [if_pos (by rfl)]; refine wp_insert (H := Unit) _ _ _ 42 rfl 4 5 law4 Try.underlying42 (plainElem Try.prog 5) wD.heap.size 0 _ rfl own0 (by simp [maxLen]) _ _ (.bool true) rfl rfl (keyOf_bool_mk Try.underlying4 true) _ [] (plainElem_int Try.underlying5 hwr) ?_; intro wI ownI hgI; have xi := Ext.of_grown xm hgI (fun k e => by injection e with e; omega)
          simp only [Act.put]
          refine hK.out _ _ xi (fun hHeld => ?_)
          clear hK K
          refine wpAnyH_take (i := 19) (oi := { dst := some 87, op := Op.move (Operand.tmp 85), type := 42, pos := "law.go:116", after := #[{ on := 16, ground := Ground.data }, { on := 13, ground := Ground.guard }, { on := 17, ground := Ground.data }, { on := 18, ground := Ground.data }], guard := some (13, false) }) (v := ?vv18_14_19) rfl (by kernel_rfl) (by kernel_rfl) (by kernel_rfl) (fun _ _ _ h => h) (Or.inl ⟨by rfl, ?yy18_14_19⟩) hHeld ?_
          case yy18_14_19 => (intro W hx; go_simp; try with_reducible rfl)
          simp only [Act.put, List.setIfInBounds_toArray, List.set_cons_zero, List.set_cons_succ]
          refine wpAnyH_ready (rs := [22]) (by kernel_rfl) (by simp) (AllReadyH.cons rfl (fun K hK => ?_) AllReadyH.nil)
          rw [if_pos (by rfl)]; refine wp_lookup (H := Unit) _ _ 42 rfl 4 5 .u8 law4 Try.underlying42 Try.underlying5 (zero5 _) wD.heap.size 1 _ rfl ownI _ (.bool true) rfl (keyOf_bool_mk Try.underlying4 true) ?_; intro cc hat; have hcc := (lookT hat).symm; subst hcc
          simp only [Act.put, List.setIfInBounds_toArray, List.set_cons_zero, List.set_cons_succ]
          refine hK.out _ _ hHeld (fun hHeld => ?_)
          clear hK K
          refine wpAnyH_take (i := 23) (oi := { dst := some 91, op := Op.binOp BinOp.sub 5 (Operand.const (Value.int IntKind.u8 13)) (Operand.tmp 90) 5, type := 5, pos := "law.go:116", after := #[{ on := 22, ground := Ground.data }, { on := 13, ground := Ground.guard }], guard := some (13, false) }) (v := ?vv19_14_23) rfl (by kernel_rfl) (by kernel_rfl) (by kernel_rfl) (fun _ _ _ h => h) (Or.inl ⟨by rfl, ?yy19_14_23⟩) hHeld ?_
          case yy19_14_23 => (intro W hx; go_simp; try with_reducible rfl)
          simp only [Act.put, List.setIfInBounds_toArray, List.set_cons_zero, List.set_cons_succ]
          refine wpAnyH_take (i := 24) (oi := { dst := some 92, op := Op.binOp BinOp.neq 5 (Operand.tmp 84) (Operand.tmp 91) 5, type := 4, pos := "law.go:116", after := #[{ on := 15, ground := Ground.data }, { on := 23, ground := Ground.data }, { on := 13, ground := Ground.guard }], guard := some (13, false) }) (v := ?vv20_14_24) rfl (by kernel_rfl) (by kernel_rfl) (by kernel_rfl) (fun _ _ _ h => h) (Or.inl ⟨by rfl, ?yy20_14_24⟩) hHeld ?_
          case yy20_14_24 => (intro W hx; go_simp; try with_reducible rfl)
          simp only [Act.put, List.setIfInBounds_toArray, List.set_cons_zero, List.set_cons_succ]
          refine wpAnyH_take (i := 25) (oi := { dst := some 93, op := Op.pick (Operand.tmp 82) (Operand.const (Value.bool true)) (Operand.tmp 92), type := 4, pos := "law.go:116", after := #[{ on := 13, ground := Ground.data }, { on := 24, ground := Ground.data }], guard := none }) (v := ?vv21_14_25) rfl (by kernel_rfl) (by kernel_rfl) (by kernel_rfl) (fun _ _ _ h => h) (Or.inl ⟨by rfl, ?yy21_14_25⟩) hHeld ?_
          case yy21_14_25 => (intro W hx; go_simp; try with_reducible rfl)
          simp only [Act.put, List.setIfInBounds_toArray, List.set_cons_zero, List.set_cons_succ]
          refine wpAnyH_done (by kernel_rfl) ?_ _
          have zend := zz0.trans hHeld
          have LZ := L13.ext zend
          have xz := xw13.trans zend
          go_upto_region 17 with (go_at_call 17; (refine (relock_cn _ _ _ _ LZ).mono ?_); rintro e w20 ⟨rfl, L20, k20⟩)
          go_wp2_with (go_at_call 19; (refine (show Calls Try.prog 19 #[.pointer (some ⟨g, 0, none⟩)] w20 fun e w' => e = .returned (.int .u8 13) ∧ w20 = w' from locked_cn _ _ _ _ L20).mono ?_); rintro e w21 ⟨rfl, rfl⟩)
          go_ret
          exact ⟨by simp, xz.kept k20 hf13⟩
        · have tok := True.intro
          rw [if_pos (by rfl)]; refine wp_makeMap 42 rfl ?_; have xm := (Ext.refl wD).alloc (.map #[] 0); have own0 := World.ownsMap_made (H := Unit) wD Try.prog 4 (plainElem Try.prog 5)
          simp only [Act.put, List.setIfInBounds_toArray, List.set_cons_zero, List.set_cons_succ]
          refine hK.out _ _ xm (fun hHeld => ?_)
          clear hK K
          refine wpAnyH_ready (rs := [15, 18]) (by kernel_rfl) (by simp) (AllReadyH.cons rfl (fun K hK => ?_) (AllReadyH.cons rfl (fun K hK => ?_) AllReadyH.nil))
          · have tok := True.intro
            go_simp
            go_wp2_with (go_at_call 19; (refine (show Calls Try.prog 19 #[.pointer (some ⟨g, 0, none⟩)] _ fun e w' => e = .returned (.int .u8 (13 - r)) ∧ _ = w' from locked_cn _ _ _ _ ((L13.ext zz0).ext hHeld)).mono ?_); rintro e w' ⟨rfl, rfl⟩)
            refine hK.out _ _ hHeld (fun hHeld => ?_)
            clear hK K
            refine wpAnyH_ready (rs := [18]) (by kernel_rfl) (by simp) (AllReadyH.cons rfl (fun K hK => ?_) AllReadyH.nil)
            rw [if_pos (by rfl)]; refine wp_insert (H := Unit) _ _ _ 42 rfl 4 5 law4 Try.underlying42 (plainElem Try.prog 5) wD.heap.size 0 _ rfl own0 (by simp [maxLen]) _ _ (.bool true) rfl rfl (keyOf_bool_mk Try.underlying4 true) _ [] (plainElem_int Try.underlying5 hwr) ?_; intro wI ownI hgI; have xi := Ext.of_grown xm hgI (fun k e => by injection e with e; omega)
            simp only [Act.put]
            refine hK.out _ _ xi (fun hHeld => ?_)
            clear hK K
            refine wpAnyH_take (i := 19) (oi := { dst := some 87, op := Op.move (Operand.tmp 85), type := 42, pos := "law.go:116", after := #[{ on := 16, ground := Ground.data }, { on := 13, ground := Ground.guard }, { on := 17, ground := Ground.data }, { on := 18, ground := Ground.data }], guard := some (13, false) }) (v := ?vv22_14_19) rfl (by kernel_rfl) (by kernel_rfl) (by kernel_rfl) (fun _ _ _ h => h) (Or.inl ⟨by rfl, ?yy22_14_19⟩) hHeld ?_
            case yy22_14_19 => (intro W hx; go_simp; try with_reducible rfl)
            simp only [Act.put, List.setIfInBounds_toArray, List.set_cons_zero, List.set_cons_succ]
            refine wpAnyH_ready (rs := [22]) (by kernel_rfl) (by simp) (AllReadyH.cons rfl (fun K hK => ?_) AllReadyH.nil)
            rw [if_pos (by rfl)]; refine wp_lookup (H := Unit) _ _ 42 rfl 4 5 .u8 law4 Try.underlying42 Try.underlying5 (zero5 _) wD.heap.size 1 _ rfl ownI _ (.bool true) rfl (keyOf_bool_mk Try.underlying4 true) ?_; intro cc hat; have hcc := (lookT hat).symm; subst hcc
            simp only [Act.put, List.setIfInBounds_toArray, List.set_cons_zero, List.set_cons_succ]
            refine hK.out _ _ hHeld (fun hHeld => ?_)
            clear hK K
            refine wpAnyH_take (i := 23) (oi := { dst := some 91, op := Op.binOp BinOp.sub 5 (Operand.const (Value.int IntKind.u8 13)) (Operand.tmp 90) 5, type := 5, pos := "law.go:116", after := #[{ on := 22, ground := Ground.data }, { on := 13, ground := Ground.guard }], guard := some (13, false) }) (v := ?vv23_14_23) rfl (by kernel_rfl) (by kernel_rfl) (by kernel_rfl) (fun _ _ _ h => h) (Or.inl ⟨by rfl, ?yy23_14_23⟩) hHeld ?_
            case yy23_14_23 => (intro W hx; go_simp; try with_reducible rfl)
            simp only [Act.put, List.setIfInBounds_toArray, List.set_cons_zero, List.set_cons_succ]
            refine wpAnyH_take (i := 24) (oi := { dst := some 92, op := Op.binOp BinOp.neq 5 (Operand.tmp 84) (Operand.tmp 91) 5, type := 4, pos := "law.go:116", after := #[{ on := 15, ground := Ground.data }, { on := 23, ground := Ground.data }, { on := 13, ground := Ground.guard }], guard := some (13, false) }) (v := ?vv24_14_24) rfl (by kernel_rfl) (by kernel_rfl) (by kernel_rfl) (fun _ _ _ h => h) (Or.inl ⟨by rfl, ?yy24_14_24⟩) hHeld ?_
            case yy24_14_24 => (intro W hx; go_simp; try with_reducible rfl)
            simp only [Act.put, List.setIfInBounds_toArray, List.set_cons_zero, List.set_cons_succ]
            refine wpAnyH_take (i := 25) (oi := { dst := some 93, op := Op.pick (Operand.tmp 82) (Operand.const (Value.bool true)) (Operand.tmp 92), type := 4, pos := "law.go:116", after := #[{ on := 13, ground := Ground.data }, { on := 24, ground := Ground.data }], guard := none }) (v := ?vv25_14_25) rfl (by kernel_rfl) (by kernel_rfl) (by kernel_rfl) (fun _ _ _ h => h) (Or.inl ⟨by rfl, ?yy25_14_25⟩) hHeld ?_
            case yy25_14_25 => (intro W hx; go_simp; try with_reducible rfl)
            simp only [Act.put, List.setIfInBounds_toArray, List.set_cons_zero, List.set_cons_succ]
            refine wpAnyH_done (by kernel_rfl) ?_ _
            have zend := zz0.trans hHeld
            have LZ := L13.ext zend
            have xz := xw13.trans zend
            go_upto_region 17 with (go_at_call 17; (refine (relock_cn _ _ _ _ LZ).mono ?_); rintro e w20 ⟨rfl, L20, k20⟩)
            go_wp2_with (go_at_call 19; (refine (show Calls Try.prog 19 #[.pointer (some ⟨g, 0, none⟩)] w20 fun e w' => e = .returned (.int .u8 13) ∧ w20 = w' from locked_cn _ _ _ _ L20).mono ?_); rintro e w21 ⟨rfl, rfl⟩)
            go_ret
            exact ⟨by simp, xz.kept k20 hf13⟩
          · have tok := True.intro
            rw [if_pos (by rfl)]; refine wp_insert (H := Unit) _ _ _ 42 rfl 4 5 law4 Try.underlying42 (plainElem Try.prog 5) wD.heap.size 0 _ rfl own0 (by simp [maxLen]) _ _ (.bool true) rfl rfl (keyOf_bool_mk Try.underlying4 true) _ [] (plainElem_int Try.underlying5 hwr) ?_; intro wI ownI hgI; have xi := Ext.of_grown xm hgI (fun k e => by injection e with e; omega)
            simp only [Act.put]
            refine hK.out _ _ xi (fun hHeld => ?_)
            clear hK K
            refine wpAnyH_take (i := 19) (oi := { dst := some 87, op := Op.move (Operand.tmp 85), type := 42, pos := "law.go:116", after := #[{ on := 16, ground := Ground.data }, { on := 13, ground := Ground.guard }, { on := 17, ground := Ground.data }, { on := 18, ground := Ground.data }], guard := some (13, false) }) (v := ?vv26_14_19) rfl (by kernel_rfl) (by kernel_rfl) (by kernel_rfl) (fun _ _ _ h => h) (Or.inl ⟨by rfl, ?yy26_14_19⟩) hHeld ?_
            case yy26_14_19 => (intro W hx; go_simp; try with_reducible rfl)
            simp only [Act.put, List.setIfInBounds_toArray, List.set_cons_zero, List.set_cons_succ]
            refine wpAnyH_ready (rs := [15, 22]) (by kernel_rfl) (by simp) (AllReadyH.cons rfl (fun K hK => ?_) (AllReadyH.cons rfl (fun K hK => ?_) AllReadyH.nil))
            · have tok := True.intro
              go_simp
              go_wp2_with (go_at_call 19; (refine (show Calls Try.prog 19 #[.pointer (some ⟨g, 0, none⟩)] _ fun e w' => e = .returned (.int .u8 (13 - r)) ∧ _ = w' from locked_cn _ _ _ _ ((L13.ext zz0).ext hHeld)).mono ?_); rintro e w' ⟨rfl, rfl⟩)
              refine hK.out _ _ hHeld (fun hHeld => ?_)
              clear hK K
              refine wpAnyH_ready (rs := [22]) (by kernel_rfl) (by simp) (AllReadyH.cons rfl (fun K hK => ?_) AllReadyH.nil)
              rw [if_pos (by rfl)]; refine wp_lookup (H := Unit) _ _ 42 rfl 4 5 .u8 law4 Try.underlying42 Try.underlying5 (zero5 _) wD.heap.size 1 _ rfl ownI _ (.bool true) rfl (keyOf_bool_mk Try.underlying4 true) ?_; intro cc hat; have hcc := (lookT hat).symm; subst hcc
              simp only [Act.put, List.setIfInBounds_toArray, List.set_cons_zero, List.set_cons_succ]
              refine hK.out _ _ hHeld (fun hHeld => ?_)
              clear hK K
              refine wpAnyH_take (i := 23) (oi := { dst := some 91, op := Op.binOp BinOp.sub 5 (Operand.const (Value.int IntKind.u8 13)) (Operand.tmp 90) 5, type := 5, pos := "law.go:116", after := #[{ on := 22, ground := Ground.data }, { on := 13, ground := Ground.guard }], guard := some (13, false) }) (v := ?vv27_14_23) rfl (by kernel_rfl) (by kernel_rfl) (by kernel_rfl) (fun _ _ _ h => h) (Or.inl ⟨by rfl, ?yy27_14_23⟩) hHeld ?_
              case yy27_14_23 => (intro W hx; go_simp; try with_reducible rfl)
              simp only [Act.put, List.setIfInBounds_toArray, List.set_cons_zero, List.set_cons_succ]
              refine wpAnyH_take (i := 24) (oi := { dst := some 92, op := Op.binOp BinOp.neq 5 (Operand.tmp 84) (Operand.tmp 91) 5, type := 4, pos := "law.go:116", after := #[{ on := 15, ground := Ground.data }, { on := 23, ground := Ground.data }, { on := 13, ground := Ground.guard }], guard := some (13, false) }) (v := ?vv28_14_24) rfl (by kernel_rfl) (by kernel_rfl) (by kernel_rfl) (fun _ _ _ h => h) (Or.inl ⟨by rfl, ?yy28_14_24⟩) hHeld ?_
              case yy28_14_24 => (intro W hx; go_simp; try with_reducible rfl)
              simp only [Act.put, List.setIfInBounds_toArray, List.set_cons_zero, List.set_cons_succ]
              refine wpAnyH_take (i := 25) (oi := { dst := some 93, op := Op.pick (Operand.tmp 82) (Operand.const (Value.bool true)) (Operand.tmp 92), type := 4, pos := "law.go:116", after := #[{ on := 13, ground := Ground.data }, { on := 24, ground := Ground.data }], guard := none }) (v := ?vv29_14_25) rfl (by kernel_rfl) (by kernel_rfl) (by kernel_rfl) (fun _ _ _ h => h) (Or.inl ⟨by rfl, ?yy29_14_25⟩) hHeld ?_
              case yy29_14_25 => (intro W hx; go_simp; try with_reducible rfl)
              simp only [Act.put, List.setIfInBounds_toArray, List.set_cons_zero, List.set_cons_succ]
              refine wpAnyH_done (by kernel_rfl) ?_ _
              have zend := zz0.trans hHeld
              have LZ := L13.ext zend
              have xz := xw13.trans zend
              go_upto_region 17 with (go_at_call 17; (refine (relock_cn _ _ _ _ LZ).mono ?_); rintro e w20 ⟨rfl, L20, k20⟩)
              go_wp2_with (go_at_call 19; (refine (show Calls Try.prog 19 #[.pointer (some ⟨g, 0, none⟩)] w20 fun e w' => e = .returned (.int .u8 13) ∧ w20 = w' from locked_cn _ _ _ _ L20).mono ?_); rintro e w21 ⟨rfl, rfl⟩)
              go_ret
              exact ⟨by simp, xz.kept k20 hf13⟩
            · have tok := True.intro
              rw [if_pos (by rfl)]; refine wp_lookup (H := Unit) _ _ 42 rfl 4 5 .u8 law4 Try.underlying42 Try.underlying5 (zero5 _) wD.heap.size 1 _ rfl ownI _ (.bool true) rfl (keyOf_bool_mk Try.underlying4 true) ?_; intro cc hat; have hcc := (lookT hat).symm; subst hcc
              simp only [Act.put, List.setIfInBounds_toArray, List.set_cons_zero, List.set_cons_succ]
              refine hK.out _ _ hHeld (fun hHeld => ?_)
              clear hK K
              refine wpAnyH_take (i := 23) (oi := { dst := some 91, op := Op.binOp BinOp.sub 5 (Operand.const (Value.int IntKind.u8 13)) (Operand.tmp 90) 5, type := 5, pos := "law.go:116", after := #[{ on := 22, ground := Ground.data }, { on := 13, ground := Ground.guard }], guard := some (13, false) }) (v := ?vv30_14_23) rfl (by kernel_rfl) (by kernel_rfl) (by kernel_rfl) (fun _ _ _ h => h) (Or.inl ⟨by rfl, ?yy30_14_23⟩) hHeld ?_
              case yy30_14_23 => (intro W hx; go_simp; try with_reducible rfl)
              simp only [Act.put, List.setIfInBounds_toArray, List.set_cons_zero, List.set_cons_succ]
              refine wpAnyH_ready (rs := [15]) (by kernel_rfl) (by simp) (AllReadyH.cons rfl (fun K hK => ?_) AllReadyH.nil)
              go_simp
              go_wp2_with (go_at_call 19; (refine (show Calls Try.prog 19 #[.pointer (some ⟨g, 0, none⟩)] _ fun e w' => e = .returned (.int .u8 (13 - r)) ∧ _ = w' from locked_cn _ _ _ _ ((L13.ext zz0).ext hHeld)).mono ?_); rintro e w' ⟨rfl, rfl⟩)
              refine hK.out _ _ hHeld (fun hHeld => ?_)
              clear hK K
              refine wpAnyH_take (i := 24) (oi := { dst := some 92, op := Op.binOp BinOp.neq 5 (Operand.tmp 84) (Operand.tmp 91) 5, type := 4, pos := "law.go:116", after := #[{ on := 15, ground := Ground.data }, { on := 23, ground := Ground.data }, { on := 13, ground := Ground.guard }], guard := some (13, false) }) (v := ?vv31_14_24) rfl (by kernel_rfl) (by kernel_rfl) (by kernel_rfl) (fun _ _ _ h => h) (Or.inl ⟨by rfl, ?yy31_14_24⟩) hHeld ?_
              case yy31_14_24 => (intro W hx; go_simp; try with_reducible rfl)
              simp only [Act.put, List.setIfInBounds_toArray, List.set_cons_zero, List.set_cons_succ]
              refine wpAnyH_take (i := 25) (oi := { dst := some 93, op := Op.pick (Operand.tmp 82) (Operand.const (Value.bool true)) (Operand.tmp 92), type := 4, pos := "law.go:116", after := #[{ on := 13, ground := Ground.data }, { on := 24, ground := Ground.data }], guard := none }) (v := ?vv32_14_25) rfl (by kernel_rfl) (by kernel_rfl) (by kernel_rfl) (fun _ _ _ h => h) (Or.inl ⟨by rfl, ?yy32_14_25⟩) hHeld ?_
              case yy32_14_25 => (intro W hx; go_simp; try with_reducible rfl)
              simp only [Act.put, List.setIfInBounds_toArray, List.set_cons_zero, List.set_cons_succ]
              refine wpAnyH_done (by kernel_rfl) ?_ _
              have zend := zz0.trans hHeld
              have LZ := L13.ext zend
              have xz := xw13.trans zend
              go_upto_region 17 with (go_at_call 17; (refine (relock_cn _ _ _ _ LZ).mono ?_); rintro e w20 ⟨rfl, L20, k20⟩)
              go_wp2_with (go_at_call 19; (refine (show Calls Try.prog 19 #[.pointer (some ⟨g, 0, none⟩)] w20 fun e w' => e = .returned (.int .u8 13) ∧ w20 = w' from locked_cn _ _ _ _ L20).mono ?_); rintro e w21 ⟨rfl, rfl⟩)
              go_ret
              exact ⟨by simp, xz.kept k20 hf13⟩
      · have hoo := HOO.out
        rw [if_neg (fun h => hby (HKE.out.1 h))] at hoo
        subst hoo
        have hbb : (by_ == 0) = false := by simpa using hby
        clear hby
        refine wp_region_held_drew (S := Ext w13) (by kernel_rfl) ((Ext.refl _).drew) (fun hHeld => ?_)
        obtain ⟨wD, hwD⟩ : ∃ V, V = World.drew w13 := ⟨_, rfl⟩
        rw [← hwD]
        clear hHeld
        have zz0 : Ext w13 wD := by rw [hwD]; exact (Ext.refl _).drew
        clear hwD
        refine wpAnyH_imp (S' := Ext wD) (fun W h => Ext.trans zz0 h) _ _ _ _ ?_
        have hHeld := Ext.refl wD
        refine wpAnyH_take (i := 0) (oi := { dst := some 69, op := Op.move (Operand.tmp 14), type := 32, pos := "law.go:116", after := #[], guard := none }) (v := ?vv34_14_0) rfl (by kernel_rfl) (by kernel_rfl) (by kernel_rfl) (fun _ _ _ h => h) (Or.inl ⟨by rfl, ?yy34_14_0⟩) hHeld ?_
        case yy34_14_0 => (intro W hx; go_simp; try with_reducible rfl)
        simp only [Act.put, List.setIfInBounds_toArray, List.set_cons_zero, List.set_cons_succ]
        refine wpAnyH_take (i := 1) (oi := { dst := some 70, op := Op.binOp BinOp.eql 32 (Operand.tmp 69) (Operand.const (Value.int IntKind.i64 0)) 32, type := 4, pos := "law.go:116", after := #[{ on := 0, ground := Ground.data }], guard := none }) (v := ?vv35_14_1) rfl (by kernel_rfl) (by kernel_rfl) (by kernel_rfl) (fun _ _ _ h => h) (Or.inl ⟨by rfl, ?yy35_14_1⟩) hHeld ?_
        case yy35_14_1 => (intro W hx; go_simp; try with_reducible rfl)
        simp only [Act.put, List.setIfInBounds_toArray, List.set_cons_zero, List.set_cons_succ]
        refine wpAnyH_take (i := 2) (oi := { dst := some 71, op := Op.move (Operand.tmp 3), type := 5, pos := "law.go:116", after := #[], guard := none }) (v := ?vv36_14_2) rfl (by kernel_rfl) (by kernel_rfl) (by kernel_rfl) (fun _ _ _ h => h) (Or.inl ⟨by rfl, ?yy36_14_2⟩) hHeld ?_
        case yy36_14_2 => (intro W hx; go_simp; try with_reducible rfl)
        simp only [Act.put, List.setIfInBounds_toArray, List.set_cons_zero, List.set_cons_succ]
        refine wpAnyH_take (i := 3) (oi := { dst := some 72, op := Op.binOp BinOp.eql 5 (Operand.tmp 71) (Operand.const (Value.int IntKind.u8 0)) 5, type := 4, pos := "law.go:116", after := #[{ on := 2, ground := Ground.data }], guard := none }) (v := ?vv37_14_3) rfl (by kernel_rfl) (by kernel_rfl) (by kernel_rfl) (fun _ _ _ h => h) (Or.inl ⟨by rfl, ?yy37_14_3⟩) hHeld ?_
        case yy37_14_3 => (intro W hx; go_simp; try with_reducible rfl)
        simp only [Act.put, List.setIfInBounds_toArray, List.set_cons_zero, List.set_cons_succ]
        refine wpAnyH_take (i := 4) (oi := { dst := some 73, op := Op.binOp BinOp.neq 4 (Operand.tmp 70) (Operand.tmp 72) 4, type := 4, pos := "law.go:116", after := #[{ on := 1, ground := Ground.data }, { on := 3, ground := Ground.data }], guard := none }) (v := ?vv38_14_4) rfl (by kernel_rfl) (by kernel_rfl) (by kernel_rfl) (fun _ _ _ h => h) (Or.inl ⟨by rfl, ?yy38_14_4⟩) hHeld ?_
        case yy38_14_4 => (intro W hx; go_simp; try with_reducible rfl)
        simp only [Act.put, List.setIfInBounds_toArray, List.set_cons_zero, List.set_cons_succ]
        refine wpAnyH_take (i := 5) (oi := { dst := some 74, op := Op.move (Operand.tmp 73), type := 4, pos := "law.go:116", after := #[{ on := 4, ground := Ground.data }], guard := none }) (v := ?vv39_14_5) rfl (by kernel_rfl) (by kernel_rfl) (by kernel_rfl) (fun _ _ _ h => h) (Or.inl ⟨by rfl, ?yy39_14_5⟩) hHeld ?_
        case yy39_14_5 => (intro W hx; go_simp; try with_reducible rfl)
        simp only [Act.put, List.setIfInBounds_toArray, List.set_cons_zero, List.set_cons_succ]
        refine wpAnyH_take (i := 6) (oi := { dst := some 75, op := Op.move (Operand.tmp 14), type := 32, pos := "law.go:116", after := #[{ on := 5, ground := Ground.guard }], guard := some (5, false) }) (v := ?vv40_14_6) rfl (by kernel_rfl) (by kernel_rfl) (by kernel_rfl) (fun _ _ _ h => h) (Or.inl ⟨by rfl, ?yy40_14_6⟩) hHeld ?_
        case yy40_14_6 => (intro W hx; go_simp; try with_reducible rfl)
        simp only [Act.put, List.setIfInBounds_toArray, List.set_cons_zero, List.set_cons_succ]
        refine wpAnyH_take (i := 7) (oi := { dst := some 76, op := Op.binOp BinOp.neq 32 (Operand.tmp 75) (Operand.const (Value.int IntKind.i64 0)) 32, type := 4, pos := "law.go:116", after := #[{ on := 6, ground := Ground.data }, { on := 5, ground := Ground.guard }], guard := some (5, false) }) (v := ?vv41_14_7) rfl (by kernel_rfl) (by kernel_rfl) (by kernel_rfl) (fun _ _ _ h => h) (Or.inl ⟨by rfl, ?yy41_14_7⟩) hHeld ?_
        case yy41_14_7 => (intro W hx; go_simp; try with_reducible rfl)
        simp only [Act.put, List.setIfInBounds_toArray, List.set_cons_zero, List.set_cons_succ]
        refine wpAnyH_take (i := 8) (oi := { dst := some 77, op := Op.move (Operand.tmp 76), type := 4, pos := "law.go:116", after := #[{ on := 7, ground := Ground.data }, { on := 5, ground := Ground.chain }, { on := 5, ground := Ground.guard }], guard := some (5, false) }) (v := ?vv42_14_8) rfl (by kernel_rfl) (by kernel_rfl) (by kernel_rfl) (fun _ _ _ h => h) (Or.inl ⟨by rfl, ?yy42_14_8⟩) hHeld ?_
        case yy42_14_8 => (intro W hx; go_simp; try with_reducible rfl)
        simp only [Act.put, List.setIfInBounds_toArray, List.set_cons_zero, List.set_cons_succ]
        refine wpAnyH_take (i := 9) (oi := { dst := some 78, op := Op.move (Operand.tmp 14), type := 32, pos := "law.go:116", after := #[{ on := 8, ground := Ground.guard }], guard := some (8, true) }) (v := ?vv43_14_9) rfl (by kernel_rfl) (by kernel_rfl) (by kernel_rfl) (fun _ _ _ h => h) (Or.inl ⟨by rfl, ?yy43_14_9⟩) hHeld ?_
        case yy43_14_9 => (intro W hx; go_simp; try with_reducible rfl)
        simp only [Act.put, List.setIfInBounds_toArray, List.set_cons_zero, List.set_cons_succ]
        refine wpAnyH_take (i := 10) (oi := { dst := some 79, op := Op.binOp BinOp.neq 32 (Operand.tmp 78) (Operand.const (Value.int IntKind.i64 91)) 32, type := 4, pos := "law.go:116", after := #[{ on := 9, ground := Ground.data }, { on := 8, ground := Ground.guard }], guard := some (8, true) }) (v := ?vv44_14_10) rfl (by kernel_rfl) (by kernel_rfl) (by kernel_rfl) (fun _ _ _ h => h) (Or.inl ⟨by rfl, ?yy44_14_10⟩) hHeld ?_
        case yy44_14_10 => (intro W hx; go_simp; try with_reducible rfl)
        simp only [Act.put, List.setIfInBounds_toArray, List.set_cons_zero, List.set_cons_succ]
        refine wpAnyH_take (i := 11) (oi := { dst := some 80, op := Op.pick (Operand.tmp 77) (Operand.tmp 79) (Operand.const (Value.bool false)), type := 4, pos := "law.go:116", after := #[{ on := 8, ground := Ground.data }, { on := 10, ground := Ground.data }, { on := 5, ground := Ground.guard }], guard := some (5, false) }) (v := ?vv45_14_11) rfl (by kernel_rfl) (by kernel_rfl) (by kernel_rfl) (fun _ _ _ h => h) (Or.inl ⟨by rfl, ?yy45_14_11⟩) hHeld ?_
        case yy45_14_11 => (intro W hx; go_simp; try with_reducible rfl)
        simp only [Act.put, List.setIfInBounds_toArray, List.set_cons_zero, List.set_cons_succ]
        refine wpAnyH_take (i := 12) (oi := { dst := some 81, op := Op.pick (Operand.tmp 74) (Operand.const (Value.bool true)) (Operand.tmp 80), type := 4, pos := "law.go:116", after := #[{ on := 5, ground := Ground.data }, { on := 11, ground := Ground.data }], guard := none }) (v := ?vv46_14_12) rfl (by kernel_rfl) (by kernel_rfl) (by kernel_rfl) (fun _ _ _ h => h) (Or.inl ⟨by rfl, ?yy46_14_12⟩) hHeld ?_
        case yy46_14_12 => (intro W hx; go_simp; try with_reducible rfl)
        simp only [Act.put, List.setIfInBounds_toArray, List.set_cons_zero, List.set_cons_succ]
        refine wpAnyH_take (i := 13) (oi := { dst := some 82, op := Op.move (Operand.tmp 81), type := 4, pos := "law.go:116", after := #[{ on := 12, ground := Ground.data }, { on := 8, ground := Ground.chain }], guard := none }) (v := ?vv47_14_13) rfl (by kernel_rfl) (by kernel_rfl) (by kernel_rfl) (fun _ _ _ h => h) (Or.inl ⟨by rfl, ?yy47_14_13⟩) hHeld ?_
        case yy47_14_13 => (intro W hx; go_simp; try with_reducible rfl)
        simp only [Act.put, List.setIfInBounds_toArray, List.set_cons_zero, List.set_cons_succ]
        refine wpAnyH_take (i := 14) (oi := { dst := some 83, op := Op.move (Operand.tmp 12), type := 24, pos := "law.go:116", after := #[{ on := 13, ground := Ground.guard }], guard := some (13, false) }) (v := ?vv48_14_14) rfl (by kernel_rfl) (by kernel_rfl) (by kernel_rfl) (fun _ _ _ h => h) (Or.inl ⟨by rfl, ?yy48_14_14⟩) hHeld ?_
        case yy48_14_14 => (intro W hx; go_simp; try with_reducible rfl)
        simp only [Act.put, List.setIfInBounds_toArray, List.set_cons_zero, List.set_cons_succ]
        refine wpAnyH_take (i := 17) (oi := { dst := some 86, op := Op.move (Operand.tmp 10), type := 5, pos := "law.go:116", after := #[{ on := 13, ground := Ground.guard }], guard := some (13, false) }) (v := ?vv49_14_17) rfl (by kernel_rfl) (by kernel_rfl) (by kernel_rfl) (fun _ _ _ h => h) (Or.inl ⟨by rfl, ?yy49_14_17⟩) hHeld ?_
        case yy49_14_17 => (intro W hx; go_simp; try with_reducible rfl)
        simp only [Act.put, List.setIfInBounds_toArray, List.set_cons_zero, List.set_cons_succ]
        refine wpAnyH_take (i := 20) (oi := { dst := some 88, op := Op.move (Operand.tmp 3), type := 5, pos := "law.go:116", after := #[{ on := 13, ground := Ground.guard }], guard := some (13, false) }) (v := ?vv50_14_20) rfl (by kernel_rfl) (by kernel_rfl) (by kernel_rfl) (fun _ _ _ h => h) (Or.inl ⟨by rfl, ?yy50_14_20⟩) hHeld ?_
        case yy50_14_20 => (intro W hx; go_simp; try with_reducible rfl)
        simp only [Act.put, List.setIfInBounds_toArray, List.set_cons_zero, List.set_cons_succ]
        refine wpAnyH_take (i := 21) (oi := { dst := some 89, op := Op.binOp BinOp.eql 5 (Operand.tmp 88) (Operand.const (Value.int IntKind.u8 0)) 5, type := 4, pos := "law.go:116", after := #[{ on := 20, ground := Ground.data }, { on := 13, ground := Ground.guard }], guard := some (13, false) }) (v := ?vv51_14_21) rfl (by kernel_rfl) (by kernel_rfl) (by kernel_rfl) (fun _ _ _ h => h) (Or.inl ⟨by rfl, ?yy51_14_21⟩) hHeld ?_
        case yy51_14_21 => (intro W hx; go_simp; try with_reducible rfl)
        simp only [Act.put, List.setIfInBounds_toArray, List.set_cons_zero, List.set_cons_succ]
        refine wpAnyH_ready (rs := [15, 16]) (by kernel_rfl) (by simp) (AllReadyH.cons rfl (fun K hK => ?_) (AllReadyH.cons rfl (fun K hK => ?_) AllReadyH.nil))
        · have tok := True.intro
          go_simp
          go_wp2_with (go_at_call 19; (refine (show Calls Try.prog 19 #[.pointer (some ⟨g, 0, none⟩)] _ fun e w' => e = .returned (.int .u8 13) ∧ _ = w' from locked_cn _ _ _ _ ((L13.ext zz0).ext hHeld)).mono ?_); rintro e w' ⟨rfl, rfl⟩)
          refine hK.out _ _ hHeld (fun hHeld => ?_)
          clear hK K
          refine wpAnyH_ready (rs := [16]) (by kernel_rfl) (by simp) (AllReadyH.cons rfl (fun K hK => ?_) AllReadyH.nil)
          rw [if_pos (by rfl)]; refine wp_makeMap 42 rfl ?_; have xm := (Ext.refl wD).alloc (.map #[] 0); have own0 := World.ownsMap_made (H := Unit) wD Try.prog 4 (plainElem Try.prog 5)
          simp only [Act.put, List.setIfInBounds_toArray, List.set_cons_zero, List.set_cons_succ]
          refine hK.out _ _ xm (fun hHeld => ?_)
          clear hK K
          refine wpAnyH_ready (rs := [18]) (by kernel_rfl) (by simp) (AllReadyH.cons rfl (fun K hK => ?_) AllReadyH.nil)
          rw [if_pos (by rfl)]; refine wp_insert (H := Unit) _ _ _ 42 rfl 4 5 law4 Try.underlying42 (plainElem Try.prog 5) wD.heap.size 0 _ rfl own0 (by simp [maxLen]) _ _ (.bool true) rfl rfl (keyOf_bool_mk Try.underlying4 true) _ [] (plainElem_int Try.underlying5 hwr) ?_; intro wI ownI hgI; have xi := Ext.of_grown xm hgI (fun k e => by injection e with e; omega)
          simp only [Act.put]
          refine hK.out _ _ xi (fun hHeld => ?_)
          clear hK K
          refine wpAnyH_take (i := 19) (oi := { dst := some 87, op := Op.move (Operand.tmp 85), type := 42, pos := "law.go:116", after := #[{ on := 16, ground := Ground.data }, { on := 13, ground := Ground.guard }, { on := 17, ground := Ground.data }, { on := 18, ground := Ground.data }], guard := some (13, false) }) (v := ?vv52_14_19) rfl (by kernel_rfl) (by kernel_rfl) (by kernel_rfl) (fun _ _ _ h => h) (Or.inl ⟨by rfl, ?yy52_14_19⟩) hHeld ?_
          case yy52_14_19 => (intro W hx; go_simp; try with_reducible rfl)
          simp only [Act.put, List.setIfInBounds_toArray, List.set_cons_zero, List.set_cons_succ]
          refine wpAnyH_ready (rs := [22]) (by kernel_rfl) (by simp) (AllReadyH.cons rfl (fun K hK => ?_) AllReadyH.nil)
          rw [if_pos (by rfl)]; refine wp_lookup (H := Unit) _ _ 42 rfl 4 5 .u8 law4 Try.underlying42 Try.underlying5 (zero5 _) wD.heap.size 1 _ rfl ownI _ (.bool false) rfl (keyOf_bool_mk Try.underlying4 false) ?_; intro cc hat; have hcc := lookF hat; subst hcc
          simp only [Act.put, List.setIfInBounds_toArray, List.set_cons_zero, List.set_cons_succ]
          refine hK.out _ _ hHeld (fun hHeld => ?_)
          clear hK K
          refine wpAnyH_take (i := 23) (oi := { dst := some 91, op := Op.binOp BinOp.sub 5 (Operand.const (Value.int IntKind.u8 13)) (Operand.tmp 90) 5, type := 5, pos := "law.go:116", after := #[{ on := 22, ground := Ground.data }, { on := 13, ground := Ground.guard }], guard := some (13, false) }) (v := ?vv53_14_23) rfl (by kernel_rfl) (by kernel_rfl) (by kernel_rfl) (fun _ _ _ h => h) (Or.inl ⟨by rfl, ?yy53_14_23⟩) hHeld ?_
          case yy53_14_23 => (intro W hx; go_simp; try with_reducible rfl)
          simp only [Act.put, List.setIfInBounds_toArray, List.set_cons_zero, List.set_cons_succ]
          refine wpAnyH_take (i := 24) (oi := { dst := some 92, op := Op.binOp BinOp.neq 5 (Operand.tmp 84) (Operand.tmp 91) 5, type := 4, pos := "law.go:116", after := #[{ on := 15, ground := Ground.data }, { on := 23, ground := Ground.data }, { on := 13, ground := Ground.guard }], guard := some (13, false) }) (v := ?vv54_14_24) rfl (by kernel_rfl) (by kernel_rfl) (by kernel_rfl) (fun _ _ _ h => h) (Or.inl ⟨by rfl, ?yy54_14_24⟩) hHeld ?_
          case yy54_14_24 => (intro W hx; go_simp; try with_reducible rfl)
          simp only [Act.put, List.setIfInBounds_toArray, List.set_cons_zero, List.set_cons_succ]
          refine wpAnyH_take (i := 25) (oi := { dst := some 93, op := Op.pick (Operand.tmp 82) (Operand.const (Value.bool true)) (Operand.tmp 92), type := 4, pos := "law.go:116", after := #[{ on := 13, ground := Ground.data }, { on := 24, ground := Ground.data }], guard := none }) (v := ?vv55_14_25) rfl (by kernel_rfl) (by kernel_rfl) (by kernel_rfl) (fun _ _ _ h => h) (Or.inl ⟨by rfl, ?yy55_14_25⟩) hHeld ?_
          case yy55_14_25 => (intro W hx; go_simp; try with_reducible rfl)
          simp only [Act.put, List.setIfInBounds_toArray, List.set_cons_zero, List.set_cons_succ]
          refine wpAnyH_done (by kernel_rfl) ?_ _
          have zend := zz0.trans hHeld
          have LZ := L13.ext zend
          have xz := xw13.trans zend
          go_upto_region 17 with (go_at_call 17; (refine (relock_cn _ _ _ _ LZ).mono ?_); rintro e w20 ⟨rfl, L20, k20⟩)
          go_wp2_with (go_at_call 19; (refine (show Calls Try.prog 19 #[.pointer (some ⟨g, 0, none⟩)] w20 fun e w' => e = .returned (.int .u8 13) ∧ w20 = w' from locked_cn _ _ _ _ L20).mono ?_); rintro e w21 ⟨rfl, rfl⟩)
          go_ret
          exact ⟨by simp, xz.kept k20 hf13⟩
        · have tok := True.intro
          rw [if_pos (by rfl)]; refine wp_makeMap 42 rfl ?_; have xm := (Ext.refl wD).alloc (.map #[] 0); have own0 := World.ownsMap_made (H := Unit) wD Try.prog 4 (plainElem Try.prog 5)
          simp only [Act.put, List.setIfInBounds_toArray, List.set_cons_zero, List.set_cons_succ]
          refine hK.out _ _ xm (fun hHeld => ?_)
          clear hK K
          refine wpAnyH_ready (rs := [15, 18]) (by kernel_rfl) (by simp) (AllReadyH.cons rfl (fun K hK => ?_) (AllReadyH.cons rfl (fun K hK => ?_) AllReadyH.nil))
          · have tok := True.intro
            go_simp
            go_wp2_with (go_at_call 19; (refine (show Calls Try.prog 19 #[.pointer (some ⟨g, 0, none⟩)] _ fun e w' => e = .returned (.int .u8 13) ∧ _ = w' from locked_cn _ _ _ _ ((L13.ext zz0).ext hHeld)).mono ?_); rintro e w' ⟨rfl, rfl⟩)
            refine hK.out _ _ hHeld (fun hHeld => ?_)
            clear hK K
            refine wpAnyH_ready (rs := [18]) (by kernel_rfl) (by simp) (AllReadyH.cons rfl (fun K hK => ?_) AllReadyH.nil)
            rw [if_pos (by rfl)]; refine wp_insert (H := Unit) _ _ _ 42 rfl 4 5 law4 Try.underlying42 (plainElem Try.prog 5) wD.heap.size 0 _ rfl own0 (by simp [maxLen]) _ _ (.bool true) rfl rfl (keyOf_bool_mk Try.underlying4 true) _ [] (plainElem_int Try.underlying5 hwr) ?_; intro wI ownI hgI; have xi := Ext.of_grown xm hgI (fun k e => by injection e with e; omega)
            simp only [Act.put]
            refine hK.out _ _ xi (fun hHeld => ?_)
            clear hK K
            refine wpAnyH_take (i := 19) (oi := { dst := some 87, op := Op.move (Operand.tmp 85), type := 42, pos := "law.go:116", after := #[{ on := 16, ground := Ground.data }, { on := 13, ground := Ground.guard }, { on := 17, ground := Ground.data }, { on := 18, ground := Ground.data }], guard := some (13, false) }) (v := ?vv56_14_19) rfl (by kernel_rfl) (by kernel_rfl) (by kernel_rfl) (fun _ _ _ h => h) (Or.inl ⟨by rfl, ?yy56_14_19⟩) hHeld ?_
            case yy56_14_19 => (intro W hx; go_simp; try with_reducible rfl)
            simp only [Act.put, List.setIfInBounds_toArray, List.set_cons_zero, List.set_cons_succ]
            refine wpAnyH_ready (rs := [22]) (by kernel_rfl) (by simp) (AllReadyH.cons rfl (fun K hK => ?_) AllReadyH.nil)
            rw [if_pos (by rfl)]; refine wp_lookup (H := Unit) _ _ 42 rfl 4 5 .u8 law4 Try.underlying42 Try.underlying5 (zero5 _) wD.heap.size 1 _ rfl ownI _ (.bool false) rfl (keyOf_bool_mk Try.underlying4 false) ?_; intro cc hat; have hcc := lookF hat; subst hcc
            simp only [Act.put, List.setIfInBounds_toArray, List.set_cons_zero, List.set_cons_succ]
            refine hK.out _ _ hHeld (fun hHeld => ?_)
            clear hK K
            refine wpAnyH_take (i := 23) (oi := { dst := some 91, op := Op.binOp BinOp.sub 5 (Operand.const (Value.int IntKind.u8 13)) (Operand.tmp 90) 5, type := 5, pos := "law.go:116", after := #[{ on := 22, ground := Ground.data }, { on := 13, ground := Ground.guard }], guard := some (13, false) }) (v := ?vv57_14_23) rfl (by kernel_rfl) (by kernel_rfl) (by kernel_rfl) (fun _ _ _ h => h) (Or.inl ⟨by rfl, ?yy57_14_23⟩) hHeld ?_
            case yy57_14_23 => (intro W hx; go_simp; try with_reducible rfl)
            simp only [Act.put, List.setIfInBounds_toArray, List.set_cons_zero, List.set_cons_succ]
            refine wpAnyH_take (i := 24) (oi := { dst := some 92, op := Op.binOp BinOp.neq 5 (Operand.tmp 84) (Operand.tmp 91) 5, type := 4, pos := "law.go:116", after := #[{ on := 15, ground := Ground.data }, { on := 23, ground := Ground.data }, { on := 13, ground := Ground.guard }], guard := some (13, false) }) (v := ?vv58_14_24) rfl (by kernel_rfl) (by kernel_rfl) (by kernel_rfl) (fun _ _ _ h => h) (Or.inl ⟨by rfl, ?yy58_14_24⟩) hHeld ?_
            case yy58_14_24 => (intro W hx; go_simp; try with_reducible rfl)
            simp only [Act.put, List.setIfInBounds_toArray, List.set_cons_zero, List.set_cons_succ]
            refine wpAnyH_take (i := 25) (oi := { dst := some 93, op := Op.pick (Operand.tmp 82) (Operand.const (Value.bool true)) (Operand.tmp 92), type := 4, pos := "law.go:116", after := #[{ on := 13, ground := Ground.data }, { on := 24, ground := Ground.data }], guard := none }) (v := ?vv59_14_25) rfl (by kernel_rfl) (by kernel_rfl) (by kernel_rfl) (fun _ _ _ h => h) (Or.inl ⟨by rfl, ?yy59_14_25⟩) hHeld ?_
            case yy59_14_25 => (intro W hx; go_simp; try with_reducible rfl)
            simp only [Act.put, List.setIfInBounds_toArray, List.set_cons_zero, List.set_cons_succ]
            refine wpAnyH_done (by kernel_rfl) ?_ _
            have zend := zz0.trans hHeld
            have LZ := L13.ext zend
            have xz := xw13.trans zend
            go_upto_region 17 with (go_at_call 17; (refine (relock_cn _ _ _ _ LZ).mono ?_); rintro e w20 ⟨rfl, L20, k20⟩)
            go_wp2_with (go_at_call 19; (refine (show Calls Try.prog 19 #[.pointer (some ⟨g, 0, none⟩)] w20 fun e w' => e = .returned (.int .u8 13) ∧ w20 = w' from locked_cn _ _ _ _ L20).mono ?_); rintro e w21 ⟨rfl, rfl⟩)
            go_ret
            exact ⟨by simp, xz.kept k20 hf13⟩
          · have tok := True.intro
            rw [if_pos (by rfl)]; refine wp_insert (H := Unit) _ _ _ 42 rfl 4 5 law4 Try.underlying42 (plainElem Try.prog 5) wD.heap.size 0 _ rfl own0 (by simp [maxLen]) _ _ (.bool true) rfl rfl (keyOf_bool_mk Try.underlying4 true) _ [] (plainElem_int Try.underlying5 hwr) ?_; intro wI ownI hgI; have xi := Ext.of_grown xm hgI (fun k e => by injection e with e; omega)
            simp only [Act.put]
            refine hK.out _ _ xi (fun hHeld => ?_)
            clear hK K
            refine wpAnyH_take (i := 19) (oi := { dst := some 87, op := Op.move (Operand.tmp 85), type := 42, pos := "law.go:116", after := #[{ on := 16, ground := Ground.data }, { on := 13, ground := Ground.guard }, { on := 17, ground := Ground.data }, { on := 18, ground := Ground.data }], guard := some (13, false) }) (v := ?vv60_14_19) rfl (by kernel_rfl) (by kernel_rfl) (by kernel_rfl) (fun _ _ _ h => h) (Or.inl ⟨by rfl, ?yy60_14_19⟩) hHeld ?_
            case yy60_14_19 => (intro W hx; go_simp; try with_reducible rfl)
            simp only [Act.put, List.setIfInBounds_toArray, List.set_cons_zero, List.set_cons_succ]
            refine wpAnyH_ready (rs := [15, 22]) (by kernel_rfl) (by simp) (AllReadyH.cons rfl (fun K hK => ?_) (AllReadyH.cons rfl (fun K hK => ?_) AllReadyH.nil))
            · have tok := True.intro
              go_simp
              go_wp2_with (go_at_call 19; (refine (show Calls Try.prog 19 #[.pointer (some ⟨g, 0, none⟩)] _ fun e w' => e = .returned (.int .u8 13) ∧ _ = w' from locked_cn _ _ _ _ ((L13.ext zz0).ext hHeld)).mono ?_); rintro e w' ⟨rfl, rfl⟩)
              refine hK.out _ _ hHeld (fun hHeld => ?_)
              clear hK K
              refine wpAnyH_ready (rs := [22]) (by kernel_rfl) (by simp) (AllReadyH.cons rfl (fun K hK => ?_) AllReadyH.nil)
              rw [if_pos (by rfl)]; refine wp_lookup (H := Unit) _ _ 42 rfl 4 5 .u8 law4 Try.underlying42 Try.underlying5 (zero5 _) wD.heap.size 1 _ rfl ownI _ (.bool false) rfl (keyOf_bool_mk Try.underlying4 false) ?_; intro cc hat; have hcc := lookF hat; subst hcc
              simp only [Act.put, List.setIfInBounds_toArray, List.set_cons_zero, List.set_cons_succ]
              refine hK.out _ _ hHeld (fun hHeld => ?_)
              clear hK K
              refine wpAnyH_take (i := 23) (oi := { dst := some 91, op := Op.binOp BinOp.sub 5 (Operand.const (Value.int IntKind.u8 13)) (Operand.tmp 90) 5, type := 5, pos := "law.go:116", after := #[{ on := 22, ground := Ground.data }, { on := 13, ground := Ground.guard }], guard := some (13, false) }) (v := ?vv61_14_23) rfl (by kernel_rfl) (by kernel_rfl) (by kernel_rfl) (fun _ _ _ h => h) (Or.inl ⟨by rfl, ?yy61_14_23⟩) hHeld ?_
              case yy61_14_23 => (intro W hx; go_simp; try with_reducible rfl)
              simp only [Act.put, List.setIfInBounds_toArray, List.set_cons_zero, List.set_cons_succ]
              refine wpAnyH_take (i := 24) (oi := { dst := some 92, op := Op.binOp BinOp.neq 5 (Operand.tmp 84) (Operand.tmp 91) 5, type := 4, pos := "law.go:116", after := #[{ on := 15, ground := Ground.data }, { on := 23, ground := Ground.data }, { on := 13, ground := Ground.guard }], guard := some (13, false) }) (v := ?vv62_14_24) rfl (by kernel_rfl) (by kernel_rfl) (by kernel_rfl) (fun _ _ _ h => h) (Or.inl ⟨by rfl, ?yy62_14_24⟩) hHeld ?_
              case yy62_14_24 => (intro W hx; go_simp; try with_reducible rfl)
              simp only [Act.put, List.setIfInBounds_toArray, List.set_cons_zero, List.set_cons_succ]
              refine wpAnyH_take (i := 25) (oi := { dst := some 93, op := Op.pick (Operand.tmp 82) (Operand.const (Value.bool true)) (Operand.tmp 92), type := 4, pos := "law.go:116", after := #[{ on := 13, ground := Ground.data }, { on := 24, ground := Ground.data }], guard := none }) (v := ?vv63_14_25) rfl (by kernel_rfl) (by kernel_rfl) (by kernel_rfl) (fun _ _ _ h => h) (Or.inl ⟨by rfl, ?yy63_14_25⟩) hHeld ?_
              case yy63_14_25 => (intro W hx; go_simp; try with_reducible rfl)
              simp only [Act.put, List.setIfInBounds_toArray, List.set_cons_zero, List.set_cons_succ]
              refine wpAnyH_done (by kernel_rfl) ?_ _
              have zend := zz0.trans hHeld
              have LZ := L13.ext zend
              have xz := xw13.trans zend
              go_upto_region 17 with (go_at_call 17; (refine (relock_cn _ _ _ _ LZ).mono ?_); rintro e w20 ⟨rfl, L20, k20⟩)
              go_wp2_with (go_at_call 19; (refine (show Calls Try.prog 19 #[.pointer (some ⟨g, 0, none⟩)] w20 fun e w' => e = .returned (.int .u8 13) ∧ w20 = w' from locked_cn _ _ _ _ L20).mono ?_); rintro e w21 ⟨rfl, rfl⟩)
              go_ret
              exact ⟨by simp, xz.kept k20 hf13⟩
            · have tok := True.intro
              rw [if_pos (by rfl)]; refine wp_lookup (H := Unit) _ _ 42 rfl 4 5 .u8 law4 Try.underlying42 Try.underlying5 (zero5 _) wD.heap.size 1 _ rfl ownI _ (.bool false) rfl (keyOf_bool_mk Try.underlying4 false) ?_; intro cc hat; have hcc := lookF hat; subst hcc
              simp only [Act.put, List.setIfInBounds_toArray, List.set_cons_zero, List.set_cons_succ]
              refine hK.out _ _ hHeld (fun hHeld => ?_)
              clear hK K
              refine wpAnyH_take (i := 23) (oi := { dst := some 91, op := Op.binOp BinOp.sub 5 (Operand.const (Value.int IntKind.u8 13)) (Operand.tmp 90) 5, type := 5, pos := "law.go:116", after := #[{ on := 22, ground := Ground.data }, { on := 13, ground := Ground.guard }], guard := some (13, false) }) (v := ?vv64_14_23) rfl (by kernel_rfl) (by kernel_rfl) (by kernel_rfl) (fun _ _ _ h => h) (Or.inl ⟨by rfl, ?yy64_14_23⟩) hHeld ?_
              case yy64_14_23 => (intro W hx; go_simp; try with_reducible rfl)
              simp only [Act.put, List.setIfInBounds_toArray, List.set_cons_zero, List.set_cons_succ]
              refine wpAnyH_ready (rs := [15]) (by kernel_rfl) (by simp) (AllReadyH.cons rfl (fun K hK => ?_) AllReadyH.nil)
              go_simp
              go_wp2_with (go_at_call 19; (refine (show Calls Try.prog 19 #[.pointer (some ⟨g, 0, none⟩)] _ fun e w' => e = .returned (.int .u8 13) ∧ _ = w' from locked_cn _ _ _ _ ((L13.ext zz0).ext hHeld)).mono ?_); rintro e w' ⟨rfl, rfl⟩)
              refine hK.out _ _ hHeld (fun hHeld => ?_)
              clear hK K
              refine wpAnyH_take (i := 24) (oi := { dst := some 92, op := Op.binOp BinOp.neq 5 (Operand.tmp 84) (Operand.tmp 91) 5, type := 4, pos := "law.go:116", after := #[{ on := 15, ground := Ground.data }, { on := 23, ground := Ground.data }, { on := 13, ground := Ground.guard }], guard := some (13, false) }) (v := ?vv65_14_24) rfl (by kernel_rfl) (by kernel_rfl) (by kernel_rfl) (fun _ _ _ h => h) (Or.inl ⟨by rfl, ?yy65_14_24⟩) hHeld ?_
              case yy65_14_24 => (intro W hx; go_simp; try with_reducible rfl)
              simp only [Act.put, List.setIfInBounds_toArray, List.set_cons_zero, List.set_cons_succ]
              refine wpAnyH_take (i := 25) (oi := { dst := some 93, op := Op.pick (Operand.tmp 82) (Operand.const (Value.bool true)) (Operand.tmp 92), type := 4, pos := "law.go:116", after := #[{ on := 13, ground := Ground.data }, { on := 24, ground := Ground.data }], guard := none }) (v := ?vv66_14_25) rfl (by kernel_rfl) (by kernel_rfl) (by kernel_rfl) (fun _ _ _ h => h) (Or.inl ⟨by rfl, ?yy66_14_25⟩) hHeld ?_
              case yy66_14_25 => (intro W hx; go_simp; try with_reducible rfl)
              simp only [Act.put, List.setIfInBounds_toArray, List.set_cons_zero, List.set_cons_succ]
              refine wpAnyH_done (by kernel_rfl) ?_ _
              have zend := zz0.trans hHeld
              have LZ := L13.ext zend
              have xz := xw13.trans zend
              go_upto_region 17 with (go_at_call 17; (refine (relock_cn _ _ _ _ LZ).mono ?_); rintro e w20 ⟨rfl, L20, k20⟩)
              go_wp2_with (go_at_call 19; (refine (show Calls Try.prog 19 #[.pointer (some ⟨g, 0, none⟩)] w20 fun e w' => e = .returned (.int .u8 13) ∧ w20 = w' from locked_cn _ _ _ _ L20).mono ?_); rintro e w21 ⟨rfl, rfl⟩)
              go_ret
              exact ⟨by simp, xz.kept k20 hf13⟩
end Go.Proofs.Ytnjiajogbadadaa
