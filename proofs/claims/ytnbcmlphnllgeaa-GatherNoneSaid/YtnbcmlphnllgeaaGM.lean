import Derived.Test.YtnbcmlphnllgeaaGL
set_option linter.unusedVariables false
set_option linter.unusedSimpArgs false
namespace Go.Proofs.Ytnbcmlphnllgeaa
open Go.RowKit
theorem newGp_stim {L : List Ls} (x : Gp) (hx : x ∈ (L.map (fun x => { x with stim := true })).map newGp) : x.stim = true := by
  simp only [List.map_map, List.mem_map, Function.comp] at hx
  obtain ⟨y, _, rfl⟩ := hx
  rfl
theorem sum_map (b : Bool) (L : List Ls) : sumN (L.map (fun x => { x with stim := b })) = sumN L := by unfold sumN; rw [List.map_map]; rfl
set_option maxRecDepth 100000 in
set_option maxHeartbeats 8000000 in
theorem GatherNone_law (w : World) (A0 : Option Addr) (n0 c0 : Nat) (l : List Ls) (y : Rp) (hs : Shows w 8 A0 n0 (lss l)) (hn : n0 = l.length) (hnc : n0 ≤ c0) (hcm : c0 ≤ maxLen) (hok : ∀ x ∈ l, x.ok) (hy : y.ok w) :
    Calls Try.prog 6 #[.slice A0 n0 c0, .agg #[.int .u8 y.kind, .int .u8 y.code, .slice y.A y.n y.c]] w fun e w' => e = .returned (.bool true) ∧ Ext w w' := by
  have HF := Lib.hid (fun W (x : Ext w W) => few_any (hs.ext x) hn hnc hcm hok)
  have HO := Lib.hid (cuts_ok hok)
  obtain ⟨L, hL⟩ : ∃ L, L = cutsL l := ⟨_, rfl⟩
  have hL6 : L.length ≤ 6 := by rw [hL, cuts_len]; omega
  rw [← hL] at HF HO
  clear hs hn hnc hcm hok hL
  obtain ⟨m, hm⟩ : ∃ z, z = L.length := ⟨_, rfl⟩
  have hm6 : m ≤ 6 := by omega
  have HM := Lib.hid hm
  have HY := Lib.hid hy
  have hyc := hy.le
  have hym := hy.cm
  unfold maxLen at hym
  obtain ⟨kb, hkb⟩ : ∃ kb, kb = min y.n 10 := ⟨_, rfl⟩
  have hmin : (if (10 : Int) < y.n then (10 : Int) else y.n) = kb := by split <;> omega
  have hmin2 : (if 10 < y.n then (10 : Int) else (y.n : Int)) = kb := by split <;> omega
  have hkc : kb ≤ y.c := by omega
  have hkcI : (kb : Int) ≤ y.c := by omega
  have hkn : kb ≤ y.n := by omega
  have hk10 : kb ≤ 10 := by omega
  have HRD := Lib.hid (hy.rd.take hkn)
  clear hm hL6 hy hkb
  obtain ⟨rb, hrb⟩ : ∃ z, z = w.heap.size := ⟨_, rfl⟩
  obtain ⟨w0, hw0⟩ : ∃ V, V = w.alloc (.cells #[.int .u8 y.kind, .int .u8 y.code, .slice y.A y.n y.c] 32) := ⟨_, rfl⟩
  have k0 : w0.heap[rb]? = some (.cells #[.int .u8 y.kind, .int .u8 y.code, .slice y.A y.n y.c] 32 (0, 0)) := by rw [hw0, hrb]; exact heap_alloc_new _ _
  have x0 : Ext w w0 := by rw [hw0]; exact (Ext.refl _).alloc _
  have HRB := Lib.hid (And.intro hrb (blk_lt k0))
  go_enter Try.func6, Try.ntmps6
  go_upto_region 1 with (fail)
  rw [← hw0, ← hrb]
  clear hw0 hrb
  go_upto_region 2 with (go_at_call 9; (refine (shown_any _).mono ?_); rintro e w1 ⟨rfl, x1⟩)
  go_upto_region 4 with (go_at_call 10; (refine (HF.out _ (x0.trans x1)).mono ?_); rintro e w2 ⟨v2, rfl, x2, own2⟩; obtain ⟨A2, c2, rfl, hc2, hm2, _⟩ := own_form own2)
  have HW2 := Lib.hid own2
  have k2 := ((x1.trans x2).block _ (blk_lt k0)).trans k0
  have HK2 := Lib.hid k2
  have HX2 := Lib.hid (x0.trans (x1.trans x2))
  have HLE := Lib.hid (show rb < w1.heap.size from Nat.lt_of_lt_of_le HRB.out.2 x1.size)
  have HWW := Lib.hid (show w.heap.size ≤ w1.heap.size from (x0.trans x1).size)
  clear own2 k0 k2 x0 x1 x2 hm2
  rw [← HM.out] at hc2
  rw [← HM.out]
  go_upto_region 5 with (fail)
  go_loopw [7, 26] (fun v7 v26 wr => ∃ k t : Nat, v7 = .int .i64 (t : Int) ∧ v26 = .int .i64 (k : Int) ∧ k ≤ m ∧ t = sumN (L.take k) ∧ t ≤ k * 20 ∧ Kept (fun b => w1.heap.size ≤ b) w2 wr ∧ wr.ownsRow w1.heap.size 45 8 (.slice A2 m c2) m (lss (stims true k L))) (fun _ v26 _ => m - (intOf v26).toNat)
  case atStart => exact ⟨0, 0, rfl, rfl, Nat.zero_le _, by simp [sumN], by omega, Kept.refl _ _, by have := HW2.out; rw [← HM.out] at this; simpa [stims] using this⟩
  case round =>
    obtain ⟨k, t, rfl, rfl, hk, hst, ht20, kp, own⟩ := hrel
    obtain ⟨wo, rfl⟩ : ∃ z : World, z = wr := ⟨_, rfl⟩
    have HKP := Lib.hid (And.intro kp (And.intro own hst))
    clear hst
    by_cases hlt : k < m
    · have hkI : (k : Int) < m := by omega
      obtain ⟨x, hx⟩ : ∃ x, L[k]? = some x := ⟨_, List.getElem?_eq_getElem (by have := HM.out; omega)⟩
      have hx20 := (HO.out x (List.mem_of_getElem? hx)).2
      obtain ⟨ga, c6, e6, _, _⟩ := own.form (by omega)
      injection e6 with e6 _ _
      subst e6
      obtain ⟨q2, f2, own3, q1⟩ := lrow_at own (stims_get (b := true) hx) (by rw [stims_len, HM.out]) true
      rw [stims_set hx] at own3
      have HX := Lib.hid hx
      have hge := (own.lt ga rfl).1
      obtain ⟨t2, ht2⟩ : ∃ z, z = t + x.n := ⟨_, rfl⟩
      have ht2I : (t : Int) + (x.n : Int) = (t2 : Int) := by omega
      have ht2b : t2 ≤ (k + 1) * 20 := by omega
      have ut2 := wri t2 (by omega)
      have HT2 := Lib.hid ht2
      clear kp own hx ht2
      go_upto_region 8 with (fail)
      obtain ⟨w6, hw6⟩ : ∃ V, V = wo.setCell ⟨ga, k * 8 + 2, none⟩ (.bool true) := ⟨_, rfl⟩
      have k6 : Kept (fun b => w1.heap.size ≤ b) wo w6 := by rw [hw6]; exact Kept.of_set _ hge
      rw [← hw6] at own3 q1 ⊢
      have HO3 := Lib.hid (And.intro own3 k6)
      clear hw6 q2 f2 own3 k6
      go_wp2
      go_roundw
      case rel => exact ⟨k + 1, t2, by go_num, by go_num, by omega, by rw [sum_succ HX.out, ← HKP.out.2.2]; exact HT2.out, ht2b, HKP.out.1.trans' HO3.out.2, HO3.out.1⟩
      case measure => simp [intOf]; omega
    · obtain rfl : k = m := by omega
      have hown := HKP.out.2.1
      rw [HM.out, stims_all, ← HM.out] at hown
      have HOT := Lib.hid hown
      have ht : t = sumN L := by rw [HKP.out.2.2, HM.out, List.take_length]
      have HTS := Lib.hid ht
      have hk3 := HKP.out.1.blk HK2.out (by have := HLE.out; omega)
      have r2 : wo.cell? ⟨rb, 2, none⟩ = some (.slice y.A y.n y.c) := blk_cell hk3 rfl
      have g2 : wo.frozen? ⟨rb, 2, none⟩ = false := blk_free hk3
      have HX3 := Lib.hid (HX2.out.kept HKP.out.1 (fun b hb => Nat.le_trans HWW.out hb))
      clear kp own hown ht
      go_upto_region 11 with (fail)
      obtain ⟨w6, hw6⟩ : ∃ V, V = wo.setCell ⟨rb, 2, none⟩ (.slice y.A kb y.c) := ⟨_, rfl⟩
      have k6 : w6.heap[rb]? = some (.cells #[.int .u8 y.kind, .int .u8 y.code, .slice y.A kb y.c] 32 (0, 0)) := by rw [hw6]; exact blk_set hk3
      have kp6 : Kept (fun b => b = rb) wo w6 := by rw [hw6]; exact Kept.of_set _ rfl
      rw [← hw6]
      clear hw6 hk3 r2 g2 hmin hmin2 hkcI
      have HX6 := Lib.hid (HX3.out.kept kp6 (fun b hb => by have := HRB.out.1; omega))
      have HO6 := Lib.hid (own_keptF HOT.out kp6 (fun b hb e => by have := (HOT.out.lt b hb).1; have := HLE.out; omega))
      have HK6 := Lib.hid k6
      have HR6 := Lib.hid (HRD.out.ext HX6.out)
      clear k6 kp6
      obtain ⟨LT, hLT⟩ : ∃ z, z = L.map (fun x => { x with stim := true }) := ⟨_, rfl⟩
      have HP1 := Lib.hid (show ∀ bs, (takeG (LT.map newGp) y.kind y.code bs).1.isSome = false from fun bs => take_found (findG_stim _ (fun x hx => newGp_stim (L := L) x (by rw [← hLT]; exact hx))) y.kind bs)
      have HP2 := Lib.hid (show ∀ bs, (takeG (([] : List Ls).map newGp) y.kind y.code bs).1.isSome = false from fun bs => take_found (by rfl) y.kind bs)
      have HLT := Lib.hid (show k = LT.length ∧ ∀ x ∈ LT, x.ok ∧ x.n ≤ 100000 from ⟨by rw [hLT, List.length_map, ← HM.out], fun x hx => by
        rw [hLT] at hx
        obtain ⟨z, hz, rfl⟩ := List.mem_map.1 hx
        have := HO.out z hz
        exact ⟨⟨this.1.le, this.1.cm⟩, by show z.n ≤ 100000; omega⟩⟩)
      rw [← hLT] at HO6
      have HLTE := Lib.hid hLT
      clear hLT
      go_upto_region 11 with (fail)
      go_cut [9, 10] (fun v9 v10 wx => v10 = .bool false ∧ Ext w6 wx)
      case first =>
        refine wp_region_held_drew (S := (fun W => Ext w6 W)) (by kernel_rfl) (((Ext.refl w6).drew)) (fun hHeld => ?_)
        obtain ⟨wD1, hwD⟩ : ∃ V, V = World.drew w6 := ⟨_, rfl⟩
        rw [← hwD] at hHeld ⊢
        have zz0 : Ext w6 wD1 := by rw [hwD]; exact (Ext.refl _).drew
        clear hwD
        refine wpAnyH_take (i := 0) (oi := { dst := some 51, op := Op.move (Operand.tmp 6), type := 22, pos := "law.go:154", after := #[], guard := none }) (v := ?vv2_11_0) rfl (by kernel_rfl) (by kernel_rfl) (by kernel_rfl) (fun _ _ _ h => h) (Or.inl ⟨by rfl, ?yy2_11_0⟩) hHeld ?_
        case yy2_11_0 => (intro W hx; go_simp; try with_reducible rfl)
        simp only [Act.put, List.setIfInBounds_toArray, List.set_cons_zero, List.set_cons_succ]
        refine wpAnyH_take (i := 2) (oi := { dst := some 53, op := Op.load 32 (Operand.tmp 3), type := 32, pos := "law.go:154", after := #[], guard := none }) (v := ?vv3_11_2) rfl (by kernel_rfl) (by kernel_rfl) (by kernel_rfl) (fun _ _ _ h => h) (Or.inl ⟨by rfl, ?yy3_11_2⟩) hHeld ?_
        case yy3_11_2 => (intro W hx; refine ld_op (r := ⟨y.kind, y.code, y.A, kb, y.c, y.bs.take kb⟩) (rpAt ((hx.block _ (blk_lt HK6.out)).trans HK6.out)) ?_; rfl)
        simp only [Act.put, List.setIfInBounds_toArray, List.set_cons_zero, List.set_cons_succ]
        refine wpAnyH_ready (rs := [1, 7]) (by kernel_rfl) (by simp) (AllReadyH.cons rfl (fun K hK => ?_) (AllReadyH.cons rfl (fun K hK => ?_) AllReadyH.nil))
        · have tok := True.intro
          go_simp
          go_wp2_with (go_at_call 11; have hn7 := hHeld.size; (refine (new_f c2 (Shows.of_own (own_ext HO6.out hHeld)) HLT.out.1 (by omega) HLT.out.2).mono ?_); rintro e w7 ⟨g7, rfl, x7, G7⟩)
          refine hK.out _ _ (hHeld.trans x7) (fun hHeld => ?_)
          clear hK K
          try (have hkg := blk_lt kg; replace kg := (x7.block _ hkg).trans kg)
          refine wpAnyH_ready (rs := [3, 7]) (by kernel_rfl) (by simp) (AllReadyH.cons rfl (fun K hK => ?_) (AllReadyH.cons rfl (fun K hK => ?_) AllReadyH.nil))
          · have tok := True.intro
            go_simp
            go_wp2_with (go_at_call 13; (refine (take_f G7 (Ext.refl _) y.kind (code := y.code) HY.out.code y.c (HR6.out.ext hHeld) (by omega)).mono ?_); rw [HP1.out]; rintro e w8 ⟨s8, els8, S8, rfl, G8, -, hs8, -⟩)
            refine hK.out _ _ (hHeld.kept G8.1 (fun b hb => by first | exact Nat.le_trans hn7 hb | exact Nat.le_trans hn7 hb.1)) (fun hHeld => ?_)
            clear hK K
            try (replace kg := G8.1.blk kg (fun hb => by first | exact absurd hb (Nat.not_le.2 hkg) | exact hb.2 ⟨Nat.le_refl _, blk_lt kg⟩))
            refine wpAnyH_take (i := 4) (oi := { dst := some 50, op := Op.move (Operand.tmp 54), type := 36, pos := "law.go:154", after := #[{ on := 3, ground := Ground.data }], guard := none }) (v := ?vv4_11_4) rfl (by kernel_rfl) (by kernel_rfl) (by kernel_rfl) (fun _ _ _ h => h) (Or.inl ⟨by rfl, ?yy4_11_4⟩) hHeld ?_
            case yy4_11_4 => (intro W hx; go_simp; try with_reducible rfl)
            simp only [Act.put, List.setIfInBounds_toArray, List.set_cons_zero, List.set_cons_succ]
            refine wpAnyH_take (i := 5) (oi := { dst := some 55, op := Op.extract (Operand.tmp 50) 0, type := 35, pos := "law.go:154", after := #[{ on := 4, ground := Ground.data }], guard := none }) (v := ?vv5_11_5) rfl (by kernel_rfl) (by kernel_rfl) (by kernel_rfl) (fun _ _ _ h => h) (Or.inl ⟨by rfl, ?yy5_11_5⟩) hHeld ?_
            case yy5_11_5 => (intro W hx; go_simp; try with_reducible rfl)
            simp only [Act.put, List.setIfInBounds_toArray, List.set_cons_zero, List.set_cons_succ]
            refine wpAnyH_take (i := 6) (oi := { dst := some 56, op := Op.extract (Operand.tmp 50) 1, type := 4, pos := "law.go:154", after := #[{ on := 4, ground := Ground.data }, { on := 8, ground := Ground.gcOnly Departure.lateStores }], guard := none }) (v := ?vv6_11_6) rfl (by kernel_rfl) (by kernel_rfl) (by kernel_rfl) (fun _ _ _ h => h) (Or.inl ⟨by rfl, ?yy6_11_6⟩) hHeld ?_
            case yy6_11_6 => (intro W hx; go_simp; try with_reducible rfl)
            simp only [Act.put, List.setIfInBounds_toArray, List.set_cons_zero, List.set_cons_succ]
            refine wpAnyH_ready (rs := [7]) (by kernel_rfl) (by simp) (AllReadyH.cons rfl (fun K hK => ?_) AllReadyH.nil)
            try (have hga := hHeld.size)
            go_simp
            obtain ⟨wa, hw⟩ : ∃ V, V = World.alloc w8 (.cells #[.int .i64 0, .bool false, .slice none 0 0] 35) := ⟨_, rfl⟩
            rw [← hw]
            have xa : Ext w8 wa := by rw [hw]; exact (Ext.refl _).alloc _
            have kg : (World.heap wa)[(World.heap w8).size]? = some (.cells #[.int .i64 0, .bool false, .slice none 0 0] 35) := by rw [hw]; exact heap_alloc_new _ _
            clear hw
            refine hK.out _ _ (hHeld.trans xa) (fun hHeld => ?_)
            clear hK K
            try (replace G7 := G7.wr (Kept.of_ext (F := fun _ => False) xa) (fun _ _ h => h.elim))
            refine wpAnyH_ready (rs := [8]) (by kernel_rfl) (by simp) (AllReadyH.cons rfl (fun K hK => ?_) AllReadyH.nil)
            rw [if_pos (by rfl)]
            refine wp_strow (o := { dst := none, op := Op.store 35 (Operand.tmp 9) (Operand.tmp 55), type := 0, pos := "law.go:154", after := #[{ on := 7, ground := Ground.data }, { on := 5, ground := Ground.data }, { on := 3, ground := Ground.chain }, { on := 0, ground := Ground.phase }, { on := 1, ground := Ground.phase }, { on := 2, ground := Ground.phase }, { on := 3, ground := Ground.phase }, { on := 4, ground := Ground.phase }, { on := 5, ground := Ground.phase }, { on := 6, ground := Ground.textOnly Departure.lateStores }, { on := 7, ground := Ground.phase }], guard := none }) _ _ _ rfl kg rfl rfl (by kernel_rfl) rfl (all_oneCell_toArray (sm_one hs8)) ?_; intro w9 k9 x9
            simp only [Act.put]
            refine hK.out _ _ (Ext.of_grown hHeld x9 (fun k e => by injection e with e; omega)) (fun hHeld => ?_)
            clear hK K
            refine wpAnyH_take (i := 9) (oi := { dst := some 10, op := Op.assign (Operand.tmp 56), type := 4, pos := "law.go:154", after := #[{ on := 6, ground := Ground.data }, { on := 8, ground := Ground.chain }, { on := 0, ground := Ground.phase }, { on := 1, ground := Ground.phase }, { on := 2, ground := Ground.phase }, { on := 3, ground := Ground.phase }, { on := 4, ground := Ground.phase }, { on := 5, ground := Ground.phase }, { on := 6, ground := Ground.phase }, { on := 7, ground := Ground.phase }, { on := 8, ground := Ground.phase }], guard := none }) (v := ?vv7_11_9) rfl (by kernel_rfl) (by kernel_rfl) (by kernel_rfl) (fun _ _ _ h => h) (Or.inl ⟨by rfl, ?yy7_11_9⟩) hHeld ?_
            case yy7_11_9 => (intro W hx; go_simp; try with_reducible rfl)
            simp only [Act.put, List.setIfInBounds_toArray, List.set_cons_zero, List.set_cons_succ]
            refine wpAnyH_done (by kernel_rfl) ?_ _
            go_wp2_with (fail)
            go_meet
            case rel => exact ⟨rfl, hHeld⟩
          · have tok := True.intro
            try (have hga := hHeld.size)
            go_simp
            obtain ⟨wa, hw⟩ : ∃ V, V = World.alloc w7 (.cells #[.int .i64 0, .bool false, .slice none 0 0] 35) := ⟨_, rfl⟩
            rw [← hw]
            have xa : Ext w7 wa := by rw [hw]; exact (Ext.refl _).alloc _
            have kg : (World.heap wa)[(World.heap w7).size]? = some (.cells #[.int .i64 0, .bool false, .slice none 0 0] 35) := by rw [hw]; exact heap_alloc_new _ _
            clear hw
            refine hK.out _ _ (hHeld.trans xa) (fun hHeld => ?_)
            clear hK K
            try (replace G7 := G7.wr (Kept.of_ext (F := fun _ => False) xa) (fun _ _ h => h.elim))
            refine wpAnyH_ready (rs := [3]) (by kernel_rfl) (by simp) (AllReadyH.cons rfl (fun K hK => ?_) AllReadyH.nil)
            go_simp
            go_wp2_with (go_at_call 13; (refine (take_f G7 (Ext.refl _) y.kind (code := y.code) HY.out.code y.c (HR6.out.ext hHeld) (by omega)).mono ?_); rw [HP1.out]; rintro e w8 ⟨s8, els8, S8, rfl, G8, -, hs8, -⟩)
            refine hK.out _ _ (hHeld.kept G8.1 (fun b hb => by first | exact Nat.le_trans hn7 hb | exact Nat.le_trans hn7 hb.1)) (fun hHeld => ?_)
            clear hK K
            try (replace kg := G8.1.blk kg (fun hb => by first | exact absurd hb (Nat.not_le.2 hkg) | exact hb.2 ⟨Nat.le_refl _, blk_lt kg⟩))
            refine wpAnyH_take (i := 4) (oi := { dst := some 50, op := Op.move (Operand.tmp 54), type := 36, pos := "law.go:154", after := #[{ on := 3, ground := Ground.data }], guard := none }) (v := ?vv8_11_4) rfl (by kernel_rfl) (by kernel_rfl) (by kernel_rfl) (fun _ _ _ h => h) (Or.inl ⟨by rfl, ?yy8_11_4⟩) hHeld ?_
            case yy8_11_4 => (intro W hx; go_simp; try with_reducible rfl)
            simp only [Act.put, List.setIfInBounds_toArray, List.set_cons_zero, List.set_cons_succ]
            refine wpAnyH_take (i := 5) (oi := { dst := some 55, op := Op.extract (Operand.tmp 50) 0, type := 35, pos := "law.go:154", after := #[{ on := 4, ground := Ground.data }], guard := none }) (v := ?vv9_11_5) rfl (by kernel_rfl) (by kernel_rfl) (by kernel_rfl) (fun _ _ _ h => h) (Or.inl ⟨by rfl, ?yy9_11_5⟩) hHeld ?_
            case yy9_11_5 => (intro W hx; go_simp; try with_reducible rfl)
            simp only [Act.put, List.setIfInBounds_toArray, List.set_cons_zero, List.set_cons_succ]
            refine wpAnyH_take (i := 6) (oi := { dst := some 56, op := Op.extract (Operand.tmp 50) 1, type := 4, pos := "law.go:154", after := #[{ on := 4, ground := Ground.data }, { on := 8, ground := Ground.gcOnly Departure.lateStores }], guard := none }) (v := ?vv10_11_6) rfl (by kernel_rfl) (by kernel_rfl) (by kernel_rfl) (fun _ _ _ h => h) (Or.inl ⟨by rfl, ?yy10_11_6⟩) hHeld ?_
            case yy10_11_6 => (intro W hx; go_simp; try with_reducible rfl)
            simp only [Act.put, List.setIfInBounds_toArray, List.set_cons_zero, List.set_cons_succ]
            refine wpAnyH_ready (rs := [8]) (by kernel_rfl) (by simp) (AllReadyH.cons rfl (fun K hK => ?_) AllReadyH.nil)
            rw [if_pos (by rfl)]
            refine wp_strow (o := { dst := none, op := Op.store 35 (Operand.tmp 9) (Operand.tmp 55), type := 0, pos := "law.go:154", after := #[{ on := 7, ground := Ground.data }, { on := 5, ground := Ground.data }, { on := 3, ground := Ground.chain }, { on := 0, ground := Ground.phase }, { on := 1, ground := Ground.phase }, { on := 2, ground := Ground.phase }, { on := 3, ground := Ground.phase }, { on := 4, ground := Ground.phase }, { on := 5, ground := Ground.phase }, { on := 6, ground := Ground.textOnly Departure.lateStores }, { on := 7, ground := Ground.phase }], guard := none }) _ _ _ rfl kg rfl rfl (by kernel_rfl) rfl (all_oneCell_toArray (sm_one hs8)) ?_; intro w9 k9 x9
            simp only [Act.put]
            refine hK.out _ _ (Ext.of_grown hHeld x9 (fun k e => by injection e with e; omega)) (fun hHeld => ?_)
            clear hK K
            refine wpAnyH_take (i := 9) (oi := { dst := some 10, op := Op.assign (Operand.tmp 56), type := 4, pos := "law.go:154", after := #[{ on := 6, ground := Ground.data }, { on := 8, ground := Ground.chain }, { on := 0, ground := Ground.phase }, { on := 1, ground := Ground.phase }, { on := 2, ground := Ground.phase }, { on := 3, ground := Ground.phase }, { on := 4, ground := Ground.phase }, { on := 5, ground := Ground.phase }, { on := 6, ground := Ground.phase }, { on := 7, ground := Ground.phase }, { on := 8, ground := Ground.phase }], guard := none }) (v := ?vv11_11_9) rfl (by kernel_rfl) (by kernel_rfl) (by kernel_rfl) (fun _ _ _ h => h) (Or.inl ⟨by rfl, ?yy11_11_9⟩) hHeld ?_
            case yy11_11_9 => (intro W hx; go_simp; try with_reducible rfl)
            simp only [Act.put, List.setIfInBounds_toArray, List.set_cons_zero, List.set_cons_succ]
            refine wpAnyH_done (by kernel_rfl) ?_ _
            go_wp2_with (fail)
            go_meet
            case rel => exact ⟨rfl, hHeld⟩
        · have tok := True.intro
          try (have hga := hHeld.size)
          go_simp
          obtain ⟨wa, hw⟩ : ∃ V, V = World.alloc wD1 (.cells #[.int .i64 0, .bool false, .slice none 0 0] 35) := ⟨_, rfl⟩
          rw [← hw]
          have xa : Ext wD1 wa := by rw [hw]; exact (Ext.refl _).alloc _
          have kg : (World.heap wa)[(World.heap wD1).size]? = some (.cells #[.int .i64 0, .bool false, .slice none 0 0] 35) := by rw [hw]; exact heap_alloc_new _ _
          clear hw
          refine hK.out _ _ (hHeld.trans xa) (fun hHeld => ?_)
          clear hK K
          try (replace G7 := G7.wr (Kept.of_ext (F := fun _ => False) xa) (fun _ _ h => h.elim))
          refine wpAnyH_ready (rs := [1]) (by kernel_rfl) (by simp) (AllReadyH.cons rfl (fun K hK => ?_) AllReadyH.nil)
          go_simp
          go_wp2_with (go_at_call 11; have hn7 := hHeld.size; (refine (new_f c2 (Shows.of_own (own_ext HO6.out hHeld)) HLT.out.1 (by omega) HLT.out.2).mono ?_); rintro e w7 ⟨g7, rfl, x7, G7⟩)
          refine hK.out _ _ (hHeld.trans x7) (fun hHeld => ?_)
          clear hK K
          try (have hkg := blk_lt kg; replace kg := (x7.block _ hkg).trans kg)
          refine wpAnyH_ready (rs := [3]) (by kernel_rfl) (by simp) (AllReadyH.cons rfl (fun K hK => ?_) AllReadyH.nil)
          go_simp
          go_wp2_with (go_at_call 13; (refine (take_f G7 (Ext.refl _) y.kind (code := y.code) HY.out.code y.c (HR6.out.ext hHeld) (by omega)).mono ?_); rw [HP1.out]; rintro e w8 ⟨s8, els8, S8, rfl, G8, -, hs8, -⟩)
          refine hK.out _ _ (hHeld.kept G8.1 (fun b hb => by first | exact Nat.le_trans hn7 hb | exact Nat.le_trans hn7 hb.1)) (fun hHeld => ?_)
          clear hK K
          try (replace kg := G8.1.blk kg (fun hb => by first | exact absurd hb (Nat.not_le.2 hkg) | exact hb.2 ⟨Nat.le_refl _, blk_lt kg⟩))
          refine wpAnyH_take (i := 4) (oi := { dst := some 50, op := Op.move (Operand.tmp 54), type := 36, pos := "law.go:154", after := #[{ on := 3, ground := Ground.data }], guard := none }) (v := ?vv12_11_4) rfl (by kernel_rfl) (by kernel_rfl) (by kernel_rfl) (fun _ _ _ h => h) (Or.inl ⟨by rfl, ?yy12_11_4⟩) hHeld ?_
          case yy12_11_4 => (intro W hx; go_simp; try with_reducible rfl)
          simp only [Act.put, List.setIfInBounds_toArray, List.set_cons_zero, List.set_cons_succ]
          refine wpAnyH_take (i := 5) (oi := { dst := some 55, op := Op.extract (Operand.tmp 50) 0, type := 35, pos := "law.go:154", after := #[{ on := 4, ground := Ground.data }], guard := none }) (v := ?vv13_11_5) rfl (by kernel_rfl) (by kernel_rfl) (by kernel_rfl) (fun _ _ _ h => h) (Or.inl ⟨by rfl, ?yy13_11_5⟩) hHeld ?_
          case yy13_11_5 => (intro W hx; go_simp; try with_reducible rfl)
          simp only [Act.put, List.setIfInBounds_toArray, List.set_cons_zero, List.set_cons_succ]
          refine wpAnyH_take (i := 6) (oi := { dst := some 56, op := Op.extract (Operand.tmp 50) 1, type := 4, pos := "law.go:154", after := #[{ on := 4, ground := Ground.data }, { on := 8, ground := Ground.gcOnly Departure.lateStores }], guard := none }) (v := ?vv14_11_6) rfl (by kernel_rfl) (by kernel_rfl) (by kernel_rfl) (fun _ _ _ h => h) (Or.inl ⟨by rfl, ?yy14_11_6⟩) hHeld ?_
          case yy14_11_6 => (intro W hx; go_simp; try with_reducible rfl)
          simp only [Act.put, List.setIfInBounds_toArray, List.set_cons_zero, List.set_cons_succ]
          refine wpAnyH_ready (rs := [8]) (by kernel_rfl) (by simp) (AllReadyH.cons rfl (fun K hK => ?_) AllReadyH.nil)
          rw [if_pos (by rfl)]
          refine wp_strow (o := { dst := none, op := Op.store 35 (Operand.tmp 9) (Operand.tmp 55), type := 0, pos := "law.go:154", after := #[{ on := 7, ground := Ground.data }, { on := 5, ground := Ground.data }, { on := 3, ground := Ground.chain }, { on := 0, ground := Ground.phase }, { on := 1, ground := Ground.phase }, { on := 2, ground := Ground.phase }, { on := 3, ground := Ground.phase }, { on := 4, ground := Ground.phase }, { on := 5, ground := Ground.phase }, { on := 6, ground := Ground.textOnly Departure.lateStores }, { on := 7, ground := Ground.phase }], guard := none }) _ _ _ rfl kg rfl rfl (by kernel_rfl) rfl (all_oneCell_toArray (sm_one hs8)) ?_; intro w9 k9 x9
          simp only [Act.put]
          refine hK.out _ _ (Ext.of_grown hHeld x9 (fun k e => by injection e with e; omega)) (fun hHeld => ?_)
          clear hK K
          refine wpAnyH_take (i := 9) (oi := { dst := some 10, op := Op.assign (Operand.tmp 56), type := 4, pos := "law.go:154", after := #[{ on := 6, ground := Ground.data }, { on := 8, ground := Ground.chain }, { on := 0, ground := Ground.phase }, { on := 1, ground := Ground.phase }, { on := 2, ground := Ground.phase }, { on := 3, ground := Ground.phase }, { on := 4, ground := Ground.phase }, { on := 5, ground := Ground.phase }, { on := 6, ground := Ground.phase }, { on := 7, ground := Ground.phase }, { on := 8, ground := Ground.phase }], guard := none }) (v := ?vv15_11_9) rfl (by kernel_rfl) (by kernel_rfl) (by kernel_rfl) (fun _ _ _ h => h) (Or.inl ⟨by rfl, ?yy15_11_9⟩) hHeld ?_
          case yy15_11_9 => (intro W hx; go_simp; try with_reducible rfl)
          simp only [Act.put, List.setIfInBounds_toArray, List.set_cons_zero, List.set_cons_succ]
          refine wpAnyH_done (by kernel_rfl) ?_ _
          go_wp2_with (fail)
          go_meet
          case rel => exact ⟨rfl, hHeld⟩
      case rest =>
        obtain ⟨rfl, X1⟩ := hcut
        obtain ⟨wo2, rfl⟩ : ∃ z : World, z = wc := ⟨_, rfl⟩
        have HK7 := Lib.hid ((X1.block _ (blk_lt HK6.out)).trans HK6.out)
        have HX7 := Lib.hid X1
        clear X1
        go_upto_region 12 with (fail)
        go_cut [11, 12] (fun v11 v12 wx => v12 = .bool false ∧ Ext wo2 wx)
        case first =>
          refine wp_region_held_drew (S := (fun W => Ext wo2 W)) (by kernel_rfl) (((Ext.refl wo2).drew)) (fun hHeld => ?_)
          obtain ⟨wD16, hwD⟩ : ∃ V, V = World.drew wo2 := ⟨_, rfl⟩
          rw [← hwD] at hHeld ⊢
          have zz0 : Ext wo2 wD16 := by rw [hwD]; exact (Ext.refl _).drew
          clear hwD
          refine wpAnyH_take (i := 1) (oi := { dst := some 59, op := Op.load 32 (Operand.tmp 3), type := 32, pos := "law.go:155", after := #[], guard := none }) (v := ?vv17_12_1) rfl (by kernel_rfl) (by kernel_rfl) (by kernel_rfl) (fun _ _ _ h => h) (Or.inl ⟨by rfl, ?yy17_12_1⟩) hHeld ?_
          case yy17_12_1 => (intro W hx; refine ld_op (r := ⟨y.kind, y.code, y.A, kb, y.c, y.bs.take kb⟩) (rpAt ((hx.block _ (blk_lt HK7.out)).trans HK7.out)) ?_; rfl)
          simp only [Act.put, List.setIfInBounds_toArray, List.set_cons_zero, List.set_cons_succ]
          refine wpAnyH_ready (rs := [0, 6]) (by kernel_rfl) (by simp) (AllReadyH.cons rfl (fun K hK => ?_) (AllReadyH.cons rfl (fun K hK => ?_) AllReadyH.nil))
          · have tok := True.intro
            go_simp
            go_wp2_with (go_at_call 11; have hn7 := hHeld.size; (refine (new_f (l := []) 0 Shows.nil rfl (by omega) (fun x hx => by cases hx)).mono ?_); rintro e w7 ⟨g7, rfl, x7, G7⟩)
            refine hK.out _ _ (hHeld.trans x7) (fun hHeld => ?_)
            clear hK K
            try (have hkg := blk_lt kg; replace kg := (x7.block _ hkg).trans kg)
            refine wpAnyH_ready (rs := [2, 6]) (by kernel_rfl) (by simp) (AllReadyH.cons rfl (fun K hK => ?_) (AllReadyH.cons rfl (fun K hK => ?_) AllReadyH.nil))
            · have tok := True.intro
              go_simp
              go_wp2_with (go_at_call 13; (refine (take_f G7 (Ext.refl _) y.kind (code := y.code) HY.out.code y.c (HR6.out.ext (HX7.out.trans hHeld)) (by omega)).mono ?_); rw [HP2.out]; rintro e w8 ⟨s8, els8, S8, rfl, G8, -, hs8, -⟩)
              refine hK.out _ _ (hHeld.kept G8.1 (fun b hb => by first | exact Nat.le_trans hn7 hb | exact Nat.le_trans hn7 hb.1)) (fun hHeld => ?_)
              clear hK K
              try (replace kg := G8.1.blk kg (fun hb => by first | exact absurd hb (Nat.not_le.2 hkg) | exact hb.2 ⟨Nat.le_refl _, blk_lt kg⟩))
              refine wpAnyH_take (i := 3) (oi := { dst := some 57, op := Op.move (Operand.tmp 60), type := 36, pos := "law.go:155", after := #[{ on := 2, ground := Ground.data }], guard := none }) (v := ?vv18_12_3) rfl (by kernel_rfl) (by kernel_rfl) (by kernel_rfl) (fun _ _ _ h => h) (Or.inl ⟨by rfl, ?yy18_12_3⟩) hHeld ?_
              case yy18_12_3 => (intro W hx; go_simp; try with_reducible rfl)
              simp only [Act.put, List.setIfInBounds_toArray, List.set_cons_zero, List.set_cons_succ]
              refine wpAnyH_take (i := 4) (oi := { dst := some 61, op := Op.extract (Operand.tmp 57) 0, type := 35, pos := "law.go:155", after := #[{ on := 3, ground := Ground.data }], guard := none }) (v := ?vv19_12_4) rfl (by kernel_rfl) (by kernel_rfl) (by kernel_rfl) (fun _ _ _ h => h) (Or.inl ⟨by rfl, ?yy19_12_4⟩) hHeld ?_
              case yy19_12_4 => (intro W hx; go_simp; try with_reducible rfl)
              simp only [Act.put, List.setIfInBounds_toArray, List.set_cons_zero, List.set_cons_succ]
              refine wpAnyH_take (i := 5) (oi := { dst := some 62, op := Op.extract (Operand.tmp 57) 1, type := 4, pos := "law.go:155", after := #[{ on := 3, ground := Ground.data }, { on := 7, ground := Ground.gcOnly Departure.lateStores }], guard := none }) (v := ?vv20_12_5) rfl (by kernel_rfl) (by kernel_rfl) (by kernel_rfl) (fun _ _ _ h => h) (Or.inl ⟨by rfl, ?yy20_12_5⟩) hHeld ?_
              case yy20_12_5 => (intro W hx; go_simp; try with_reducible rfl)
              simp only [Act.put, List.setIfInBounds_toArray, List.set_cons_zero, List.set_cons_succ]
              refine wpAnyH_ready (rs := [6]) (by kernel_rfl) (by simp) (AllReadyH.cons rfl (fun K hK => ?_) AllReadyH.nil)
              try (have hga := hHeld.size)
              go_simp
              obtain ⟨wa, hw⟩ : ∃ V, V = World.alloc w8 (.cells #[.int .i64 0, .bool false, .slice none 0 0] 35) := ⟨_, rfl⟩
              rw [← hw]
              have xa : Ext w8 wa := by rw [hw]; exact (Ext.refl _).alloc _
              have kg : (World.heap wa)[(World.heap w8).size]? = some (.cells #[.int .i64 0, .bool false, .slice none 0 0] 35) := by rw [hw]; exact heap_alloc_new _ _
              clear hw
              refine hK.out _ _ (hHeld.trans xa) (fun hHeld => ?_)
              clear hK K
              try (replace G7 := G7.wr (Kept.of_ext (F := fun _ => False) xa) (fun _ _ h => h.elim))
              refine wpAnyH_ready (rs := [7]) (by kernel_rfl) (by simp) (AllReadyH.cons rfl (fun K hK => ?_) AllReadyH.nil)
              rw [if_pos (by rfl)]
              refine wp_strow (o := { dst := none, op := Op.store 35 (Operand.tmp 11) (Operand.tmp 61), type := 0, pos := "law.go:155", after := #[{ on := 6, ground := Ground.data }, { on := 4, ground := Ground.data }, { on := 2, ground := Ground.chain }, { on := 0, ground := Ground.phase }, { on := 1, ground := Ground.phase }, { on := 2, ground := Ground.phase }, { on := 3, ground := Ground.phase }, { on := 4, ground := Ground.phase }, { on := 5, ground := Ground.textOnly Departure.lateStores }, { on := 6, ground := Ground.phase }], guard := none }) _ _ _ rfl kg rfl rfl (by kernel_rfl) rfl (all_oneCell_toArray (sm_one hs8)) ?_; intro w9 k9 x9
              simp only [Act.put]
              refine hK.out _ _ (Ext.of_grown hHeld x9 (fun k e => by injection e with e; omega)) (fun hHeld => ?_)
              clear hK K
              refine wpAnyH_take (i := 8) (oi := { dst := some 12, op := Op.assign (Operand.tmp 62), type := 4, pos := "law.go:155", after := #[{ on := 5, ground := Ground.data }, { on := 7, ground := Ground.chain }, { on := 0, ground := Ground.phase }, { on := 1, ground := Ground.phase }, { on := 2, ground := Ground.phase }, { on := 3, ground := Ground.phase }, { on := 4, ground := Ground.phase }, { on := 5, ground := Ground.phase }, { on := 6, ground := Ground.phase }, { on := 7, ground := Ground.phase }], guard := none }) (v := ?vv21_12_8) rfl (by kernel_rfl) (by kernel_rfl) (by kernel_rfl) (fun _ _ _ h => h) (Or.inl ⟨by rfl, ?yy21_12_8⟩) hHeld ?_
              case yy21_12_8 => (intro W hx; go_simp; try with_reducible rfl)
              simp only [Act.put, List.setIfInBounds_toArray, List.set_cons_zero, List.set_cons_succ]
              refine wpAnyH_done (by kernel_rfl) ?_ _
              go_wp2_with (fail)
              go_meet
              case rel => exact ⟨rfl, hHeld⟩
            · have tok := True.intro
              try (have hga := hHeld.size)
              go_simp
              obtain ⟨wa, hw⟩ : ∃ V, V = World.alloc w7 (.cells #[.int .i64 0, .bool false, .slice none 0 0] 35) := ⟨_, rfl⟩
              rw [← hw]
              have xa : Ext w7 wa := by rw [hw]; exact (Ext.refl _).alloc _
              have kg : (World.heap wa)[(World.heap w7).size]? = some (.cells #[.int .i64 0, .bool false, .slice none 0 0] 35) := by rw [hw]; exact heap_alloc_new _ _
              clear hw
              refine hK.out _ _ (hHeld.trans xa) (fun hHeld => ?_)
              clear hK K
              try (replace G7 := G7.wr (Kept.of_ext (F := fun _ => False) xa) (fun _ _ h => h.elim))
              refine wpAnyH_ready (rs := [2]) (by kernel_rfl) (by simp) (AllReadyH.cons rfl (fun K hK => ?_) AllReadyH.nil)
              go_simp
              go_wp2_with (go_at_call 13; (refine (take_f G7 (Ext.refl _) y.kind (code := y.code) HY.out.code y.c (HR6.out.ext (HX7.out.trans hHeld)) (by omega)).mono ?_); rw [HP2.out]; rintro e w8 ⟨s8, els8, S8, rfl, G8, -, hs8, -⟩)
              refine hK.out _ _ (hHeld.kept G8.1 (fun b hb => by first | exact Nat.le_trans hn7 hb | exact Nat.le_trans hn7 hb.1)) (fun hHeld => ?_)
              clear hK K
              try (replace kg := G8.1.blk kg (fun hb => by first | exact absurd hb (Nat.not_le.2 hkg) | exact hb.2 ⟨Nat.le_refl _, blk_lt kg⟩))
              refine wpAnyH_take (i := 3) (oi := { dst := some 57, op := Op.move (Operand.tmp 60), type := 36, pos := "law.go:155", after := #[{ on := 2, ground := Ground.data }], guard := none }) (v := ?vv22_12_3) rfl (by kernel_rfl) (by kernel_rfl) (by kernel_rfl) (fun _ _ _ h => h) (Or.inl ⟨by rfl, ?yy22_12_3⟩) hHeld ?_
              case yy22_12_3 => (intro W hx; go_simp; try with_reducible rfl)
              simp only [Act.put, List.setIfInBounds_toArray, List.set_cons_zero, List.set_cons_succ]
              refine wpAnyH_take (i := 4) (oi := { dst := some 61, op := Op.extract (Operand.tmp 57) 0, type := 35, pos := "law.go:155", after := #[{ on := 3, ground := Ground.data }], guard := none }) (v := ?vv23_12_4) rfl (by kernel_rfl) (by kernel_rfl) (by kernel_rfl) (fun _ _ _ h => h) (Or.inl ⟨by rfl, ?yy23_12_4⟩) hHeld ?_
              case yy23_12_4 => (intro W hx; go_simp; try with_reducible rfl)
              simp only [Act.put, List.setIfInBounds_toArray, List.set_cons_zero, List.set_cons_succ]
              refine wpAnyH_take (i := 5) (oi := { dst := some 62, op := Op.extract (Operand.tmp 57) 1, type := 4, pos := "law.go:155", after := #[{ on := 3, ground := Ground.data }, { on := 7, ground := Ground.gcOnly Departure.lateStores }], guard := none }) (v := ?vv24_12_5) rfl (by kernel_rfl) (by kernel_rfl) (by kernel_rfl) (fun _ _ _ h => h) (Or.inl ⟨by rfl, ?yy24_12_5⟩) hHeld ?_
              case yy24_12_5 => (intro W hx; go_simp; try with_reducible rfl)
              simp only [Act.put, List.setIfInBounds_toArray, List.set_cons_zero, List.set_cons_succ]
              refine wpAnyH_ready (rs := [7]) (by kernel_rfl) (by simp) (AllReadyH.cons rfl (fun K hK => ?_) AllReadyH.nil)
              rw [if_pos (by rfl)]
              refine wp_strow (o := { dst := none, op := Op.store 35 (Operand.tmp 11) (Operand.tmp 61), type := 0, pos := "law.go:155", after := #[{ on := 6, ground := Ground.data }, { on := 4, ground := Ground.data }, { on := 2, ground := Ground.chain }, { on := 0, ground := Ground.phase }, { on := 1, ground := Ground.phase }, { on := 2, ground := Ground.phase }, { on := 3, ground := Ground.phase }, { on := 4, ground := Ground.phase }, { on := 5, ground := Ground.textOnly Departure.lateStores }, { on := 6, ground := Ground.phase }], guard := none }) _ _ _ rfl kg rfl rfl (by kernel_rfl) rfl (all_oneCell_toArray (sm_one hs8)) ?_; intro w9 k9 x9
              simp only [Act.put]
              refine hK.out _ _ (Ext.of_grown hHeld x9 (fun k e => by injection e with e; omega)) (fun hHeld => ?_)
              clear hK K
              refine wpAnyH_take (i := 8) (oi := { dst := some 12, op := Op.assign (Operand.tmp 62), type := 4, pos := "law.go:155", after := #[{ on := 5, ground := Ground.data }, { on := 7, ground := Ground.chain }, { on := 0, ground := Ground.phase }, { on := 1, ground := Ground.phase }, { on := 2, ground := Ground.phase }, { on := 3, ground := Ground.phase }, { on := 4, ground := Ground.phase }, { on := 5, ground := Ground.phase }, { on := 6, ground := Ground.phase }, { on := 7, ground := Ground.phase }], guard := none }) (v := ?vv25_12_8) rfl (by kernel_rfl) (by kernel_rfl) (by kernel_rfl) (fun _ _ _ h => h) (Or.inl ⟨by rfl, ?yy25_12_8⟩) hHeld ?_
              case yy25_12_8 => (intro W hx; go_simp; try with_reducible rfl)
              simp only [Act.put, List.setIfInBounds_toArray, List.set_cons_zero, List.set_cons_succ]
              refine wpAnyH_done (by kernel_rfl) ?_ _
              go_wp2_with (fail)
              go_meet
              case rel => exact ⟨rfl, hHeld⟩
          · have tok := True.intro
            try (have hga := hHeld.size)
            go_simp
            obtain ⟨wa, hw⟩ : ∃ V, V = World.alloc wD16 (.cells #[.int .i64 0, .bool false, .slice none 0 0] 35) := ⟨_, rfl⟩
            rw [← hw]
            have xa : Ext wD16 wa := by rw [hw]; exact (Ext.refl _).alloc _
            have kg : (World.heap wa)[(World.heap wD16).size]? = some (.cells #[.int .i64 0, .bool false, .slice none 0 0] 35) := by rw [hw]; exact heap_alloc_new _ _
            clear hw
            refine hK.out _ _ (hHeld.trans xa) (fun hHeld => ?_)
            clear hK K
            try (replace G7 := G7.wr (Kept.of_ext (F := fun _ => False) xa) (fun _ _ h => h.elim))
            refine wpAnyH_ready (rs := [0]) (by kernel_rfl) (by simp) (AllReadyH.cons rfl (fun K hK => ?_) AllReadyH.nil)
            go_simp
            go_wp2_with (go_at_call 11; have hn7 := hHeld.size; (refine (new_f (l := []) 0 Shows.nil rfl (by omega) (fun x hx => by cases hx)).mono ?_); rintro e w7 ⟨g7, rfl, x7, G7⟩)
            refine hK.out _ _ (hHeld.trans x7) (fun hHeld => ?_)
            clear hK K
            try (have hkg := blk_lt kg; replace kg := (x7.block _ hkg).trans kg)
            refine wpAnyH_ready (rs := [2]) (by kernel_rfl) (by simp) (AllReadyH.cons rfl (fun K hK => ?_) AllReadyH.nil)
            go_simp
            go_wp2_with (go_at_call 13; (refine (take_f G7 (Ext.refl _) y.kind (code := y.code) HY.out.code y.c (HR6.out.ext (HX7.out.trans hHeld)) (by omega)).mono ?_); rw [HP2.out]; rintro e w8 ⟨s8, els8, S8, rfl, G8, -, hs8, -⟩)
            refine hK.out _ _ (hHeld.kept G8.1 (fun b hb => by first | exact Nat.le_trans hn7 hb | exact Nat.le_trans hn7 hb.1)) (fun hHeld => ?_)
            clear hK K
            try (replace kg := G8.1.blk kg (fun hb => by first | exact absurd hb (Nat.not_le.2 hkg) | exact hb.2 ⟨Nat.le_refl _, blk_lt kg⟩))
            refine wpAnyH_take (i := 3) (oi := { dst := some 57, op := Op.move (Operand.tmp 60), type := 36, pos := "law.go:155", after := #[{ on := 2, ground := Ground.data }], guard := none }) (v := ?vv26_12_3) rfl (by kernel_rfl) (by kernel_rfl) (by kernel_rfl) (fun _ _ _ h => h) (Or.inl ⟨by rfl, ?yy26_12_3⟩) hHeld ?_
            case yy26_12_3 => (intro W hx; go_simp; try with_reducible rfl)
            simp only [Act.put, List.setIfInBounds_toArray, List.set_cons_zero, List.set_cons_succ]
            refine wpAnyH_take (i := 4) (oi := { dst := some 61, op := Op.extract (Operand.tmp 57) 0, type := 35, pos := "law.go:155", after := #[{ on := 3, ground := Ground.data }], guard := none }) (v := ?vv27_12_4) rfl (by kernel_rfl) (by kernel_rfl) (by kernel_rfl) (fun _ _ _ h => h) (Or.inl ⟨by rfl, ?yy27_12_4⟩) hHeld ?_
            case yy27_12_4 => (intro W hx; go_simp; try with_reducible rfl)
            simp only [Act.put, List.setIfInBounds_toArray, List.set_cons_zero, List.set_cons_succ]
            refine wpAnyH_take (i := 5) (oi := { dst := some 62, op := Op.extract (Operand.tmp 57) 1, type := 4, pos := "law.go:155", after := #[{ on := 3, ground := Ground.data }, { on := 7, ground := Ground.gcOnly Departure.lateStores }], guard := none }) (v := ?vv28_12_5) rfl (by kernel_rfl) (by kernel_rfl) (by kernel_rfl) (fun _ _ _ h => h) (Or.inl ⟨by rfl, ?yy28_12_5⟩) hHeld ?_
            case yy28_12_5 => (intro W hx; go_simp; try with_reducible rfl)
            simp only [Act.put, List.setIfInBounds_toArray, List.set_cons_zero, List.set_cons_succ]
            refine wpAnyH_ready (rs := [7]) (by kernel_rfl) (by simp) (AllReadyH.cons rfl (fun K hK => ?_) AllReadyH.nil)
            rw [if_pos (by rfl)]
            refine wp_strow (o := { dst := none, op := Op.store 35 (Operand.tmp 11) (Operand.tmp 61), type := 0, pos := "law.go:155", after := #[{ on := 6, ground := Ground.data }, { on := 4, ground := Ground.data }, { on := 2, ground := Ground.chain }, { on := 0, ground := Ground.phase }, { on := 1, ground := Ground.phase }, { on := 2, ground := Ground.phase }, { on := 3, ground := Ground.phase }, { on := 4, ground := Ground.phase }, { on := 5, ground := Ground.textOnly Departure.lateStores }, { on := 6, ground := Ground.phase }], guard := none }) _ _ _ rfl kg rfl rfl (by kernel_rfl) rfl (all_oneCell_toArray (sm_one hs8)) ?_; intro w9 k9 x9
            simp only [Act.put]
            refine hK.out _ _ (Ext.of_grown hHeld x9 (fun k e => by injection e with e; omega)) (fun hHeld => ?_)
            clear hK K
            refine wpAnyH_take (i := 8) (oi := { dst := some 12, op := Op.assign (Operand.tmp 62), type := 4, pos := "law.go:155", after := #[{ on := 5, ground := Ground.data }, { on := 7, ground := Ground.chain }, { on := 0, ground := Ground.phase }, { on := 1, ground := Ground.phase }, { on := 2, ground := Ground.phase }, { on := 3, ground := Ground.phase }, { on := 4, ground := Ground.phase }, { on := 5, ground := Ground.phase }, { on := 6, ground := Ground.phase }, { on := 7, ground := Ground.phase }], guard := none }) (v := ?vv29_12_8) rfl (by kernel_rfl) (by kernel_rfl) (by kernel_rfl) (fun _ _ _ h => h) (Or.inl ⟨by rfl, ?yy29_12_8⟩) hHeld ?_
            case yy29_12_8 => (intro W hx; go_simp; try with_reducible rfl)
            simp only [Act.put, List.setIfInBounds_toArray, List.set_cons_zero, List.set_cons_succ]
            refine wpAnyH_done (by kernel_rfl) ?_ _
            go_wp2_with (fail)
            go_meet
            case rel => exact ⟨rfl, hHeld⟩
        case rest =>
          obtain ⟨rfl, X2⟩ := hcut
          obtain ⟨wo3, rfl⟩ : ∃ z : World, z = wc := ⟨_, rfl⟩
          have HX8 := Lib.hid (HX7.out.trans X2)
          have HK8 := Lib.hid ((X2.block _ (blk_lt HK7.out)).trans HK7.out)
          clear X2
          go_upto_region 14 with (fail)
          have k8 := HK8.out
          go_upto_region 15 with (first
            | (go_at_call 13; (refine (take_nil y.kind y.code y.A kb y.c _).mono ?_); rintro e w10 ⟨rfl, x10⟩)
            | refine wpList_ldrow rfl 32 (.tmp 3) rfl k8 rfl Try.underlying32 rfl (by kernel_rfl) ?_
            | refine wpList_stnew rfl 35 _ _ rfl rfl zsm.vals rfl rfl size35 rfl zsm_one ?_)
          obtain ⟨w11, hw11⟩ : ∃ V, V = w10.alloc (.cells zsm.vals.toArray 35) := ⟨_, rfl⟩
          have x11 : Ext w10 w11 := by rw [hw11]; exact (Ext.refl _).alloc _
          rw [← hw11]
          have HXB := Lib.hid (HX8.out.trans (x10.trans x11))
          have HOB := Lib.hid (own_ext HO6.out HXB.out)
          clear hw11 k8 x10 x11
          go_upto_region 16 with (fail)
          go_loopw [71] (fun v wr => ∃ j : Nat, v = .int .i64 (j : Int) ∧ j ≤ k ∧ Kept (fun b => w1.heap.size ≤ b) w11 wr ∧ wr.ownsRow w1.heap.size 45 8 (.slice A2 k c2) k (lss (stims false j LT))) (fun v _ => k - (intOf v).toNat)
          case atStart => exact ⟨0, rfl, Nat.zero_le _, Kept.refl _ _, by have := HOB.out; simpa [stims] using this⟩
          case round =>
            obtain ⟨j, rfl, hj, kp, own⟩ := hrel
            obtain ⟨wq, rfl⟩ : ∃ z : World, z = wr := ⟨_, rfl⟩
            have HKQ := Lib.hid (And.intro kp own)
            by_cases hjl : j < k
            · have hjI : (j : Int) < k := by omega
              obtain ⟨x, hx⟩ : ∃ x, LT[j]? = some x := ⟨_, List.getElem?_eq_getElem (by have := HLT.out.1; omega)⟩
              obtain ⟨ga, c6, e6, _, _⟩ := own.form (by omega)
              injection e6 with e6 _ _
              subst e6
              obtain ⟨q2, f2, own3, q1⟩ := lrow_at own (stims_get (b := false) hx) (by rw [stims_len, ← HLT.out.1]) false
              rw [stims_set hx] at own3
              have hge := (own.lt ga rfl).1
              clear kp own hx q1
              go_upto_region 19 with (fail)
              obtain ⟨w12, hw12⟩ : ∃ V, V = wq.setCell ⟨ga, j * 8 + 2, none⟩ (.bool false) := ⟨_, rfl⟩
              have k12 : Kept (fun b => w1.heap.size ≤ b) wq w12 := by rw [hw12]; exact Kept.of_set _ hge
              rw [← hw12] at own3 ⊢
              have HO3 := Lib.hid (And.intro own3 k12)
              clear hw12 q2 f2 own3 k12
              go_wp2
              go_roundw
              case rel => exact ⟨j + 1, by go_num, by omega, HKQ.out.1.trans' HO3.out.2, HO3.out.1⟩
              case measure => simp [intOf]; omega
            · obtain rfl : j = k := by omega
              have hown := HKQ.out.2
              obtain ⟨LF, hLF⟩ : ∃ z, z = LT.map (fun x => { x with stim := false }) := ⟨_, rfl⟩
              rw [HLT.out.1, stims_all, ← HLT.out.1, ← hLF] at hown
              have HOF := Lib.hid hown
              have HLF := Lib.hid (show j = LF.length ∧ ∀ x ∈ LF, x.ok ∧ x.n ≤ 100000 from ⟨by rw [hLF, List.length_map]; exact HLT.out.1, fun x hx => by
                rw [hLF] at hx
                obtain ⟨z, hz, rfl⟩ := List.mem_map.1 hx
                have := HLT.out.2 z hz
                exact ⟨⟨this.1.le, this.1.cm⟩, this.2⟩⟩)
              have HSF := Lib.hid (show t = sumN LF by rw [hLF, sum_map, HTS.out, HLTE.out, sum_map])
              have HXQ := Lib.hid ((HX6.out.trans HXB.out).kept HKQ.out.1 (fun b hb => Nat.le_trans HWW.out hb))
              clear kp own hown hLF
              obtain ⟨cd, hcd⟩ : ∃ z, z = min t 63 := ⟨_, rfl⟩
              have hcm : (if (63 : Int) < t then (63 : Int) else t) = (cd : Int) := by split <;> omega
              have hcm2 : (if 63 < t then (63 : Int) else (t : Int)) = (cd : Int) := by split <;> omega
              have hcd64 : cd < 64 := by omega
              have ucd := wr8 (i := cd) (by omega)
              have HCD := Lib.hid (show (0 : Int) ≤ (cd : Int) ∧ (cd : Int) < 256 by omega)
              obtain ⟨bd, hbd⟩ : ∃ z, z = (takeG (LF.map newGp) 4 (cd : Int) []).1.isSome := ⟨_, rfl⟩
              have HBD := Lib.hid hbd
              have hbd63 : t < 63 → bd = false := fun h => by
                rw [hbd]
                refine take_found ?_ 4 []
                have ht : tabG (cd : Int) = t := by unfold tabG; rw [if_neg (by omega)]; omega
                rw [ht, findG_many (by rw [HSF.out]; exact Nat.le_refl _)]
                rfl
              have HB63 := Lib.hid hbd63
              clear hcd hbd hbd63
              go_upto_region 21 with (first
                | (go_at_call 13; (refine (take_f G13 (Ext.refl _) 4 (code := (cd : Int)) HCD.out 0 Rd.nil (by omega)).mono ?_); rw [← HBD.out]; rintro e w14 ⟨s14, els14, S14, rfl, G14, -, hs14, -⟩)
                | (go_at_call 11; (refine (new_f c2 (Shows.of_own HOF.out) HLF.out.1 (by omega) HLF.out.2).mono ?_); rintro e w13 ⟨g13, rfl, x13, G13⟩)
                | refine wpList_stnew rfl 35 _ _ rfl rfl s14.vals rfl rfl size35 rfl (sm_one hs14) ?_)
              obtain ⟨w15, hw15⟩ : ∃ V, V = w14.alloc (.cells s14.vals.toArray 35) := ⟨_, rfl⟩
              have x15 : Ext w14 w15 := by rw [hw15]; exact (Ext.refl _).alloc _
              rw [← hw15]
              have HX15 := Lib.hid ((x13.kept G14.1 (fun b hb => hb)).trans x15)
              clear hw15 G13 G14 hs14 x13 x15 hcm hcm2 ucd
              go_upto_region 22 with (first
                | (go_at_call 13; (refine (take_f G16 (Ext.refl _) 1 (code := 0) (by decide) 0 Rd.nil (by omega)).mono ?_); rw [show (takeG (LF.map newGp) 1 0 []).1.isSome = false from rfl]; rintro e w17 ⟨s17, els17, S17, rfl, G17, -, hs17, -⟩)
                | (go_at_call 11; (refine (new_f c2 (Shows.of_own (own_ext HOF.out HX15.out)) HLF.out.1 (by omega) HLF.out.2).mono ?_); rintro e w16 ⟨g16, rfl, x16, G16⟩)
                | refine wpList_stnew rfl 35 _ _ rfl rfl s17.vals rfl rfl size35 rfl (sm_one hs17) ?_)
              obtain ⟨w18, hw18⟩ : ∃ V, V = w17.alloc (.cells s17.vals.toArray 35) := ⟨_, rfl⟩
              have x18 : Ext w17 w18 := by rw [hw18]; exact (Ext.refl _).alloc _
              rw [← hw18]
              have HX18 := Lib.hid (HXQ.out.trans (HX15.out.trans ((x16.kept G17.1 (fun b hb => hb)).trans x18)))
              clear hw18 G16 G17 hs17 x16 x18
              by_cases h63 : (63 : Int) ≤ t
              · go_wp2
                go_ret
                exact ⟨by simp, HX18.out⟩
              · have hb := HB63.out (by omega)
                subst hb
                go_wp2
                go_ret
                exact ⟨by simp, HX18.out⟩
end Go.Proofs.Ytnbcmlphnllgeaa
