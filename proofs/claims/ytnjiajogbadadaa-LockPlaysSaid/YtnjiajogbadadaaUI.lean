import Derived.Test.YtnjiajogbadadaaUIa
set_option linter.unusedVariables false
set_option linter.unusedSimpArgs false
namespace Go.Proofs.Ytnjiajogbadadaa
open Go.RowKit
set_option maxRecDepth 100000 in
set_option maxHeartbeats 16000000 in
theorem LockPlays_law (w : World) (r : Int) (A : Option Addr) (n c : Nat) (l : List Ac) (r0 : 0 ≤ r) (r1 : r < 256) (hs : Shows w 5 A n (l.flatMap Ac.vals)) (hl : n = l.length) (hn : n ≤ maxLen) (hok : ∀ a ∈ l, a.ok w) :
    Calls Try.prog 3 #[.int .u8 r, .slice A n c] w fun e w' => e = .returned (.bool true) ∧ Ext w w' := by
  obtain ⟨L, hL⟩ : ∃ L, L = (l.take (min n 60)).map Ac.cut := ⟨_, rfl⟩
  have hcuts : cuts l n = L.flatMap Ac.vals := by rw [hL]; rfl
  have hLl : min n 60 = L.length := by rw [hL, List.length_map, List.length_take]; omega
  have hLok : ∀ a ∈ L, a.ok w ∧ a.n ≤ 30 := by
    intro a ha
    rw [hL] at ha
    obtain ⟨y, hy, rfl⟩ := List.mem_map.1 ha
    exact ⟨cut_ok (hok y (List.mem_of_mem_take hy)), by show min y.n 30 ≤ 30; omega⟩
  have HFEW := fun W (x : Ext w W) => few_acts A n c l W (hs.ext x) hl (fun a ha => by have h := hok a ha; exact ⟨h.k, h.m, h.r, h.rd.ext x, h.le, h.cm⟩) hn
  rw [hcuts] at HFEW
  have HF := Lib.hid HFEW
  obtain ⟨m, hm⟩ : ∃ m, m = min n 60 := ⟨_, rfl⟩
  rw [← hm] at HF hLl
  have hm60 : m ≤ 60 := by omega
  have HL := Lib.hid hLl
  clear HFEW hcuts hok hs hl hL hm hLl
  go_enter Try.func3, Try.ntmps3
  go_upto_region 2 with (go_at_call 8; (refine (shown_any _).mono ?_); rintro e w1 ⟨rfl, x1⟩)
  go_upto_region 3 with (first
    | (go_at_call 9; (refine (new_cn r _ ⟨r0, r1⟩).mono ?_); rintro e wa ⟨gl, F0, rfl, L0, xa, fF⟩)
    | (go_at_call 10; (refine (rnew_any r _ ⟨r0, r1⟩).mono ?_); rintro e w2 ⟨gr, G0, rfl, R0, xb, fG⟩))
  have x12 := x1.trans (xa.trans xb)
  go_upto_region 6 with (go_at_call 11; (refine (HF.out _ x12).mono ?_); rintro e w3 ⟨v, rfl, own, x3⟩; obtain ⟨Av, cv, rfl, lv, mv, _⟩ := own_form own)
  have T0 : Two w (.slice Av m cv) w3 w3 gl gr (LSt.new r) := ⟨F0, G0, (L0.ext xb).ext x3, R0.ext x3, fun i hi hG => by have := L0.lt i hi; have := fG i hG; omega,
    fun i hi => ⟨by have := fF i hi; have := x1.size; omega, fun e => by have := (own.lt i e).1; have := L0.lt i hi; have := xb.size; omega⟩,
    fun i hi => ⟨by have := fG i hi; have := x1.size; have := xa.size; omega, fun e => by have := (own.lt i e).1; have := R0.lt i hi; omega⟩, Kept.refl _ _⟩
  have xw3 := x12.trans x3
  have OWN := Lib.hid own
  clear own L0 R0 fF fG xa xb x1 x3 x12
  go_loopw [30] (fun i wr => ∃ (k : Nat) (s : LSt), i = .int .i64 k ∧ k ≤ m ∧ Two w (.slice Av m cv) w3 wr gl gr s) (fun i _ => m - (intOf i).toNat)
  case atStart => exact ⟨0, _, rfl, Nat.zero_le _, T0⟩
  case round =>
    obtain ⟨k, s, rfl, hk, F, G, T⟩ := hrel
    have xw : Ext w wr := xw3.kept T.k (fun i hi => hi.1)
    by_cases hlt : k < m
    · have hkm : (k : Int) < m := by omega
      obtain ⟨y, hy⟩ : ∃ y, L[k]? = some y := ⟨_, List.getElem?_eq_getElem (by have := HL.out; omega)⟩
      obtain ⟨hyo, hy30⟩ := hLok _ (List.mem_of_getElem? hy)
      have ownr := own_keptF OWN.out T.k (fun b e hi => hi.2 e)
      obtain ⟨b, o, hAv, hb, hr⟩ := Shows.row ac_len (by omega) (Shows.of_own ownr) HL.out hy
      clear hy
      have HT := Lib.hid T
      have HV := Lib.hid (fun b (e : Value.ownBlock (.slice Av m cv) = some b) => (ownr.lt b e).2)
      clear T ownr T0
      subst hAv
      go_upto_region 8 with (first | refine wpList_load_mid rfl 31 _ rfl _ _ rfl y.vals _ hr Try.underlying31 rfl size31 ?_ | refine wpList_stnew rfl 31 _ _ rfl rfl y.vals rfl rfl size31 rfl (ac_one y) ?_)
      obtain ⟨w4, hw4⟩ : ∃ V, V = wr.alloc (.cells y.vals.toArray 31) := ⟨_, rfl⟩
      have k4 : w4.heap[wr.heap.size]? = some (.cells #[.int .u8 y.k, .int .u8 y.m, .int .u8 y.r, .int .i64 y.left, .slice y.A y.n y.c] 31 (0, 0)) := by rw [hw4]; exact heap_alloc_new _ _
      have x4 : Ext wr w4 := by rw [hw4]; exact (Ext.refl _).alloc _
      rw [← hw4]
      clear hw4 hr
      have T4 := HT.out.ext x4
      have ry := hyo.rd.ext (xw.trans x4)
      have hFb : ∀ i, F i → i < wr.heap.size := HT.out.L.lt
      have hGb : ∀ i, G i → i < wr.heap.size := HT.out.R.lt
      have hyA : ∀ ad, y.A = some ad → 0 < y.n → ad.block < w.heap.size := fun ad e h0 => by
        obtain ⟨ad', e', hb, _⟩ := hyo.rd.shows.2 h0
        rw [e] at e'; injection e' with e'; subst e'; exact hb
      obtain ⟨f0, f1, f2, f3, f4⟩ := cells5 k4
      obtain ⟨q, hq⟩ : ∃ q, y.k.tmod 5 = q := ⟨_, rfl⟩
      have hq5 : q = 0 ∨ q = 1 ∨ q = 2 ∨ q = 3 ∨ q = 4 := by rw [← hq, Int.tmod_eq_emod_of_nonneg hyo.k.1]; omega
      have HYO := Lib.hid hyo
      have hyk := hyo.k
      clear hyo
      rcases hq5 with rfl | rfl | rfl | rfl | rfl
      · go_upto_region 14 with (fail)
        have xw4 := xw.trans x4
        go_upto_region 15 with (go_at_call 12; (refine (seed_any gl s F y.m _ _ _ _ y.bs _ ry (fun h0 ad e hf => by have := hyA ad e h0; have := (T4.lowF _ hf).1; omega) (le_max (by omega)) HYO.out.r T4.L).mono ?_); rintro e w5 ⟨A5, c5, F5, rfl, L5, k5, r5, l5, m5, n5, q5⟩; have R5 := T4.R.kept k5 (fun i hg hf => T4.dis i hf hg); have ka5 := k5.blk k4 (fun hf => by have := hFb _ hf; omega); have ry5 := HYO.out.rd.ext (xw4.kept k5 (fun i hf => (T4.lowF i hf).1)); clear f0 f1 f2 f3 f4; obtain ⟨f0, f1, f2, f3, f4⟩ := cells5 ka5)
        go_upto_region 16 with (go_at_call 13; (refine (rseed_any gr s G y.m _ _ _ _ y.bs _ ry5 (fun h0 ad e hg => by have := hyA ad e h0; have := (T4.lowG _ hg).1; omega) (le_max (by omega)) R5).mono ?_); rintro e w6 ⟨A6, c6, G6, rfl, R6, k6, r6, l6, m6, n6⟩)
        have T6 := T4.next (fun b e => by have := HV.out b e; have := x4.size; omega) xw4.size k5 L5 n5 k6 R6 n6
        have s1 := str (c := c5) (r5.kept k6 (fun ad e hG => by have := hGb _ hG; have := (q5 ad e).1; have := x4.size; omega))
        have s2 := str (c := c6) r6
        go_upto_region 31 with (fail)
        obtain ⟨sA9, sc9, kA9, kc9, hR9⟩ := T6.R
        refine wp_region_held_drew (S := Ext w6) (by kernel_rfl) ((Ext.refl _).drew) (fun hHeld => ?_)
        obtain ⟨wD1, hwD⟩ : ∃ V, V = World.drew w6 := ⟨_, rfl⟩
        rw [← hwD]
        clear hHeld
        have zz0 : Ext w6 wD1 := by rw [hwD]; exact (Ext.refl _).drew
        clear hwD
        refine wpAnyH_imp (S' := Ext wD1) (fun W h => Ext.trans zz0 h) _ _ _ _ ?_
        have hHeld := Ext.refl wD1
        refine wpAnyH_take (i := 0) (oi := { dst := some 144, op := Op.move (Operand.tmp 6), type := 24, pos := "law.go:75", after := #[], guard := none }) (v := ?vv2_31_0) rfl (by kernel_rfl) (by kernel_rfl) (by kernel_rfl) (fun _ _ _ h => h) (Or.inl ⟨by rfl, ?yy2_31_0⟩) hHeld ?_
        case yy2_31_0 => (intro W hx; go_simp; try with_reducible rfl)
        simp only [Act.put, List.setIfInBounds_toArray, List.set_cons_zero, List.set_cons_succ]
        refine wpAnyH_take (i := 2) (oi := { dst := some 146, op := Op.move (Operand.tmp 7), type := 26, pos := "law.go:75", after := #[], guard := none }) (v := ?vv3_31_2) rfl (by kernel_rfl) (by kernel_rfl) (by kernel_rfl) (fun _ _ _ h => h) (Or.inl ⟨by rfl, ?yy3_31_2⟩) hHeld ?_
        case yy3_31_2 => (intro W hx; go_simp; try with_reducible rfl)
        simp only [Act.put, List.setIfInBounds_toArray, List.set_cons_zero, List.set_cons_succ]
        refine wpAnyH_take (i := 3) (oi := { dst := some 147, op := Op.nilCheck (Operand.tmp 146), type := 0, pos := "law.go:75", after := #[{ on := 2, ground := Ground.data }], guard := none }) (v := ?vv4_31_3) rfl (by kernel_rfl) (by kernel_rfl) (by kernel_rfl) (fun _ _ _ h => h) (Or.inl ⟨by rfl, ?yy4_31_3⟩) hHeld ?_
        case yy4_31_3 => (intro W hx; go_simp; try with_reducible rfl)
        simp only [Act.put, List.setIfInBounds_toArray, List.set_cons_zero, List.set_cons_succ]
        refine wpAnyH_take (i := 4) (oi := { dst := some 148, op := Op.fieldAddr 38 (Operand.tmp 147) 1, type := 0, pos := "law.go:75", after := #[{ on := 3, ground := Ground.data }], guard := none }) (v := ?vv5_31_4) rfl (by kernel_rfl) (by kernel_rfl) (by kernel_rfl) (fun _ _ _ h => h) (Or.inl ⟨by rfl, ?yy5_31_4⟩) hHeld ?_
        case yy5_31_4 => (intro W hx; go_simp; try with_reducible rfl)
        simp only [Act.put, List.setIfInBounds_toArray, List.set_cons_zero, List.set_cons_succ]
        refine wpAnyH_take (i := 5) (oi := { dst := some 149, op := Op.load 5 (Operand.tmp 148), type := 5, pos := "law.go:75", after := #[{ on := 4, ground := Ground.data }], guard := none }) (v := ?vv6_31_5) rfl (by kernel_rfl) (by kernel_rfl) (by kernel_rfl) (fun _ _ _ h => h) (Or.inl ⟨by rfl, ?yy6_31_5⟩) hHeld ?_
        case yy6_31_5 => (intro W hx; have hz := zz0.trans hx; obtain ⟨j0, j1, j2, j3, j4, j5⟩ := cells6 ((hz.block _ (blk_lt hR9.row)).trans hR9.row); go_simp; try with_reducible rfl)
        simp only [Act.put, List.setIfInBounds_toArray, List.set_cons_zero, List.set_cons_succ]
        refine wpAnyH_ready (rs := [1]) (by kernel_rfl) (by simp) (AllReadyH.cons rfl (fun K hK => ?_) AllReadyH.nil)
        go_simp
        go_wp2_with (go_at_call 19; (refine (locked_cn _ _ _ _ (T6.L.ext zz0)).mono ?_); rintro e w9 ⟨rfl, rfl⟩)
        refine hK.out _ _ hHeld (fun hHeld => ?_)
        clear hK K
        refine wpAnyH_take (i := 6) (oi := { dst := some 150, op := Op.binOp BinOp.neq 5 (Operand.tmp 145) (Operand.tmp 149) 5, type := 4, pos := "law.go:75", after := #[{ on := 1, ground := Ground.data }, { on := 5, ground := Ground.data }], guard := none }) (v := ?vv7_31_6) rfl (by kernel_rfl) (by kernel_rfl) (by kernel_rfl) (fun _ _ _ h => h) (Or.inl ⟨by rfl, ?yy7_31_6⟩) hHeld ?_
        case yy7_31_6 => (intro W hx; go_simp; try with_reducible rfl)
        simp only [Act.put, List.setIfInBounds_toArray, List.set_cons_zero, List.set_cons_succ]
        refine wpAnyH_done (by kernel_rfl) ?_ _
        have zend := zz0.trans hHeld
        go_wp2
        go_roundw
        case rel => exact ⟨k + 1, _, by go_num, by omega, _, _, T6.ext zend⟩
        case measure => simp [intOf]; omega
      · go_upto_region 19 with (fail)
        refine wp_region_held_drew (S := fun W => W.heap[wr.heap.size]? = some (.cells #[.int .u8 y.k, .int .u8 y.m, .int .u8 y.r, .int .i64 y.left, .slice y.A y.n y.c] 31 (0, 0))) (by kernel_rfl) (((Ext.refl w4).drew.block _ (blk_lt k4)).trans k4) (fun hHeld => ?_)
        obtain ⟨wD8, hwD⟩ : ∃ V, V = World.drew w4 := ⟨_, rfl⟩
        rw [← hwD] at hHeld ⊢
        have zz0 : Ext w4 wD8 := by rw [hwD]; exact (Ext.refl _).drew
        clear hwD
        have TD := T4.ext zz0
        refine wpAnyH_take (i := 0) (oi := { dst := some 85, op := Op.move (Operand.tmp 6), type := 24, pos := "law.go:60", after := #[], guard := none }) (v := ?vv9_19_0) rfl (by kernel_rfl) (by kernel_rfl) (by kernel_rfl) (fun _ _ _ h => h) (Or.inl ⟨by rfl, ?yy9_19_0⟩) hHeld ?_
        case yy9_19_0 => (intro W hx; go_simp; try with_reducible rfl)
        simp only [Act.put, List.setIfInBounds_toArray, List.set_cons_zero, List.set_cons_succ]
        refine wpAnyH_take (i := 1) (oi := { dst := some 86, op := Op.fieldAddr 31 (Operand.tmp 9) 3, type := 0, pos := "law.go:60", after := #[], guard := none }) (v := ?vv10_19_1) rfl (by kernel_rfl) (by kernel_rfl) (by kernel_rfl) (fun _ _ _ h => h) (Or.inl ⟨by rfl, ?yy10_19_1⟩) hHeld ?_
        case yy10_19_1 => (intro W hx; go_simp; try with_reducible rfl)
        simp only [Act.put, List.setIfInBounds_toArray, List.set_cons_zero, List.set_cons_succ]
        refine wpAnyH_take (i := 2) (oi := { dst := some 87, op := Op.load 3 (Operand.tmp 86), type := 3, pos := "law.go:60", after := #[{ on := 1, ground := Ground.data }], guard := none }) (v := ?vv11_19_2) rfl (by kernel_rfl) (by kernel_rfl) (by kernel_rfl) (fun _ _ _ h => h) (Or.inl ⟨by rfl, ?yy11_19_2⟩) hHeld ?_
        case yy11_19_2 => (intro W hx; have q9 : W.cell? ⟨wr.heap.size, 3, none⟩ = some (.int .i64 y.left) := (by rw [cell_of_row _ _ _ _ _ _ hx]; rfl); go_simp; try with_reducible rfl)
        simp only [Act.put, List.setIfInBounds_toArray, List.set_cons_zero, List.set_cons_succ]
        refine wpAnyH_take (i := 3) (oi := { dst := some 88, op := Op.fieldAddr 31 (Operand.tmp 9) 4, type := 0, pos := "law.go:60", after := #[], guard := none }) (v := ?vv12_19_3) rfl (by kernel_rfl) (by kernel_rfl) (by kernel_rfl) (fun _ _ _ h => h) (Or.inl ⟨by rfl, ?yy12_19_3⟩) hHeld ?_
        case yy12_19_3 => (intro W hx; go_simp; try with_reducible rfl)
        simp only [Act.put, List.setIfInBounds_toArray, List.set_cons_zero, List.set_cons_succ]
        refine wpAnyH_take (i := 4) (oi := { dst := some 89, op := Op.load 29 (Operand.tmp 88), type := 29, pos := "law.go:60", after := #[{ on := 3, ground := Ground.data }], guard := none }) (v := ?vv13_19_4) rfl (by kernel_rfl) (by kernel_rfl) (by kernel_rfl) (fun _ _ _ h => h) (Or.inl ⟨by rfl, ?yy13_19_4⟩) hHeld ?_
        case yy13_19_4 => (intro W hx; have q9 : W.cell? ⟨wr.heap.size, 4, none⟩ = some (.slice y.A y.n y.c) := (by rw [cell_of_row _ _ _ _ _ _ hx]; rfl); go_simp; try with_reducible rfl)
        simp only [Act.put, List.setIfInBounds_toArray, List.set_cons_zero, List.set_cons_succ]
        refine wpAnyH_take (i := 6) (oi := { dst := some 91, op := Op.move (Operand.tmp 7), type := 26, pos := "law.go:60", after := #[], guard := none }) (v := ?vv14_19_6) rfl (by kernel_rfl) (by kernel_rfl) (by kernel_rfl) (fun _ _ _ h => h) (Or.inl ⟨by rfl, ?yy14_19_6⟩) hHeld ?_
        case yy14_19_6 => (intro W hx; go_simp; try with_reducible rfl)
        simp only [Act.put, List.setIfInBounds_toArray, List.set_cons_zero, List.set_cons_succ]
        refine wpAnyH_take (i := 7) (oi := { dst := some 92, op := Op.fieldAddr 31 (Operand.tmp 9) 3, type := 0, pos := "law.go:60", after := #[], guard := none }) (v := ?vv15_19_7) rfl (by kernel_rfl) (by kernel_rfl) (by kernel_rfl) (fun _ _ _ h => h) (Or.inl ⟨by rfl, ?yy15_19_7⟩) hHeld ?_
        case yy15_19_7 => (intro W hx; go_simp; try with_reducible rfl)
        simp only [Act.put, List.setIfInBounds_toArray, List.set_cons_zero, List.set_cons_succ]
        refine wpAnyH_take (i := 8) (oi := { dst := some 93, op := Op.load 3 (Operand.tmp 92), type := 3, pos := "law.go:60", after := #[{ on := 7, ground := Ground.data }], guard := none }) (v := ?vv16_19_8) rfl (by kernel_rfl) (by kernel_rfl) (by kernel_rfl) (fun _ _ _ h => h) (Or.inl ⟨by rfl, ?yy16_19_8⟩) hHeld ?_
        case yy16_19_8 => (intro W hx; have q9 : W.cell? ⟨wr.heap.size, 3, none⟩ = some (.int .i64 y.left) := (by rw [cell_of_row _ _ _ _ _ _ hx]; rfl); go_simp; try with_reducible rfl)
        simp only [Act.put, List.setIfInBounds_toArray, List.set_cons_zero, List.set_cons_succ]
        refine wpAnyH_take (i := 9) (oi := { dst := some 94, op := Op.fieldAddr 31 (Operand.tmp 9) 4, type := 0, pos := "law.go:60", after := #[], guard := none }) (v := ?vv17_19_9) rfl (by kernel_rfl) (by kernel_rfl) (by kernel_rfl) (fun _ _ _ h => h) (Or.inl ⟨by rfl, ?yy17_19_9⟩) hHeld ?_
        case yy17_19_9 => (intro W hx; go_simp; try with_reducible rfl)
        simp only [Act.put, List.setIfInBounds_toArray, List.set_cons_zero, List.set_cons_succ]
        refine wpAnyH_take (i := 10) (oi := { dst := some 95, op := Op.load 29 (Operand.tmp 94), type := 29, pos := "law.go:60", after := #[{ on := 9, ground := Ground.data }], guard := none }) (v := ?vv18_19_10) rfl (by kernel_rfl) (by kernel_rfl) (by kernel_rfl) (fun _ _ _ h => h) (Or.inl ⟨by rfl, ?yy18_19_10⟩) hHeld ?_
        case yy18_19_10 => (intro W hx; have q9 : W.cell? ⟨wr.heap.size, 4, none⟩ = some (.slice y.A y.n y.c) := (by rw [cell_of_row _ _ _ _ _ _ hx]; rfl); go_simp; try with_reducible rfl)
        simp only [Act.put, List.setIfInBounds_toArray, List.set_cons_zero, List.set_cons_succ]
        refine wpAnyH_ready (rs := [5]) (by kernel_rfl) (by simp) (AllReadyH.cons rfl (fun K hK => ?_) AllReadyH.nil)
        go_simp
        go_wp2_with (go_at_call 14; (refine (unlock_any gl s F _ _ _ _ y.bs _ TD.L (ry.ext zz0)).mono ?_); rintro e w5 ⟨rfl, F5, L5, k5, n5⟩; have R5 := TD.R.kept k5 (fun i hg hf => TD.dis i hf hg))
        refine hK.out _ _ (k5.blk hHeld (fun hf => by have := hFb _ hf; omega)) (fun hHeld => ?_)
        clear hK K
        refine wpAnyH_ready (rs := [11]) (by kernel_rfl) (by simp) (AllReadyH.cons rfl (fun K hK => ?_) AllReadyH.nil)
        go_simp
        go_wp2_with (go_at_call 15; (refine (runlock_any gr s G _ _ _ _ y.bs _ R5 (HYO.out.rd.ext ((xw.trans (x4.trans zz0)).kept k5 (fun i hf => (TD.lowF i hf).1)))).mono ?_); rintro e w6 ⟨rfl, G6, R6, k6, n6⟩)
        refine hK.out _ _ (k6.blk hHeld (fun hf => by have := hGb _ hf; omega)) (fun hHeld => ?_)
        clear hK K
        refine wpAnyH_take (i := 12) (oi := { dst := some 97, op := Op.binOp BinOp.neq 32 (Operand.tmp 90) (Operand.tmp 96) 32, type := 4, pos := "law.go:60", after := #[{ on := 5, ground := Ground.data }, { on := 11, ground := Ground.data }], guard := none }) (v := ?vv19_19_12) rfl (by kernel_rfl) (by kernel_rfl) (by kernel_rfl) (fun _ _ _ h => h) (Or.inl ⟨by rfl, ?yy19_19_12⟩) hHeld ?_
        case yy19_19_12 => (intro W hx; go_simp; try with_reducible rfl)
        simp only [Act.put, List.setIfInBounds_toArray, List.set_cons_zero, List.set_cons_succ]
        refine wpAnyH_done (by kernel_rfl) ?_ _
        have T6 := TD.next (fun b e => by have := HV.out b e; have := x4.size; have := zz0.size; omega) ((xw.trans (x4.trans zz0)).size) k5 L5 n5 k6 R6 n6
        go_upto_region 31 with (fail)
        obtain ⟨sA9, sc9, kA9, kc9, hR9⟩ := T6.R
        clear zz0
        refine wp_region_held_drew (S := Ext w6) (by kernel_rfl) ((Ext.refl _).drew) (fun hHeld => ?_)
        obtain ⟨wD51, hwD⟩ : ∃ V, V = World.drew w6 := ⟨_, rfl⟩
        rw [← hwD]
        clear hHeld
        have zz0 : Ext w6 wD51 := by rw [hwD]; exact (Ext.refl _).drew
        clear hwD
        refine wpAnyH_imp (S' := Ext wD51) (fun W h => Ext.trans zz0 h) _ _ _ _ ?_
        have hHeld := Ext.refl wD51
        refine wpAnyH_take (i := 0) (oi := { dst := some 144, op := Op.move (Operand.tmp 6), type := 24, pos := "law.go:75", after := #[], guard := none }) (v := ?vv52_31_0) rfl (by kernel_rfl) (by kernel_rfl) (by kernel_rfl) (fun _ _ _ h => h) (Or.inl ⟨by rfl, ?yy52_31_0⟩) hHeld ?_
        case yy52_31_0 => (intro W hx; go_simp; try with_reducible rfl)
        simp only [Act.put, List.setIfInBounds_toArray, List.set_cons_zero, List.set_cons_succ]
        refine wpAnyH_take (i := 2) (oi := { dst := some 146, op := Op.move (Operand.tmp 7), type := 26, pos := "law.go:75", after := #[], guard := none }) (v := ?vv53_31_2) rfl (by kernel_rfl) (by kernel_rfl) (by kernel_rfl) (fun _ _ _ h => h) (Or.inl ⟨by rfl, ?yy53_31_2⟩) hHeld ?_
        case yy53_31_2 => (intro W hx; go_simp; try with_reducible rfl)
        simp only [Act.put, List.setIfInBounds_toArray, List.set_cons_zero, List.set_cons_succ]
        refine wpAnyH_take (i := 3) (oi := { dst := some 147, op := Op.nilCheck (Operand.tmp 146), type := 0, pos := "law.go:75", after := #[{ on := 2, ground := Ground.data }], guard := none }) (v := ?vv54_31_3) rfl (by kernel_rfl) (by kernel_rfl) (by kernel_rfl) (fun _ _ _ h => h) (Or.inl ⟨by rfl, ?yy54_31_3⟩) hHeld ?_
        case yy54_31_3 => (intro W hx; go_simp; try with_reducible rfl)
        simp only [Act.put, List.setIfInBounds_toArray, List.set_cons_zero, List.set_cons_succ]
        refine wpAnyH_take (i := 4) (oi := { dst := some 148, op := Op.fieldAddr 38 (Operand.tmp 147) 1, type := 0, pos := "law.go:75", after := #[{ on := 3, ground := Ground.data }], guard := none }) (v := ?vv55_31_4) rfl (by kernel_rfl) (by kernel_rfl) (by kernel_rfl) (fun _ _ _ h => h) (Or.inl ⟨by rfl, ?yy55_31_4⟩) hHeld ?_
        case yy55_31_4 => (intro W hx; go_simp; try with_reducible rfl)
        simp only [Act.put, List.setIfInBounds_toArray, List.set_cons_zero, List.set_cons_succ]
        refine wpAnyH_take (i := 5) (oi := { dst := some 149, op := Op.load 5 (Operand.tmp 148), type := 5, pos := "law.go:75", after := #[{ on := 4, ground := Ground.data }], guard := none }) (v := ?vv56_31_5) rfl (by kernel_rfl) (by kernel_rfl) (by kernel_rfl) (fun _ _ _ h => h) (Or.inl ⟨by rfl, ?yy56_31_5⟩) hHeld ?_
        case yy56_31_5 => (intro W hx; have hz := zz0.trans hx; obtain ⟨j0, j1, j2, j3, j4, j5⟩ := cells6 ((hz.block _ (blk_lt hR9.row)).trans hR9.row); go_simp; try with_reducible rfl)
        simp only [Act.put, List.setIfInBounds_toArray, List.set_cons_zero, List.set_cons_succ]
        refine wpAnyH_ready (rs := [1]) (by kernel_rfl) (by simp) (AllReadyH.cons rfl (fun K hK => ?_) AllReadyH.nil)
        go_simp
        go_wp2_with (go_at_call 19; (refine (locked_cn _ _ _ _ (T6.L.ext zz0)).mono ?_); rintro e w9 ⟨rfl, rfl⟩)
        refine hK.out _ _ hHeld (fun hHeld => ?_)
        clear hK K
        refine wpAnyH_take (i := 6) (oi := { dst := some 150, op := Op.binOp BinOp.neq 5 (Operand.tmp 145) (Operand.tmp 149) 5, type := 4, pos := "law.go:75", after := #[{ on := 1, ground := Ground.data }, { on := 5, ground := Ground.data }], guard := none }) (v := ?vv57_31_6) rfl (by kernel_rfl) (by kernel_rfl) (by kernel_rfl) (fun _ _ _ h => h) (Or.inl ⟨by rfl, ?yy57_31_6⟩) hHeld ?_
        case yy57_31_6 => (intro W hx; go_simp; try with_reducible rfl)
        simp only [Act.put, List.setIfInBounds_toArray, List.set_cons_zero, List.set_cons_succ]
        refine wpAnyH_done (by kernel_rfl) ?_ _
        have zend := zz0.trans hHeld
        go_wp2
        go_roundw
        case rel => exact ⟨k + 1, _, by go_num, by omega, _, _, T6.ext zend⟩
        case measure => simp [intOf]; omega
      · obtain ⟨sA, sc, kA, kc, hR⟩ := T4.R
        have hl20 := hR.ok.len
        have hkl := hR.ok.key
        obtain ⟨q0, q1⟩ := hR.ok.res
        have K4 := hR.row
        have S4 := hR.seed
        obtain ⟨sn, hsn⟩ : ∃ sn, sn = s.seed.length := ⟨_, rfl⟩
        obtain ⟨kn, hkn⟩ : ∃ kn, kn = s.key.length := ⟨_, rfl⟩
        rw [← hsn, ← hkn] at K4
        rw [← hsn] at hl20 hkl S4
        rw [← hkn] at hkl
        obtain ⟨d, hd⟩ : ∃ d, d = sn - kn := ⟨_, rfl⟩
        obtain ⟨p, hp⟩ : ∃ p, p = min d 6 := ⟨_, rfl⟩
        have hsub : (sn : Int) - kn = (d : Int) := by omega
        have hwd : IntKind.i64.wrap (d : Int) = d := by rw [IntKind.wrap_i64]; omega
        have hdn : sn - kn = d := by omega
        have hmin : (if (6 : Int) < d then (6 : Int) else d) = p := by split <;> omega
        have hpd : p ≤ d := by omega
        have hd20 : d ≤ 20 := by omega
        have hsn20 : sn ≤ 1000 := by omega
        have HR := Lib.hid hR
        clear hR
        have HSN := Lib.hid hsn
        have HKN := Lib.hid hkn
        have HD := Lib.hid hd
        have HP := Lib.hid hp
        clear hsn hkn hd hp
        go_upto_region 22 with (fail)
        refine wp_region_held_drew (S := Ext w4) (by kernel_rfl) ((Ext.refl _).drew) (fun hHeld => ?_)
        obtain ⟨wD20, hwD⟩ : ∃ V, V = World.drew w4 := ⟨_, rfl⟩
        rw [← hwD]
        clear hHeld
        have zz0 : Ext w4 wD20 := by rw [hwD]; exact (Ext.refl _).drew
        clear hwD
        refine wpAnyH_imp (S' := Ext wD20) (fun W h => Ext.trans zz0 h) _ _ _ _ ?_
        have hHeld := Ext.refl wD20
        refine wpAnyH_take (i := 0) (oi := { dst := some 100, op := Op.move (Operand.tmp 7), type := 26, pos := "law.go:64", after := #[], guard := none }) (v := ?vv21_22_0) rfl (by kernel_rfl) (by kernel_rfl) (by kernel_rfl) (fun _ _ _ h => h) (Or.inl ⟨by rfl, ?yy21_22_0⟩) hHeld ?_
        case yy21_22_0 => (intro W hx; go_simp; try with_reducible rfl)
        simp only [Act.put, List.setIfInBounds_toArray, List.set_cons_zero, List.set_cons_succ]
        refine wpAnyH_take (i := 1) (oi := { dst := some 101, op := Op.nilCheck (Operand.tmp 100), type := 0, pos := "law.go:64", after := #[{ on := 0, ground := Ground.data }], guard := none }) (v := ?vv22_22_1) rfl (by kernel_rfl) (by kernel_rfl) (by kernel_rfl) (fun _ _ _ h => h) (Or.inl ⟨by rfl, ?yy22_22_1⟩) hHeld ?_
        case yy22_22_1 => (intro W hx; go_simp; try with_reducible rfl)
        simp only [Act.put, List.setIfInBounds_toArray, List.set_cons_zero, List.set_cons_succ]
        refine wpAnyH_take (i := 2) (oi := { dst := some 102, op := Op.fieldAddr 38 (Operand.tmp 101) 2, type := 0, pos := "law.go:64", after := #[{ on := 1, ground := Ground.data }], guard := none }) (v := ?vv23_22_2) rfl (by kernel_rfl) (by kernel_rfl) (by kernel_rfl) (fun _ _ _ h => h) (Or.inl ⟨by rfl, ?yy23_22_2⟩) hHeld ?_
        case yy23_22_2 => (intro W hx; go_simp; try with_reducible rfl)
        simp only [Act.put, List.setIfInBounds_toArray, List.set_cons_zero, List.set_cons_succ]
        refine wpAnyH_take (i := 3) (oi := { dst := some 103, op := Op.load 29 (Operand.tmp 102), type := 29, pos := "law.go:64", after := #[{ on := 2, ground := Ground.data }], guard := none }) (v := ?vv24_22_3) rfl (by kernel_rfl) (by kernel_rfl) (by kernel_rfl) (fun _ _ _ h => h) (Or.inl ⟨by rfl, ?yy24_22_3⟩) hHeld ?_
        case yy24_22_3 => (intro W hx; have hz := zz0.trans hx; obtain ⟨j0, j1, j2, j3, j4, j5⟩ := cells6 ((hz.block _ (blk_lt K4)).trans K4); go_simp; try with_reducible rfl)
        simp only [Act.put, List.setIfInBounds_toArray, List.set_cons_zero, List.set_cons_succ]
        refine wpAnyH_take (i := 4) (oi := { dst := some 104, op := Op.move (Operand.tmp 7), type := 26, pos := "law.go:64", after := #[], guard := none }) (v := ?vv25_22_4) rfl (by kernel_rfl) (by kernel_rfl) (by kernel_rfl) (fun _ _ _ h => h) (Or.inl ⟨by rfl, ?yy25_22_4⟩) hHeld ?_
        case yy25_22_4 => (intro W hx; go_simp; try with_reducible rfl)
        simp only [Act.put, List.setIfInBounds_toArray, List.set_cons_zero, List.set_cons_succ]
        refine wpAnyH_take (i := 5) (oi := { dst := some 105, op := Op.nilCheck (Operand.tmp 104), type := 0, pos := "law.go:64", after := #[{ on := 4, ground := Ground.data }], guard := none }) (v := ?vv26_22_5) rfl (by kernel_rfl) (by kernel_rfl) (by kernel_rfl) (fun _ _ _ h => h) (Or.inl ⟨by rfl, ?yy26_22_5⟩) hHeld ?_
        case yy26_22_5 => (intro W hx; go_simp; try with_reducible rfl)
        simp only [Act.put, List.setIfInBounds_toArray, List.set_cons_zero, List.set_cons_succ]
        refine wpAnyH_take (i := 6) (oi := { dst := some 106, op := Op.fieldAddr 38 (Operand.tmp 105) 3, type := 0, pos := "law.go:64", after := #[{ on := 5, ground := Ground.data }], guard := none }) (v := ?vv27_22_6) rfl (by kernel_rfl) (by kernel_rfl) (by kernel_rfl) (fun _ _ _ h => h) (Or.inl ⟨by rfl, ?yy27_22_6⟩) hHeld ?_
        case yy27_22_6 => (intro W hx; go_simp; try with_reducible rfl)
        simp only [Act.put, List.setIfInBounds_toArray, List.set_cons_zero, List.set_cons_succ]
        refine wpAnyH_take (i := 7) (oi := { dst := some 107, op := Op.load 5 (Operand.tmp 106), type := 5, pos := "law.go:64", after := #[{ on := 6, ground := Ground.data }], guard := none }) (v := ?vv28_22_7) rfl (by kernel_rfl) (by kernel_rfl) (by kernel_rfl) (fun _ _ _ h => h) (Or.inl ⟨by rfl, ?yy28_22_7⟩) hHeld ?_
        case yy28_22_7 => (intro W hx; have hz := zz0.trans hx; obtain ⟨j0, j1, j2, j3, j4, j5⟩ := cells6 ((hz.block _ (blk_lt K4)).trans K4); go_simp; try with_reducible rfl)
        simp only [Act.put, List.setIfInBounds_toArray, List.set_cons_zero, List.set_cons_succ]
        refine wpAnyH_ready (rs := [8]) (by kernel_rfl) (by simp) (AllReadyH.cons rfl (fun K hK => ?_) AllReadyH.nil)
        go_simp
        go_wp2_with (go_at_call 16; (refine (rkey_any _ _ _ _ _ _ (S4.ext zz0) hsn20 q0 q1).mono ?_); rintro e w5 ⟨A5, c5, rfl, l5, m5, x5, r5, q5⟩)
        refine hK.out _ _ x5 (fun hHeld => ?_)
        clear hK K
        refine wpAnyH_imp (S' := Ext w5) (fun W h => Ext.trans x5 h) _ _ _ _ ?_
        replace hHeld := Ext.refl w5
        have zz1 := zz0.trans x5
        refine wpAnyH_take (i := 9) (oi := { dst := some 17, op := Op.assign (Operand.tmp 108), type := 29, pos := "law.go:64", after := #[{ on := 8, ground := Ground.data }, { on := 8, ground := Ground.chain }, { on := 0, ground := Ground.phase }, { on := 1, ground := Ground.phase }, { on := 2, ground := Ground.phase }, { on := 3, ground := Ground.phase }, { on := 4, ground := Ground.phase }, { on := 5, ground := Ground.phase }, { on := 6, ground := Ground.phase }, { on := 7, ground := Ground.phase }, { on := 8, ground := Ground.phase }], guard := none }) (v := ?vv29_22_9) rfl (by kernel_rfl) (by kernel_rfl) (by kernel_rfl) (fun _ _ _ h => h) (Or.inl ⟨by rfl, ?yy29_22_9⟩) hHeld ?_
        case yy29_22_9 => (intro W hx; go_simp; try with_reducible rfl)
        simp only [Act.put, List.setIfInBounds_toArray, List.set_cons_zero, List.set_cons_succ]
        refine wpAnyH_done (by kernel_rfl) ?_ _
        have zend := zz1.trans hHeld
        have K5 := (zend.block _ (blk_lt K4)).trans K4
        have T5 := T4.ext zend
        have hknc : kn ≤ c5 := by omega
        have hkncI : (kn : Int) ≤ c5 := by omega
        have hpc : p ≤ c5 - kn := by omega
        have r6 := (r5.drop (k := kn) (by omega) l5).take (k := p) (by omega)
        obtain ⟨pA, hpA⟩ : ∃ p, (if c5 = kn then A5 else Option.map (fun x => x.add kn) A5) = p := ⟨_, rfl⟩
        have r6 : Rd w5 pA p (((keyB s.res s.seed).drop kn).take p) := by rw [← hpA]; simpa using r6
        obtain ⟨bs, hbs⟩ : ∃ bs, bs = ((keyB s.res s.seed).drop kn).take p := ⟨_, rfl⟩
        rw [← hbs] at r6
        clear hbs
        obtain ⟨j0, j1, j2, j3, j4, j5⟩ := cells6 K5
        have qpA : ∀ ad, pA = some ad → w4.heap.size ≤ ad.block := by
          intro ad e
          have h0 := zz0.size
          rw [← hpA] at e
          split at e
          · have := q5 ad e; omega
          · obtain ⟨a0, ha0, rfl⟩ := Option.map_eq_some_iff.1 e
            have := q5 a0 ha0
            have hb0 : (a0.add kn).block = a0.block := by unfold Addr.add; split <;> rfl
            rw [hb0]
            omega
        go_upto_region 24 with (fail)
        go_upto_region 26 with (fail)
        go_upto_region 31 with (first
          | (go_at_call 14; (refine (unlock_any gl s F _ _ _ _ bs _ T5.L r6).mono ?_); rintro e w6 ⟨rfl, F6, L6, k6, n6⟩; have R6 := T5.R.kept k6 (fun i hg hf => T5.dis i hf hg); have r7 := r6.kept k6 (fun ad e hf => by have := hFb _ hf; have := qpA ad e; have := x4.size; omega))
          | (go_at_call 15; (refine (runlock_any gr s G _ _ _ _ bs _ R6 r7).mono ?_); rintro e w7 ⟨rfl, G7, R7, k7, n7⟩))
        have T6 := T5.next (fun b e => by have := HV.out b e; have := x4.size; have := zend.size; omega) ((xw.trans (x4.trans zend)).size) k6 L6 n6 k7 R7 n7
        obtain ⟨sA9, sc9, kA9, kc9, hR9⟩ := T6.R
        clear zz0 zz1 zend
        refine wp_region_held_drew (S := Ext w7) (by kernel_rfl) ((Ext.refl _).drew) (fun hHeld => ?_)
        obtain ⟨wD30, hwD⟩ : ∃ V, V = World.drew w7 := ⟨_, rfl⟩
        rw [← hwD]
        clear hHeld
        have zz0 : Ext w7 wD30 := by rw [hwD]; exact (Ext.refl _).drew
        clear hwD
        refine wpAnyH_imp (S' := Ext wD30) (fun W h => Ext.trans zz0 h) _ _ _ _ ?_
        have hHeld := Ext.refl wD30
        refine wpAnyH_take (i := 0) (oi := { dst := some 144, op := Op.move (Operand.tmp 6), type := 24, pos := "law.go:75", after := #[], guard := none }) (v := ?vv31_31_0) rfl (by kernel_rfl) (by kernel_rfl) (by kernel_rfl) (fun _ _ _ h => h) (Or.inl ⟨by rfl, ?yy31_31_0⟩) hHeld ?_
        case yy31_31_0 => (intro W hx; go_simp; try with_reducible rfl)
        simp only [Act.put, List.setIfInBounds_toArray, List.set_cons_zero, List.set_cons_succ]
        refine wpAnyH_take (i := 2) (oi := { dst := some 146, op := Op.move (Operand.tmp 7), type := 26, pos := "law.go:75", after := #[], guard := none }) (v := ?vv32_31_2) rfl (by kernel_rfl) (by kernel_rfl) (by kernel_rfl) (fun _ _ _ h => h) (Or.inl ⟨by rfl, ?yy32_31_2⟩) hHeld ?_
        case yy32_31_2 => (intro W hx; go_simp; try with_reducible rfl)
        simp only [Act.put, List.setIfInBounds_toArray, List.set_cons_zero, List.set_cons_succ]
        refine wpAnyH_take (i := 3) (oi := { dst := some 147, op := Op.nilCheck (Operand.tmp 146), type := 0, pos := "law.go:75", after := #[{ on := 2, ground := Ground.data }], guard := none }) (v := ?vv33_31_3) rfl (by kernel_rfl) (by kernel_rfl) (by kernel_rfl) (fun _ _ _ h => h) (Or.inl ⟨by rfl, ?yy33_31_3⟩) hHeld ?_
        case yy33_31_3 => (intro W hx; go_simp; try with_reducible rfl)
        simp only [Act.put, List.setIfInBounds_toArray, List.set_cons_zero, List.set_cons_succ]
        refine wpAnyH_take (i := 4) (oi := { dst := some 148, op := Op.fieldAddr 38 (Operand.tmp 147) 1, type := 0, pos := "law.go:75", after := #[{ on := 3, ground := Ground.data }], guard := none }) (v := ?vv34_31_4) rfl (by kernel_rfl) (by kernel_rfl) (by kernel_rfl) (fun _ _ _ h => h) (Or.inl ⟨by rfl, ?yy34_31_4⟩) hHeld ?_
        case yy34_31_4 => (intro W hx; go_simp; try with_reducible rfl)
        simp only [Act.put, List.setIfInBounds_toArray, List.set_cons_zero, List.set_cons_succ]
        refine wpAnyH_take (i := 5) (oi := { dst := some 149, op := Op.load 5 (Operand.tmp 148), type := 5, pos := "law.go:75", after := #[{ on := 4, ground := Ground.data }], guard := none }) (v := ?vv35_31_5) rfl (by kernel_rfl) (by kernel_rfl) (by kernel_rfl) (fun _ _ _ h => h) (Or.inl ⟨by rfl, ?yy35_31_5⟩) hHeld ?_
        case yy35_31_5 => (intro W hx; have hz := zz0.trans hx; obtain ⟨j0, j1, j2, j3, j4, j5⟩ := cells6 ((hz.block _ (blk_lt hR9.row)).trans hR9.row); go_simp; try with_reducible rfl)
        simp only [Act.put, List.setIfInBounds_toArray, List.set_cons_zero, List.set_cons_succ]
        refine wpAnyH_ready (rs := [1]) (by kernel_rfl) (by simp) (AllReadyH.cons rfl (fun K hK => ?_) AllReadyH.nil)
        go_simp
        go_wp2_with (go_at_call 19; (refine (locked_cn _ _ _ _ (T6.L.ext zz0)).mono ?_); rintro e w9 ⟨rfl, rfl⟩)
        refine hK.out _ _ hHeld (fun hHeld => ?_)
        clear hK K
        refine wpAnyH_take (i := 6) (oi := { dst := some 150, op := Op.binOp BinOp.neq 5 (Operand.tmp 145) (Operand.tmp 149) 5, type := 4, pos := "law.go:75", after := #[{ on := 1, ground := Ground.data }, { on := 5, ground := Ground.data }], guard := none }) (v := ?vv36_31_6) rfl (by kernel_rfl) (by kernel_rfl) (by kernel_rfl) (fun _ _ _ h => h) (Or.inl ⟨by rfl, ?yy36_31_6⟩) hHeld ?_
        case yy36_31_6 => (intro W hx; go_simp; try with_reducible rfl)
        simp only [Act.put, List.setIfInBounds_toArray, List.set_cons_zero, List.set_cons_succ]
        refine wpAnyH_done (by kernel_rfl) ?_ _
        have zend := zz0.trans hHeld
        go_wp2
        go_roundw
        case rel => exact ⟨k + 1, _, by go_num, by omega, _, _, T6.ext zend⟩
        case measure => simp [intOf]; omega
      · go_upto_region 31 with (first
          | (go_at_call 17; (refine (relock_cn _ _ _ _ T4.L).mono ?_); rintro e w5 ⟨rfl, L5, k5⟩; have R5 := T4.R.kept k5 (fun i hg hf => T4.dis i hf hg))
          | (go_at_call 18; (refine (rrelock_any _ _ _ _ R5).mono ?_); rintro e w6 ⟨rfl, R6, k6⟩))
        have T6 := T4.next (fun b e => by have := HV.out b e; have := x4.size; omega) (xw.trans x4).size k5 L5 (fun k h => .inl h) k6 R6 (fun k h => .inl h)
        obtain ⟨sA9, sc9, kA9, kc9, hR9⟩ := T6.R
        refine wp_region_held_drew (S := Ext w6) (by kernel_rfl) ((Ext.refl _).drew) (fun hHeld => ?_)
        obtain ⟨wD37, hwD⟩ : ∃ V, V = World.drew w6 := ⟨_, rfl⟩
        rw [← hwD]
        clear hHeld
        have zz0 : Ext w6 wD37 := by rw [hwD]; exact (Ext.refl _).drew
        clear hwD
        refine wpAnyH_imp (S' := Ext wD37) (fun W h => Ext.trans zz0 h) _ _ _ _ ?_
        have hHeld := Ext.refl wD37
        refine wpAnyH_take (i := 0) (oi := { dst := some 144, op := Op.move (Operand.tmp 6), type := 24, pos := "law.go:75", after := #[], guard := none }) (v := ?vv38_31_0) rfl (by kernel_rfl) (by kernel_rfl) (by kernel_rfl) (fun _ _ _ h => h) (Or.inl ⟨by rfl, ?yy38_31_0⟩) hHeld ?_
        case yy38_31_0 => (intro W hx; go_simp; try with_reducible rfl)
        simp only [Act.put, List.setIfInBounds_toArray, List.set_cons_zero, List.set_cons_succ]
        refine wpAnyH_take (i := 2) (oi := { dst := some 146, op := Op.move (Operand.tmp 7), type := 26, pos := "law.go:75", after := #[], guard := none }) (v := ?vv39_31_2) rfl (by kernel_rfl) (by kernel_rfl) (by kernel_rfl) (fun _ _ _ h => h) (Or.inl ⟨by rfl, ?yy39_31_2⟩) hHeld ?_
        case yy39_31_2 => (intro W hx; go_simp; try with_reducible rfl)
        simp only [Act.put, List.setIfInBounds_toArray, List.set_cons_zero, List.set_cons_succ]
        refine wpAnyH_take (i := 3) (oi := { dst := some 147, op := Op.nilCheck (Operand.tmp 146), type := 0, pos := "law.go:75", after := #[{ on := 2, ground := Ground.data }], guard := none }) (v := ?vv40_31_3) rfl (by kernel_rfl) (by kernel_rfl) (by kernel_rfl) (fun _ _ _ h => h) (Or.inl ⟨by rfl, ?yy40_31_3⟩) hHeld ?_
        case yy40_31_3 => (intro W hx; go_simp; try with_reducible rfl)
        simp only [Act.put, List.setIfInBounds_toArray, List.set_cons_zero, List.set_cons_succ]
        refine wpAnyH_take (i := 4) (oi := { dst := some 148, op := Op.fieldAddr 38 (Operand.tmp 147) 1, type := 0, pos := "law.go:75", after := #[{ on := 3, ground := Ground.data }], guard := none }) (v := ?vv41_31_4) rfl (by kernel_rfl) (by kernel_rfl) (by kernel_rfl) (fun _ _ _ h => h) (Or.inl ⟨by rfl, ?yy41_31_4⟩) hHeld ?_
        case yy41_31_4 => (intro W hx; go_simp; try with_reducible rfl)
        simp only [Act.put, List.setIfInBounds_toArray, List.set_cons_zero, List.set_cons_succ]
        refine wpAnyH_take (i := 5) (oi := { dst := some 149, op := Op.load 5 (Operand.tmp 148), type := 5, pos := "law.go:75", after := #[{ on := 4, ground := Ground.data }], guard := none }) (v := ?vv42_31_5) rfl (by kernel_rfl) (by kernel_rfl) (by kernel_rfl) (fun _ _ _ h => h) (Or.inl ⟨by rfl, ?yy42_31_5⟩) hHeld ?_
        case yy42_31_5 => (intro W hx; have hz := zz0.trans hx; obtain ⟨j0, j1, j2, j3, j4, j5⟩ := cells6 ((hz.block _ (blk_lt hR9.row)).trans hR9.row); go_simp; try with_reducible rfl)
        simp only [Act.put, List.setIfInBounds_toArray, List.set_cons_zero, List.set_cons_succ]
        refine wpAnyH_ready (rs := [1]) (by kernel_rfl) (by simp) (AllReadyH.cons rfl (fun K hK => ?_) AllReadyH.nil)
        go_simp
        go_wp2_with (go_at_call 19; (refine (locked_cn _ _ _ _ (T6.L.ext zz0)).mono ?_); rintro e w9 ⟨rfl, rfl⟩)
        refine hK.out _ _ hHeld (fun hHeld => ?_)
        clear hK K
        refine wpAnyH_take (i := 6) (oi := { dst := some 150, op := Op.binOp BinOp.neq 5 (Operand.tmp 145) (Operand.tmp 149) 5, type := 4, pos := "law.go:75", after := #[{ on := 1, ground := Ground.data }, { on := 5, ground := Ground.data }], guard := none }) (v := ?vv43_31_6) rfl (by kernel_rfl) (by kernel_rfl) (by kernel_rfl) (fun _ _ _ h => h) (Or.inl ⟨by rfl, ?yy43_31_6⟩) hHeld ?_
        case yy43_31_6 => (intro W hx; go_simp; try with_reducible rfl)
        simp only [Act.put, List.setIfInBounds_toArray, List.set_cons_zero, List.set_cons_succ]
        refine wpAnyH_done (by kernel_rfl) ?_ _
        have zend := zz0.trans hHeld
        go_wp2
        go_roundw
        case rel => exact ⟨k + 1, _, by go_num, by omega, _, _, T6.ext zend⟩
        case measure => simp [intOf]; omega
      · go_upto_region 14 with (fail)
        have xw4 := xw.trans x4
        go_upto_region 15 with (go_at_call 12; (refine (seed_any gl s F 1 _ _ _ _ y.bs _ ry (fun h0 ad e hf => by have := hyA ad e h0; have := (T4.lowF _ hf).1; omega) (le_max (by omega)) HYO.out.r T4.L).mono ?_); rintro e w5 ⟨A5, c5, F5, rfl, L5, k5, r5, l5, m5, n5, q5⟩; have R5 := T4.R.kept k5 (fun i hg hf => T4.dis i hf hg); have ka5 := k5.blk k4 (fun hf => by have := hFb _ hf; omega); have ry5 := HYO.out.rd.ext (xw4.kept k5 (fun i hf => (T4.lowF i hf).1)); clear f0 f1 f2 f3 f4; obtain ⟨f0, f1, f2, f3, f4⟩ := cells5 ka5)
        go_upto_region 16 with (go_at_call 13; (refine (rseed_any gr s G 1 _ _ _ _ y.bs _ ry5 (fun h0 ad e hg => by have := hyA ad e h0; have := (T4.lowG _ hg).1; omega) (le_max (by omega)) R5).mono ?_); rintro e w6 ⟨A6, c6, G6, rfl, R6, k6, r6, l6, m6, n6⟩)
        have T6 := T4.next (fun b e => by have := HV.out b e; have := x4.size; omega) xw4.size k5 L5 n5 k6 R6 n6
        have s1 := str (c := c5) (r5.kept k6 (fun ad e hG => by have := hGb _ hG; have := (q5 ad e).1; have := x4.size; omega))
        have s2 := str (c := c6) r6
        go_upto_region 31 with (fail)
        obtain ⟨sA9, sc9, kA9, kc9, hR9⟩ := T6.R
        refine wp_region_held_drew (S := Ext w6) (by kernel_rfl) ((Ext.refl _).drew) (fun hHeld => ?_)
        obtain ⟨wD44, hwD⟩ : ∃ V, V = World.drew w6 := ⟨_, rfl⟩
        rw [← hwD]
        clear hHeld
        have zz0 : Ext w6 wD44 := by rw [hwD]; exact (Ext.refl _).drew
        clear hwD
        refine wpAnyH_imp (S' := Ext wD44) (fun W h => Ext.trans zz0 h) _ _ _ _ ?_
        have hHeld := Ext.refl wD44
        refine wpAnyH_take (i := 0) (oi := { dst := some 144, op := Op.move (Operand.tmp 6), type := 24, pos := "law.go:75", after := #[], guard := none }) (v := ?vv45_31_0) rfl (by kernel_rfl) (by kernel_rfl) (by kernel_rfl) (fun _ _ _ h => h) (Or.inl ⟨by rfl, ?yy45_31_0⟩) hHeld ?_
        case yy45_31_0 => (intro W hx; go_simp; try with_reducible rfl)
        simp only [Act.put, List.setIfInBounds_toArray, List.set_cons_zero, List.set_cons_succ]
        refine wpAnyH_take (i := 2) (oi := { dst := some 146, op := Op.move (Operand.tmp 7), type := 26, pos := "law.go:75", after := #[], guard := none }) (v := ?vv46_31_2) rfl (by kernel_rfl) (by kernel_rfl) (by kernel_rfl) (fun _ _ _ h => h) (Or.inl ⟨by rfl, ?yy46_31_2⟩) hHeld ?_
        case yy46_31_2 => (intro W hx; go_simp; try with_reducible rfl)
        simp only [Act.put, List.setIfInBounds_toArray, List.set_cons_zero, List.set_cons_succ]
        refine wpAnyH_take (i := 3) (oi := { dst := some 147, op := Op.nilCheck (Operand.tmp 146), type := 0, pos := "law.go:75", after := #[{ on := 2, ground := Ground.data }], guard := none }) (v := ?vv47_31_3) rfl (by kernel_rfl) (by kernel_rfl) (by kernel_rfl) (fun _ _ _ h => h) (Or.inl ⟨by rfl, ?yy47_31_3⟩) hHeld ?_
        case yy47_31_3 => (intro W hx; go_simp; try with_reducible rfl)
        simp only [Act.put, List.setIfInBounds_toArray, List.set_cons_zero, List.set_cons_succ]
        refine wpAnyH_take (i := 4) (oi := { dst := some 148, op := Op.fieldAddr 38 (Operand.tmp 147) 1, type := 0, pos := "law.go:75", after := #[{ on := 3, ground := Ground.data }], guard := none }) (v := ?vv48_31_4) rfl (by kernel_rfl) (by kernel_rfl) (by kernel_rfl) (fun _ _ _ h => h) (Or.inl ⟨by rfl, ?yy48_31_4⟩) hHeld ?_
        case yy48_31_4 => (intro W hx; go_simp; try with_reducible rfl)
        simp only [Act.put, List.setIfInBounds_toArray, List.set_cons_zero, List.set_cons_succ]
        refine wpAnyH_take (i := 5) (oi := { dst := some 149, op := Op.load 5 (Operand.tmp 148), type := 5, pos := "law.go:75", after := #[{ on := 4, ground := Ground.data }], guard := none }) (v := ?vv49_31_5) rfl (by kernel_rfl) (by kernel_rfl) (by kernel_rfl) (fun _ _ _ h => h) (Or.inl ⟨by rfl, ?yy49_31_5⟩) hHeld ?_
        case yy49_31_5 => (intro W hx; have hz := zz0.trans hx; obtain ⟨j0, j1, j2, j3, j4, j5⟩ := cells6 ((hz.block _ (blk_lt hR9.row)).trans hR9.row); go_simp; try with_reducible rfl)
        simp only [Act.put, List.setIfInBounds_toArray, List.set_cons_zero, List.set_cons_succ]
        refine wpAnyH_ready (rs := [1]) (by kernel_rfl) (by simp) (AllReadyH.cons rfl (fun K hK => ?_) AllReadyH.nil)
        go_simp
        go_wp2_with (go_at_call 19; (refine (locked_cn _ _ _ _ (T6.L.ext zz0)).mono ?_); rintro e w9 ⟨rfl, rfl⟩)
        refine hK.out _ _ hHeld (fun hHeld => ?_)
        clear hK K
        refine wpAnyH_take (i := 6) (oi := { dst := some 150, op := Op.binOp BinOp.neq 5 (Operand.tmp 145) (Operand.tmp 149) 5, type := 4, pos := "law.go:75", after := #[{ on := 1, ground := Ground.data }, { on := 5, ground := Ground.data }], guard := none }) (v := ?vv50_31_6) rfl (by kernel_rfl) (by kernel_rfl) (by kernel_rfl) (fun _ _ _ h => h) (Or.inl ⟨by rfl, ?yy50_31_6⟩) hHeld ?_
        case yy50_31_6 => (intro W hx; go_simp; try with_reducible rfl)
        simp only [Act.put, List.setIfInBounds_toArray, List.set_cons_zero, List.set_cons_succ]
        refine wpAnyH_done (by kernel_rfl) ?_ _
        have zend := zz0.trans hHeld
        go_wp2
        go_roundw
        case rel => exact ⟨k + 1, _, by go_num, by omega, _, _, T6.ext zend⟩
        case measure => simp [intOf]; omega
    · obtain rfl : k = m := by omega
      have hb4 : Byts [115, 101, 101, 100] := by intro b hb; simp at hb; omega
      have HT := Lib.hid T
      clear T
      go_upto_region 34 with (fail)
      refine wp_region_held_drew (S := Ext wr) (by kernel_rfl) ((Ext.refl _).drew) (fun hHeld => ?_)
      obtain ⟨wD, hwD⟩ : ∃ V, V = World.drew wr := ⟨_, rfl⟩
      rw [← hwD]
      clear hHeld
      have zw : Ext wr wD := by rw [hwD]; exact (Ext.refl _).drew
      clear hwD
      refine wpAnyH_imp (S' := Ext wD) (fun W h => Ext.trans zw h) _ _ _ _ ?_
      have hHeld := Ext.refl wD
      have zc := Ext.refl wD
      refine wpAnyH_take (i := 0) (oi := { dst := some 152, op := Op.move (Operand.tmp 5), type := 4, pos := "law.go:79", after := #[], guard := none }) (v := ?ww1_0) rfl (by kernel_rfl) (by kernel_rfl) (by kernel_rfl) (fun _ _ _ h => h) (Or.inl ⟨by rfl, ?zz1_0⟩) hHeld ?_
      case zz1_0 => (intro W hx; go_simp; try with_reducible rfl)
      simp only [Act.put, List.setIfInBounds_toArray, List.set_cons_zero, List.set_cons_succ]
      refine wpAnyH_take (i := 1) (oi := { dst := some 153, op := Op.move (Operand.tmp 152), type := 4, pos := "law.go:79", after := #[{ on := 0, ground := Ground.data }], guard := none }) (v := ?ww2_1) rfl (by kernel_rfl) (by kernel_rfl) (by kernel_rfl) (fun _ _ _ h => h) (Or.inl ⟨by rfl, ?zz2_1⟩) hHeld ?_
      case zz2_1 => (intro W hx; go_simp; try with_reducible rfl)
      simp only [Act.put, List.setIfInBounds_toArray, List.set_cons_zero, List.set_cons_succ]
      refine wpAnyH_take (i := 4) (oi := { dst := some 156, op := Op.move (Operand.tmp 0), type := 5, pos := "law.go:79", after := #[{ on := 1, ground := Ground.guard }], guard := some (1, true) }) (v := ?ww3_4) rfl (by kernel_rfl) (by kernel_rfl) (by kernel_rfl) (fun _ _ _ h => h) (Or.inl ⟨by rfl, ?zz3_4⟩) hHeld ?_
      case zz3_4 => (intro W hx; go_simp; try with_reducible rfl)
      simp only [Act.put, List.setIfInBounds_toArray, List.set_cons_zero, List.set_cons_succ]
      refine wpAnyH_take (i := 9) (oi := { dst := some 161, op := Op.move (Operand.tmp 0), type := 5, pos := "law.go:79", after := #[{ on := 1, ground := Ground.guard }], guard := some (1, true) }) (v := ?ww4_9) rfl (by kernel_rfl) (by kernel_rfl) (by kernel_rfl) (fun _ _ _ h => h) (Or.inl ⟨by rfl, ?zz4_9⟩) hHeld ?_
      case zz4_9 => (intro W hx; go_simp; try with_reducible rfl)
      simp only [Act.put, List.setIfInBounds_toArray, List.set_cons_zero, List.set_cons_succ]
      refine wpAnyH_ready (rs := [2, 7]) (by kernel_rfl) (by simp) (AllReadyH.cons rfl (fun K hK => ?_) (AllReadyH.cons rfl (fun K hK => ?_) AllReadyH.nil))
      · have tok := True.intro
        go_simp
        obtain ⟨wq1, hw⟩ : ∃ V, V = World.alloc wD (.cells #[.int .u8 115, .int .u8 101, .int .u8 101, .int .u8 100] 5) := ⟨_, rfl⟩
        rw [← hw]
        obtain ⟨bA, hbA⟩ : ∃ q, q = (World.heap wD).size := ⟨_, rfl⟩
        rw [← hbA]
        have x : Ext wD wq1 := by rw [hw]; exact (Ext.refl _).alloc _
        have kA : (World.heap wq1)[bA]? = some (.cells #[.int .u8 115, .int .u8 101, .int .u8 101, .int .u8 100] 5) := by rw [hw, hbA]; exact heap_alloc_new _ _
        clear hw
        have gA : (World.heap wD).size ≤ bA := by rw [hbA]; exact zc.size
        clear hbA
        replace zc := zc.trans x
        refine hK.out _ _ zc (fun hHeld => ?_)
        clear hK K
        refine wpAnyH_ready (rs := [3, 7]) (by kernel_rfl) (by simp) (AllReadyH.cons rfl (fun K hK => ?_) (AllReadyH.cons rfl (fun K hK => ?_) AllReadyH.nil))
        · have tok := True.intro
          obtain ⟨wq2, hrun, xg, kk⟩ := conv_mark 4 4 kA
          go_simp
          replace zc := Ext.of_grown zc xg (fun k e => by injection e with e; omega)
          replace kA := kk
          clear hrun xg kk
          refine hK.out _ _ zc (fun hHeld => ?_)
          clear hK K
          refine wpAnyH_ready (rs := [5, 7]) (by kernel_rfl) (by simp) (AllReadyH.cons rfl (fun K hK => ?_) (AllReadyH.cons rfl (fun K hK => ?_) AllReadyH.nil))
          · have tok := True.intro
            go_simp
            have rL := rd_blk (cs := [115, 101, 101, 100]) kA hb4
            go_wp2_with (go_at_call 20; (refine (key_any _ 4 _ [115, 101, 101, 100] r _ rL (by decide) r0 r1).mono ?_); rintro e wq3 ⟨AA, rfl, x, rA, qA⟩)
            clear rL
            have qAA : ∀ ad, AA = some ad → some ad.block ≠ some bA := fun ad e h => by have h1 := qA ad e; have h2 := blk_lt kA; injection h with h; omega
            replace kA := (x.block _ (blk_lt kA)).trans kA
            replace zc := zc.trans x
            refine hK.out _ _ zc (fun hHeld => ?_)
            clear hK K
            refine wpAnyH_imp (S' := fun W => Ext wD W ∧ Rd W AA 4 (keyB r [115, 101, 101, 100])) (fun W h => h.1) _ _ _ _ ?_
            replace hHeld := And.intro hHeld rA
            refine wpAnyH_take (i := 6) (oi := { dst := some 158, op := Op.convert 29 9 (Operand.tmp 157), type := 9, pos := "law.go:79", after := #[{ on := 5, ground := Ground.data }, { on := 1, ground := Ground.guard }], guard := some (1, true) }) (v := ?ww5_6) rfl (by kernel_rfl) (by kernel_rfl) (by kernel_rfl) (fun _ _ _ h => h) (Or.inl ⟨by rfl, ?zz5_6⟩) hHeld ?_
            case zz5_6 => (intro W hx; have hs := str (c := 4) hx.2; go_simp; try with_reducible rfl)
            simp only [Act.put, List.setIfInBounds_toArray, List.set_cons_zero, List.set_cons_succ]
            refine wpAnyH_ready (rs := [7]) (by kernel_rfl) (by simp) (AllReadyH.cons rfl (fun K hK => ?_) AllReadyH.nil)
            go_simp
            obtain ⟨wq4, hw⟩ : ∃ V, V = World.alloc wq3 (.cells #[.int .u8 115, .int .u8 101, .int .u8 101, .int .u8 100] 5) := ⟨_, rfl⟩
            rw [← hw]
            obtain ⟨bB, hbB⟩ : ∃ q, q = (World.heap wq3).size := ⟨_, rfl⟩
            rw [← hbB]
            have x : Ext wq3 wq4 := by rw [hw]; exact (Ext.refl _).alloc _
            have kB : (World.heap wq4)[bB]? = some (.cells #[.int .u8 115, .int .u8 101, .int .u8 101, .int .u8 100] 5) := by rw [hw, hbB]; exact heap_alloc_new _ _
            clear hw
            have gB : (World.heap wD).size ≤ bB := by rw [hbB]; exact zc.size
            have nBA : bA < bB := by rw [hbB]; exact blk_lt kA
            replace kA := (x.block _ (blk_lt kA)).trans kA
            have qAB : ∀ ad, AA = some ad → some ad.block ≠ some bB := fun ad e h => by have h1 := rd_below rA ad e; injection h with h; omega
            replace rA := rA.ext x
            clear hbB
            replace zc := zc.trans x
            refine hK.out _ _ ⟨zc, rA⟩ (fun hHeld => ?_)
            clear hK K
            refine wpAnyH_ready (rs := [8]) (by kernel_rfl) (by simp) (AllReadyH.cons rfl (fun K hK => ?_) AllReadyH.nil)
            obtain ⟨wq5, hrun, xg, kk⟩ := conv_mark 4 4 kB
            go_simp
            replace kA := blk_grown kA xg (by omega)
            replace rA := rA.grown xg qAB
            replace zc := Ext.of_grown zc xg (fun k e => by injection e with e; omega)
            replace kB := kk
            clear hrun xg kk
            refine hK.out _ _ ⟨zc, rA⟩ (fun hHeld => ?_)
            clear hK K
            refine wpAnyH_ready (rs := [10]) (by kernel_rfl) (by simp) (AllReadyH.cons rfl (fun K hK => ?_) AllReadyH.nil)
            go_simp
            have rL := rd_blk (cs := [115, 101, 101, 100]) kB hb4
            go_wp2_with (go_at_call 16; (refine (rkey_any _ 4 _ [115, 101, 101, 100] r _ rL (by decide) r0 r1).mono ?_); rintro e wq6 ⟨AB, cB, rfl, lB, mB, x, rB, qB⟩)
            clear rL
            have qBA : ∀ ad, AB = some ad → some ad.block ≠ some bA := fun ad e h => by have h1 := qB ad e; have h2 := blk_lt kA; injection h with h; omega
            have qBB : ∀ ad, AB = some ad → some ad.block ≠ some bB := fun ad e h => by have h1 := qB ad e; have h2 := blk_lt kB; injection h with h; omega
            replace kA := (x.block _ (blk_lt kA)).trans kA
            replace kB := (x.block _ (blk_lt kB)).trans kB
            replace rA := rA.ext x
            replace zc := zc.trans x
            refine hK.out _ _ ⟨zc, rA⟩ (fun hHeld => ?_)
            clear hK K
            refine wpAnyH_imp (S' := fun W => (Ext wD W ∧ Rd W AA 4 (keyB r [115, 101, 101, 100])) ∧ Rd W AB 4 (keyB r [115, 101, 101, 100])) (fun W h => h.1) _ _ _ _ ?_
            replace hHeld := And.intro hHeld rB
            refine wpAnyH_take (i := 11) (oi := { dst := some 163, op := Op.convert 29 9 (Operand.tmp 162), type := 9, pos := "law.go:79", after := #[{ on := 10, ground := Ground.data }, { on := 1, ground := Ground.guard }], guard := some (1, true) }) (v := ?ww6_11) rfl (by kernel_rfl) (by kernel_rfl) (by kernel_rfl) (fun _ _ _ h => h) (Or.inl ⟨by rfl, ?zz6_11⟩) hHeld ?_
            case zz6_11 => (intro W hx; have hs := str (c := cB) hx.2; go_simp; try with_reducible rfl)
            simp only [Act.put, List.setIfInBounds_toArray, List.set_cons_zero, List.set_cons_succ]
            refine wpAnyH_take (i := 12) (oi := { dst := some 164, op := Op.binOp BinOp.eql 9 (Operand.tmp 158) (Operand.tmp 163) 9, type := 4, pos := "law.go:79", after := #[{ on := 6, ground := Ground.data }, { on := 11, ground := Ground.data }, { on := 1, ground := Ground.guard }], guard := some (1, true) }) (v := ?ww7_12) rfl (by kernel_rfl) (by kernel_rfl) (by kernel_rfl) (fun _ _ _ h => h) (Or.inl ⟨by rfl, ?zz7_12⟩) hHeld ?_
            case zz7_12 => (intro W hx; go_simp; try with_reducible rfl)
            simp only [Act.put, List.setIfInBounds_toArray, List.set_cons_zero, List.set_cons_succ]
            refine wpAnyH_take (i := 13) (oi := { dst := some 165, op := Op.pick (Operand.tmp 153) (Operand.tmp 164) (Operand.const (Value.bool false)), type := 4, pos := "law.go:79", after := #[{ on := 1, ground := Ground.data }, { on := 12, ground := Ground.data }], guard := none }) (v := ?ww8_13) rfl (by kernel_rfl) (by kernel_rfl) (by kernel_rfl) (fun _ _ _ h => h) (Or.inl ⟨by rfl, ?zz8_13⟩) hHeld ?_
            case zz8_13 => (intro W hx; go_simp; try with_reducible rfl)
            simp only [Act.put, List.setIfInBounds_toArray, List.set_cons_zero, List.set_cons_succ]
            refine wpAnyH_take (i := 14) (oi := { dst := some 4, op := Op.assign (Operand.tmp 165), type := 4, pos := "law.go:79", after := #[{ on := 13, ground := Ground.data }, { on := 10, ground := Ground.chain }, { on := 0, ground := Ground.phase }, { on := 1, ground := Ground.phase }, { on := 2, ground := Ground.phase }, { on := 3, ground := Ground.phase }, { on := 4, ground := Ground.phase }, { on := 5, ground := Ground.phase }, { on := 6, ground := Ground.phase }, { on := 7, ground := Ground.phase }, { on := 8, ground := Ground.phase }, { on := 9, ground := Ground.phase }, { on := 10, ground := Ground.phase }, { on := 11, ground := Ground.phase }, { on := 12, ground := Ground.phase }, { on := 13, ground := Ground.phase }], guard := none }) (v := ?ww9_14) rfl (by kernel_rfl) (by kernel_rfl) (by kernel_rfl) (fun _ _ _ h => h) (Or.inl ⟨by rfl, ?zz9_14⟩) hHeld ?_
            case zz9_14 => (intro W hx; go_simp; try with_reducible rfl)
            simp only [Act.put, List.setIfInBounds_toArray, List.set_cons_zero, List.set_cons_succ]
            refine wpAnyH_done (by kernel_rfl) ?_ _
            go_wp2
            go_ret
            exact ⟨by simp, xw.trans (zw.trans zc)⟩
          · have tok := True.intro
            go_simp
            obtain ⟨wq3, hw⟩ : ∃ V, V = World.alloc wq2 (.cells #[.int .u8 115, .int .u8 101, .int .u8 101, .int .u8 100] 5) := ⟨_, rfl⟩
            rw [← hw]
            obtain ⟨bB, hbB⟩ : ∃ q, q = (World.heap wq2).size := ⟨_, rfl⟩
            rw [← hbB]
            have x : Ext wq2 wq3 := by rw [hw]; exact (Ext.refl _).alloc _
            have kB : (World.heap wq3)[bB]? = some (.cells #[.int .u8 115, .int .u8 101, .int .u8 101, .int .u8 100] 5) := by rw [hw, hbB]; exact heap_alloc_new _ _
            clear hw
            have gB : (World.heap wD).size ≤ bB := by rw [hbB]; exact zc.size
            have nBA : bA < bB := by rw [hbB]; exact blk_lt kA
            replace kA := (x.block _ (blk_lt kA)).trans kA
            clear hbB
            replace zc := zc.trans x
            refine hK.out _ _ zc (fun hHeld => ?_)
            clear hK K
            refine wpAnyH_ready (rs := [5, 8]) (by kernel_rfl) (by simp) (AllReadyH.cons rfl (fun K hK => ?_) (AllReadyH.cons rfl (fun K hK => ?_) AllReadyH.nil))
            · have tok := True.intro
              go_simp
              have rL := rd_blk (cs := [115, 101, 101, 100]) kA hb4
              go_wp2_with (go_at_call 20; (refine (key_any _ 4 _ [115, 101, 101, 100] r _ rL (by decide) r0 r1).mono ?_); rintro e wq4 ⟨AA, rfl, x, rA, qA⟩)
              clear rL
              have qAA : ∀ ad, AA = some ad → some ad.block ≠ some bA := fun ad e h => by have h1 := qA ad e; have h2 := blk_lt kA; injection h with h; omega
              have qAB : ∀ ad, AA = some ad → some ad.block ≠ some bB := fun ad e h => by have h1 := qA ad e; have h2 := blk_lt kB; injection h with h; omega
              replace kA := (x.block _ (blk_lt kA)).trans kA
              replace kB := (x.block _ (blk_lt kB)).trans kB
              replace zc := zc.trans x
              refine hK.out _ _ zc (fun hHeld => ?_)
              clear hK K
              refine wpAnyH_imp (S' := fun W => Ext wD W ∧ Rd W AA 4 (keyB r [115, 101, 101, 100])) (fun W h => h.1) _ _ _ _ ?_
              replace hHeld := And.intro hHeld rA
              refine wpAnyH_take (i := 6) (oi := { dst := some 158, op := Op.convert 29 9 (Operand.tmp 157), type := 9, pos := "law.go:79", after := #[{ on := 5, ground := Ground.data }, { on := 1, ground := Ground.guard }], guard := some (1, true) }) (v := ?ww10_6) rfl (by kernel_rfl) (by kernel_rfl) (by kernel_rfl) (fun _ _ _ h => h) (Or.inl ⟨by rfl, ?zz10_6⟩) hHeld ?_
              case zz10_6 => (intro W hx; have hs := str (c := 4) hx.2; go_simp; try with_reducible rfl)
              simp only [Act.put, List.setIfInBounds_toArray, List.set_cons_zero, List.set_cons_succ]
              refine wpAnyH_ready (rs := [8]) (by kernel_rfl) (by simp) (AllReadyH.cons rfl (fun K hK => ?_) AllReadyH.nil)
              obtain ⟨wq5, hrun, xg, kk⟩ := conv_mark 4 4 kB
              go_simp
              replace kA := blk_grown kA xg (by omega)
              replace rA := rA.grown xg qAB
              replace zc := Ext.of_grown zc xg (fun k e => by injection e with e; omega)
              replace kB := kk
              clear hrun xg kk
              refine hK.out _ _ ⟨zc, rA⟩ (fun hHeld => ?_)
              clear hK K
              refine wpAnyH_ready (rs := [10]) (by kernel_rfl) (by simp) (AllReadyH.cons rfl (fun K hK => ?_) AllReadyH.nil)
              go_simp
              have rL := rd_blk (cs := [115, 101, 101, 100]) kB hb4
              go_wp2_with (go_at_call 16; (refine (rkey_any _ 4 _ [115, 101, 101, 100] r _ rL (by decide) r0 r1).mono ?_); rintro e wq6 ⟨AB, cB, rfl, lB, mB, x, rB, qB⟩)
              clear rL
              have qBA : ∀ ad, AB = some ad → some ad.block ≠ some bA := fun ad e h => by have h1 := qB ad e; have h2 := blk_lt kA; injection h with h; omega
              have qBB : ∀ ad, AB = some ad → some ad.block ≠ some bB := fun ad e h => by have h1 := qB ad e; have h2 := blk_lt kB; injection h with h; omega
              replace kA := (x.block _ (blk_lt kA)).trans kA
              replace kB := (x.block _ (blk_lt kB)).trans kB
              replace rA := rA.ext x
              replace zc := zc.trans x
              refine hK.out _ _ ⟨zc, rA⟩ (fun hHeld => ?_)
              clear hK K
              refine wpAnyH_imp (S' := fun W => (Ext wD W ∧ Rd W AA 4 (keyB r [115, 101, 101, 100])) ∧ Rd W AB 4 (keyB r [115, 101, 101, 100])) (fun W h => h.1) _ _ _ _ ?_
              replace hHeld := And.intro hHeld rB
              refine wpAnyH_take (i := 11) (oi := { dst := some 163, op := Op.convert 29 9 (Operand.tmp 162), type := 9, pos := "law.go:79", after := #[{ on := 10, ground := Ground.data }, { on := 1, ground := Ground.guard }], guard := some (1, true) }) (v := ?ww11_11) rfl (by kernel_rfl) (by kernel_rfl) (by kernel_rfl) (fun _ _ _ h => h) (Or.inl ⟨by rfl, ?zz11_11⟩) hHeld ?_
              case zz11_11 => (intro W hx; have hs := str (c := cB) hx.2; go_simp; try with_reducible rfl)
              simp only [Act.put, List.setIfInBounds_toArray, List.set_cons_zero, List.set_cons_succ]
              refine wpAnyH_take (i := 12) (oi := { dst := some 164, op := Op.binOp BinOp.eql 9 (Operand.tmp 158) (Operand.tmp 163) 9, type := 4, pos := "law.go:79", after := #[{ on := 6, ground := Ground.data }, { on := 11, ground := Ground.data }, { on := 1, ground := Ground.guard }], guard := some (1, true) }) (v := ?ww12_12) rfl (by kernel_rfl) (by kernel_rfl) (by kernel_rfl) (fun _ _ _ h => h) (Or.inl ⟨by rfl, ?zz12_12⟩) hHeld ?_
              case zz12_12 => (intro W hx; go_simp; try with_reducible rfl)
              simp only [Act.put, List.setIfInBounds_toArray, List.set_cons_zero, List.set_cons_succ]
              refine wpAnyH_take (i := 13) (oi := { dst := some 165, op := Op.pick (Operand.tmp 153) (Operand.tmp 164) (Operand.const (Value.bool false)), type := 4, pos := "law.go:79", after := #[{ on := 1, ground := Ground.data }, { on := 12, ground := Ground.data }], guard := none }) (v := ?ww13_13) rfl (by kernel_rfl) (by kernel_rfl) (by kernel_rfl) (fun _ _ _ h => h) (Or.inl ⟨by rfl, ?zz13_13⟩) hHeld ?_
              case zz13_13 => (intro W hx; go_simp; try with_reducible rfl)
              simp only [Act.put, List.setIfInBounds_toArray, List.set_cons_zero, List.set_cons_succ]
              refine wpAnyH_take (i := 14) (oi := { dst := some 4, op := Op.assign (Operand.tmp 165), type := 4, pos := "law.go:79", after := #[{ on := 13, ground := Ground.data }, { on := 10, ground := Ground.chain }, { on := 0, ground := Ground.phase }, { on := 1, ground := Ground.phase }, { on := 2, ground := Ground.phase }, { on := 3, ground := Ground.phase }, { on := 4, ground := Ground.phase }, { on := 5, ground := Ground.phase }, { on := 6, ground := Ground.phase }, { on := 7, ground := Ground.phase }, { on := 8, ground := Ground.phase }, { on := 9, ground := Ground.phase }, { on := 10, ground := Ground.phase }, { on := 11, ground := Ground.phase }, { on := 12, ground := Ground.phase }, { on := 13, ground := Ground.phase }], guard := none }) (v := ?ww14_14) rfl (by kernel_rfl) (by kernel_rfl) (by kernel_rfl) (fun _ _ _ h => h) (Or.inl ⟨by rfl, ?zz14_14⟩) hHeld ?_
              case zz14_14 => (intro W hx; go_simp; try with_reducible rfl)
              simp only [Act.put, List.setIfInBounds_toArray, List.set_cons_zero, List.set_cons_succ]
              refine wpAnyH_done (by kernel_rfl) ?_ _
              go_wp2
              go_ret
              exact ⟨by simp, xw.trans (zw.trans zc)⟩
            · have tok := True.intro
              obtain ⟨wq4, hrun, xg, kk⟩ := conv_mark 4 4 kB
              go_simp
              replace kA := blk_grown kA xg (by omega)
              replace zc := Ext.of_grown zc xg (fun k e => by injection e with e; omega)
              replace kB := kk
              clear hrun xg kk
              refine hK.out _ _ zc (fun hHeld => ?_)
              clear hK K
              refine wpAnyH_ready (rs := [5]) (by kernel_rfl) (by simp) (AllReadyH.cons rfl (fun K hK => ?_) AllReadyH.nil)
              go_simp
              have rL := rd_blk (cs := [115, 101, 101, 100]) kA hb4
              go_wp2_with (go_at_call 20; (refine (key_any _ 4 _ [115, 101, 101, 100] r _ rL (by decide) r0 r1).mono ?_); rintro e wq5 ⟨AA, rfl, x, rA, qA⟩)
              clear rL
              have qAA : ∀ ad, AA = some ad → some ad.block ≠ some bA := fun ad e h => by have h1 := qA ad e; have h2 := blk_lt kA; injection h with h; omega
              have qAB : ∀ ad, AA = some ad → some ad.block ≠ some bB := fun ad e h => by have h1 := qA ad e; have h2 := blk_lt kB; injection h with h; omega
              replace kA := (x.block _ (blk_lt kA)).trans kA
              replace kB := (x.block _ (blk_lt kB)).trans kB
              replace zc := zc.trans x
              refine hK.out _ _ zc (fun hHeld => ?_)
              clear hK K
              refine wpAnyH_imp (S' := fun W => Ext wD W ∧ Rd W AA 4 (keyB r [115, 101, 101, 100])) (fun W h => h.1) _ _ _ _ ?_
              replace hHeld := And.intro hHeld rA
              refine wpAnyH_take (i := 6) (oi := { dst := some 158, op := Op.convert 29 9 (Operand.tmp 157), type := 9, pos := "law.go:79", after := #[{ on := 5, ground := Ground.data }, { on := 1, ground := Ground.guard }], guard := some (1, true) }) (v := ?ww15_6) rfl (by kernel_rfl) (by kernel_rfl) (by kernel_rfl) (fun _ _ _ h => h) (Or.inl ⟨by rfl, ?zz15_6⟩) hHeld ?_
              case zz15_6 => (intro W hx; have hs := str (c := 4) hx.2; go_simp; try with_reducible rfl)
              simp only [Act.put, List.setIfInBounds_toArray, List.set_cons_zero, List.set_cons_succ]
              refine wpAnyH_ready (rs := [10]) (by kernel_rfl) (by simp) (AllReadyH.cons rfl (fun K hK => ?_) AllReadyH.nil)
              go_simp
              have rL := rd_blk (cs := [115, 101, 101, 100]) kB hb4
              go_wp2_with (go_at_call 16; (refine (rkey_any _ 4 _ [115, 101, 101, 100] r _ rL (by decide) r0 r1).mono ?_); rintro e wq6 ⟨AB, cB, rfl, lB, mB, x, rB, qB⟩)
              clear rL
              have qBA : ∀ ad, AB = some ad → some ad.block ≠ some bA := fun ad e h => by have h1 := qB ad e; have h2 := blk_lt kA; injection h with h; omega
              have qBB : ∀ ad, AB = some ad → some ad.block ≠ some bB := fun ad e h => by have h1 := qB ad e; have h2 := blk_lt kB; injection h with h; omega
              replace kA := (x.block _ (blk_lt kA)).trans kA
              replace kB := (x.block _ (blk_lt kB)).trans kB
              replace rA := rA.ext x
              replace zc := zc.trans x
              refine hK.out _ _ ⟨zc, rA⟩ (fun hHeld => ?_)
              clear hK K
              refine wpAnyH_imp (S' := fun W => (Ext wD W ∧ Rd W AA 4 (keyB r [115, 101, 101, 100])) ∧ Rd W AB 4 (keyB r [115, 101, 101, 100])) (fun W h => h.1) _ _ _ _ ?_
              replace hHeld := And.intro hHeld rB
              refine wpAnyH_take (i := 11) (oi := { dst := some 163, op := Op.convert 29 9 (Operand.tmp 162), type := 9, pos := "law.go:79", after := #[{ on := 10, ground := Ground.data }, { on := 1, ground := Ground.guard }], guard := some (1, true) }) (v := ?ww16_11) rfl (by kernel_rfl) (by kernel_rfl) (by kernel_rfl) (fun _ _ _ h => h) (Or.inl ⟨by rfl, ?zz16_11⟩) hHeld ?_
              case zz16_11 => (intro W hx; have hs := str (c := cB) hx.2; go_simp; try with_reducible rfl)
              simp only [Act.put, List.setIfInBounds_toArray, List.set_cons_zero, List.set_cons_succ]
              refine wpAnyH_take (i := 12) (oi := { dst := some 164, op := Op.binOp BinOp.eql 9 (Operand.tmp 158) (Operand.tmp 163) 9, type := 4, pos := "law.go:79", after := #[{ on := 6, ground := Ground.data }, { on := 11, ground := Ground.data }, { on := 1, ground := Ground.guard }], guard := some (1, true) }) (v := ?ww17_12) rfl (by kernel_rfl) (by kernel_rfl) (by kernel_rfl) (fun _ _ _ h => h) (Or.inl ⟨by rfl, ?zz17_12⟩) hHeld ?_
              case zz17_12 => (intro W hx; go_simp; try with_reducible rfl)
              simp only [Act.put, List.setIfInBounds_toArray, List.set_cons_zero, List.set_cons_succ]
              refine wpAnyH_take (i := 13) (oi := { dst := some 165, op := Op.pick (Operand.tmp 153) (Operand.tmp 164) (Operand.const (Value.bool false)), type := 4, pos := "law.go:79", after := #[{ on := 1, ground := Ground.data }, { on := 12, ground := Ground.data }], guard := none }) (v := ?ww18_13) rfl (by kernel_rfl) (by kernel_rfl) (by kernel_rfl) (fun _ _ _ h => h) (Or.inl ⟨by rfl, ?zz18_13⟩) hHeld ?_
              case zz18_13 => (intro W hx; go_simp; try with_reducible rfl)
              simp only [Act.put, List.setIfInBounds_toArray, List.set_cons_zero, List.set_cons_succ]
              refine wpAnyH_take (i := 14) (oi := { dst := some 4, op := Op.assign (Operand.tmp 165), type := 4, pos := "law.go:79", after := #[{ on := 13, ground := Ground.data }, { on := 10, ground := Ground.chain }, { on := 0, ground := Ground.phase }, { on := 1, ground := Ground.phase }, { on := 2, ground := Ground.phase }, { on := 3, ground := Ground.phase }, { on := 4, ground := Ground.phase }, { on := 5, ground := Ground.phase }, { on := 6, ground := Ground.phase }, { on := 7, ground := Ground.phase }, { on := 8, ground := Ground.phase }, { on := 9, ground := Ground.phase }, { on := 10, ground := Ground.phase }, { on := 11, ground := Ground.phase }, { on := 12, ground := Ground.phase }, { on := 13, ground := Ground.phase }], guard := none }) (v := ?ww19_14) rfl (by kernel_rfl) (by kernel_rfl) (by kernel_rfl) (fun _ _ _ h => h) (Or.inl ⟨by rfl, ?zz19_14⟩) hHeld ?_
              case zz19_14 => (intro W hx; go_simp; try with_reducible rfl)
              simp only [Act.put, List.setIfInBounds_toArray, List.set_cons_zero, List.set_cons_succ]
              refine wpAnyH_done (by kernel_rfl) ?_ _
              go_wp2
              go_ret
              exact ⟨by simp, xw.trans (zw.trans zc)⟩
        · have tok := True.intro
          go_simp
          obtain ⟨wq2, hw⟩ : ∃ V, V = World.alloc wq1 (.cells #[.int .u8 115, .int .u8 101, .int .u8 101, .int .u8 100] 5) := ⟨_, rfl⟩
          rw [← hw]
          obtain ⟨bB, hbB⟩ : ∃ q, q = (World.heap wq1).size := ⟨_, rfl⟩
          rw [← hbB]
          have x : Ext wq1 wq2 := by rw [hw]; exact (Ext.refl _).alloc _
          have kB : (World.heap wq2)[bB]? = some (.cells #[.int .u8 115, .int .u8 101, .int .u8 101, .int .u8 100] 5) := by rw [hw, hbB]; exact heap_alloc_new _ _
          clear hw
          have gB : (World.heap wD).size ≤ bB := by rw [hbB]; exact zc.size
          have nBA : bA < bB := by rw [hbB]; exact blk_lt kA
          replace kA := (x.block _ (blk_lt kA)).trans kA
          clear hbB
          replace zc := zc.trans x
          refine hK.out _ _ zc (fun hHeld => ?_)
          clear hK K
          refine wpAnyH_ready (rs := [3, 8]) (by kernel_rfl) (by simp) (AllReadyH.cons rfl (fun K hK => ?_) (AllReadyH.cons rfl (fun K hK => ?_) AllReadyH.nil))
          · have tok := True.intro
            obtain ⟨wq3, hrun, xg, kk⟩ := conv_mark 4 4 kA
            go_simp
            replace kB := blk_grown kB xg (by omega)
            replace zc := Ext.of_grown zc xg (fun k e => by injection e with e; omega)
            replace kA := kk
            clear hrun xg kk
            refine hK.out _ _ zc (fun hHeld => ?_)
            clear hK K
            refine wpAnyH_ready (rs := [5, 8]) (by kernel_rfl) (by simp) (AllReadyH.cons rfl (fun K hK => ?_) (AllReadyH.cons rfl (fun K hK => ?_) AllReadyH.nil))
            · have tok := True.intro
              go_simp
              have rL := rd_blk (cs := [115, 101, 101, 100]) kA hb4
              go_wp2_with (go_at_call 20; (refine (key_any _ 4 _ [115, 101, 101, 100] r _ rL (by decide) r0 r1).mono ?_); rintro e wq4 ⟨AA, rfl, x, rA, qA⟩)
              clear rL
              have qAA : ∀ ad, AA = some ad → some ad.block ≠ some bA := fun ad e h => by have h1 := qA ad e; have h2 := blk_lt kA; injection h with h; omega
              have qAB : ∀ ad, AA = some ad → some ad.block ≠ some bB := fun ad e h => by have h1 := qA ad e; have h2 := blk_lt kB; injection h with h; omega
              replace kA := (x.block _ (blk_lt kA)).trans kA
              replace kB := (x.block _ (blk_lt kB)).trans kB
              replace zc := zc.trans x
              refine hK.out _ _ zc (fun hHeld => ?_)
              clear hK K
              refine wpAnyH_imp (S' := fun W => Ext wD W ∧ Rd W AA 4 (keyB r [115, 101, 101, 100])) (fun W h => h.1) _ _ _ _ ?_
              replace hHeld := And.intro hHeld rA
              refine wpAnyH_take (i := 6) (oi := { dst := some 158, op := Op.convert 29 9 (Operand.tmp 157), type := 9, pos := "law.go:79", after := #[{ on := 5, ground := Ground.data }, { on := 1, ground := Ground.guard }], guard := some (1, true) }) (v := ?ww20_6) rfl (by kernel_rfl) (by kernel_rfl) (by kernel_rfl) (fun _ _ _ h => h) (Or.inl ⟨by rfl, ?zz20_6⟩) hHeld ?_
              case zz20_6 => (intro W hx; have hs := str (c := 4) hx.2; go_simp; try with_reducible rfl)
              simp only [Act.put, List.setIfInBounds_toArray, List.set_cons_zero, List.set_cons_succ]
              refine wpAnyH_ready (rs := [8]) (by kernel_rfl) (by simp) (AllReadyH.cons rfl (fun K hK => ?_) AllReadyH.nil)
              obtain ⟨wq5, hrun, xg, kk⟩ := conv_mark 4 4 kB
              go_simp
              replace kA := blk_grown kA xg (by omega)
              replace rA := rA.grown xg qAB
              replace zc := Ext.of_grown zc xg (fun k e => by injection e with e; omega)
              replace kB := kk
              clear hrun xg kk
              refine hK.out _ _ ⟨zc, rA⟩ (fun hHeld => ?_)
              clear hK K
              refine wpAnyH_ready (rs := [10]) (by kernel_rfl) (by simp) (AllReadyH.cons rfl (fun K hK => ?_) AllReadyH.nil)
              go_simp
              have rL := rd_blk (cs := [115, 101, 101, 100]) kB hb4
              go_wp2_with (go_at_call 16; (refine (rkey_any _ 4 _ [115, 101, 101, 100] r _ rL (by decide) r0 r1).mono ?_); rintro e wq6 ⟨AB, cB, rfl, lB, mB, x, rB, qB⟩)
              clear rL
              have qBA : ∀ ad, AB = some ad → some ad.block ≠ some bA := fun ad e h => by have h1 := qB ad e; have h2 := blk_lt kA; injection h with h; omega
              have qBB : ∀ ad, AB = some ad → some ad.block ≠ some bB := fun ad e h => by have h1 := qB ad e; have h2 := blk_lt kB; injection h with h; omega
              replace kA := (x.block _ (blk_lt kA)).trans kA
              replace kB := (x.block _ (blk_lt kB)).trans kB
              replace rA := rA.ext x
              replace zc := zc.trans x
              refine hK.out _ _ ⟨zc, rA⟩ (fun hHeld => ?_)
              clear hK K
              refine wpAnyH_imp (S' := fun W => (Ext wD W ∧ Rd W AA 4 (keyB r [115, 101, 101, 100])) ∧ Rd W AB 4 (keyB r [115, 101, 101, 100])) (fun W h => h.1) _ _ _ _ ?_
              replace hHeld := And.intro hHeld rB
              refine wpAnyH_take (i := 11) (oi := { dst := some 163, op := Op.convert 29 9 (Operand.tmp 162), type := 9, pos := "law.go:79", after := #[{ on := 10, ground := Ground.data }, { on := 1, ground := Ground.guard }], guard := some (1, true) }) (v := ?ww21_11) rfl (by kernel_rfl) (by kernel_rfl) (by kernel_rfl) (fun _ _ _ h => h) (Or.inl ⟨by rfl, ?zz21_11⟩) hHeld ?_
              case zz21_11 => (intro W hx; have hs := str (c := cB) hx.2; go_simp; try with_reducible rfl)
              simp only [Act.put, List.setIfInBounds_toArray, List.set_cons_zero, List.set_cons_succ]
              refine wpAnyH_take (i := 12) (oi := { dst := some 164, op := Op.binOp BinOp.eql 9 (Operand.tmp 158) (Operand.tmp 163) 9, type := 4, pos := "law.go:79", after := #[{ on := 6, ground := Ground.data }, { on := 11, ground := Ground.data }, { on := 1, ground := Ground.guard }], guard := some (1, true) }) (v := ?ww22_12) rfl (by kernel_rfl) (by kernel_rfl) (by kernel_rfl) (fun _ _ _ h => h) (Or.inl ⟨by rfl, ?zz22_12⟩) hHeld ?_
              case zz22_12 => (intro W hx; go_simp; try with_reducible rfl)
              simp only [Act.put, List.setIfInBounds_toArray, List.set_cons_zero, List.set_cons_succ]
              refine wpAnyH_take (i := 13) (oi := { dst := some 165, op := Op.pick (Operand.tmp 153) (Operand.tmp 164) (Operand.const (Value.bool false)), type := 4, pos := "law.go:79", after := #[{ on := 1, ground := Ground.data }, { on := 12, ground := Ground.data }], guard := none }) (v := ?ww23_13) rfl (by kernel_rfl) (by kernel_rfl) (by kernel_rfl) (fun _ _ _ h => h) (Or.inl ⟨by rfl, ?zz23_13⟩) hHeld ?_
              case zz23_13 => (intro W hx; go_simp; try with_reducible rfl)
              simp only [Act.put, List.setIfInBounds_toArray, List.set_cons_zero, List.set_cons_succ]
              refine wpAnyH_take (i := 14) (oi := { dst := some 4, op := Op.assign (Operand.tmp 165), type := 4, pos := "law.go:79", after := #[{ on := 13, ground := Ground.data }, { on := 10, ground := Ground.chain }, { on := 0, ground := Ground.phase }, { on := 1, ground := Ground.phase }, { on := 2, ground := Ground.phase }, { on := 3, ground := Ground.phase }, { on := 4, ground := Ground.phase }, { on := 5, ground := Ground.phase }, { on := 6, ground := Ground.phase }, { on := 7, ground := Ground.phase }, { on := 8, ground := Ground.phase }, { on := 9, ground := Ground.phase }, { on := 10, ground := Ground.phase }, { on := 11, ground := Ground.phase }, { on := 12, ground := Ground.phase }, { on := 13, ground := Ground.phase }], guard := none }) (v := ?ww24_14) rfl (by kernel_rfl) (by kernel_rfl) (by kernel_rfl) (fun _ _ _ h => h) (Or.inl ⟨by rfl, ?zz24_14⟩) hHeld ?_
              case zz24_14 => (intro W hx; go_simp; try with_reducible rfl)
              simp only [Act.put, List.setIfInBounds_toArray, List.set_cons_zero, List.set_cons_succ]
              refine wpAnyH_done (by kernel_rfl) ?_ _
              go_wp2
              go_ret
              exact ⟨by simp, xw.trans (zw.trans zc)⟩
            · have tok := True.intro
              obtain ⟨wq4, hrun, xg, kk⟩ := conv_mark 4 4 kB
              go_simp
              replace kA := blk_grown kA xg (by omega)
              replace zc := Ext.of_grown zc xg (fun k e => by injection e with e; omega)
              replace kB := kk
              clear hrun xg kk
              refine hK.out _ _ zc (fun hHeld => ?_)
              clear hK K
              refine wpAnyH_ready (rs := [5]) (by kernel_rfl) (by simp) (AllReadyH.cons rfl (fun K hK => ?_) AllReadyH.nil)
              go_simp
              have rL := rd_blk (cs := [115, 101, 101, 100]) kA hb4
              go_wp2_with (go_at_call 20; (refine (key_any _ 4 _ [115, 101, 101, 100] r _ rL (by decide) r0 r1).mono ?_); rintro e wq5 ⟨AA, rfl, x, rA, qA⟩)
              clear rL
              have qAA : ∀ ad, AA = some ad → some ad.block ≠ some bA := fun ad e h => by have h1 := qA ad e; have h2 := blk_lt kA; injection h with h; omega
              have qAB : ∀ ad, AA = some ad → some ad.block ≠ some bB := fun ad e h => by have h1 := qA ad e; have h2 := blk_lt kB; injection h with h; omega
              replace kA := (x.block _ (blk_lt kA)).trans kA
              replace kB := (x.block _ (blk_lt kB)).trans kB
              replace zc := zc.trans x
              refine hK.out _ _ zc (fun hHeld => ?_)
              clear hK K
              refine wpAnyH_imp (S' := fun W => Ext wD W ∧ Rd W AA 4 (keyB r [115, 101, 101, 100])) (fun W h => h.1) _ _ _ _ ?_
              replace hHeld := And.intro hHeld rA
              refine wpAnyH_take (i := 6) (oi := { dst := some 158, op := Op.convert 29 9 (Operand.tmp 157), type := 9, pos := "law.go:79", after := #[{ on := 5, ground := Ground.data }, { on := 1, ground := Ground.guard }], guard := some (1, true) }) (v := ?ww25_6) rfl (by kernel_rfl) (by kernel_rfl) (by kernel_rfl) (fun _ _ _ h => h) (Or.inl ⟨by rfl, ?zz25_6⟩) hHeld ?_
              case zz25_6 => (intro W hx; have hs := str (c := 4) hx.2; go_simp; try with_reducible rfl)
              simp only [Act.put, List.setIfInBounds_toArray, List.set_cons_zero, List.set_cons_succ]
              refine wpAnyH_ready (rs := [10]) (by kernel_rfl) (by simp) (AllReadyH.cons rfl (fun K hK => ?_) AllReadyH.nil)
              go_simp
              have rL := rd_blk (cs := [115, 101, 101, 100]) kB hb4
              go_wp2_with (go_at_call 16; (refine (rkey_any _ 4 _ [115, 101, 101, 100] r _ rL (by decide) r0 r1).mono ?_); rintro e wq6 ⟨AB, cB, rfl, lB, mB, x, rB, qB⟩)
              clear rL
              have qBA : ∀ ad, AB = some ad → some ad.block ≠ some bA := fun ad e h => by have h1 := qB ad e; have h2 := blk_lt kA; injection h with h; omega
              have qBB : ∀ ad, AB = some ad → some ad.block ≠ some bB := fun ad e h => by have h1 := qB ad e; have h2 := blk_lt kB; injection h with h; omega
              replace kA := (x.block _ (blk_lt kA)).trans kA
              replace kB := (x.block _ (blk_lt kB)).trans kB
              replace rA := rA.ext x
              replace zc := zc.trans x
              refine hK.out _ _ ⟨zc, rA⟩ (fun hHeld => ?_)
              clear hK K
              refine wpAnyH_imp (S' := fun W => (Ext wD W ∧ Rd W AA 4 (keyB r [115, 101, 101, 100])) ∧ Rd W AB 4 (keyB r [115, 101, 101, 100])) (fun W h => h.1) _ _ _ _ ?_
              replace hHeld := And.intro hHeld rB
              refine wpAnyH_take (i := 11) (oi := { dst := some 163, op := Op.convert 29 9 (Operand.tmp 162), type := 9, pos := "law.go:79", after := #[{ on := 10, ground := Ground.data }, { on := 1, ground := Ground.guard }], guard := some (1, true) }) (v := ?ww26_11) rfl (by kernel_rfl) (by kernel_rfl) (by kernel_rfl) (fun _ _ _ h => h) (Or.inl ⟨by rfl, ?zz26_11⟩) hHeld ?_
              case zz26_11 => (intro W hx; have hs := str (c := cB) hx.2; go_simp; try with_reducible rfl)
              simp only [Act.put, List.setIfInBounds_toArray, List.set_cons_zero, List.set_cons_succ]
              refine wpAnyH_take (i := 12) (oi := { dst := some 164, op := Op.binOp BinOp.eql 9 (Operand.tmp 158) (Operand.tmp 163) 9, type := 4, pos := "law.go:79", after := #[{ on := 6, ground := Ground.data }, { on := 11, ground := Ground.data }, { on := 1, ground := Ground.guard }], guard := some (1, true) }) (v := ?ww27_12) rfl (by kernel_rfl) (by kernel_rfl) (by kernel_rfl) (fun _ _ _ h => h) (Or.inl ⟨by rfl, ?zz27_12⟩) hHeld ?_
              case zz27_12 => (intro W hx; go_simp; try with_reducible rfl)
              simp only [Act.put, List.setIfInBounds_toArray, List.set_cons_zero, List.set_cons_succ]
              refine wpAnyH_take (i := 13) (oi := { dst := some 165, op := Op.pick (Operand.tmp 153) (Operand.tmp 164) (Operand.const (Value.bool false)), type := 4, pos := "law.go:79", after := #[{ on := 1, ground := Ground.data }, { on := 12, ground := Ground.data }], guard := none }) (v := ?ww28_13) rfl (by kernel_rfl) (by kernel_rfl) (by kernel_rfl) (fun _ _ _ h => h) (Or.inl ⟨by rfl, ?zz28_13⟩) hHeld ?_
              case zz28_13 => (intro W hx; go_simp; try with_reducible rfl)
              simp only [Act.put, List.setIfInBounds_toArray, List.set_cons_zero, List.set_cons_succ]
              refine wpAnyH_take (i := 14) (oi := { dst := some 4, op := Op.assign (Operand.tmp 165), type := 4, pos := "law.go:79", after := #[{ on := 13, ground := Ground.data }, { on := 10, ground := Ground.chain }, { on := 0, ground := Ground.phase }, { on := 1, ground := Ground.phase }, { on := 2, ground := Ground.phase }, { on := 3, ground := Ground.phase }, { on := 4, ground := Ground.phase }, { on := 5, ground := Ground.phase }, { on := 6, ground := Ground.phase }, { on := 7, ground := Ground.phase }, { on := 8, ground := Ground.phase }, { on := 9, ground := Ground.phase }, { on := 10, ground := Ground.phase }, { on := 11, ground := Ground.phase }, { on := 12, ground := Ground.phase }, { on := 13, ground := Ground.phase }], guard := none }) (v := ?ww29_14) rfl (by kernel_rfl) (by kernel_rfl) (by kernel_rfl) (fun _ _ _ h => h) (Or.inl ⟨by rfl, ?zz29_14⟩) hHeld ?_
              case zz29_14 => (intro W hx; go_simp; try with_reducible rfl)
              simp only [Act.put, List.setIfInBounds_toArray, List.set_cons_zero, List.set_cons_succ]
              refine wpAnyH_done (by kernel_rfl) ?_ _
              go_wp2
              go_ret
              exact ⟨by simp, xw.trans (zw.trans zc)⟩
          · have tok := True.intro
            obtain ⟨wq3, hrun, xg, kk⟩ := conv_mark 4 4 kB
            go_simp
            replace kA := blk_grown kA xg (by omega)
            replace zc := Ext.of_grown zc xg (fun k e => by injection e with e; omega)
            replace kB := kk
            clear hrun xg kk
            refine hK.out _ _ zc (fun hHeld => ?_)
            clear hK K
            refine wpAnyH_ready (rs := [3]) (by kernel_rfl) (by simp) (AllReadyH.cons rfl (fun K hK => ?_) AllReadyH.nil)
            obtain ⟨wq4, hrun, xg, kk⟩ := conv_mark 4 4 kA
            go_simp
            replace kB := blk_grown kB xg (by omega)
            replace zc := Ext.of_grown zc xg (fun k e => by injection e with e; omega)
            replace kA := kk
            clear hrun xg kk
            refine hK.out _ _ zc (fun hHeld => ?_)
            clear hK K
            refine wpAnyH_ready (rs := [5]) (by kernel_rfl) (by simp) (AllReadyH.cons rfl (fun K hK => ?_) AllReadyH.nil)
            go_simp
            have rL := rd_blk (cs := [115, 101, 101, 100]) kA hb4
            go_wp2_with (go_at_call 20; (refine (key_any _ 4 _ [115, 101, 101, 100] r _ rL (by decide) r0 r1).mono ?_); rintro e wq5 ⟨AA, rfl, x, rA, qA⟩)
            clear rL
            have qAA : ∀ ad, AA = some ad → some ad.block ≠ some bA := fun ad e h => by have h1 := qA ad e; have h2 := blk_lt kA; injection h with h; omega
            have qAB : ∀ ad, AA = some ad → some ad.block ≠ some bB := fun ad e h => by have h1 := qA ad e; have h2 := blk_lt kB; injection h with h; omega
            replace kA := (x.block _ (blk_lt kA)).trans kA
            replace kB := (x.block _ (blk_lt kB)).trans kB
            replace zc := zc.trans x
            refine hK.out _ _ zc (fun hHeld => ?_)
            clear hK K
            refine wpAnyH_imp (S' := fun W => Ext wD W ∧ Rd W AA 4 (keyB r [115, 101, 101, 100])) (fun W h => h.1) _ _ _ _ ?_
            replace hHeld := And.intro hHeld rA
            refine wpAnyH_take (i := 6) (oi := { dst := some 158, op := Op.convert 29 9 (Operand.tmp 157), type := 9, pos := "law.go:79", after := #[{ on := 5, ground := Ground.data }, { on := 1, ground := Ground.guard }], guard := some (1, true) }) (v := ?ww30_6) rfl (by kernel_rfl) (by kernel_rfl) (by kernel_rfl) (fun _ _ _ h => h) (Or.inl ⟨by rfl, ?zz30_6⟩) hHeld ?_
            case zz30_6 => (intro W hx; have hs := str (c := 4) hx.2; go_simp; try with_reducible rfl)
            simp only [Act.put, List.setIfInBounds_toArray, List.set_cons_zero, List.set_cons_succ]
            refine wpAnyH_ready (rs := [10]) (by kernel_rfl) (by simp) (AllReadyH.cons rfl (fun K hK => ?_) AllReadyH.nil)
            go_simp
            have rL := rd_blk (cs := [115, 101, 101, 100]) kB hb4
            go_wp2_with (go_at_call 16; (refine (rkey_any _ 4 _ [115, 101, 101, 100] r _ rL (by decide) r0 r1).mono ?_); rintro e wq6 ⟨AB, cB, rfl, lB, mB, x, rB, qB⟩)
            clear rL
            have qBA : ∀ ad, AB = some ad → some ad.block ≠ some bA := fun ad e h => by have h1 := qB ad e; have h2 := blk_lt kA; injection h with h; omega
            have qBB : ∀ ad, AB = some ad → some ad.block ≠ some bB := fun ad e h => by have h1 := qB ad e; have h2 := blk_lt kB; injection h with h; omega
            replace kA := (x.block _ (blk_lt kA)).trans kA
            replace kB := (x.block _ (blk_lt kB)).trans kB
            replace rA := rA.ext x
            replace zc := zc.trans x
            refine hK.out _ _ ⟨zc, rA⟩ (fun hHeld => ?_)
            clear hK K
            refine wpAnyH_imp (S' := fun W => (Ext wD W ∧ Rd W AA 4 (keyB r [115, 101, 101, 100])) ∧ Rd W AB 4 (keyB r [115, 101, 101, 100])) (fun W h => h.1) _ _ _ _ ?_
            replace hHeld := And.intro hHeld rB
            refine wpAnyH_take (i := 11) (oi := { dst := some 163, op := Op.convert 29 9 (Operand.tmp 162), type := 9, pos := "law.go:79", after := #[{ on := 10, ground := Ground.data }, { on := 1, ground := Ground.guard }], guard := some (1, true) }) (v := ?ww31_11) rfl (by kernel_rfl) (by kernel_rfl) (by kernel_rfl) (fun _ _ _ h => h) (Or.inl ⟨by rfl, ?zz31_11⟩) hHeld ?_
            case zz31_11 => (intro W hx; have hs := str (c := cB) hx.2; go_simp; try with_reducible rfl)
            simp only [Act.put, List.setIfInBounds_toArray, List.set_cons_zero, List.set_cons_succ]
            refine wpAnyH_take (i := 12) (oi := { dst := some 164, op := Op.binOp BinOp.eql 9 (Operand.tmp 158) (Operand.tmp 163) 9, type := 4, pos := "law.go:79", after := #[{ on := 6, ground := Ground.data }, { on := 11, ground := Ground.data }, { on := 1, ground := Ground.guard }], guard := some (1, true) }) (v := ?ww32_12) rfl (by kernel_rfl) (by kernel_rfl) (by kernel_rfl) (fun _ _ _ h => h) (Or.inl ⟨by rfl, ?zz32_12⟩) hHeld ?_
            case zz32_12 => (intro W hx; go_simp; try with_reducible rfl)
            simp only [Act.put, List.setIfInBounds_toArray, List.set_cons_zero, List.set_cons_succ]
            refine wpAnyH_take (i := 13) (oi := { dst := some 165, op := Op.pick (Operand.tmp 153) (Operand.tmp 164) (Operand.const (Value.bool false)), type := 4, pos := "law.go:79", after := #[{ on := 1, ground := Ground.data }, { on := 12, ground := Ground.data }], guard := none }) (v := ?ww33_13) rfl (by kernel_rfl) (by kernel_rfl) (by kernel_rfl) (fun _ _ _ h => h) (Or.inl ⟨by rfl, ?zz33_13⟩) hHeld ?_
            case zz33_13 => (intro W hx; go_simp; try with_reducible rfl)
            simp only [Act.put, List.setIfInBounds_toArray, List.set_cons_zero, List.set_cons_succ]
            refine wpAnyH_take (i := 14) (oi := { dst := some 4, op := Op.assign (Operand.tmp 165), type := 4, pos := "law.go:79", after := #[{ on := 13, ground := Ground.data }, { on := 10, ground := Ground.chain }, { on := 0, ground := Ground.phase }, { on := 1, ground := Ground.phase }, { on := 2, ground := Ground.phase }, { on := 3, ground := Ground.phase }, { on := 4, ground := Ground.phase }, { on := 5, ground := Ground.phase }, { on := 6, ground := Ground.phase }, { on := 7, ground := Ground.phase }, { on := 8, ground := Ground.phase }, { on := 9, ground := Ground.phase }, { on := 10, ground := Ground.phase }, { on := 11, ground := Ground.phase }, { on := 12, ground := Ground.phase }, { on := 13, ground := Ground.phase }], guard := none }) (v := ?ww34_14) rfl (by kernel_rfl) (by kernel_rfl) (by kernel_rfl) (fun _ _ _ h => h) (Or.inl ⟨by rfl, ?zz34_14⟩) hHeld ?_
            case zz34_14 => (intro W hx; go_simp; try with_reducible rfl)
            simp only [Act.put, List.setIfInBounds_toArray, List.set_cons_zero, List.set_cons_succ]
            refine wpAnyH_done (by kernel_rfl) ?_ _
            go_wp2
            go_ret
            exact ⟨by simp, xw.trans (zw.trans zc)⟩
      · have tok := True.intro
        go_simp
        obtain ⟨wq1, hw⟩ : ∃ V, V = World.alloc wD (.cells #[.int .u8 115, .int .u8 101, .int .u8 101, .int .u8 100] 5) := ⟨_, rfl⟩
        rw [← hw]
        obtain ⟨bB, hbB⟩ : ∃ q, q = (World.heap wD).size := ⟨_, rfl⟩
        rw [← hbB]
        have x : Ext wD wq1 := by rw [hw]; exact (Ext.refl _).alloc _
        have kB : (World.heap wq1)[bB]? = some (.cells #[.int .u8 115, .int .u8 101, .int .u8 101, .int .u8 100] 5) := by rw [hw, hbB]; exact heap_alloc_new _ _
        clear hw
        have gB : (World.heap wD).size ≤ bB := by rw [hbB]; exact zc.size
        clear hbB
        replace zc := zc.trans x
        refine hK.out _ _ zc (fun hHeld => ?_)
        clear hK K
        refine wpAnyH_ready (rs := [2, 8]) (by kernel_rfl) (by simp) (AllReadyH.cons rfl (fun K hK => ?_) (AllReadyH.cons rfl (fun K hK => ?_) AllReadyH.nil))
        · have tok := True.intro
          go_simp
          obtain ⟨wq2, hw⟩ : ∃ V, V = World.alloc wq1 (.cells #[.int .u8 115, .int .u8 101, .int .u8 101, .int .u8 100] 5) := ⟨_, rfl⟩
          rw [← hw]
          obtain ⟨bA, hbA⟩ : ∃ q, q = (World.heap wq1).size := ⟨_, rfl⟩
          rw [← hbA]
          have x : Ext wq1 wq2 := by rw [hw]; exact (Ext.refl _).alloc _
          have kA : (World.heap wq2)[bA]? = some (.cells #[.int .u8 115, .int .u8 101, .int .u8 101, .int .u8 100] 5) := by rw [hw, hbA]; exact heap_alloc_new _ _
          clear hw
          have gA : (World.heap wD).size ≤ bA := by rw [hbA]; exact zc.size
          have nAB : bB < bA := by rw [hbA]; exact blk_lt kB
          replace kB := (x.block _ (blk_lt kB)).trans kB
          clear hbA
          replace zc := zc.trans x
          refine hK.out _ _ zc (fun hHeld => ?_)
          clear hK K
          refine wpAnyH_ready (rs := [3, 8]) (by kernel_rfl) (by simp) (AllReadyH.cons rfl (fun K hK => ?_) (AllReadyH.cons rfl (fun K hK => ?_) AllReadyH.nil))
          · have tok := True.intro
            obtain ⟨wq3, hrun, xg, kk⟩ := conv_mark 4 4 kA
            go_simp
            replace kB := blk_grown kB xg (by omega)
            replace zc := Ext.of_grown zc xg (fun k e => by injection e with e; omega)
            replace kA := kk
            clear hrun xg kk
            refine hK.out _ _ zc (fun hHeld => ?_)
            clear hK K
            refine wpAnyH_ready (rs := [5, 8]) (by kernel_rfl) (by simp) (AllReadyH.cons rfl (fun K hK => ?_) (AllReadyH.cons rfl (fun K hK => ?_) AllReadyH.nil))
            · have tok := True.intro
              go_simp
              have rL := rd_blk (cs := [115, 101, 101, 100]) kA hb4
              go_wp2_with (go_at_call 20; (refine (key_any _ 4 _ [115, 101, 101, 100] r _ rL (by decide) r0 r1).mono ?_); rintro e wq4 ⟨AA, rfl, x, rA, qA⟩)
              clear rL
              have qAB : ∀ ad, AA = some ad → some ad.block ≠ some bB := fun ad e h => by have h1 := qA ad e; have h2 := blk_lt kB; injection h with h; omega
              have qAA : ∀ ad, AA = some ad → some ad.block ≠ some bA := fun ad e h => by have h1 := qA ad e; have h2 := blk_lt kA; injection h with h; omega
              replace kB := (x.block _ (blk_lt kB)).trans kB
              replace kA := (x.block _ (blk_lt kA)).trans kA
              replace zc := zc.trans x
              refine hK.out _ _ zc (fun hHeld => ?_)
              clear hK K
              refine wpAnyH_imp (S' := fun W => Ext wD W ∧ Rd W AA 4 (keyB r [115, 101, 101, 100])) (fun W h => h.1) _ _ _ _ ?_
              replace hHeld := And.intro hHeld rA
              refine wpAnyH_take (i := 6) (oi := { dst := some 158, op := Op.convert 29 9 (Operand.tmp 157), type := 9, pos := "law.go:79", after := #[{ on := 5, ground := Ground.data }, { on := 1, ground := Ground.guard }], guard := some (1, true) }) (v := ?ww35_6) rfl (by kernel_rfl) (by kernel_rfl) (by kernel_rfl) (fun _ _ _ h => h) (Or.inl ⟨by rfl, ?zz35_6⟩) hHeld ?_
              case zz35_6 => (intro W hx; have hs := str (c := 4) hx.2; go_simp; try with_reducible rfl)
              simp only [Act.put, List.setIfInBounds_toArray, List.set_cons_zero, List.set_cons_succ]
              refine wpAnyH_ready (rs := [8]) (by kernel_rfl) (by simp) (AllReadyH.cons rfl (fun K hK => ?_) AllReadyH.nil)
              obtain ⟨wq5, hrun, xg, kk⟩ := conv_mark 4 4 kB
              go_simp
              replace kA := blk_grown kA xg (by omega)
              replace rA := rA.grown xg qAB
              replace zc := Ext.of_grown zc xg (fun k e => by injection e with e; omega)
              replace kB := kk
              clear hrun xg kk
              refine hK.out _ _ ⟨zc, rA⟩ (fun hHeld => ?_)
              clear hK K
              refine wpAnyH_ready (rs := [10]) (by kernel_rfl) (by simp) (AllReadyH.cons rfl (fun K hK => ?_) AllReadyH.nil)
              go_simp
              have rL := rd_blk (cs := [115, 101, 101, 100]) kB hb4
              go_wp2_with (go_at_call 16; (refine (rkey_any _ 4 _ [115, 101, 101, 100] r _ rL (by decide) r0 r1).mono ?_); rintro e wq6 ⟨AB, cB, rfl, lB, mB, x, rB, qB⟩)
              clear rL
              have qBB : ∀ ad, AB = some ad → some ad.block ≠ some bB := fun ad e h => by have h1 := qB ad e; have h2 := blk_lt kB; injection h with h; omega
              have qBA : ∀ ad, AB = some ad → some ad.block ≠ some bA := fun ad e h => by have h1 := qB ad e; have h2 := blk_lt kA; injection h with h; omega
              replace kB := (x.block _ (blk_lt kB)).trans kB
              replace kA := (x.block _ (blk_lt kA)).trans kA
              replace rA := rA.ext x
              replace zc := zc.trans x
              refine hK.out _ _ ⟨zc, rA⟩ (fun hHeld => ?_)
              clear hK K
              refine wpAnyH_imp (S' := fun W => (Ext wD W ∧ Rd W AA 4 (keyB r [115, 101, 101, 100])) ∧ Rd W AB 4 (keyB r [115, 101, 101, 100])) (fun W h => h.1) _ _ _ _ ?_
              replace hHeld := And.intro hHeld rB
              refine wpAnyH_take (i := 11) (oi := { dst := some 163, op := Op.convert 29 9 (Operand.tmp 162), type := 9, pos := "law.go:79", after := #[{ on := 10, ground := Ground.data }, { on := 1, ground := Ground.guard }], guard := some (1, true) }) (v := ?ww36_11) rfl (by kernel_rfl) (by kernel_rfl) (by kernel_rfl) (fun _ _ _ h => h) (Or.inl ⟨by rfl, ?zz36_11⟩) hHeld ?_
              case zz36_11 => (intro W hx; have hs := str (c := cB) hx.2; go_simp; try with_reducible rfl)
              simp only [Act.put, List.setIfInBounds_toArray, List.set_cons_zero, List.set_cons_succ]
              refine wpAnyH_take (i := 12) (oi := { dst := some 164, op := Op.binOp BinOp.eql 9 (Operand.tmp 158) (Operand.tmp 163) 9, type := 4, pos := "law.go:79", after := #[{ on := 6, ground := Ground.data }, { on := 11, ground := Ground.data }, { on := 1, ground := Ground.guard }], guard := some (1, true) }) (v := ?ww37_12) rfl (by kernel_rfl) (by kernel_rfl) (by kernel_rfl) (fun _ _ _ h => h) (Or.inl ⟨by rfl, ?zz37_12⟩) hHeld ?_
              case zz37_12 => (intro W hx; go_simp; try with_reducible rfl)
              simp only [Act.put, List.setIfInBounds_toArray, List.set_cons_zero, List.set_cons_succ]
              refine wpAnyH_take (i := 13) (oi := { dst := some 165, op := Op.pick (Operand.tmp 153) (Operand.tmp 164) (Operand.const (Value.bool false)), type := 4, pos := "law.go:79", after := #[{ on := 1, ground := Ground.data }, { on := 12, ground := Ground.data }], guard := none }) (v := ?ww38_13) rfl (by kernel_rfl) (by kernel_rfl) (by kernel_rfl) (fun _ _ _ h => h) (Or.inl ⟨by rfl, ?zz38_13⟩) hHeld ?_
              case zz38_13 => (intro W hx; go_simp; try with_reducible rfl)
              simp only [Act.put, List.setIfInBounds_toArray, List.set_cons_zero, List.set_cons_succ]
              refine wpAnyH_take (i := 14) (oi := { dst := some 4, op := Op.assign (Operand.tmp 165), type := 4, pos := "law.go:79", after := #[{ on := 13, ground := Ground.data }, { on := 10, ground := Ground.chain }, { on := 0, ground := Ground.phase }, { on := 1, ground := Ground.phase }, { on := 2, ground := Ground.phase }, { on := 3, ground := Ground.phase }, { on := 4, ground := Ground.phase }, { on := 5, ground := Ground.phase }, { on := 6, ground := Ground.phase }, { on := 7, ground := Ground.phase }, { on := 8, ground := Ground.phase }, { on := 9, ground := Ground.phase }, { on := 10, ground := Ground.phase }, { on := 11, ground := Ground.phase }, { on := 12, ground := Ground.phase }, { on := 13, ground := Ground.phase }], guard := none }) (v := ?ww39_14) rfl (by kernel_rfl) (by kernel_rfl) (by kernel_rfl) (fun _ _ _ h => h) (Or.inl ⟨by rfl, ?zz39_14⟩) hHeld ?_
              case zz39_14 => (intro W hx; go_simp; try with_reducible rfl)
              simp only [Act.put, List.setIfInBounds_toArray, List.set_cons_zero, List.set_cons_succ]
              refine wpAnyH_done (by kernel_rfl) ?_ _
              go_wp2
              go_ret
              exact ⟨by simp, xw.trans (zw.trans zc)⟩
            · have tok := True.intro
              obtain ⟨wq4, hrun, xg, kk⟩ := conv_mark 4 4 kB
              go_simp
              replace kA := blk_grown kA xg (by omega)
              replace zc := Ext.of_grown zc xg (fun k e => by injection e with e; omega)
              replace kB := kk
              clear hrun xg kk
              refine hK.out _ _ zc (fun hHeld => ?_)
              clear hK K
              refine wpAnyH_ready (rs := [5]) (by kernel_rfl) (by simp) (AllReadyH.cons rfl (fun K hK => ?_) AllReadyH.nil)
              go_simp
              have rL := rd_blk (cs := [115, 101, 101, 100]) kA hb4
              go_wp2_with (go_at_call 20; (refine (key_any _ 4 _ [115, 101, 101, 100] r _ rL (by decide) r0 r1).mono ?_); rintro e wq5 ⟨AA, rfl, x, rA, qA⟩)
              clear rL
              have qAB : ∀ ad, AA = some ad → some ad.block ≠ some bB := fun ad e h => by have h1 := qA ad e; have h2 := blk_lt kB; injection h with h; omega
              have qAA : ∀ ad, AA = some ad → some ad.block ≠ some bA := fun ad e h => by have h1 := qA ad e; have h2 := blk_lt kA; injection h with h; omega
              replace kB := (x.block _ (blk_lt kB)).trans kB
              replace kA := (x.block _ (blk_lt kA)).trans kA
              replace zc := zc.trans x
              refine hK.out _ _ zc (fun hHeld => ?_)
              clear hK K
              refine wpAnyH_imp (S' := fun W => Ext wD W ∧ Rd W AA 4 (keyB r [115, 101, 101, 100])) (fun W h => h.1) _ _ _ _ ?_
              replace hHeld := And.intro hHeld rA
              refine wpAnyH_take (i := 6) (oi := { dst := some 158, op := Op.convert 29 9 (Operand.tmp 157), type := 9, pos := "law.go:79", after := #[{ on := 5, ground := Ground.data }, { on := 1, ground := Ground.guard }], guard := some (1, true) }) (v := ?ww40_6) rfl (by kernel_rfl) (by kernel_rfl) (by kernel_rfl) (fun _ _ _ h => h) (Or.inl ⟨by rfl, ?zz40_6⟩) hHeld ?_
              case zz40_6 => (intro W hx; have hs := str (c := 4) hx.2; go_simp; try with_reducible rfl)
              simp only [Act.put, List.setIfInBounds_toArray, List.set_cons_zero, List.set_cons_succ]
              refine wpAnyH_ready (rs := [10]) (by kernel_rfl) (by simp) (AllReadyH.cons rfl (fun K hK => ?_) AllReadyH.nil)
              go_simp
              have rL := rd_blk (cs := [115, 101, 101, 100]) kB hb4
              go_wp2_with (go_at_call 16; (refine (rkey_any _ 4 _ [115, 101, 101, 100] r _ rL (by decide) r0 r1).mono ?_); rintro e wq6 ⟨AB, cB, rfl, lB, mB, x, rB, qB⟩)
              clear rL
              have qBB : ∀ ad, AB = some ad → some ad.block ≠ some bB := fun ad e h => by have h1 := qB ad e; have h2 := blk_lt kB; injection h with h; omega
              have qBA : ∀ ad, AB = some ad → some ad.block ≠ some bA := fun ad e h => by have h1 := qB ad e; have h2 := blk_lt kA; injection h with h; omega
              replace kB := (x.block _ (blk_lt kB)).trans kB
              replace kA := (x.block _ (blk_lt kA)).trans kA
              replace rA := rA.ext x
              replace zc := zc.trans x
              refine hK.out _ _ ⟨zc, rA⟩ (fun hHeld => ?_)
              clear hK K
              refine wpAnyH_imp (S' := fun W => (Ext wD W ∧ Rd W AA 4 (keyB r [115, 101, 101, 100])) ∧ Rd W AB 4 (keyB r [115, 101, 101, 100])) (fun W h => h.1) _ _ _ _ ?_
              replace hHeld := And.intro hHeld rB
              refine wpAnyH_take (i := 11) (oi := { dst := some 163, op := Op.convert 29 9 (Operand.tmp 162), type := 9, pos := "law.go:79", after := #[{ on := 10, ground := Ground.data }, { on := 1, ground := Ground.guard }], guard := some (1, true) }) (v := ?ww41_11) rfl (by kernel_rfl) (by kernel_rfl) (by kernel_rfl) (fun _ _ _ h => h) (Or.inl ⟨by rfl, ?zz41_11⟩) hHeld ?_
              case zz41_11 => (intro W hx; have hs := str (c := cB) hx.2; go_simp; try with_reducible rfl)
              simp only [Act.put, List.setIfInBounds_toArray, List.set_cons_zero, List.set_cons_succ]
              refine wpAnyH_take (i := 12) (oi := { dst := some 164, op := Op.binOp BinOp.eql 9 (Operand.tmp 158) (Operand.tmp 163) 9, type := 4, pos := "law.go:79", after := #[{ on := 6, ground := Ground.data }, { on := 11, ground := Ground.data }, { on := 1, ground := Ground.guard }], guard := some (1, true) }) (v := ?ww42_12) rfl (by kernel_rfl) (by kernel_rfl) (by kernel_rfl) (fun _ _ _ h => h) (Or.inl ⟨by rfl, ?zz42_12⟩) hHeld ?_
              case zz42_12 => (intro W hx; go_simp; try with_reducible rfl)
              simp only [Act.put, List.setIfInBounds_toArray, List.set_cons_zero, List.set_cons_succ]
              refine wpAnyH_take (i := 13) (oi := { dst := some 165, op := Op.pick (Operand.tmp 153) (Operand.tmp 164) (Operand.const (Value.bool false)), type := 4, pos := "law.go:79", after := #[{ on := 1, ground := Ground.data }, { on := 12, ground := Ground.data }], guard := none }) (v := ?ww43_13) rfl (by kernel_rfl) (by kernel_rfl) (by kernel_rfl) (fun _ _ _ h => h) (Or.inl ⟨by rfl, ?zz43_13⟩) hHeld ?_
              case zz43_13 => (intro W hx; go_simp; try with_reducible rfl)
              simp only [Act.put, List.setIfInBounds_toArray, List.set_cons_zero, List.set_cons_succ]
              refine wpAnyH_take (i := 14) (oi := { dst := some 4, op := Op.assign (Operand.tmp 165), type := 4, pos := "law.go:79", after := #[{ on := 13, ground := Ground.data }, { on := 10, ground := Ground.chain }, { on := 0, ground := Ground.phase }, { on := 1, ground := Ground.phase }, { on := 2, ground := Ground.phase }, { on := 3, ground := Ground.phase }, { on := 4, ground := Ground.phase }, { on := 5, ground := Ground.phase }, { on := 6, ground := Ground.phase }, { on := 7, ground := Ground.phase }, { on := 8, ground := Ground.phase }, { on := 9, ground := Ground.phase }, { on := 10, ground := Ground.phase }, { on := 11, ground := Ground.phase }, { on := 12, ground := Ground.phase }, { on := 13, ground := Ground.phase }], guard := none }) (v := ?ww44_14) rfl (by kernel_rfl) (by kernel_rfl) (by kernel_rfl) (fun _ _ _ h => h) (Or.inl ⟨by rfl, ?zz44_14⟩) hHeld ?_
              case zz44_14 => (intro W hx; go_simp; try with_reducible rfl)
              simp only [Act.put, List.setIfInBounds_toArray, List.set_cons_zero, List.set_cons_succ]
              refine wpAnyH_done (by kernel_rfl) ?_ _
              go_wp2
              go_ret
              exact ⟨by simp, xw.trans (zw.trans zc)⟩
          · have tok := True.intro
            obtain ⟨wq3, hrun, xg, kk⟩ := conv_mark 4 4 kB
            go_simp
            replace kA := blk_grown kA xg (by omega)
            replace zc := Ext.of_grown zc xg (fun k e => by injection e with e; omega)
            replace kB := kk
            clear hrun xg kk
            refine hK.out _ _ zc (fun hHeld => ?_)
            clear hK K
            refine wpAnyH_ready (rs := [3]) (by kernel_rfl) (by simp) (AllReadyH.cons rfl (fun K hK => ?_) AllReadyH.nil)
            obtain ⟨wq4, hrun, xg, kk⟩ := conv_mark 4 4 kA
            go_simp
            replace kB := blk_grown kB xg (by omega)
            replace zc := Ext.of_grown zc xg (fun k e => by injection e with e; omega)
            replace kA := kk
            clear hrun xg kk
            refine hK.out _ _ zc (fun hHeld => ?_)
            clear hK K
            refine wpAnyH_ready (rs := [5]) (by kernel_rfl) (by simp) (AllReadyH.cons rfl (fun K hK => ?_) AllReadyH.nil)
            go_simp
            have rL := rd_blk (cs := [115, 101, 101, 100]) kA hb4
            go_wp2_with (go_at_call 20; (refine (key_any _ 4 _ [115, 101, 101, 100] r _ rL (by decide) r0 r1).mono ?_); rintro e wq5 ⟨AA, rfl, x, rA, qA⟩)
            clear rL
            have qAB : ∀ ad, AA = some ad → some ad.block ≠ some bB := fun ad e h => by have h1 := qA ad e; have h2 := blk_lt kB; injection h with h; omega
            have qAA : ∀ ad, AA = some ad → some ad.block ≠ some bA := fun ad e h => by have h1 := qA ad e; have h2 := blk_lt kA; injection h with h; omega
            replace kB := (x.block _ (blk_lt kB)).trans kB
            replace kA := (x.block _ (blk_lt kA)).trans kA
            replace zc := zc.trans x
            refine hK.out _ _ zc (fun hHeld => ?_)
            clear hK K
            refine wpAnyH_imp (S' := fun W => Ext wD W ∧ Rd W AA 4 (keyB r [115, 101, 101, 100])) (fun W h => h.1) _ _ _ _ ?_
            replace hHeld := And.intro hHeld rA
            refine wpAnyH_take (i := 6) (oi := { dst := some 158, op := Op.convert 29 9 (Operand.tmp 157), type := 9, pos := "law.go:79", after := #[{ on := 5, ground := Ground.data }, { on := 1, ground := Ground.guard }], guard := some (1, true) }) (v := ?ww45_6) rfl (by kernel_rfl) (by kernel_rfl) (by kernel_rfl) (fun _ _ _ h => h) (Or.inl ⟨by rfl, ?zz45_6⟩) hHeld ?_
            case zz45_6 => (intro W hx; have hs := str (c := 4) hx.2; go_simp; try with_reducible rfl)
            simp only [Act.put, List.setIfInBounds_toArray, List.set_cons_zero, List.set_cons_succ]
            refine wpAnyH_ready (rs := [10]) (by kernel_rfl) (by simp) (AllReadyH.cons rfl (fun K hK => ?_) AllReadyH.nil)
            go_simp
            have rL := rd_blk (cs := [115, 101, 101, 100]) kB hb4
            go_wp2_with (go_at_call 16; (refine (rkey_any _ 4 _ [115, 101, 101, 100] r _ rL (by decide) r0 r1).mono ?_); rintro e wq6 ⟨AB, cB, rfl, lB, mB, x, rB, qB⟩)
            clear rL
            have qBB : ∀ ad, AB = some ad → some ad.block ≠ some bB := fun ad e h => by have h1 := qB ad e; have h2 := blk_lt kB; injection h with h; omega
            have qBA : ∀ ad, AB = some ad → some ad.block ≠ some bA := fun ad e h => by have h1 := qB ad e; have h2 := blk_lt kA; injection h with h; omega
            replace kB := (x.block _ (blk_lt kB)).trans kB
            replace kA := (x.block _ (blk_lt kA)).trans kA
            replace rA := rA.ext x
            replace zc := zc.trans x
            refine hK.out _ _ ⟨zc, rA⟩ (fun hHeld => ?_)
            clear hK K
            refine wpAnyH_imp (S' := fun W => (Ext wD W ∧ Rd W AA 4 (keyB r [115, 101, 101, 100])) ∧ Rd W AB 4 (keyB r [115, 101, 101, 100])) (fun W h => h.1) _ _ _ _ ?_
            replace hHeld := And.intro hHeld rB
            refine wpAnyH_take (i := 11) (oi := { dst := some 163, op := Op.convert 29 9 (Operand.tmp 162), type := 9, pos := "law.go:79", after := #[{ on := 10, ground := Ground.data }, { on := 1, ground := Ground.guard }], guard := some (1, true) }) (v := ?ww46_11) rfl (by kernel_rfl) (by kernel_rfl) (by kernel_rfl) (fun _ _ _ h => h) (Or.inl ⟨by rfl, ?zz46_11⟩) hHeld ?_
            case zz46_11 => (intro W hx; have hs := str (c := cB) hx.2; go_simp; try with_reducible rfl)
            simp only [Act.put, List.setIfInBounds_toArray, List.set_cons_zero, List.set_cons_succ]
            refine wpAnyH_take (i := 12) (oi := { dst := some 164, op := Op.binOp BinOp.eql 9 (Operand.tmp 158) (Operand.tmp 163) 9, type := 4, pos := "law.go:79", after := #[{ on := 6, ground := Ground.data }, { on := 11, ground := Ground.data }, { on := 1, ground := Ground.guard }], guard := some (1, true) }) (v := ?ww47_12) rfl (by kernel_rfl) (by kernel_rfl) (by kernel_rfl) (fun _ _ _ h => h) (Or.inl ⟨by rfl, ?zz47_12⟩) hHeld ?_
            case zz47_12 => (intro W hx; go_simp; try with_reducible rfl)
            simp only [Act.put, List.setIfInBounds_toArray, List.set_cons_zero, List.set_cons_succ]
            refine wpAnyH_take (i := 13) (oi := { dst := some 165, op := Op.pick (Operand.tmp 153) (Operand.tmp 164) (Operand.const (Value.bool false)), type := 4, pos := "law.go:79", after := #[{ on := 1, ground := Ground.data }, { on := 12, ground := Ground.data }], guard := none }) (v := ?ww48_13) rfl (by kernel_rfl) (by kernel_rfl) (by kernel_rfl) (fun _ _ _ h => h) (Or.inl ⟨by rfl, ?zz48_13⟩) hHeld ?_
            case zz48_13 => (intro W hx; go_simp; try with_reducible rfl)
            simp only [Act.put, List.setIfInBounds_toArray, List.set_cons_zero, List.set_cons_succ]
            refine wpAnyH_take (i := 14) (oi := { dst := some 4, op := Op.assign (Operand.tmp 165), type := 4, pos := "law.go:79", after := #[{ on := 13, ground := Ground.data }, { on := 10, ground := Ground.chain }, { on := 0, ground := Ground.phase }, { on := 1, ground := Ground.phase }, { on := 2, ground := Ground.phase }, { on := 3, ground := Ground.phase }, { on := 4, ground := Ground.phase }, { on := 5, ground := Ground.phase }, { on := 6, ground := Ground.phase }, { on := 7, ground := Ground.phase }, { on := 8, ground := Ground.phase }, { on := 9, ground := Ground.phase }, { on := 10, ground := Ground.phase }, { on := 11, ground := Ground.phase }, { on := 12, ground := Ground.phase }, { on := 13, ground := Ground.phase }], guard := none }) (v := ?ww49_14) rfl (by kernel_rfl) (by kernel_rfl) (by kernel_rfl) (fun _ _ _ h => h) (Or.inl ⟨by rfl, ?zz49_14⟩) hHeld ?_
            case zz49_14 => (intro W hx; go_simp; try with_reducible rfl)
            simp only [Act.put, List.setIfInBounds_toArray, List.set_cons_zero, List.set_cons_succ]
            refine wpAnyH_done (by kernel_rfl) ?_ _
            go_wp2
            go_ret
            exact ⟨by simp, xw.trans (zw.trans zc)⟩
        · have tok := True.intro
          obtain ⟨wq2, hrun, xg, kk⟩ := conv_mark 4 4 kB
          go_simp
          replace zc := Ext.of_grown zc xg (fun k e => by injection e with e; omega)
          replace kB := kk
          clear hrun xg kk
          refine hK.out _ _ zc (fun hHeld => ?_)
          clear hK K
          refine wpAnyH_ready (rs := [2]) (by kernel_rfl) (by simp) (AllReadyH.cons rfl (fun K hK => ?_) AllReadyH.nil)
          go_simp
          obtain ⟨wq3, hw⟩ : ∃ V, V = World.alloc wq2 (.cells #[.int .u8 115, .int .u8 101, .int .u8 101, .int .u8 100] 5) := ⟨_, rfl⟩
          rw [← hw]
          obtain ⟨bA, hbA⟩ : ∃ q, q = (World.heap wq2).size := ⟨_, rfl⟩
          rw [← hbA]
          have x : Ext wq2 wq3 := by rw [hw]; exact (Ext.refl _).alloc _
          have kA : (World.heap wq3)[bA]? = some (.cells #[.int .u8 115, .int .u8 101, .int .u8 101, .int .u8 100] 5) := by rw [hw, hbA]; exact heap_alloc_new _ _
          clear hw
          have gA : (World.heap wD).size ≤ bA := by rw [hbA]; exact zc.size
          have nAB : bB < bA := by rw [hbA]; exact blk_lt kB
          replace kB := (x.block _ (blk_lt kB)).trans kB
          clear hbA
          replace zc := zc.trans x
          refine hK.out _ _ zc (fun hHeld => ?_)
          clear hK K
          refine wpAnyH_ready (rs := [3]) (by kernel_rfl) (by simp) (AllReadyH.cons rfl (fun K hK => ?_) AllReadyH.nil)
          obtain ⟨wq4, hrun, xg, kk⟩ := conv_mark 4 4 kA
          go_simp
          replace kB := blk_grown kB xg (by omega)
          replace zc := Ext.of_grown zc xg (fun k e => by injection e with e; omega)
          replace kA := kk
          clear hrun xg kk
          refine hK.out _ _ zc (fun hHeld => ?_)
          clear hK K
          refine wpAnyH_ready (rs := [5]) (by kernel_rfl) (by simp) (AllReadyH.cons rfl (fun K hK => ?_) AllReadyH.nil)
          go_simp
          have rL := rd_blk (cs := [115, 101, 101, 100]) kA hb4
          go_wp2_with (go_at_call 20; (refine (key_any _ 4 _ [115, 101, 101, 100] r _ rL (by decide) r0 r1).mono ?_); rintro e wq5 ⟨AA, rfl, x, rA, qA⟩)
          clear rL
          have qAB : ∀ ad, AA = some ad → some ad.block ≠ some bB := fun ad e h => by have h1 := qA ad e; have h2 := blk_lt kB; injection h with h; omega
          have qAA : ∀ ad, AA = some ad → some ad.block ≠ some bA := fun ad e h => by have h1 := qA ad e; have h2 := blk_lt kA; injection h with h; omega
          replace kB := (x.block _ (blk_lt kB)).trans kB
          replace kA := (x.block _ (blk_lt kA)).trans kA
          replace zc := zc.trans x
          refine hK.out _ _ zc (fun hHeld => ?_)
          clear hK K
          refine wpAnyH_imp (S' := fun W => Ext wD W ∧ Rd W AA 4 (keyB r [115, 101, 101, 100])) (fun W h => h.1) _ _ _ _ ?_
          replace hHeld := And.intro hHeld rA
          refine wpAnyH_take (i := 6) (oi := { dst := some 158, op := Op.convert 29 9 (Operand.tmp 157), type := 9, pos := "law.go:79", after := #[{ on := 5, ground := Ground.data }, { on := 1, ground := Ground.guard }], guard := some (1, true) }) (v := ?ww50_6) rfl (by kernel_rfl) (by kernel_rfl) (by kernel_rfl) (fun _ _ _ h => h) (Or.inl ⟨by rfl, ?zz50_6⟩) hHeld ?_
          case zz50_6 => (intro W hx; have hs := str (c := 4) hx.2; go_simp; try with_reducible rfl)
          simp only [Act.put, List.setIfInBounds_toArray, List.set_cons_zero, List.set_cons_succ]
          refine wpAnyH_ready (rs := [10]) (by kernel_rfl) (by simp) (AllReadyH.cons rfl (fun K hK => ?_) AllReadyH.nil)
          go_simp
          have rL := rd_blk (cs := [115, 101, 101, 100]) kB hb4
          go_wp2_with (go_at_call 16; (refine (rkey_any _ 4 _ [115, 101, 101, 100] r _ rL (by decide) r0 r1).mono ?_); rintro e wq6 ⟨AB, cB, rfl, lB, mB, x, rB, qB⟩)
          clear rL
          have qBB : ∀ ad, AB = some ad → some ad.block ≠ some bB := fun ad e h => by have h1 := qB ad e; have h2 := blk_lt kB; injection h with h; omega
          have qBA : ∀ ad, AB = some ad → some ad.block ≠ some bA := fun ad e h => by have h1 := qB ad e; have h2 := blk_lt kA; injection h with h; omega
          replace kB := (x.block _ (blk_lt kB)).trans kB
          replace kA := (x.block _ (blk_lt kA)).trans kA
          replace rA := rA.ext x
          replace zc := zc.trans x
          refine hK.out _ _ ⟨zc, rA⟩ (fun hHeld => ?_)
          clear hK K
          refine wpAnyH_imp (S' := fun W => (Ext wD W ∧ Rd W AA 4 (keyB r [115, 101, 101, 100])) ∧ Rd W AB 4 (keyB r [115, 101, 101, 100])) (fun W h => h.1) _ _ _ _ ?_
          replace hHeld := And.intro hHeld rB
          refine wpAnyH_take (i := 11) (oi := { dst := some 163, op := Op.convert 29 9 (Operand.tmp 162), type := 9, pos := "law.go:79", after := #[{ on := 10, ground := Ground.data }, { on := 1, ground := Ground.guard }], guard := some (1, true) }) (v := ?ww51_11) rfl (by kernel_rfl) (by kernel_rfl) (by kernel_rfl) (fun _ _ _ h => h) (Or.inl ⟨by rfl, ?zz51_11⟩) hHeld ?_
          case zz51_11 => (intro W hx; have hs := str (c := cB) hx.2; go_simp; try with_reducible rfl)
          simp only [Act.put, List.setIfInBounds_toArray, List.set_cons_zero, List.set_cons_succ]
          refine wpAnyH_take (i := 12) (oi := { dst := some 164, op := Op.binOp BinOp.eql 9 (Operand.tmp 158) (Operand.tmp 163) 9, type := 4, pos := "law.go:79", after := #[{ on := 6, ground := Ground.data }, { on := 11, ground := Ground.data }, { on := 1, ground := Ground.guard }], guard := some (1, true) }) (v := ?ww52_12) rfl (by kernel_rfl) (by kernel_rfl) (by kernel_rfl) (fun _ _ _ h => h) (Or.inl ⟨by rfl, ?zz52_12⟩) hHeld ?_
          case zz52_12 => (intro W hx; go_simp; try with_reducible rfl)
          simp only [Act.put, List.setIfInBounds_toArray, List.set_cons_zero, List.set_cons_succ]
          refine wpAnyH_take (i := 13) (oi := { dst := some 165, op := Op.pick (Operand.tmp 153) (Operand.tmp 164) (Operand.const (Value.bool false)), type := 4, pos := "law.go:79", after := #[{ on := 1, ground := Ground.data }, { on := 12, ground := Ground.data }], guard := none }) (v := ?ww53_13) rfl (by kernel_rfl) (by kernel_rfl) (by kernel_rfl) (fun _ _ _ h => h) (Or.inl ⟨by rfl, ?zz53_13⟩) hHeld ?_
          case zz53_13 => (intro W hx; go_simp; try with_reducible rfl)
          simp only [Act.put, List.setIfInBounds_toArray, List.set_cons_zero, List.set_cons_succ]
          refine wpAnyH_take (i := 14) (oi := { dst := some 4, op := Op.assign (Operand.tmp 165), type := 4, pos := "law.go:79", after := #[{ on := 13, ground := Ground.data }, { on := 10, ground := Ground.chain }, { on := 0, ground := Ground.phase }, { on := 1, ground := Ground.phase }, { on := 2, ground := Ground.phase }, { on := 3, ground := Ground.phase }, { on := 4, ground := Ground.phase }, { on := 5, ground := Ground.phase }, { on := 6, ground := Ground.phase }, { on := 7, ground := Ground.phase }, { on := 8, ground := Ground.phase }, { on := 9, ground := Ground.phase }, { on := 10, ground := Ground.phase }, { on := 11, ground := Ground.phase }, { on := 12, ground := Ground.phase }, { on := 13, ground := Ground.phase }], guard := none }) (v := ?ww54_14) rfl (by kernel_rfl) (by kernel_rfl) (by kernel_rfl) (fun _ _ _ h => h) (Or.inl ⟨by rfl, ?zz54_14⟩) hHeld ?_
          case zz54_14 => (intro W hx; go_simp; try with_reducible rfl)
          simp only [Act.put, List.setIfInBounds_toArray, List.set_cons_zero, List.set_cons_succ]
          refine wpAnyH_done (by kernel_rfl) ?_ _
          go_wp2
          go_ret
          exact ⟨by simp, xw.trans (zw.trans zc)⟩
end Go.Proofs.Ytnjiajogbadadaa
