import Derived.Test.YtjfdcgpnjjhhoaaD
set_option linter.unusedVariables false
set_option linter.unusedSimpArgs false
namespace Go.Proofs.Ytjfdcgpnjjhhoaa
open Go.RowKit
theorem tmod_nat (n k : Nat) : ((n : Int).tmod k) = ((n % k : Nat) : Int) := by rw [Int.tmod_eq_emod_of_nonneg (by omega)]; rfl
theorem emod_nat (n k : Nat) : ((n : Int) % k) = ((n % k : Nat) : Int) := rfl
theorem of_short (kind : Int) (y : Way) (hy : wayK kind = some y) (A : Option Addr) (n c : Nat) (big : Bool) (w : World) (hn : n ≤ maxLen) (hm : n % y.word ≠ 0) :
    Calls Try.prog 9 #[.int .u8 kind, .slice A n c, .bool big] w fun e w' => e = .returned (.tuple #[.int .u32 0, .int .i64 5]) ∧ Ext w w' := by
  have ok := way_ok hy
  have hw := ok.word
  have H := Lib.hid hy
  have h0 : ((y.word : Int) == 0) = false := by simp; omega
  obtain ⟨q, hq⟩ : ∃ q, n % y.word = q := ⟨_, rfl⟩
  have ht : ((n : Int).tmod y.word) = q := by rw [tmod_nat, hq]
  have hb : ((q : Int) != 0) = true := by simp; omega
  clear hm hy hq
  unfold maxLen at hn
  go_enter Try.func9, Try.ntmps9
  go_upto_region 2 with (go_at_call 15; (refine (way_some H.out _).mono ?_); rintro e w1 ⟨g, rfl, x1, _, _⟩)
  obtain ⟨w2, hw2⟩ : ∃ W, W = w1.alloc (.cells #[.int .i64 y.word, .int .u32 y.start, .func (.func y.fn) #[] #[.pointer (some ⟨g, 0, none⟩)], .int .u32 y.turn] 43) := ⟨_, rfl⟩
  have K := blk_of (Ext.refl (w1.alloc (.cells #[.int .i64 y.word, .int .u32 y.start, .func (.func y.fn) #[] #[.pointer (some ⟨g, 0, none⟩)], .int .u32 y.turn] 43)))
  obtain ⟨f0, f1, f2, f3⟩ := cells4 K
  clear K hw2
  go_wp2
  go_ret2
  exact ⟨rfl, x1.trans ((Ext.refl _).alloc _)⟩

set_option maxHeartbeats 2000000 in
theorem of_27 (kind : Int) (y : Way) (hy : wayK kind = some y) (hF : y.fn = 27) (A : Option Addr) (n c : Nat) (bs : List Int) (big : Bool) (w : World) (hr : Rd w A n bs) (hn : n ≤ 1000) (hnc : n ≤ c) (hcm : c ≤ maxLen) (hm : n % y.word = 0) :
    Calls Try.prog 9 #[.int .u8 kind, .slice A n c, .bool big] w fun e w' => e = .returned (.tuple #[.int .u32 (sumV y big bs), .int .i64 0]) ∧ Ext w w' := by
  have ok := way_ok hy
  have hw := ok.word
  have H := Lib.hid hy
  have OK := Lib.hid ok
  have HFN := Lib.hid hF
  obtain ⟨k, hk⟩ : ∃ k, k = y.word := ⟨_, rfl⟩
  rw [← hk] at hw hm
  have hk1 : 1 ≤ k := by omega
  have hk4 : k ≤ 4 := by omega
  have h0 : ((k : Int) == 0) = false := by simp; omega
  have ht : ((n : Int).tmod k) = 0 := by rw [tmod_nat, hm]; rfl
  have HW := Lib.hid hw
  have hlen := Lib.hid hr.len
  have HKY := Lib.hid hk
  have HMM := Lib.hid hm
  clear hy hF hm hw ok hk
  have hws := fun W => way_some H.out W
  rw [HFN.out, ← HKY.out] at hws
  have HWS := Lib.hid hws
  clear hws
  go_enter Try.func9, Try.ntmps9
  go_upto_region 2 with (go_at_call 15; (refine (HWS.out _).mono ?_); rintro e w1 ⟨g, rfl, x1, hg1, KC1⟩)
  obtain ⟨w2, hw2⟩ : ∃ W, W = w1.alloc (.cells #[.int .i64 k, .int .u32 y.start, .func (.func 27) #[] #[.pointer (some ⟨g, 0, none⟩)], .int .u32 y.turn] 43) := ⟨_, rfl⟩
  have x2 : Ext w1 w2 := by rw [hw2]; exact (Ext.refl _).alloc _
  have K2 : w2.heap[w1.heap.size]? = some (.cells #[.int .i64 k, .int .u32 y.start, .func (.func 27) #[] #[.pointer (some ⟨g, 0, none⟩)], .int .u32 y.turn] 43 (0, 0)) := by rw [hw2]; exact heap_alloc_new _ _
  have KC2 := (x2.block _ (blk_lt KC1)).trans KC1
  rw [← hw2]
  clear hw2 KC1
  obtain ⟨f0, f1, f2, f3⟩ := cells4 K2
  have x12 := x1.trans x2
  go_wp2
  go_loopw [1, 9, 10, 11, 12] (fun v1 v9 _ _ _ wr => ∃ (i q n' c' : Nat) (A' : Option Addr), Hid (q = k * i) ∧ Hid (q + n' = n) ∧ v1 = .slice A' n' c' ∧ n' ≤ c' ∧ c' ≤ maxLen ∧ Rd wr A' n' (bs.drop q) ∧ v9 = .int .u32 (sumTo y big bs i) ∧ Ext w2 wr) (fun v _ _ _ _ _ => match v with | .slice _ n' _ => n' | _ => 0)
  case atStart => exact ⟨0, 0, n, c, A, rfl, Nat.zero_add _, rfl, hnc, hcm, (by simpa using hr.ext x12), rfl, Ext.refl _⟩
  case round =>
    obtain ⟨i, q, n', c', A', hq, hqn, rfl, lc, mc, rr, rfl, xr⟩ := hrel
    clear f0 f1 f2 f3
    obtain ⟨f0, f1, f2, f3⟩ := cells4 ((xr.block _ (blk_lt K2)).trans K2)
    have KCr := (xr.block _ (blk_lt KC2)).trans KC2
    by_cases hpos : 0 < n'
    · have hkn : k ≤ n' := by
        have h1 := hq.out
        have h2 := hqn.out
        have h3 := HMM.out
        have h5 : (k * i + n') % k = n' % k := Nat.mul_add_mod _ _ _
        rw [← h1, h2, h3] at h5
        exact Nat.le_of_dvd hpos (Nat.dvd_of_mod_eq_zero h5.symm)
      have hposI : (0 : Int) < n' := by omega
      have hn1000 : n' ≤ 1000 := by have := hqn.out; omega
      have rk := rr.take (k := k) hkn
      have rd := rr.drop (k := k) hkn lc
      have hw1 : isW k = true := by rw [isW_iff]; have := HW.out; omega
      have HW1 := Lib.hid hw1
      obtain ⟨pA, hpA⟩ : ∃ p, (if c' = k then A' else Option.map (fun x => x.add k) A') = p := ⟨_, rfl⟩
      have rd2 : Rd wr pA (n' - k) (bs.drop (q + k)) := by rw [← hpA, ← List.drop_drop]; exact rd
      obtain ⟨s0, s1, s2⟩ := sumTo_bd OK.out big hr.byts i
      have hww := HW.out
      rw [HKY.out] at hww
      obtain ⟨t0, t1⟩ := wordAt_bd hr.byts big i hww
      have t2 : wordAt bs y.word big i < 4294967296 := by rcases hww with h | h | h <;> rw [h] at t1 <;> simp at t1 <;> rw [h] <;> omega
      have t3 : y.word = 1 → wordAt bs y.word big i < 256 := by intro h; rw [h] at t1 ⊢; simpa using t1
      have HT : Hid (takeTo ((bs.drop q).take k) k big k = wordAt bs y.word big i) := by show _ = _; unfold wordAt; rw [hq.out, HKY.out]
      have HS : Hid (sumTo y big bs (i + 1) = stepW 27 y.m (sumTo y big bs i) (wordAt bs y.word big i)) := by show _ = _; rw [← HFN.out]; rfl
      have S2 := Lib.hid s2
      have T3 := Lib.hid t3
      clear s2 t3 hww t1 hw1 rd hpos
      generalize sumTo y big bs i = r at *
      generalize wordAt bs y.word big i = x at *
      have lkI : (k : Int) ≤ c' := by omega
      go_upto_region 9 with (fail)
      refine wp_region_held_drew (S := Ext wr) (by kernel_rfl) ((Ext.refl _).drew) (fun hHeld => ?_)
      obtain ⟨wD1, hwD⟩ : ∃ V, V = World.drew wr := ⟨_, rfl⟩
      rw [← hwD]
      clear hHeld
      have zz0 : Ext wr wD1 := by rw [hwD]; exact (Ext.refl _).drew
      clear hwD
      refine wpAnyH_imp (S' := Ext wD1) (fun W h => Ext.trans zz0 h) _ _ _ _ ?_
      have hHeld := Ext.refl wD1
      refine wpAnyH_take (i := 0) (oi := { dst := some 34, op := Op.move (Operand.tmp 1), type := 22, pos := "sum.go:94", after := #[], guard := none }) (v := ?vv2_9_0) rfl (by kernel_rfl) (by kernel_rfl) (by kernel_rfl) (fun _ _ _ h => h) (Or.inl ⟨by rfl, ?yy2_9_0⟩) hHeld ?_
      case yy2_9_0 => (intro W hx; go_simp; try with_reducible rfl)
      simp only [Act.put, List.setIfInBounds_toArray, List.set_cons_zero, List.set_cons_succ]
      refine wpAnyH_take (i := 1) (oi := { dst := some 35, op := Op.fieldAddr 43 (Operand.tmp 8) 0, type := 0, pos := "sum.go:94", after := #[], guard := none }) (v := ?vv3_9_1) rfl (by kernel_rfl) (by kernel_rfl) (by kernel_rfl) (fun _ _ _ h => h) (Or.inl ⟨by rfl, ?yy3_9_1⟩) hHeld ?_
      case yy3_9_1 => (intro W hx; go_simp; try with_reducible rfl)
      simp only [Act.put, List.setIfInBounds_toArray, List.set_cons_zero, List.set_cons_succ]
      refine wpAnyH_take (i := 2) (oi := { dst := some 36, op := Op.load 3 (Operand.tmp 35), type := 3, pos := "sum.go:94", after := #[{ on := 1, ground := Ground.data }], guard := none }) (v := ?vv4_9_2) rfl (by kernel_rfl) (by kernel_rfl) (by kernel_rfl) (fun _ _ _ h => h) (Or.inl ⟨by rfl, ?yy4_9_2⟩) hHeld ?_
      case yy4_9_2 => (intro W hx; have hz := zz0.trans hx; obtain ⟨j0, j1, j2, j3⟩ := cells4 ((hz.block _ (blk_lt ((xr.block _ (blk_lt K2)).trans K2))).trans ((xr.block _ (blk_lt K2)).trans K2)); go_simp; try with_reducible rfl)
      simp only [Act.put, List.setIfInBounds_toArray, List.set_cons_zero, List.set_cons_succ]
      refine wpAnyH_take (i := 3) (oi := { dst := some 37, op := Op.slice 22 (Operand.tmp 34) none (some (Operand.tmp 36)) none, type := 22, pos := "sum.go:94", after := #[{ on := 0, ground := Ground.data }, { on := 2, ground := Ground.data }], guard := none }) (v := ?vv5_9_3) rfl (by kernel_rfl) (by kernel_rfl) (by kernel_rfl) (fun _ _ _ h => h) (Or.inl ⟨by rfl, ?yy5_9_3⟩) hHeld ?_
      case yy5_9_3 => (intro W hx; go_simp; try with_reducible rfl)
      simp only [Act.put, List.setIfInBounds_toArray, List.set_cons_zero, List.set_cons_succ]
      refine wpAnyH_take (i := 4) (oi := { dst := some 38, op := Op.fieldAddr 43 (Operand.tmp 8) 0, type := 0, pos := "sum.go:94", after := #[], guard := none }) (v := ?vv6_9_4) rfl (by kernel_rfl) (by kernel_rfl) (by kernel_rfl) (fun _ _ _ h => h) (Or.inl ⟨by rfl, ?yy6_9_4⟩) hHeld ?_
      case yy6_9_4 => (intro W hx; go_simp; try with_reducible rfl)
      simp only [Act.put, List.setIfInBounds_toArray, List.set_cons_zero, List.set_cons_succ]
      refine wpAnyH_take (i := 5) (oi := { dst := some 39, op := Op.load 3 (Operand.tmp 38), type := 3, pos := "sum.go:94", after := #[{ on := 4, ground := Ground.data }], guard := none }) (v := ?vv7_9_5) rfl (by kernel_rfl) (by kernel_rfl) (by kernel_rfl) (fun _ _ _ h => h) (Or.inl ⟨by rfl, ?yy7_9_5⟩) hHeld ?_
      case yy7_9_5 => (intro W hx; have hz := zz0.trans hx; obtain ⟨j0, j1, j2, j3⟩ := cells4 ((hz.block _ (blk_lt ((xr.block _ (blk_lt K2)).trans K2))).trans ((xr.block _ (blk_lt K2)).trans K2)); go_simp; try with_reducible rfl)
      simp only [Act.put, List.setIfInBounds_toArray, List.set_cons_zero, List.set_cons_succ]
      refine wpAnyH_take (i := 6) (oi := { dst := some 40, op := Op.move (Operand.tmp 2), type := 4, pos := "sum.go:94", after := #[], guard := none }) (v := ?vv8_9_6) rfl (by kernel_rfl) (by kernel_rfl) (by kernel_rfl) (fun _ _ _ h => h) (Or.inl ⟨by rfl, ?yy8_9_6⟩) hHeld ?_
      case yy8_9_6 => (intro W hx; go_simp; try with_reducible rfl)
      simp only [Act.put, List.setIfInBounds_toArray, List.set_cons_zero, List.set_cons_succ]
      refine wpAnyH_ready (rs := [7]) (by kernel_rfl) (by simp) (AllReadyH.cons rfl (fun K hK => ?_) AllReadyH.nil)
      go_simp
      go_wp2_with (go_at_call 16; (refine (take_any _ _ _ _ _ _ _ (rk.ext zz0) (by omega) (by omega) HW1.out (by omega)).mono ?_); rintro e w4 ⟨A4, c4, rfl, _, _, x4, _⟩; rw [HT.out])
      refine hK.out _ _ x4 (fun hHeld => ?_)
      clear hK K
      refine wpAnyH_imp (S' := Ext w4) (fun W h => Ext.trans x4 h) _ _ _ _ ?_
      replace hHeld := Ext.refl w4
      have zz1 := zz0.trans x4
      refine wpAnyH_take (i := 8) (oi := { dst := some 33, op := Op.move (Operand.tmp 41), type := 45, pos := "sum.go:94", after := #[{ on := 7, ground := Ground.data }], guard := none }) (v := ?vv9_9_8) rfl (by kernel_rfl) (by kernel_rfl) (by kernel_rfl) (fun _ _ _ h => h) (Or.inl ⟨by rfl, ?yy9_9_8⟩) hHeld ?_
      case yy9_9_8 => (intro W hx; go_simp; try with_reducible rfl)
      simp only [Act.put, List.setIfInBounds_toArray, List.set_cons_zero, List.set_cons_succ]
      refine wpAnyH_take (i := 9) (oi := { dst := some 42, op := Op.extract (Operand.tmp 33) 0, type := 31, pos := "sum.go:94", after := #[{ on := 8, ground := Ground.data }], guard := none }) (v := ?vv10_9_9) rfl (by kernel_rfl) (by kernel_rfl) (by kernel_rfl) (fun _ _ _ h => h) (Or.inl ⟨by rfl, ?yy10_9_9⟩) hHeld ?_
      case yy10_9_9 => (intro W hx; go_simp; try with_reducible rfl)
      simp only [Act.put, List.setIfInBounds_toArray, List.set_cons_zero, List.set_cons_succ]
      refine wpAnyH_take (i := 10) (oi := { dst := some 43, op := Op.extract (Operand.tmp 33) 1, type := 22, pos := "sum.go:94", after := #[{ on := 8, ground := Ground.data }, { on := 12, ground := Ground.gcOnly Departure.lateStores }], guard := none }) (v := ?vv11_9_10) rfl (by kernel_rfl) (by kernel_rfl) (by kernel_rfl) (fun _ _ _ h => h) (Or.inl ⟨by rfl, ?yy11_9_10⟩) hHeld ?_
      case yy11_9_10 => (intro W hx; go_simp; try with_reducible rfl)
      simp only [Act.put, List.setIfInBounds_toArray, List.set_cons_zero, List.set_cons_succ]
      refine wpAnyH_take (i := 11) (oi := { dst := some 44, op := Op.extract (Operand.tmp 33) 2, type := 24, pos := "sum.go:94", after := #[{ on := 8, ground := Ground.data }, { on := 13, ground := Ground.gcOnly Departure.lateStores }], guard := none }) (v := ?vv12_9_11) rfl (by kernel_rfl) (by kernel_rfl) (by kernel_rfl) (fun _ _ _ h => h) (Or.inl ⟨by rfl, ?yy12_9_11⟩) hHeld ?_
      case yy12_9_11 => (intro W hx; go_simp; try with_reducible rfl)
      simp only [Act.put, List.setIfInBounds_toArray, List.set_cons_zero, List.set_cons_succ]
      refine wpAnyH_take (i := 12) (oi := { dst := some 10, op := Op.assign (Operand.tmp 42), type := 31, pos := "sum.go:94", after := #[{ on := 9, ground := Ground.data }, { on := 7, ground := Ground.chain }, { on := 0, ground := Ground.phase }, { on := 1, ground := Ground.phase }, { on := 2, ground := Ground.phase }, { on := 3, ground := Ground.phase }, { on := 4, ground := Ground.phase }, { on := 5, ground := Ground.phase }, { on := 6, ground := Ground.phase }, { on := 7, ground := Ground.phase }, { on := 8, ground := Ground.phase }, { on := 9, ground := Ground.phase }, { on := 10, ground := Ground.textOnly Departure.lateStores }, { on := 11, ground := Ground.textOnly Departure.lateStores }], guard := none }) (v := ?vv13_9_12) rfl (by kernel_rfl) (by kernel_rfl) (by kernel_rfl) (fun _ _ _ h => h) (Or.inl ⟨by rfl, ?yy13_9_12⟩) hHeld ?_
      case yy13_9_12 => (intro W hx; go_simp; try with_reducible rfl)
      simp only [Act.put, List.setIfInBounds_toArray, List.set_cons_zero, List.set_cons_succ]
      refine wpAnyH_take (i := 13) (oi := { dst := some 11, op := Op.assign (Operand.tmp 43), type := 22, pos := "sum.go:94", after := #[{ on := 10, ground := Ground.data }, { on := 12, ground := Ground.chain }, { on := 0, ground := Ground.phase }, { on := 1, ground := Ground.phase }, { on := 2, ground := Ground.phase }, { on := 3, ground := Ground.phase }, { on := 4, ground := Ground.phase }, { on := 5, ground := Ground.phase }, { on := 6, ground := Ground.phase }, { on := 7, ground := Ground.phase }, { on := 8, ground := Ground.phase }, { on := 9, ground := Ground.phase }, { on := 10, ground := Ground.phase }, { on := 11, ground := Ground.textOnly Departure.lateStores }, { on := 12, ground := Ground.phase }], guard := none }) (v := ?vv14_9_13) rfl (by kernel_rfl) (by kernel_rfl) (by kernel_rfl) (fun _ _ _ h => h) (Or.inl ⟨by rfl, ?yy14_9_13⟩) hHeld ?_
      case yy14_9_13 => (intro W hx; go_simp; try with_reducible rfl)
      simp only [Act.put, List.setIfInBounds_toArray, List.set_cons_zero, List.set_cons_succ]
      refine wpAnyH_take (i := 14) (oi := { dst := some 12, op := Op.assign (Operand.tmp 44), type := 24, pos := "sum.go:94", after := #[{ on := 11, ground := Ground.data }, { on := 13, ground := Ground.chain }, { on := 0, ground := Ground.phase }, { on := 1, ground := Ground.phase }, { on := 2, ground := Ground.phase }, { on := 3, ground := Ground.phase }, { on := 4, ground := Ground.phase }, { on := 5, ground := Ground.phase }, { on := 6, ground := Ground.phase }, { on := 7, ground := Ground.phase }, { on := 8, ground := Ground.phase }, { on := 9, ground := Ground.phase }, { on := 10, ground := Ground.phase }, { on := 11, ground := Ground.phase }, { on := 12, ground := Ground.phase }, { on := 13, ground := Ground.phase }], guard := none }) (v := ?vv15_9_14) rfl (by kernel_rfl) (by kernel_rfl) (by kernel_rfl) (fun _ _ _ h => h) (Or.inl ⟨by rfl, ?yy15_9_14⟩) hHeld ?_
      case yy15_9_14 => (intro W hx; go_simp; try with_reducible rfl)
      simp only [Act.put, List.setIfInBounds_toArray, List.set_cons_zero, List.set_cons_succ]
      refine wpAnyH_done (by kernel_rfl) ?_ _
      have zend := zz1.trans hHeld
      have KCe := (zend.block _ (blk_lt KCr)).trans KCr
      clear f0 f1 f2 f3
      obtain ⟨f0, f1, f2, f3⟩ := cells4 ((zend.block _ (blk_lt ((xr.block _ (blk_lt K2)).trans K2))).trans ((xr.block _ (blk_lt K2)).trans K2))
      go_wp2_with (go_at_call 27; (refine (adding1_any _ _ _ _ _ KCe ⟨s0, s1⟩ ⟨t0, t2⟩).mono ?_); rintro e w5 ⟨rfl, rfl⟩)
      go_roundw
      case rel => exact ⟨i + 1, q + k, n' - k, c' - k, pA, (by show _ = _; rw [hq.out, Nat.mul_succ]), (by show _ = _; have := hqn.out; omega), rfl, by omega, by omega, rd2.ext zend, (by rw [HS.out]; rfl), xr.trans zend⟩
      case measure => simp; omega
    · obtain rfl : n' = 0 := by omega
      have HV : Hid (sumV y big bs = bits .xor .u32 (sumTo y big bs i) y.turn) := by
        show _ = _
        unfold sumV
        have h1 := hq.out
        have h2 := hqn.out
        rw [hlen.out, ← h2, h1, Nat.add_zero, ← HKY.out, Nat.mul_div_cancel_left _ (by omega)]
      go_wp2
      go_ret2
      exact ⟨(by rw [HV.out]; rfl), x12.trans xr⟩
set_option maxHeartbeats 2000000 in
theorem of_28 (kind : Int) (y : Way) (hy : wayK kind = some y) (hF : y.fn = 28) (A : Option Addr) (n c : Nat) (bs : List Int) (big : Bool) (w : World) (hr : Rd w A n bs) (hn : n ≤ 1000) (hnc : n ≤ c) (hcm : c ≤ maxLen) (hm : n % y.word = 0) :
    Calls Try.prog 9 #[.int .u8 kind, .slice A n c, .bool big] w fun e w' => e = .returned (.tuple #[.int .u32 (sumV y big bs), .int .i64 0]) ∧ Ext w w' := by
  have ok := way_ok hy
  have hw := ok.word
  have H := Lib.hid hy
  have OK := Lib.hid ok
  have HFN := Lib.hid hF
  obtain ⟨k, hk⟩ : ∃ k, k = y.word := ⟨_, rfl⟩
  rw [← hk] at hw hm
  have hk1 : 1 ≤ k := by omega
  have hk4 : k ≤ 4 := by omega
  have h0 : ((k : Int) == 0) = false := by simp; omega
  have ht : ((n : Int).tmod k) = 0 := by rw [tmod_nat, hm]; rfl
  have HW := Lib.hid hw
  have hlen := Lib.hid hr.len
  have HKY := Lib.hid hk
  have HMM := Lib.hid hm
  clear hy hF hm hw ok hk
  have hws := fun W => way_some H.out W
  rw [HFN.out, ← HKY.out] at hws
  have HWS := Lib.hid hws
  clear hws
  go_enter Try.func9, Try.ntmps9
  go_upto_region 2 with (go_at_call 15; (refine (HWS.out _).mono ?_); rintro e w1 ⟨g, rfl, x1, hg1, KC1⟩)
  obtain ⟨w2, hw2⟩ : ∃ W, W = w1.alloc (.cells #[.int .i64 k, .int .u32 y.start, .func (.func 28) #[] #[.pointer (some ⟨g, 0, none⟩)], .int .u32 y.turn] 43) := ⟨_, rfl⟩
  have x2 : Ext w1 w2 := by rw [hw2]; exact (Ext.refl _).alloc _
  have K2 : w2.heap[w1.heap.size]? = some (.cells #[.int .i64 k, .int .u32 y.start, .func (.func 28) #[] #[.pointer (some ⟨g, 0, none⟩)], .int .u32 y.turn] 43 (0, 0)) := by rw [hw2]; exact heap_alloc_new _ _
  have KC2 := (x2.block _ (blk_lt KC1)).trans KC1
  rw [← hw2]
  clear hw2 KC1
  obtain ⟨f0, f1, f2, f3⟩ := cells4 K2
  have x12 := x1.trans x2
  go_wp2
  go_loopw [1, 9, 10, 11, 12] (fun v1 v9 _ _ _ wr => ∃ (i q n' c' : Nat) (A' : Option Addr), Hid (q = k * i) ∧ Hid (q + n' = n) ∧ v1 = .slice A' n' c' ∧ n' ≤ c' ∧ c' ≤ maxLen ∧ Rd wr A' n' (bs.drop q) ∧ v9 = .int .u32 (sumTo y big bs i) ∧ Ext w2 wr) (fun v _ _ _ _ _ => match v with | .slice _ n' _ => n' | _ => 0)
  case atStart => exact ⟨0, 0, n, c, A, rfl, Nat.zero_add _, rfl, hnc, hcm, (by simpa using hr.ext x12), rfl, Ext.refl _⟩
  case round =>
    obtain ⟨i, q, n', c', A', hq, hqn, rfl, lc, mc, rr, rfl, xr⟩ := hrel
    clear f0 f1 f2 f3
    obtain ⟨f0, f1, f2, f3⟩ := cells4 ((xr.block _ (blk_lt K2)).trans K2)
    have KCr := (xr.block _ (blk_lt KC2)).trans KC2
    by_cases hpos : 0 < n'
    · have hkn : k ≤ n' := by
        have h1 := hq.out
        have h2 := hqn.out
        have h3 := HMM.out
        have h5 : (k * i + n') % k = n' % k := Nat.mul_add_mod _ _ _
        rw [← h1, h2, h3] at h5
        exact Nat.le_of_dvd hpos (Nat.dvd_of_mod_eq_zero h5.symm)
      have hposI : (0 : Int) < n' := by omega
      have hn1000 : n' ≤ 1000 := by have := hqn.out; omega
      have rk := rr.take (k := k) hkn
      have rd := rr.drop (k := k) hkn lc
      have hw1 : isW k = true := by rw [isW_iff]; have := HW.out; omega
      have HW1 := Lib.hid hw1
      obtain ⟨pA, hpA⟩ : ∃ p, (if c' = k then A' else Option.map (fun x => x.add k) A') = p := ⟨_, rfl⟩
      have rd2 : Rd wr pA (n' - k) (bs.drop (q + k)) := by rw [← hpA, ← List.drop_drop]; exact rd
      obtain ⟨s0, s1, s2⟩ := sumTo_bd OK.out big hr.byts i
      have hww := HW.out
      rw [HKY.out] at hww
      obtain ⟨t0, t1⟩ := wordAt_bd hr.byts big i hww
      have t2 : wordAt bs y.word big i < 4294967296 := by rcases hww with h | h | h <;> rw [h] at t1 <;> simp at t1 <;> rw [h] <;> omega
      have t3 : y.word = 1 → wordAt bs y.word big i < 256 := by intro h; rw [h] at t1 ⊢; simpa using t1
      have HT : Hid (takeTo ((bs.drop q).take k) k big k = wordAt bs y.word big i) := by show _ = _; unfold wordAt; rw [hq.out, HKY.out]
      have HS : Hid (sumTo y big bs (i + 1) = stepW 28 y.m (sumTo y big bs i) (wordAt bs y.word big i)) := by show _ = _; rw [← HFN.out]; rfl
      have S2 := Lib.hid s2
      have T3 := Lib.hid t3
      clear s2 t3 hww t1 hw1 rd hpos
      generalize sumTo y big bs i = r at *
      generalize wordAt bs y.word big i = x at *
      have lkI : (k : Int) ≤ c' := by omega
      go_upto_region 9 with (fail)
      refine wp_region_held_drew (S := Ext wr) (by kernel_rfl) ((Ext.refl _).drew) (fun hHeld => ?_)
      obtain ⟨wD16, hwD⟩ : ∃ V, V = World.drew wr := ⟨_, rfl⟩
      rw [← hwD]
      clear hHeld
      have zz0 : Ext wr wD16 := by rw [hwD]; exact (Ext.refl _).drew
      clear hwD
      refine wpAnyH_imp (S' := Ext wD16) (fun W h => Ext.trans zz0 h) _ _ _ _ ?_
      have hHeld := Ext.refl wD16
      refine wpAnyH_take (i := 0) (oi := { dst := some 34, op := Op.move (Operand.tmp 1), type := 22, pos := "sum.go:94", after := #[], guard := none }) (v := ?vv17_9_0) rfl (by kernel_rfl) (by kernel_rfl) (by kernel_rfl) (fun _ _ _ h => h) (Or.inl ⟨by rfl, ?yy17_9_0⟩) hHeld ?_
      case yy17_9_0 => (intro W hx; go_simp; try with_reducible rfl)
      simp only [Act.put, List.setIfInBounds_toArray, List.set_cons_zero, List.set_cons_succ]
      refine wpAnyH_take (i := 1) (oi := { dst := some 35, op := Op.fieldAddr 43 (Operand.tmp 8) 0, type := 0, pos := "sum.go:94", after := #[], guard := none }) (v := ?vv18_9_1) rfl (by kernel_rfl) (by kernel_rfl) (by kernel_rfl) (fun _ _ _ h => h) (Or.inl ⟨by rfl, ?yy18_9_1⟩) hHeld ?_
      case yy18_9_1 => (intro W hx; go_simp; try with_reducible rfl)
      simp only [Act.put, List.setIfInBounds_toArray, List.set_cons_zero, List.set_cons_succ]
      refine wpAnyH_take (i := 2) (oi := { dst := some 36, op := Op.load 3 (Operand.tmp 35), type := 3, pos := "sum.go:94", after := #[{ on := 1, ground := Ground.data }], guard := none }) (v := ?vv19_9_2) rfl (by kernel_rfl) (by kernel_rfl) (by kernel_rfl) (fun _ _ _ h => h) (Or.inl ⟨by rfl, ?yy19_9_2⟩) hHeld ?_
      case yy19_9_2 => (intro W hx; have hz := zz0.trans hx; obtain ⟨j0, j1, j2, j3⟩ := cells4 ((hz.block _ (blk_lt ((xr.block _ (blk_lt K2)).trans K2))).trans ((xr.block _ (blk_lt K2)).trans K2)); go_simp; try with_reducible rfl)
      simp only [Act.put, List.setIfInBounds_toArray, List.set_cons_zero, List.set_cons_succ]
      refine wpAnyH_take (i := 3) (oi := { dst := some 37, op := Op.slice 22 (Operand.tmp 34) none (some (Operand.tmp 36)) none, type := 22, pos := "sum.go:94", after := #[{ on := 0, ground := Ground.data }, { on := 2, ground := Ground.data }], guard := none }) (v := ?vv20_9_3) rfl (by kernel_rfl) (by kernel_rfl) (by kernel_rfl) (fun _ _ _ h => h) (Or.inl ⟨by rfl, ?yy20_9_3⟩) hHeld ?_
      case yy20_9_3 => (intro W hx; go_simp; try with_reducible rfl)
      simp only [Act.put, List.setIfInBounds_toArray, List.set_cons_zero, List.set_cons_succ]
      refine wpAnyH_take (i := 4) (oi := { dst := some 38, op := Op.fieldAddr 43 (Operand.tmp 8) 0, type := 0, pos := "sum.go:94", after := #[], guard := none }) (v := ?vv21_9_4) rfl (by kernel_rfl) (by kernel_rfl) (by kernel_rfl) (fun _ _ _ h => h) (Or.inl ⟨by rfl, ?yy21_9_4⟩) hHeld ?_
      case yy21_9_4 => (intro W hx; go_simp; try with_reducible rfl)
      simp only [Act.put, List.setIfInBounds_toArray, List.set_cons_zero, List.set_cons_succ]
      refine wpAnyH_take (i := 5) (oi := { dst := some 39, op := Op.load 3 (Operand.tmp 38), type := 3, pos := "sum.go:94", after := #[{ on := 4, ground := Ground.data }], guard := none }) (v := ?vv22_9_5) rfl (by kernel_rfl) (by kernel_rfl) (by kernel_rfl) (fun _ _ _ h => h) (Or.inl ⟨by rfl, ?yy22_9_5⟩) hHeld ?_
      case yy22_9_5 => (intro W hx; have hz := zz0.trans hx; obtain ⟨j0, j1, j2, j3⟩ := cells4 ((hz.block _ (blk_lt ((xr.block _ (blk_lt K2)).trans K2))).trans ((xr.block _ (blk_lt K2)).trans K2)); go_simp; try with_reducible rfl)
      simp only [Act.put, List.setIfInBounds_toArray, List.set_cons_zero, List.set_cons_succ]
      refine wpAnyH_take (i := 6) (oi := { dst := some 40, op := Op.move (Operand.tmp 2), type := 4, pos := "sum.go:94", after := #[], guard := none }) (v := ?vv23_9_6) rfl (by kernel_rfl) (by kernel_rfl) (by kernel_rfl) (fun _ _ _ h => h) (Or.inl ⟨by rfl, ?yy23_9_6⟩) hHeld ?_
      case yy23_9_6 => (intro W hx; go_simp; try with_reducible rfl)
      simp only [Act.put, List.setIfInBounds_toArray, List.set_cons_zero, List.set_cons_succ]
      refine wpAnyH_ready (rs := [7]) (by kernel_rfl) (by simp) (AllReadyH.cons rfl (fun K hK => ?_) AllReadyH.nil)
      go_simp
      go_wp2_with (go_at_call 16; (refine (take_any _ _ _ _ _ _ _ (rk.ext zz0) (by omega) (by omega) HW1.out (by omega)).mono ?_); rintro e w4 ⟨A4, c4, rfl, _, _, x4, _⟩; rw [HT.out])
      refine hK.out _ _ x4 (fun hHeld => ?_)
      clear hK K
      refine wpAnyH_imp (S' := Ext w4) (fun W h => Ext.trans x4 h) _ _ _ _ ?_
      replace hHeld := Ext.refl w4
      have zz1 := zz0.trans x4
      refine wpAnyH_take (i := 8) (oi := { dst := some 33, op := Op.move (Operand.tmp 41), type := 45, pos := "sum.go:94", after := #[{ on := 7, ground := Ground.data }], guard := none }) (v := ?vv24_9_8) rfl (by kernel_rfl) (by kernel_rfl) (by kernel_rfl) (fun _ _ _ h => h) (Or.inl ⟨by rfl, ?yy24_9_8⟩) hHeld ?_
      case yy24_9_8 => (intro W hx; go_simp; try with_reducible rfl)
      simp only [Act.put, List.setIfInBounds_toArray, List.set_cons_zero, List.set_cons_succ]
      refine wpAnyH_take (i := 9) (oi := { dst := some 42, op := Op.extract (Operand.tmp 33) 0, type := 31, pos := "sum.go:94", after := #[{ on := 8, ground := Ground.data }], guard := none }) (v := ?vv25_9_9) rfl (by kernel_rfl) (by kernel_rfl) (by kernel_rfl) (fun _ _ _ h => h) (Or.inl ⟨by rfl, ?yy25_9_9⟩) hHeld ?_
      case yy25_9_9 => (intro W hx; go_simp; try with_reducible rfl)
      simp only [Act.put, List.setIfInBounds_toArray, List.set_cons_zero, List.set_cons_succ]
      refine wpAnyH_take (i := 10) (oi := { dst := some 43, op := Op.extract (Operand.tmp 33) 1, type := 22, pos := "sum.go:94", after := #[{ on := 8, ground := Ground.data }, { on := 12, ground := Ground.gcOnly Departure.lateStores }], guard := none }) (v := ?vv26_9_10) rfl (by kernel_rfl) (by kernel_rfl) (by kernel_rfl) (fun _ _ _ h => h) (Or.inl ⟨by rfl, ?yy26_9_10⟩) hHeld ?_
      case yy26_9_10 => (intro W hx; go_simp; try with_reducible rfl)
      simp only [Act.put, List.setIfInBounds_toArray, List.set_cons_zero, List.set_cons_succ]
      refine wpAnyH_take (i := 11) (oi := { dst := some 44, op := Op.extract (Operand.tmp 33) 2, type := 24, pos := "sum.go:94", after := #[{ on := 8, ground := Ground.data }, { on := 13, ground := Ground.gcOnly Departure.lateStores }], guard := none }) (v := ?vv27_9_11) rfl (by kernel_rfl) (by kernel_rfl) (by kernel_rfl) (fun _ _ _ h => h) (Or.inl ⟨by rfl, ?yy27_9_11⟩) hHeld ?_
      case yy27_9_11 => (intro W hx; go_simp; try with_reducible rfl)
      simp only [Act.put, List.setIfInBounds_toArray, List.set_cons_zero, List.set_cons_succ]
      refine wpAnyH_take (i := 12) (oi := { dst := some 10, op := Op.assign (Operand.tmp 42), type := 31, pos := "sum.go:94", after := #[{ on := 9, ground := Ground.data }, { on := 7, ground := Ground.chain }, { on := 0, ground := Ground.phase }, { on := 1, ground := Ground.phase }, { on := 2, ground := Ground.phase }, { on := 3, ground := Ground.phase }, { on := 4, ground := Ground.phase }, { on := 5, ground := Ground.phase }, { on := 6, ground := Ground.phase }, { on := 7, ground := Ground.phase }, { on := 8, ground := Ground.phase }, { on := 9, ground := Ground.phase }, { on := 10, ground := Ground.textOnly Departure.lateStores }, { on := 11, ground := Ground.textOnly Departure.lateStores }], guard := none }) (v := ?vv28_9_12) rfl (by kernel_rfl) (by kernel_rfl) (by kernel_rfl) (fun _ _ _ h => h) (Or.inl ⟨by rfl, ?yy28_9_12⟩) hHeld ?_
      case yy28_9_12 => (intro W hx; go_simp; try with_reducible rfl)
      simp only [Act.put, List.setIfInBounds_toArray, List.set_cons_zero, List.set_cons_succ]
      refine wpAnyH_take (i := 13) (oi := { dst := some 11, op := Op.assign (Operand.tmp 43), type := 22, pos := "sum.go:94", after := #[{ on := 10, ground := Ground.data }, { on := 12, ground := Ground.chain }, { on := 0, ground := Ground.phase }, { on := 1, ground := Ground.phase }, { on := 2, ground := Ground.phase }, { on := 3, ground := Ground.phase }, { on := 4, ground := Ground.phase }, { on := 5, ground := Ground.phase }, { on := 6, ground := Ground.phase }, { on := 7, ground := Ground.phase }, { on := 8, ground := Ground.phase }, { on := 9, ground := Ground.phase }, { on := 10, ground := Ground.phase }, { on := 11, ground := Ground.textOnly Departure.lateStores }, { on := 12, ground := Ground.phase }], guard := none }) (v := ?vv29_9_13) rfl (by kernel_rfl) (by kernel_rfl) (by kernel_rfl) (fun _ _ _ h => h) (Or.inl ⟨by rfl, ?yy29_9_13⟩) hHeld ?_
      case yy29_9_13 => (intro W hx; go_simp; try with_reducible rfl)
      simp only [Act.put, List.setIfInBounds_toArray, List.set_cons_zero, List.set_cons_succ]
      refine wpAnyH_take (i := 14) (oi := { dst := some 12, op := Op.assign (Operand.tmp 44), type := 24, pos := "sum.go:94", after := #[{ on := 11, ground := Ground.data }, { on := 13, ground := Ground.chain }, { on := 0, ground := Ground.phase }, { on := 1, ground := Ground.phase }, { on := 2, ground := Ground.phase }, { on := 3, ground := Ground.phase }, { on := 4, ground := Ground.phase }, { on := 5, ground := Ground.phase }, { on := 6, ground := Ground.phase }, { on := 7, ground := Ground.phase }, { on := 8, ground := Ground.phase }, { on := 9, ground := Ground.phase }, { on := 10, ground := Ground.phase }, { on := 11, ground := Ground.phase }, { on := 12, ground := Ground.phase }, { on := 13, ground := Ground.phase }], guard := none }) (v := ?vv30_9_14) rfl (by kernel_rfl) (by kernel_rfl) (by kernel_rfl) (fun _ _ _ h => h) (Or.inl ⟨by rfl, ?yy30_9_14⟩) hHeld ?_
      case yy30_9_14 => (intro W hx; go_simp; try with_reducible rfl)
      simp only [Act.put, List.setIfInBounds_toArray, List.set_cons_zero, List.set_cons_succ]
      refine wpAnyH_done (by kernel_rfl) ?_ _
      have zend := zz1.trans hHeld
      have KCe := (zend.block _ (blk_lt KCr)).trans KCr
      clear f0 f1 f2 f3
      obtain ⟨f0, f1, f2, f3⟩ := cells4 ((zend.block _ (blk_lt ((xr.block _ (blk_lt K2)).trans K2))).trans ((xr.block _ (blk_lt K2)).trans K2))
      go_wp2_with (go_at_call 28; (refine (halving1_any _ _ _ _ _ KCe OK.out.m ⟨s0, s1⟩ ⟨t0, t2⟩).mono ?_); rintro e w5 ⟨rfl, rfl⟩)
      go_roundw
      case rel => exact ⟨i + 1, q + k, n' - k, c' - k, pA, (by show _ = _; rw [hq.out, Nat.mul_succ]), (by show _ = _; have := hqn.out; omega), rfl, by omega, by omega, rd2.ext zend, (by rw [HS.out]; rfl), xr.trans zend⟩
      case measure => simp; omega
    · obtain rfl : n' = 0 := by omega
      have HV : Hid (sumV y big bs = bits .xor .u32 (sumTo y big bs i) y.turn) := by
        show _ = _
        unfold sumV
        have h1 := hq.out
        have h2 := hqn.out
        rw [hlen.out, ← h2, h1, Nat.add_zero, ← HKY.out, Nat.mul_div_cancel_left _ (by omega)]
      go_wp2
      go_ret2
      exact ⟨(by rw [HV.out]; rfl), x12.trans xr⟩
set_option maxHeartbeats 2000000 in
theorem of_29 (kind : Int) (y : Way) (hy : wayK kind = some y) (hF : y.fn = 29) (A : Option Addr) (n c : Nat) (bs : List Int) (big : Bool) (w : World) (hr : Rd w A n bs) (hn : n ≤ 1000) (hnc : n ≤ c) (hcm : c ≤ maxLen) (hm : n % y.word = 0) :
    Calls Try.prog 9 #[.int .u8 kind, .slice A n c, .bool big] w fun e w' => e = .returned (.tuple #[.int .u32 (sumV y big bs), .int .i64 0]) ∧ Ext w w' := by
  have ok := way_ok hy
  have hw := ok.word
  have H := Lib.hid hy
  have OK := Lib.hid ok
  have HFN := Lib.hid hF
  obtain ⟨k, hk⟩ : ∃ k, k = y.word := ⟨_, rfl⟩
  rw [← hk] at hw hm
  have hk1 : 1 ≤ k := by omega
  have hk4 : k ≤ 4 := by omega
  have h0 : ((k : Int) == 0) = false := by simp; omega
  have ht : ((n : Int).tmod k) = 0 := by rw [tmod_nat, hm]; rfl
  have HW := Lib.hid hw
  have HM29 : Hid ((0 ≤ y.m ∧ y.m < 65536) ∧ y.word = 1) := by have h1 := OK.out.fn; have h2 := OK.out.m; have h3 := HFN.out; show _ ∧ _; omega
  have hlen := Lib.hid hr.len
  have HKY := Lib.hid hk
  have HMM := Lib.hid hm
  clear hy hF hm hw ok hk
  have hws := fun W => way_some H.out W
  rw [HFN.out, ← HKY.out] at hws
  have HWS := Lib.hid hws
  clear hws
  go_enter Try.func9, Try.ntmps9
  go_upto_region 2 with (go_at_call 15; (refine (HWS.out _).mono ?_); rintro e w1 ⟨g, rfl, x1, hg1, KC1⟩)
  obtain ⟨w2, hw2⟩ : ∃ W, W = w1.alloc (.cells #[.int .i64 k, .int .u32 y.start, .func (.func 29) #[] #[.pointer (some ⟨g, 0, none⟩)], .int .u32 y.turn] 43) := ⟨_, rfl⟩
  have x2 : Ext w1 w2 := by rw [hw2]; exact (Ext.refl _).alloc _
  have K2 : w2.heap[w1.heap.size]? = some (.cells #[.int .i64 k, .int .u32 y.start, .func (.func 29) #[] #[.pointer (some ⟨g, 0, none⟩)], .int .u32 y.turn] 43 (0, 0)) := by rw [hw2]; exact heap_alloc_new _ _
  have KC2 := (x2.block _ (blk_lt KC1)).trans KC1
  rw [← hw2]
  clear hw2 KC1
  obtain ⟨f0, f1, f2, f3⟩ := cells4 K2
  have x12 := x1.trans x2
  go_wp2
  go_loopw [1, 9, 10, 11, 12] (fun v1 v9 _ _ _ wr => ∃ (i q n' c' : Nat) (A' : Option Addr), Hid (q = k * i) ∧ Hid (q + n' = n) ∧ v1 = .slice A' n' c' ∧ n' ≤ c' ∧ c' ≤ maxLen ∧ Rd wr A' n' (bs.drop q) ∧ v9 = .int .u32 (sumTo y big bs i) ∧ Ext w2 wr) (fun v _ _ _ _ _ => match v with | .slice _ n' _ => n' | _ => 0)
  case atStart => exact ⟨0, 0, n, c, A, rfl, Nat.zero_add _, rfl, hnc, hcm, (by simpa using hr.ext x12), rfl, Ext.refl _⟩
  case round =>
    obtain ⟨i, q, n', c', A', hq, hqn, rfl, lc, mc, rr, rfl, xr⟩ := hrel
    clear f0 f1 f2 f3
    obtain ⟨f0, f1, f2, f3⟩ := cells4 ((xr.block _ (blk_lt K2)).trans K2)
    have KCr := (xr.block _ (blk_lt KC2)).trans KC2
    by_cases hpos : 0 < n'
    · have hkn : k ≤ n' := by
        have h1 := hq.out
        have h2 := hqn.out
        have h3 := HMM.out
        have h5 : (k * i + n') % k = n' % k := Nat.mul_add_mod _ _ _
        rw [← h1, h2, h3] at h5
        exact Nat.le_of_dvd hpos (Nat.dvd_of_mod_eq_zero h5.symm)
      have hposI : (0 : Int) < n' := by omega
      have hn1000 : n' ≤ 1000 := by have := hqn.out; omega
      have rk := rr.take (k := k) hkn
      have rd := rr.drop (k := k) hkn lc
      have hw1 : isW k = true := by rw [isW_iff]; have := HW.out; omega
      have HW1 := Lib.hid hw1
      obtain ⟨pA, hpA⟩ : ∃ p, (if c' = k then A' else Option.map (fun x => x.add k) A') = p := ⟨_, rfl⟩
      have rd2 : Rd wr pA (n' - k) (bs.drop (q + k)) := by rw [← hpA, ← List.drop_drop]; exact rd
      obtain ⟨s0, s1, s2⟩ := sumTo_bd OK.out big hr.byts i
      have hww := HW.out
      rw [HKY.out] at hww
      obtain ⟨t0, t1⟩ := wordAt_bd hr.byts big i hww
      have t2 : wordAt bs y.word big i < 4294967296 := by rcases hww with h | h | h <;> rw [h] at t1 <;> simp at t1 <;> rw [h] <;> omega
      have t3 : y.word = 1 → wordAt bs y.word big i < 256 := by intro h; rw [h] at t1 ⊢; simpa using t1
      have HT : Hid (takeTo ((bs.drop q).take k) k big k = wordAt bs y.word big i) := by show _ = _; unfold wordAt; rw [hq.out, HKY.out]
      have HS : Hid (sumTo y big bs (i + 1) = stepW 29 y.m (sumTo y big bs i) (wordAt bs y.word big i)) := by show _ = _; rw [← HFN.out]; rfl
      have S2 := Lib.hid s2
      have T3 := Lib.hid t3
      clear s2 t3 hww t1 hw1 rd hpos
      generalize sumTo y big bs i = r at *
      generalize wordAt bs y.word big i = x at *
      have lkI : (k : Int) ≤ c' := by omega
      go_upto_region 9 with (fail)
      refine wp_region_held_drew (S := Ext wr) (by kernel_rfl) ((Ext.refl _).drew) (fun hHeld => ?_)
      obtain ⟨wD31, hwD⟩ : ∃ V, V = World.drew wr := ⟨_, rfl⟩
      rw [← hwD]
      clear hHeld
      have zz0 : Ext wr wD31 := by rw [hwD]; exact (Ext.refl _).drew
      clear hwD
      refine wpAnyH_imp (S' := Ext wD31) (fun W h => Ext.trans zz0 h) _ _ _ _ ?_
      have hHeld := Ext.refl wD31
      refine wpAnyH_take (i := 0) (oi := { dst := some 34, op := Op.move (Operand.tmp 1), type := 22, pos := "sum.go:94", after := #[], guard := none }) (v := ?vv32_9_0) rfl (by kernel_rfl) (by kernel_rfl) (by kernel_rfl) (fun _ _ _ h => h) (Or.inl ⟨by rfl, ?yy32_9_0⟩) hHeld ?_
      case yy32_9_0 => (intro W hx; go_simp; try with_reducible rfl)
      simp only [Act.put, List.setIfInBounds_toArray, List.set_cons_zero, List.set_cons_succ]
      refine wpAnyH_take (i := 1) (oi := { dst := some 35, op := Op.fieldAddr 43 (Operand.tmp 8) 0, type := 0, pos := "sum.go:94", after := #[], guard := none }) (v := ?vv33_9_1) rfl (by kernel_rfl) (by kernel_rfl) (by kernel_rfl) (fun _ _ _ h => h) (Or.inl ⟨by rfl, ?yy33_9_1⟩) hHeld ?_
      case yy33_9_1 => (intro W hx; go_simp; try with_reducible rfl)
      simp only [Act.put, List.setIfInBounds_toArray, List.set_cons_zero, List.set_cons_succ]
      refine wpAnyH_take (i := 2) (oi := { dst := some 36, op := Op.load 3 (Operand.tmp 35), type := 3, pos := "sum.go:94", after := #[{ on := 1, ground := Ground.data }], guard := none }) (v := ?vv34_9_2) rfl (by kernel_rfl) (by kernel_rfl) (by kernel_rfl) (fun _ _ _ h => h) (Or.inl ⟨by rfl, ?yy34_9_2⟩) hHeld ?_
      case yy34_9_2 => (intro W hx; have hz := zz0.trans hx; obtain ⟨j0, j1, j2, j3⟩ := cells4 ((hz.block _ (blk_lt ((xr.block _ (blk_lt K2)).trans K2))).trans ((xr.block _ (blk_lt K2)).trans K2)); go_simp; try with_reducible rfl)
      simp only [Act.put, List.setIfInBounds_toArray, List.set_cons_zero, List.set_cons_succ]
      refine wpAnyH_take (i := 3) (oi := { dst := some 37, op := Op.slice 22 (Operand.tmp 34) none (some (Operand.tmp 36)) none, type := 22, pos := "sum.go:94", after := #[{ on := 0, ground := Ground.data }, { on := 2, ground := Ground.data }], guard := none }) (v := ?vv35_9_3) rfl (by kernel_rfl) (by kernel_rfl) (by kernel_rfl) (fun _ _ _ h => h) (Or.inl ⟨by rfl, ?yy35_9_3⟩) hHeld ?_
      case yy35_9_3 => (intro W hx; go_simp; try with_reducible rfl)
      simp only [Act.put, List.setIfInBounds_toArray, List.set_cons_zero, List.set_cons_succ]
      refine wpAnyH_take (i := 4) (oi := { dst := some 38, op := Op.fieldAddr 43 (Operand.tmp 8) 0, type := 0, pos := "sum.go:94", after := #[], guard := none }) (v := ?vv36_9_4) rfl (by kernel_rfl) (by kernel_rfl) (by kernel_rfl) (fun _ _ _ h => h) (Or.inl ⟨by rfl, ?yy36_9_4⟩) hHeld ?_
      case yy36_9_4 => (intro W hx; go_simp; try with_reducible rfl)
      simp only [Act.put, List.setIfInBounds_toArray, List.set_cons_zero, List.set_cons_succ]
      refine wpAnyH_take (i := 5) (oi := { dst := some 39, op := Op.load 3 (Operand.tmp 38), type := 3, pos := "sum.go:94", after := #[{ on := 4, ground := Ground.data }], guard := none }) (v := ?vv37_9_5) rfl (by kernel_rfl) (by kernel_rfl) (by kernel_rfl) (fun _ _ _ h => h) (Or.inl ⟨by rfl, ?yy37_9_5⟩) hHeld ?_
      case yy37_9_5 => (intro W hx; have hz := zz0.trans hx; obtain ⟨j0, j1, j2, j3⟩ := cells4 ((hz.block _ (blk_lt ((xr.block _ (blk_lt K2)).trans K2))).trans ((xr.block _ (blk_lt K2)).trans K2)); go_simp; try with_reducible rfl)
      simp only [Act.put, List.setIfInBounds_toArray, List.set_cons_zero, List.set_cons_succ]
      refine wpAnyH_take (i := 6) (oi := { dst := some 40, op := Op.move (Operand.tmp 2), type := 4, pos := "sum.go:94", after := #[], guard := none }) (v := ?vv38_9_6) rfl (by kernel_rfl) (by kernel_rfl) (by kernel_rfl) (fun _ _ _ h => h) (Or.inl ⟨by rfl, ?yy38_9_6⟩) hHeld ?_
      case yy38_9_6 => (intro W hx; go_simp; try with_reducible rfl)
      simp only [Act.put, List.setIfInBounds_toArray, List.set_cons_zero, List.set_cons_succ]
      refine wpAnyH_ready (rs := [7]) (by kernel_rfl) (by simp) (AllReadyH.cons rfl (fun K hK => ?_) AllReadyH.nil)
      go_simp
      go_wp2_with (go_at_call 16; (refine (take_any _ _ _ _ _ _ _ (rk.ext zz0) (by omega) (by omega) HW1.out (by omega)).mono ?_); rintro e w4 ⟨A4, c4, rfl, _, _, x4, _⟩; rw [HT.out])
      refine hK.out _ _ x4 (fun hHeld => ?_)
      clear hK K
      refine wpAnyH_imp (S' := Ext w4) (fun W h => Ext.trans x4 h) _ _ _ _ ?_
      replace hHeld := Ext.refl w4
      have zz1 := zz0.trans x4
      refine wpAnyH_take (i := 8) (oi := { dst := some 33, op := Op.move (Operand.tmp 41), type := 45, pos := "sum.go:94", after := #[{ on := 7, ground := Ground.data }], guard := none }) (v := ?vv39_9_8) rfl (by kernel_rfl) (by kernel_rfl) (by kernel_rfl) (fun _ _ _ h => h) (Or.inl ⟨by rfl, ?yy39_9_8⟩) hHeld ?_
      case yy39_9_8 => (intro W hx; go_simp; try with_reducible rfl)
      simp only [Act.put, List.setIfInBounds_toArray, List.set_cons_zero, List.set_cons_succ]
      refine wpAnyH_take (i := 9) (oi := { dst := some 42, op := Op.extract (Operand.tmp 33) 0, type := 31, pos := "sum.go:94", after := #[{ on := 8, ground := Ground.data }], guard := none }) (v := ?vv40_9_9) rfl (by kernel_rfl) (by kernel_rfl) (by kernel_rfl) (fun _ _ _ h => h) (Or.inl ⟨by rfl, ?yy40_9_9⟩) hHeld ?_
      case yy40_9_9 => (intro W hx; go_simp; try with_reducible rfl)
      simp only [Act.put, List.setIfInBounds_toArray, List.set_cons_zero, List.set_cons_succ]
      refine wpAnyH_take (i := 10) (oi := { dst := some 43, op := Op.extract (Operand.tmp 33) 1, type := 22, pos := "sum.go:94", after := #[{ on := 8, ground := Ground.data }, { on := 12, ground := Ground.gcOnly Departure.lateStores }], guard := none }) (v := ?vv41_9_10) rfl (by kernel_rfl) (by kernel_rfl) (by kernel_rfl) (fun _ _ _ h => h) (Or.inl ⟨by rfl, ?yy41_9_10⟩) hHeld ?_
      case yy41_9_10 => (intro W hx; go_simp; try with_reducible rfl)
      simp only [Act.put, List.setIfInBounds_toArray, List.set_cons_zero, List.set_cons_succ]
      refine wpAnyH_take (i := 11) (oi := { dst := some 44, op := Op.extract (Operand.tmp 33) 2, type := 24, pos := "sum.go:94", after := #[{ on := 8, ground := Ground.data }, { on := 13, ground := Ground.gcOnly Departure.lateStores }], guard := none }) (v := ?vv42_9_11) rfl (by kernel_rfl) (by kernel_rfl) (by kernel_rfl) (fun _ _ _ h => h) (Or.inl ⟨by rfl, ?yy42_9_11⟩) hHeld ?_
      case yy42_9_11 => (intro W hx; go_simp; try with_reducible rfl)
      simp only [Act.put, List.setIfInBounds_toArray, List.set_cons_zero, List.set_cons_succ]
      refine wpAnyH_take (i := 12) (oi := { dst := some 10, op := Op.assign (Operand.tmp 42), type := 31, pos := "sum.go:94", after := #[{ on := 9, ground := Ground.data }, { on := 7, ground := Ground.chain }, { on := 0, ground := Ground.phase }, { on := 1, ground := Ground.phase }, { on := 2, ground := Ground.phase }, { on := 3, ground := Ground.phase }, { on := 4, ground := Ground.phase }, { on := 5, ground := Ground.phase }, { on := 6, ground := Ground.phase }, { on := 7, ground := Ground.phase }, { on := 8, ground := Ground.phase }, { on := 9, ground := Ground.phase }, { on := 10, ground := Ground.textOnly Departure.lateStores }, { on := 11, ground := Ground.textOnly Departure.lateStores }], guard := none }) (v := ?vv43_9_12) rfl (by kernel_rfl) (by kernel_rfl) (by kernel_rfl) (fun _ _ _ h => h) (Or.inl ⟨by rfl, ?yy43_9_12⟩) hHeld ?_
      case yy43_9_12 => (intro W hx; go_simp; try with_reducible rfl)
      simp only [Act.put, List.setIfInBounds_toArray, List.set_cons_zero, List.set_cons_succ]
      refine wpAnyH_take (i := 13) (oi := { dst := some 11, op := Op.assign (Operand.tmp 43), type := 22, pos := "sum.go:94", after := #[{ on := 10, ground := Ground.data }, { on := 12, ground := Ground.chain }, { on := 0, ground := Ground.phase }, { on := 1, ground := Ground.phase }, { on := 2, ground := Ground.phase }, { on := 3, ground := Ground.phase }, { on := 4, ground := Ground.phase }, { on := 5, ground := Ground.phase }, { on := 6, ground := Ground.phase }, { on := 7, ground := Ground.phase }, { on := 8, ground := Ground.phase }, { on := 9, ground := Ground.phase }, { on := 10, ground := Ground.phase }, { on := 11, ground := Ground.textOnly Departure.lateStores }, { on := 12, ground := Ground.phase }], guard := none }) (v := ?vv44_9_13) rfl (by kernel_rfl) (by kernel_rfl) (by kernel_rfl) (fun _ _ _ h => h) (Or.inl ⟨by rfl, ?yy44_9_13⟩) hHeld ?_
      case yy44_9_13 => (intro W hx; go_simp; try with_reducible rfl)
      simp only [Act.put, List.setIfInBounds_toArray, List.set_cons_zero, List.set_cons_succ]
      refine wpAnyH_take (i := 14) (oi := { dst := some 12, op := Op.assign (Operand.tmp 44), type := 24, pos := "sum.go:94", after := #[{ on := 11, ground := Ground.data }, { on := 13, ground := Ground.chain }, { on := 0, ground := Ground.phase }, { on := 1, ground := Ground.phase }, { on := 2, ground := Ground.phase }, { on := 3, ground := Ground.phase }, { on := 4, ground := Ground.phase }, { on := 5, ground := Ground.phase }, { on := 6, ground := Ground.phase }, { on := 7, ground := Ground.phase }, { on := 8, ground := Ground.phase }, { on := 9, ground := Ground.phase }, { on := 10, ground := Ground.phase }, { on := 11, ground := Ground.phase }, { on := 12, ground := Ground.phase }, { on := 13, ground := Ground.phase }], guard := none }) (v := ?vv45_9_14) rfl (by kernel_rfl) (by kernel_rfl) (by kernel_rfl) (fun _ _ _ h => h) (Or.inl ⟨by rfl, ?yy45_9_14⟩) hHeld ?_
      case yy45_9_14 => (intro W hx; go_simp; try with_reducible rfl)
      simp only [Act.put, List.setIfInBounds_toArray, List.set_cons_zero, List.set_cons_succ]
      refine wpAnyH_done (by kernel_rfl) ?_ _
      have zend := zz1.trans hHeld
      have KCe := (zend.block _ (blk_lt KCr)).trans KCr
      clear f0 f1 f2 f3
      obtain ⟨f0, f1, f2, f3⟩ := cells4 ((zend.block _ (blk_lt ((xr.block _ (blk_lt K2)).trans K2))).trans ((xr.block _ (blk_lt K2)).trans K2))
      go_wp2_with (go_at_call 29; (refine (doubling1_any _ _ _ _ _ KCe (HM29.out).1 ⟨s0, S2.out HFN.out⟩ ⟨t0, T3.out (HM29.out).2⟩).mono ?_); rintro e w5 ⟨rfl, rfl⟩)
      go_roundw
      case rel => exact ⟨i + 1, q + k, n' - k, c' - k, pA, (by show _ = _; rw [hq.out, Nat.mul_succ]), (by show _ = _; have := hqn.out; omega), rfl, by omega, by omega, rd2.ext zend, (by rw [HS.out]; rfl), xr.trans zend⟩
      case measure => simp; omega
    · obtain rfl : n' = 0 := by omega
      have HV : Hid (sumV y big bs = bits .xor .u32 (sumTo y big bs i) y.turn) := by
        show _ = _
        unfold sumV
        have h1 := hq.out
        have h2 := hqn.out
        rw [hlen.out, ← h2, h1, Nat.add_zero, ← HKY.out, Nat.mul_div_cancel_left _ (by omega)]
      go_wp2
      go_ret2
      exact ⟨(by rw [HV.out]; rfl), x12.trans xr⟩
theorem of_any (kind : Int) (A : Option Addr) (n c : Nat) (bs : List Int) (big : Bool) (w : World) (hr : Rd w A n bs) (hn : n ≤ 1000) (hnc : n ≤ c) (hcm : c ≤ maxLen) (y : Way) (hy : wayK kind = some y) (hm : n % y.word = 0) :
    Calls Try.prog 9 #[.int .u8 kind, .slice A n c, .bool big] w fun e w' => e = .returned (.tuple #[.int .u32 (sumV y big bs), .int .i64 0]) ∧ Ext w w' := by
  rcases (way_ok hy).fn with h | h | ⟨h, _⟩
  · exact of_27 kind y hy h A n c bs big w hr hn hnc hcm hm
  · exact of_28 kind y hy h A n c bs big w hr hn hnc hcm hm
  · exact of_29 kind y hy h A n c bs big w hr hn hnc hcm hm
end Go.Proofs.Ytjfdcgpnjjhhoaa
