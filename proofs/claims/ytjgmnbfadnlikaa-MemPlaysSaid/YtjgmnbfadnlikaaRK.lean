import Derived.Test.YtjgmnbfadnlikaaRJ
set_option linter.unusedVariables false
set_option linter.unusedSimpArgs false
namespace Go.Proofs.Ytjgmnbfadnlikaa
open Go.RowKit
theorem may_dec (m : MP) : m.may = true ∨ m.may = false := by cases m.may <;> simp
theorem dis_flip {T T2 : Nat → Option Tg} (h : ∀ b, T b ≠ none → T2 b = none) : ∀ b t, T b = some t → ¬ T2 b ≠ none := fun b t ht hb => hb (h b (by rw [ht]; simp))
theorem dis_back {T T2 : Nat → Option Tg} (h : ∀ b, T b ≠ none → T2 b = none) : ∀ b t, T2 b = some t → ¬ T b ≠ none := fun b t ht hb => by rw [h b hb] at ht; cases ht
set_option maxRecDepth 100000 in
set_option maxHeartbeats 8000000 in
theorem MemPlays_law (w : World) (m : MP) (sA fA : Option Addr) (sc fc : Nat) (aA : Option Addr) (aN aC : Nat) (l : List Ac) (h : MpR w m sA fA sc fc) (hnc : aN ≤ aC) (hcm : aC ≤ maxLen) (hl : aN = l.length) (hs : Shows w 7 aA aN (l.flatMap Ac.vals)) (hok : ∀ a ∈ l, a.ok w) :
    Calls Try.prog 3 #[.agg #[.int .i64 m.ram, .slice sA m.segs.length sc, .slice fA m.flash.length fc], .slice aA aN aC] w fun e w' => e = .returned (.bool true) ∧ Ext w w' := by
  obtain ⟨w1, hw1⟩ : ∃ V, V = w.alloc (.cells #[.int .i64 m.ram, .slice sA m.segs.length sc, .slice fA m.flash.length fc] 25) := ⟨_, rfl⟩
  have K1 : w1.heap[w.heap.size]? = some (.cells #[.int .i64 m.ram, .slice sA m.segs.length sc, .slice fA m.flash.length fc] 25 (0, 0)) := by rw [hw1]; exact heap_alloc_new _ _
  have x1 : Ext w w1 := by rw [hw1]; exact (Ext.refl _).alloc _
  have HP := Lib.hid h
  have HA := Lib.hid (And.intro hs hok)
  have HF := Lib.hid (fun W => few_any (w := W) aA aN aC hnc hcm)
  obtain ⟨an, han⟩ : ∃ an, an = min aN 60 := ⟨_, rfl⟩
  rw [← han] at HF
  have an60 : an ≤ 60 := by omega
  have HAN := Lib.hid (And.intro han hl)
  clear h hs hok hnc hcm han hl
  rcases may_dec m with hm | hm
  · have HM0 := Lib.hid hm
    clear hm
    go_enter Try.func3, Try.ntmps3
    go_upto_region 1 with (fail)
    rw [← hw1]
    clear hw1
    go_upto_region 2 with (go_at_call 9; (refine (shown_any _).mono ?_); rintro e w2 ⟨rfl, x2⟩)
    have K2 := (x2.block _ (blk_lt K1)).trans K1
    go_upto_region 3 with (first | refine wpList_ldrow rfl 25 (.tmp 2) rfl K2 rfl Try.underlying25 rfl (by kernel_rfl) ?_ | (go_at_call 10; (refine (new_yes (HP.out.ext (x1.trans x2)) HM0.out).mono ?_); rintro e w3 ⟨g, va, T, rfl, x3, M3, hT3⟩))
    have K3 := (x3.block _ (blk_lt K2)).trans K2
    go_upto_region 4 with (first | refine wpList_ldrow rfl 25 (.tmp 2) rfl K3 rfl Try.underlying25 rfl (by kernel_rfl) ?_ | (go_at_call 11; (refine (r_new_yes (HP.out.ext (x1.trans (x2.trans x3))) HM0.out).mono ?_); rintro e w4 ⟨g2, va2, T2, rfl, x4, R4, hT4⟩))
    have x24 : Ext w2 w4 := x3.trans x4
    have X2 : Ext w w2 := x1.trans x2
    have HM4 := Lib.hid (M3.ext x4)
    have HR4 := Lib.hid R4
    have HT := Lib.hid hT3
    have HT4 := Lib.hid (fun b t (e : T2 b = some t) => Nat.le_trans x3.size (hT4 b t e))
    have HD4 := Lib.hid (show ∀ b, T b ≠ none → T2 b = none from fun b hb => by
      obtain ⟨t, ht⟩ := Option.ne_none_iff_exists'.1 hb
      have h1 := M3.O.lt _ _ ht
      rcases e : T2 b with _ | t2
      · rfl
      · have := hT4 b t2 e; omega)
    clear M3 R4 hT3 hT4 K1 K2 K3 x3 x4
    go_upto_region 9 with (go_at_call 12; (refine (HF.out _).mono ?_); rintro e w6 ⟨rfl, rfl⟩)
    go_loopw [45] (fun v wr => ∃ (k : Nat) (s : MS) (vb : Tg → Value) (Tb : Nat → Option Tg), v = .int .i64 k ∧ k ≤ an ∧ MemC wr g s va T ∧ MemR wr g2 s vb Tb ∧ (∀ b, T b ≠ none → Tb b = none) ∧ (∀ b t, Tb b = some t → w2.heap.size ≤ b) ∧ Ext w2 wr) (fun v _ => an - (intOf v).toNat)
    case atStart => exact ⟨0, _, _, _, rfl, Nat.zero_le _, HM4.out, HR4.out, HD4.out, HT4.out, x24⟩
    case round =>
      clear HM4 HR4 HD4 HT4 x24
      obtain ⟨k, s, vb, Tb, rfl, hk, M, R, hD, hTb, xr⟩ := hrel
      obtain ⟨wo, rfl⟩ : ∃ z : World, z = wr := ⟨_, rfl⟩
      by_cases hlt : k < an
      · have hkn : (k : Int) < an := by omega
        obtain ⟨y, hy⟩ : ∃ y, l[k]? = some y := ⟨_, List.getElem?_eq_getElem (by have := HAN.out; omega)⟩
        have xw := X2.trans xr
        obtain ⟨b, o, hA, hb, hr⟩ := Shows.row ac_len (by omega) (HA.out.1.ext xw) HAN.out.2 hy
        have hyo := Lib.hid (HA.out.2 y (List.mem_of_getElem? hy))
        have HM := Lib.hid M
        have HR := Lib.hid R
        have HD := Lib.hid hD
        have HTb := Lib.hid hTb
        clear M R hD hTb hy
        subst hA
        go_upto_region 11 with (first | refine wpList_load_mid rfl 39 _ rfl _ _ rfl y.vals _ hr Try.underlying39 rfl size39 ?_ | refine wpList_stnew rfl 39 _ _ rfl rfl y.vals rfl rfl size39 rfl (ac_one y) ?_)
        obtain ⟨w6, hw6⟩ : ∃ V, V = wo.alloc (.cells y.vals.toArray 39) := ⟨_, rfl⟩
        have k6 : w6.heap[wo.heap.size]? = some (.cells y.vals.toArray 39 (0, 0)) := by rw [hw6]; exact heap_alloc_new _ _
        have x6 : Ext wo w6 := by rw [hw6]; exact (Ext.refl _).alloc _
        rw [← hw6]
        clear hw6 hr
        have hnT : T wo.heap.size = none := by
          rcases e : T wo.heap.size with _ | t
          · rfl
          · have := HM.out.O.lt _ _ e; omega
        have HNT := Lib.hid hnT
        have HK6 := Lib.hid k6
        clear hnT
        go_upto_region 12 with (first | refine wpList_ldrow rfl 39 (.tmp 11) rfl k6 rfl Try.underlying39 rfl (by kernel_rfl) ?_ | (go_at_call 13; (refine (does_any (HM.out.ext x6) y (hyo.out.ext (xw.trans x6))).mono ?_); rintro e w7 ⟨v, rfl, M7, k7, o7⟩))
        have B7 : w7.heap[wo.heap.size]? = some (.cells #[.int .u8 y.k, .int .u8 y.who, .int .u8 (y.area : Int), .int .u32 (y.at_ : Int), .int .i64 y.n, .int .i64 y.m, .slice y.A y.bn y.c] 39 (0, 0)) := k7.blk HK6.out (fun h => h HNT.out)
        have HB7 := Lib.hid B7
        have R7 := Lib.hid ((HR.out.ext x6).kept k7 (dis_back HD.out))
        have HM7 := Lib.hid M7
        have XW7 : Ext w2 w7 := ext_kept (xr.trans x6) k7 HT.out
        have HK67 := Lib.hid k7
        have HO7 := Lib.hid o7
        obtain ⟨q, hq⟩ : ∃ q, y.k.tmod 5 = q := ⟨_, rfl⟩
        have hq5 : q = 0 ∨ q = 1 ∨ q = 2 ∨ q = 3 ∨ q = 4 := by rw [← hq, Int.tmod_eq_emod_of_nonneg hyo.out.k.1]; omega
        have iw := wri y.area (by have := hyo.out.area; omega)
        have szo : wo.heap.size < w6.heap.size := blk_lt HK6.out
        clear M7 k7 k6 B7 o7
        rcases hq5 with rfl | rfl | rfl | rfl | rfl
        · have ht : s.tell y = (s.rd y.who y.area y.at_ y.n, 0, s.err y.who y.area y.at_ y.n) := by simp [MS.tell, hq]
          have ha : s.act y = s := by simp [MS.act, hq]
          have o7 := HO7.out
          rw [ht] at o7 ⊢
          simp only at o7 ⊢
          have M7 := HM7.out
          rw [ha] at M7
          have HM7 := Lib.hid M7
          have HACT := Lib.hid ha
          obtain ⟨A7, c7, rfl, _, r7⟩ := rd_own o7 (rd_byts HM7.out.ok y.who y.area y.at_ y.n)
          obtain ⟨f0, f1, f2, f3, f4, f5, f6⟩ := cells7 HB7.out
          have RL := Lib.hid (And.intro r7 trivial)
          clear ht ha o7 M7 r7
          go_upto_region 25 with (go_at_call 14; (refine (r_read_any R7.out y.who y.area y.at_ y.n hyo.out.area hyo.out.at_ hyo.out.n.2).mono ?_); rintro e w8 ⟨x8, v8, rfl, o8⟩)
          clear f0 f1 f2 f3 f4 f5 f6 iw hq
          obtain ⟨A8, c8, rfl, _, r8⟩ := rd_own o8 (rd_byts HM7.out.ok y.who y.area y.at_ y.n)
          have XW := XW7.trans x8
          have s1 := str (c := c7) (RL.out.1.ext x8)
          have s2 := str (c := c8) r8
          go_wp2
          go_roundw
          case rel => exact ⟨k + 1, s, vb, Tb, by go_num, by omega, HM7.out.ext x8, R7.out.ext x8, HD.out, HTb.out, XW⟩
          case measure => simp [intOf]; omega
        · obtain ⟨kb, hkb⟩ : ∃ kb, kb = min y.bn 300 := ⟨_, rfl⟩
          have ht : s.tell y = ([], 0, s.wre y.who y.area y.at_ kb) := by simp [MS.tell, hq, hkb]
          have hle := hyo.out.le
          have hcm := hyo.out.cm
          have hlen := hyo.out.rd.len
          unfold maxLen at hcm
          have hmin : (if (300 : Int) < y.bn then (300 : Int) else y.bn) = kb := by split <;> omega
          have hkc : kb ≤ y.c := by omega
          have hkc' : (kb : Int) ≤ y.c := by omega
          have htk : y.bs.take 300 = y.bs.take kb := by
            by_cases h3 : y.bn ≤ 300
            · rw [List.take_of_length_le (by omega), List.take_of_length_le (by omega)]
            · rw [show kb = 300 by omega]
          have hrd := Lib.hid (hyo.out.rd.take (k := kb) (by omega))
          have hk300 : kb ≤ 100000 := by omega
          have ha : s.act y = s.wr y.who y.area y.at_ (y.bs.take kb) := by simp [MS.act, hq, htk]
          have hdA : ∀ ad, y.A = some ad → 0 < kb → Tb ad.block = none := fun ad e h0 => by
            obtain ⟨ad', e', hlt', _⟩ := hrd.out.at_ h0
            rw [e] at e'
            injection e' with e'
            subst e'
            rcases et : Tb ad.block with _ | t
            · rfl
            · have := HTb.out _ _ et; have := X2.size; omega
          have HDA := Lib.hid hdA
          have o7 := HO7.out
          rw [ht] at o7 ⊢
          simp only at o7 ⊢
          have M7 := HM7.out
          rw [ha] at M7
          have HM7 := Lib.hid M7
          obtain ⟨A7, c7, rfl, _, r7⟩ := rd_own o7 Byts.nil
          have RL := Lib.hid r7
          obtain ⟨f0, f1, f2, f3, f4, f5, f6⟩ := cells7 HB7.out
          have hTbo : Tb wo.heap.size = none := by
            rcases e : Tb wo.heap.size with _ | t
            · rfl
            · have := HR.out.O.lt _ _ e; omega
          have HTBO := Lib.hid hTbo
          clear ht ha o7 M7 r7 hle hcm hlen htk hkb hdA hTbo
          go_upto_region 18 with (fail)
          clear f0 f1 f2 f3 f4 f5 f6 iw hq
          refine wp_region_held_drew (S := fun W => W.heap[wo.heap.size]? = some (.cells #[.int .u8 y.k, .int .u8 y.who, .int .u8 (y.area : Int), .int .u32 (y.at_ : Int), .int .i64 y.n, .int .i64 y.m, .slice y.A y.bn y.c] 39 (0, 0))) (by kernel_rfl) (((Ext.refl w7).drew.block _ (blk_lt HB7.out)).trans HB7.out) (fun hHeld => ?_)
          obtain ⟨wD1, hwD⟩ : ∃ V, V = World.drew w7 := ⟨_, rfl⟩
          rw [← hwD] at hHeld ⊢
          have zz0 : Ext w7 wD1 := by rw [hwD]; exact (Ext.refl _).drew
          clear hwD
          have MD := Lib.hid (R7.out.ext zz0); have MC7 := Lib.hid (HM7.out.ext zz0); have XZ := XW7.trans zz0
          refine wpAnyH_take (i := 0) (oi := { dst := some 76, op := Op.move (Operand.tmp 8), type := 32, pos := "law.go:71", after := #[], guard := none }) (v := ?vv2_18_0) rfl (by kernel_rfl) (by kernel_rfl) (by kernel_rfl) (fun _ _ _ h => h) (Or.inl ⟨by rfl, ?yy2_18_0⟩) hHeld ?_
          case yy2_18_0 => (intro W hx; go_simp; try with_reducible rfl)
          simp only [Act.put, List.setIfInBounds_toArray, List.set_cons_zero, List.set_cons_succ]
          refine wpAnyH_take (i := 1) (oi := { dst := some 77, op := Op.fieldAddr 39 (Operand.tmp 11) 1, type := 0, pos := "law.go:71", after := #[], guard := none }) (v := ?vv3_18_1) rfl (by kernel_rfl) (by kernel_rfl) (by kernel_rfl) (fun _ _ _ h => h) (Or.inl ⟨by rfl, ?yy3_18_1⟩) hHeld ?_
          case yy3_18_1 => (intro W hx; go_simp; try with_reducible rfl)
          simp only [Act.put, List.setIfInBounds_toArray, List.set_cons_zero, List.set_cons_succ]
          refine wpAnyH_take (i := 2) (oi := { dst := some 78, op := Op.load 5 (Operand.tmp 77), type := 5, pos := "law.go:71", after := #[{ on := 1, ground := Ground.data }], guard := none }) (v := ?vv4_18_2) rfl (by kernel_rfl) (by kernel_rfl) (by kernel_rfl) (fun _ _ _ h => h) (Or.inl ⟨by rfl, ?yy4_18_2⟩) hHeld ?_
          case yy4_18_2 => (intro W hx; obtain ⟨e0, e1, e2, e3, e4, e5, e6⟩ := cells7 hx; go_simp; try with_reducible rfl)
          simp only [Act.put, List.setIfInBounds_toArray, List.set_cons_zero, List.set_cons_succ]
          refine wpAnyH_take (i := 3) (oi := { dst := some 79, op := Op.fieldAddr 39 (Operand.tmp 11) 2, type := 0, pos := "law.go:71", after := #[], guard := none }) (v := ?vv5_18_3) rfl (by kernel_rfl) (by kernel_rfl) (by kernel_rfl) (fun _ _ _ h => h) (Or.inl ⟨by rfl, ?yy5_18_3⟩) hHeld ?_
          case yy5_18_3 => (intro W hx; go_simp; try with_reducible rfl)
          simp only [Act.put, List.setIfInBounds_toArray, List.set_cons_zero, List.set_cons_succ]
          refine wpAnyH_take (i := 4) (oi := { dst := some 80, op := Op.load 5 (Operand.tmp 79), type := 5, pos := "law.go:71", after := #[{ on := 3, ground := Ground.data }], guard := none }) (v := ?vv6_18_4) rfl (by kernel_rfl) (by kernel_rfl) (by kernel_rfl) (fun _ _ _ h => h) (Or.inl ⟨by rfl, ?yy6_18_4⟩) hHeld ?_
          case yy6_18_4 => (intro W hx; obtain ⟨e0, e1, e2, e3, e4, e5, e6⟩ := cells7 hx; go_simp; try with_reducible rfl)
          simp only [Act.put, List.setIfInBounds_toArray, List.set_cons_zero, List.set_cons_succ]
          refine wpAnyH_take (i := 5) (oi := { dst := some 81, op := Op.fieldAddr 39 (Operand.tmp 11) 3, type := 0, pos := "law.go:71", after := #[], guard := none }) (v := ?vv7_18_5) rfl (by kernel_rfl) (by kernel_rfl) (by kernel_rfl) (fun _ _ _ h => h) (Or.inl ⟨by rfl, ?yy7_18_5⟩) hHeld ?_
          case yy7_18_5 => (intro W hx; go_simp; try with_reducible rfl)
          simp only [Act.put, List.setIfInBounds_toArray, List.set_cons_zero, List.set_cons_succ]
          refine wpAnyH_take (i := 6) (oi := { dst := some 82, op := Op.load 36 (Operand.tmp 81), type := 36, pos := "law.go:71", after := #[{ on := 5, ground := Ground.data }], guard := none }) (v := ?vv8_18_6) rfl (by kernel_rfl) (by kernel_rfl) (by kernel_rfl) (fun _ _ _ h => h) (Or.inl ⟨by rfl, ?yy8_18_6⟩) hHeld ?_
          case yy8_18_6 => (intro W hx; obtain ⟨e0, e1, e2, e3, e4, e5, e6⟩ := cells7 hx; go_simp; try with_reducible rfl)
          simp only [Act.put, List.setIfInBounds_toArray, List.set_cons_zero, List.set_cons_succ]
          refine wpAnyH_take (i := 7) (oi := { dst := some 83, op := Op.fieldAddr 39 (Operand.tmp 11) 6, type := 0, pos := "law.go:71", after := #[], guard := none }) (v := ?vv9_18_7) rfl (by kernel_rfl) (by kernel_rfl) (by kernel_rfl) (fun _ _ _ h => h) (Or.inl ⟨by rfl, ?yy9_18_7⟩) hHeld ?_
          case yy9_18_7 => (intro W hx; go_simp; try with_reducible rfl)
          simp only [Act.put, List.setIfInBounds_toArray, List.set_cons_zero, List.set_cons_succ]
          refine wpAnyH_take (i := 8) (oi := { dst := some 84, op := Op.load 37 (Operand.tmp 83), type := 37, pos := "law.go:71", after := #[{ on := 7, ground := Ground.data }], guard := none }) (v := ?vv10_18_8) rfl (by kernel_rfl) (by kernel_rfl) (by kernel_rfl) (fun _ _ _ h => h) (Or.inl ⟨by rfl, ?yy10_18_8⟩) hHeld ?_
          case yy10_18_8 => (intro W hx; obtain ⟨e0, e1, e2, e3, e4, e5, e6⟩ := cells7 hx; go_simp; try with_reducible rfl)
          simp only [Act.put, List.setIfInBounds_toArray, List.set_cons_zero, List.set_cons_succ]
          refine wpAnyH_take (i := 9) (oi := { dst := some 85, op := Op.fieldAddr 39 (Operand.tmp 11) 6, type := 0, pos := "law.go:71", after := #[], guard := none }) (v := ?vv11_18_9) rfl (by kernel_rfl) (by kernel_rfl) (by kernel_rfl) (fun _ _ _ h => h) (Or.inl ⟨by rfl, ?yy11_18_9⟩) hHeld ?_
          case yy11_18_9 => (intro W hx; go_simp; try with_reducible rfl)
          simp only [Act.put, List.setIfInBounds_toArray, List.set_cons_zero, List.set_cons_succ]
          refine wpAnyH_take (i := 10) (oi := { dst := some 86, op := Op.load 37 (Operand.tmp 85), type := 37, pos := "law.go:71", after := #[{ on := 9, ground := Ground.data }], guard := none }) (v := ?vv12_18_10) rfl (by kernel_rfl) (by kernel_rfl) (by kernel_rfl) (fun _ _ _ h => h) (Or.inl ⟨by rfl, ?yy12_18_10⟩) hHeld ?_
          case yy12_18_10 => (intro W hx; obtain ⟨e0, e1, e2, e3, e4, e5, e6⟩ := cells7 hx; go_simp; try with_reducible rfl)
          simp only [Act.put, List.setIfInBounds_toArray, List.set_cons_zero, List.set_cons_succ]
          refine wpAnyH_take (i := 11) (oi := { dst := some 87, op := Op.call { callee := Callee.builtin Builtin.len, args := #[Operand.tmp 86], argTypes := #[37] }, type := 3, pos := "law.go:71", after := #[{ on := 10, ground := Ground.data }], guard := none }) (v := ?vv13_18_11) rfl (by kernel_rfl) (by kernel_rfl) (by kernel_rfl) (fun _ _ _ h => h) (Or.inl ⟨by rfl, ?yy13_18_11⟩) hHeld ?_
          case yy13_18_11 => (intro W hx; go_simp; try with_reducible rfl)
          simp only [Act.put, List.setIfInBounds_toArray, List.set_cons_zero, List.set_cons_succ]
          refine wpAnyH_take (i := 12) (oi := { dst := some 88, op := Op.call { callee := Callee.builtin Builtin.min, args := #[Operand.tmp 87, Operand.const (Value.int IntKind.i64 300)], argTypes := #[3, 3] }, type := 3, pos := "law.go:71", after := #[{ on := 11, ground := Ground.data }], guard := none }) (v := ?vv14_18_12) rfl (by kernel_rfl) (by kernel_rfl) (by kernel_rfl) (fun _ _ _ h => h) (Or.inl ⟨by rfl, ?yy14_18_12⟩) hHeld ?_
          case yy14_18_12 => (intro W hx; go_simp; try with_reducible rfl)
          simp only [Act.put, List.setIfInBounds_toArray, List.set_cons_zero, List.set_cons_succ]
          refine wpAnyH_take (i := 13) (oi := { dst := some 89, op := Op.slice 37 (Operand.tmp 84) none (some (Operand.tmp 88)) none, type := 37, pos := "law.go:71", after := #[{ on := 8, ground := Ground.data }, { on := 12, ground := Ground.data }], guard := none }) (v := ?vv15_18_13) rfl (by kernel_rfl) (by kernel_rfl) (by kernel_rfl) (fun _ _ _ h => h) (Or.inl ⟨by rfl, ?yy15_18_13⟩) hHeld ?_
          case yy15_18_13 => (intro W hx; go_simp; try with_reducible rfl)
          simp only [Act.put, List.setIfInBounds_toArray, List.set_cons_zero, List.set_cons_succ]
          refine wpAnyH_ready (rs := [14]) (by kernel_rfl) (by simp) (AllReadyH.cons rfl (fun K hK => ?_) AllReadyH.nil)
          go_simp
          go_wp2_with (go_at_call 15; (refine (r_write_any MD.out y.who y.area y.at_ _ (hrd.out.ext (X2.trans XZ)) HDA.out hyo.out.area hyo.out.at_ hk300).mono ?_); rintro e w8 ⟨rfl, R8, k8⟩)
          refine hK.out _ _ (k8.blk hHeld (fun hf => hf HTBO.out)) (fun hHeld => ?_)
          clear hK K
          refine wpAnyH_take (i := 15) (oi := { dst := some 17, op := Op.assign (Operand.tmp 90), type := 29, pos := "law.go:71", after := #[{ on := 14, ground := Ground.data }, { on := 14, ground := Ground.chain }, { on := 0, ground := Ground.phase }, { on := 1, ground := Ground.phase }, { on := 2, ground := Ground.phase }, { on := 3, ground := Ground.phase }, { on := 4, ground := Ground.phase }, { on := 5, ground := Ground.phase }, { on := 6, ground := Ground.phase }, { on := 7, ground := Ground.phase }, { on := 8, ground := Ground.phase }, { on := 9, ground := Ground.phase }, { on := 10, ground := Ground.phase }, { on := 11, ground := Ground.phase }, { on := 12, ground := Ground.phase }, { on := 13, ground := Ground.phase }, { on := 14, ground := Ground.phase }], guard := none }) (v := ?vv16_18_15) rfl (by kernel_rfl) (by kernel_rfl) (by kernel_rfl) (fun _ _ _ h => h) (Or.inl ⟨by rfl, ?yy16_18_15⟩) hHeld ?_
          case yy16_18_15 => (intro W hx; go_simp; try with_reducible rfl)
          simp only [Act.put, List.setIfInBounds_toArray, List.set_cons_zero, List.set_cons_succ]
          refine wpAnyH_done (by kernel_rfl) ?_ _
          have HR8 := Lib.hid R8
          have HM8 := Lib.hid (MC7.out.kept k8 (dis_flip HD.out))
          have XW := ext_kept XZ k8 HTb.out
          have s1 := str (c := c7) (Rd.nil : Rd w8 A7 0 [])
          have s2 := str (c := 0) (Rd.nil : Rd w8 none 0 [])
          clear R8 k8
          go_upto_region 25 with (fail)
          go_wp2
          go_roundw
          case rel => exact ⟨k + 1, _, vb, Tb, by go_num, by omega, HM8.out, HR8.out, HD.out, HTb.out, XW⟩
          case measure => simp [intOf]; omega
        · have ht : s.tell y = ([], 0, (s.st y.who y.area y.m).2) := by simp [MS.tell, hq]
          have ha : s.act y = (s.st y.who y.area y.m).1 := by simp [MS.act, hq]
          have o7 := HO7.out
          rw [ht] at o7 ⊢
          simp only at o7 ⊢
          have M7 := HM7.out
          rw [ha] at M7
          have HM7 := Lib.hid M7
          obtain ⟨A7, c7, rfl, _, r7⟩ := rd_own o7 Byts.nil
          obtain ⟨f0, f1, f2, f3, f4, f5, f6⟩ := cells7 HB7.out
          clear ht ha o7 M7 r7
          go_upto_region 25 with (go_at_call 16; (refine (r_set_any R7.out y.who y.area y.m).mono ?_); rintro e w8 ⟨rfl, R8, k8⟩)
          clear f0 f1 f2 f3 f4 f5 f6 iw hq
          have HR8 := Lib.hid R8
          have HM8 := Lib.hid (HM7.out.kept k8 (dis_flip HD.out))
          have XW := ext_kept XW7 k8 HTb.out
          have s1 := str (c := c7) (Rd.nil : Rd w8 A7 0 [])
          have s2 := str (c := 0) (Rd.nil : Rd w8 none 0 [])
          clear R8 k8
          go_wp2
          go_roundw
          case rel => exact ⟨k + 1, _, vb, Tb, by go_num, by omega, HM8.out, HR8.out, HD.out, HTb.out, XW⟩
          case measure => simp [intOf]; omega
        · have ht : s.tell y = ([], 0, (s.cp y.area y.n y.m).2) := by simp [MS.tell, hq]
          have ha : s.act y = (s.cp y.area y.n y.m).1 := by simp [MS.act, hq]
          have o7 := HO7.out
          rw [ht] at o7 ⊢
          simp only at o7 ⊢
          have M7 := HM7.out
          rw [ha] at M7
          have HM7 := Lib.hid M7
          obtain ⟨A7, c7, rfl, _, r7⟩ := rd_own o7 Byts.nil
          obtain ⟨f0, f1, f2, f3, f4, f5, f6⟩ := cells7 HB7.out
          clear ht ha o7 M7 r7
          go_upto_region 25 with (go_at_call 17; (refine (r_copy_any R7.out y.area y.n y.m).mono ?_); rintro e w8 ⟨rfl, vc, Tc, R8, k8, hTc⟩)
          clear f0 f1 f2 f3 f4 f5 f6 iw hq
          have HR8 := Lib.hid R8
          have HM8 := Lib.hid (HM7.out.kept k8 (dis_flip HD.out))
          have XW := ext_kept XW7 k8 HTb.out
          have HDc := Lib.hid (show ∀ b, T b ≠ none → Tc b = none from fun b hb => by
            rcases e : Tc b with _ | t
            · rfl
            · rcases hTc b t e with h1 | h1
              · exact absurd (HD.out b hb) h1
              · obtain ⟨t', ht'⟩ := Option.ne_none_iff_exists'.1 hb
                have := HM7.out.O.lt _ _ ht'; omega)
          have HTc := Lib.hid (show ∀ b t, Tc b = some t → w2.heap.size ≤ b from fun b t e => by
            rcases hTc b t e with h1 | h1
            · obtain ⟨t', ht'⟩ := Option.ne_none_iff_exists'.1 h1
              exact HTb.out _ _ ht'
            · exact Nat.le_trans XW7.size h1)
          have s1 := str (c := c7) (Rd.nil : Rd w8 A7 0 [])
          have s2 := str (c := 0) (Rd.nil : Rd w8 none 0 [])
          clear R8 k8 hTc
          go_wp2
          go_roundw
          case rel => exact ⟨k + 1, _, vc, Tc, by go_num, by omega, HM8.out, HR8.out, HDc.out, HTc.out, XW⟩
          case measure => simp [intOf]; omega
        · have ht : s.tell y = ([], (s.pg y.who y.area).1, (s.pg y.who y.area).2) := by simp [MS.tell, hq]
          have ha : s.act y = s := by simp [MS.act, hq]
          have o7 := HO7.out
          rw [ht] at o7 ⊢
          simp only at o7 ⊢
          have M7 := HM7.out
          rw [ha] at M7
          have HM7 := Lib.hid M7
          obtain ⟨A7, c7, rfl, _, r7⟩ := rd_own o7 Byts.nil
          obtain ⟨f0, f1, f2, f3, f4, f5, f6⟩ := cells7 HB7.out
          clear ht ha o7 M7 r7
          go_upto_region 25 with (go_at_call 18; (refine (r_page_any R7.out y.who y.area).mono ?_); rintro e w8 ⟨rfl, rfl⟩)
          clear f0 f1 f2 f3 f4 f5 f6 iw hq
          have s1 := str (c := c7) (Rd.nil : Rd w7 A7 0 [])
          have s2 := str (c := 0) (Rd.nil : Rd w7 none 0 [])
          go_wp2
          go_roundw
          case rel => exact ⟨k + 1, s, vb, Tb, by go_num, by omega, HM7.out, R7.out, HD.out, HTb.out, XW7⟩
          case measure => simp [intOf]; omega
      · obtain rfl : k = an := by omega
        have HM := Lib.hid M
        have HR := Lib.hid R
        clear M R hD hTb
        go_upto_region 99 with (go_at_call 19; (refine (alike_any HM.out HR.out).mono ?_); rintro e w9 ⟨rfl, x9⟩)
        go_ret
        exact ⟨rfl, X2.trans (xr.trans x9)⟩
  · have HM0 := Lib.hid hm
    clear hm
    go_enter Try.func3, Try.ntmps3
    go_upto_region 1 with (fail)
    rw [← hw1]
    clear hw1
    go_upto_region 2 with (go_at_call 9; (refine (shown_any _).mono ?_); rintro e w2 ⟨rfl, x2⟩)
    have K2 := (x2.block _ (blk_lt K1)).trans K1
    go_upto_region 3 with (first | refine wpList_ldrow rfl 25 (.tmp 2) rfl K2 rfl Try.underlying25 rfl (by kernel_rfl) ?_ | (go_at_call 10; (refine (new_no (HP.out.ext (x1.trans x2)) HM0.out).mono ?_); rintro e w3 ⟨rfl, x3⟩))
    have K3 := (x3.block _ (blk_lt K2)).trans K2
    go_upto_region 4 with (first | refine wpList_ldrow rfl 25 (.tmp 2) rfl K3 rfl Try.underlying25 rfl (by kernel_rfl) ?_ | (go_at_call 11; (refine (r_new_no (HP.out.ext (x1.trans (x2.trans x3))) HM0.out).mono ?_); rintro e w4 ⟨rfl, x4⟩))
    go_wp2
    go_ret
    exact ⟨rfl, x1.trans (x2.trans (x3.trans x4))⟩
end Go.Proofs.Ytjgmnbfadnlikaa
