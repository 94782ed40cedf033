import Derived.Test.YtdikhpifamjalaaZI
set_option linter.unusedVariables false
set_option linter.unusedSimpArgs false
namespace Go.Proofs.Ytdikhpifamjalaa
open Go.RowKit
set_option maxRecDepth 100000 in
set_option maxHeartbeats 8000000 in
theorem BoxTakes_law (w : World) (A : Option Addr) (n c : Nat) (l : List Fr) (hnc : n ≤ c) (hcm : c ≤ maxLen) (hnl : n = l.length) (sh : Shows w 11 A n (frs l)) (ok : ∀ a ∈ l, a.ok)
    (tA : Option Addr) (tn tc : Nat) (tl : List Bool) (htc : tn ≤ tc) (htm : tc ≤ maxLen) (htl : tn = tl.length) (sht : Shows w 1 tA tn (tl.flatMap bs1)) (okt : ∀ a ∈ tl, True) :
    Calls Try.prog 5 #[.slice A n c, .slice tA tn tc] w fun e w' => e = .returned (.bool true) ∧ Ext w w' := by
  obtain ⟨m, hm0⟩ : ∃ m, m = min n 30 := ⟨_, rfl⟩
  have hmc : m ≤ c := by omega
  have hm10 : m ≤ 30 := by omega
  have hmin : (if (30 : Int) < n then (30 : Int) else n) = m := by rw [hm0]; split <;> omega
  have sm := sh.take (k := m) (by omega)
  rw [frs_take] at sm
  have hml : m = (l.take m).length := by rw [List.length_take]; omega
  have hok : ∀ x ∈ l.take m, Fr.ok x := fun x hx => ok x (List.mem_of_mem_take hx)
  clear hm0 sh ok hnl okt
  unfold maxLen at hcm htm
  generalize l.take m = ys at sm hml hok
  have HM := Lib.hid hml
  have HTL := Lib.hid htl
  clear hml htl
  have of2 : ∀ y ∈ FL, y.ok := by
    intro y hy
    simp [FL] at hy
    rcases hy with rfl | rfl <;> exact ⟨by simp, by simp⟩
  have OF2 := Lib.hid of2
  clear of2
  go_enter Try.func5, Try.ntmps5
  go_upto_region 2 with (go_at_call 9; (refine (shown_any _).mono ?_); rintro e w1 ⟨rfl, x1⟩)
  go_upto_region 3 with (go_at_call 10; (refine (new_o (w0 := w) _ _ _ FL _ (x1.alloc _) (shows_fi2 (f := ⟨0, 0, true⟩) (h := ⟨0, 0, false⟩) 53) rfl (by decide) OF2.out).mono ?_); rintro e w2 ⟨g, rfl, L2⟩)
  have L : BxV w 0 0 w2 g (BSt.new FL) (.slice none 0 0) [] := by
    obtain ⟨F, a, b, c⟩ := L2
    exact ⟨F, a, b, Nat.zero_le _, fun k hk => ⟨c k hk, by omega⟩, OwnS.nil, fun b e => nomatch e⟩
  have L := Lib.hid L
  clear L2 OF2
  go_wp2
  go_loopg [34, 8, 9] m (fun gk i v lo wr => ∃ (k : Nat) (s : BSt), i = .int .i64 k ∧ k ≤ m ∧ gk = m - k ∧ lo = .bool s.lost ∧ s.fl = FL ∧ BxV w 0 0 wr g s v s.rx)
  case atStart => exact ⟨0, _, rfl, by omega, by omega, rfl, rfl, L.out⟩
  case round =>
    obtain ⟨k, s, rfl, hk, rfl, rfl, hfl, L⟩ := hrel
    by_cases hlt : k < m
    · have hkm : (k : Int) < m := by omega
      have hy : ys[k]? = some _ := List.getElem?_eq_getElem (by have := HM.out; omega)
      have hyo := hok _ (List.mem_of_getElem? hy)
      generalize ys[k] = y at hy hyo
      obtain ⟨b, o, rfl, hb, hr⟩ := Shows.fr (sm.ext L.x) HM.out hy
      clear hy
      obtain ⟨A1, c1, rfl, hc1, hc2⟩ := L.own.form
      have hr4 := L.ok.nr
      have hlets := lets_all hfl hyo
      obtain ⟨s1, hst⟩ := take_tells hfl hyo
      have HFL := Lib.hid hfl
      have HLE := Lib.hid hlets
      have HST := Lib.hid hst
      have LL := Lib.hid L
      clear L hfl hlets hst
      go_upto_region 10 with (first | refine wpList_load_mid rfl 37 _ rfl _ _ rfl y.vals _ hr Try.underlying37 rfl size37 ?_ | refine wpList_stnew rfl 37 _ _ rfl rfl y.vals rfl rfl size37 rfl (fr_one y) ?_)
      obtain ⟨w4, hw4⟩ : ∃ V, V = wr.alloc (.cells y.vals.toArray 37) := ⟨_, rfl⟩
      have k4 : w4.heap[wr.heap.size]? = some (.cells y.vals.toArray 37 (0, 0)) := by rw [hw4]; exact heap_alloc_new _ _
      have x4 : Ext wr w4 := by rw [hw4]; exact (Ext.refl _).alloc _
      rw [← hw4]
      clear hw4 hr
      have hsa : wr.heap.size < w4.heap.size := blk_lt k4
      have P4 := Lib.hid (LL.out.hole x4)
      clear LL
      have HMAY := Lib.hid (rmay_fr y)
      obtain ⟨bm, hbm⟩ : ∃ bm, y.may = bm := ⟨_, rfl⟩
      rw [hbm] at HMAY HST
      have HB := Lib.hid hbm
      clear hbm
      refine wp_region_held_drew (S := fun W => W.heap[wr.heap.size]? = some (.cells y.vals.toArray 37 (0, 0))) (by kernel_rfl) (((Ext.refl w4).drew.block _ hsa).trans k4) (fun hHeld => ?_)
      obtain ⟨wD1, hwD⟩ : ∃ V, V = World.drew w4 := ⟨_, rfl⟩
      rw [← hwD] at hHeld ⊢
      have zz0 : Ext w4 wD1 := by rw [hwD]; exact (Ext.refl _).drew
      clear hwD
      have PD := P4.out.ext zz0
      refine wpAnyH_take (i := 0) (oi := { dst := some 39, op := Op.move (Operand.tmp 6), type := 25, pos := "law.go:121", after := #[], guard := none }) (v := ?vv2_10_0) rfl (by kernel_rfl) (by kernel_rfl) (by kernel_rfl) (fun _ _ _ h => h) (Or.inl ⟨by rfl, ?yy2_10_0⟩) hHeld ?_
      case yy2_10_0 => (intro W hx; go_simp; try with_reducible rfl)
      simp only [Act.put, List.setIfInBounds_toArray, List.set_cons_zero, List.set_cons_succ]
      refine wpAnyH_take (i := 1) (oi := { dst := some 40, op := Op.load 37 (Operand.tmp 11), type := 37, pos := "law.go:121", after := #[], guard := none }) (v := ?vv3_10_1) rfl (by kernel_rfl) (by kernel_rfl) (by kernel_rfl) (fun _ _ _ h => h) (Or.inl ⟨by rfl, ?yy3_10_1⟩) hHeld ?_
      case yy3_10_1 => (intro W hx; refine ld_op (frAt hx) ?_; rfl)
      simp only [Act.put, List.setIfInBounds_toArray, List.set_cons_zero, List.set_cons_succ]
      refine wpAnyH_take (i := 3) (oi := { dst := some 42, op := Op.load 37 (Operand.tmp 11), type := 37, pos := "law.go:121", after := #[], guard := none }) (v := ?vv4_10_3) rfl (by kernel_rfl) (by kernel_rfl) (by kernel_rfl) (fun _ _ _ h => h) (Or.inl ⟨by rfl, ?yy4_10_3⟩) hHeld ?_
      case yy4_10_3 => (intro W hx; refine ld_op (frAt hx) ?_; rfl)
      simp only [Act.put, List.setIfInBounds_toArray, List.set_cons_zero, List.set_cons_succ]
      refine wpAnyH_ready (rs := [2]) (by kernel_rfl) (by simp) (AllReadyH.cons rfl (fun K hK => ?_) AllReadyH.nil)
      go_simp
      go_wp2_with (go_at_call 18; (refine (take_v PD hyo HST.out).mono ?_); rintro e w5 ⟨rfl, P5, hole5⟩)
      refine hK.out _ _ ((hole5 _ (Nat.le_refl _) hsa).trans hHeld) (fun hHeld => ?_)
      clear hK K
      refine wpAnyH_ready (rs := [4]) (by kernel_rfl) (by simp) (AllReadyH.cons rfl (fun K hK => ?_) AllReadyH.nil)
      go_simp
      go_wp2_with (go_at_call 28; (refine (HMAY.out w5).mono ?_); rintro e w6 ⟨rfl, x6⟩)
      refine hK.out _ _ ((x6.block _ (blk_lt hHeld)).trans hHeld) (fun hHeld => ?_)
      clear hK K
      refine wpAnyH_take (i := 5) (oi := { dst := some 44, op := Op.binOp BinOp.neq 4 (Operand.tmp 41) (Operand.tmp 43) 4, type := 4, pos := "law.go:121", after := #[{ on := 2, ground := Ground.data }, { on := 4, ground := Ground.data }], guard := none }) (v := ?vv5_10_5) rfl (by kernel_rfl) (by kernel_rfl) (by kernel_rfl) (fun _ _ _ h => h) (Or.inl ⟨by rfl, ?yy5_10_5⟩) hHeld ?_
      case yy5_10_5 => (intro W hx; go_simp; try with_reducible rfl)
      simp only [Act.put, List.setIfInBounds_toArray, List.set_cons_zero, List.set_cons_succ]
      refine wpAnyH_done (by kernel_rfl) ?_ _
      have k6 := hHeld
      have P6 := Lib.hid (P5.ext x6)
      clear hHeld P5 PD hole5
      go_upto_region 12 with (fail)
      obtain ⟨bq, hbq⟩ : ∃ bq, bq = (bm && decide (4 ≤ s.rx.length)) := ⟨_, rfl⟩
      have HBQ := Lib.hid hbq
      clear hbq
      go_cut [51] (fun v51 wx => v51 = .bool bq ∧ Ext w6 wx)
      case first =>
        cases bm
        · go_wp2_with (first
            | refine wpList_ldrow rfl 37 _ rfl k6 rfl Try.underlying37 rfl size37 ?_
            | (go_at_call 28; (refine (HMAY.out _).mono ?_); rintro e w7 ⟨rfl, x7⟩))
          go_meet
          case rel => exact ⟨by rw [HBQ.out]; rfl, x7⟩
        · by_cases h4 : 4 ≤ s.rx.length
          · have h4' : (4 : Int) ≤ s.rx.length := by omega
            go_wp2_with (first
              | refine wpList_ldrow rfl 37 _ rfl k6 rfl Try.underlying37 rfl size37 ?_
              | (go_at_call 28; (refine (HMAY.out _).mono ?_); rintro e w7 ⟨rfl, x7⟩))
            go_meet
            case rel => exact ⟨by rw [HBQ.out]; simp [h4] <;> omega, x7⟩
          · have h4' : ¬ (4 : Int) ≤ s.rx.length := by omega
            go_wp2_with (first
              | refine wpList_ldrow rfl 37 _ rfl k6 rfl Try.underlying37 rfl size37 ?_
              | (go_at_call 28; (refine (HMAY.out _).mono ?_); rintro e w7 ⟨rfl, x7⟩))
            go_meet
            case rel => exact ⟨by rw [HBQ.out]; simp [h4] <;> omega, x7⟩
      case rest =>
        obtain ⟨rfl, x7⟩ := hcut
        obtain ⟨w7, rfl⟩ : ∃ z : World, z = wc := ⟨_, rfl⟩
        have k7 := (x7.block _ (blk_lt k6)).trans k6
        have P7 := Lib.hid (P6.out.ext x7)
        clear P6 k6
        go_upto_if 51 with (fail)
        go_cut [8, 9] (fun v lo wx => ∃ s', lo = .bool s'.lost ∧ s'.fl = FL ∧ BxV w 0 0 wx g s' v s'.rx)
        case first =>
          cases bq
          · cases bm
            · have e1 : s = s1 := by have := HST.out; rw [take_eq1 HB.out] at this; injection this
              subst e1
              go_wp2_with (first
                | refine wpList_ldrow rfl 37 _ rfl k7 rfl Try.underlying37 rfl size37 ?_
                | (go_at_call 28; (refine (HMAY.out _).mono ?_); rintro e w8 ⟨rfl, x8⟩))
              go_meet
              case rel => exact ⟨s, rfl, HFL.out, (P7.out.ext x8).no⟩
            · have h4 : ¬ 4 ≤ s.rx.length := by have := HBQ.out; simp at this; omega
              have e1 : { s with rx := s.rx ++ [y] } = s1 := by have := HST.out; rw [take_eq3 HB.out HLE.out h4] at this; injection this
              subst e1
              go_upto_region 15 with (first
                | refine wpList_ldrow rfl 37 _ rfl k7 rfl Try.underlying37 rfl size37 ?_
                | (go_at_call 28; (refine (HMAY.out _).mono ?_); rintro e w8 ⟨rfl, x8⟩))
              have k8 := (x8.block _ (blk_lt k7)).trans k7
              have P8 := (P7.out.ext x8).ext (show Ext w8 (w8.alloc (.cells y.vals.toArray 37)) from (Ext.refl _).alloc _)
              have O8 := P8.own
              have P8 := Lib.hid P8
              have S8 : Shows (w8.alloc (.cells y.vals.toArray 37)) 11 (some ⟨w8.heap.size, 0, none⟩) 1 (frs [y]) := shows_one 37
              go_wp2_with (first
                | refine wpList_ldrow rfl 37 _ rfl k8 rfl Try.underlying37 rfl size37 ?_
                | refine wpList_bsF (f := y) rfl _ rfl rfl ?_
                | (at_builtin; refine wpList_appS el45 rfl _ _ rfl O8 rfl S8 rfl (frs_one _) (le_max (by omega)) (by omega) P8.out.x.size ?_; intro v9 w9 own9 gr9 at9))
              go_meet
              case rel => exact ⟨{ s with rx := s.rx ++ [y] }, rfl, HFL.out, P8.out.grow (ys := s.rx ++ [y]) (by rw [frs_app, List.length_append]; exact own9) gr9 at9⟩
          · have hbm : bm = true := by have := HBQ.out; simp at this; exact this.1
            have h4 : 4 ≤ s.rx.length := by have := HBQ.out; simp at this; exact this.2
            have e1 : { s with lost := true } = s1 := by have := HST.out; rw [take_eq2 (by rw [HB.out]; exact hbm) HLE.out h4] at this; injection this
            subst e1
            go_wp2
            go_meet
            case rel => exact ⟨{ s with lost := true }, rfl, HFL.out, P7.out.no⟩
        case rest =>
          obtain ⟨s', rfl, hfl', P⟩ := hcut
          obtain ⟨w8, rfl⟩ : ∃ z : World, z = wc := ⟨_, rfl⟩
          clear P7 k7
          obtain ⟨A2, c2, rfl, hc3, hc4⟩ := P.own.form
          have HF2 := Lib.hid hfl'
          have hr5 := P.ok.nr
          have PP := Lib.hid P
          clear P hfl'
          by_cases hkt : k < tn
          · have hkt' : ¬ (tn : Int) ≤ k := by omega
            have hkt2 : (k : Int) < tn := by omega
            have ht : tl[k]? = some _ := List.getElem?_eq_getElem (by have := HTL.out; omega)
            generalize tl[k] = tb at ht
            obtain ⟨bt, ot, rfl, hbt, hrt⟩ := Shows.row (vals := bs1) (k := 1) (fun _ => rfl) (by omega) (sht.ext PP.out.x) HTL.out ht
            have ct := hrt 0 _ rfl
            simp only [Nat.mul_one, Nat.add_zero] at ct
            clear ht hrt
            cases tb
            · go_wp2
              go_roundg (m - (k + 1))
              case measure => omega
              case rel => exact ⟨k + 1, s', by go_num, by omega, rfl, rfl, HF2.out, PP.out⟩
            · rcases hrx : s'.rx with _ | ⟨f, rest⟩
              · have hlz : s'.rx.length = 0 := by rw [hrx]; rfl
                have HRV := Lib.hid (recv_zero hrx)
                clear hrx
                go_upto_region 18 with (first
                  | (go_at_call 20; (refine (recv_v PP.out HRV.out).mono ?_); rintro e w9 ⟨rfl, P9, hole9⟩)
                  | refine wpList_stnew rfl 37 _ _ rfl rfl Fr.zero.vals rfl rfl size37 rfl (fr_one Fr.zero) ?_)
                obtain ⟨w10, hw10⟩ : ∃ V, V = w9.alloc (.cells Fr.zero.vals.toArray 37) := ⟨_, rfl⟩
                have x10 : Ext w9 w10 := by rw [hw10]; exact (Ext.refl _).alloc _
                rw [← hw10]
                clear hw10
                refine wp_region_held_drew (S := Ext w10) (by kernel_rfl) ((Ext.refl _).drew) (fun hHeld => ?_)
                obtain ⟨wD6, hwD⟩ : ∃ V, V = World.drew w10 := ⟨_, rfl⟩
                rw [← hwD]
                clear hHeld
                have zz0 : Ext w10 wD6 := by rw [hwD]; exact (Ext.refl _).drew
                clear hwD
                refine wpAnyH_imp (S' := Ext wD6) (fun W h => Ext.trans zz0 h) _ _ _ _ ?_
                have hHeld := Ext.refl wD6
                refine wpAnyH_take (i := 0) (oi := { dst := some 74, op := Op.move (Operand.tmp 13), type := 4, pos := "law.go:133", after := #[], guard := none }) (v := ?vv7_18_0) rfl (by kernel_rfl) (by kernel_rfl) (by kernel_rfl) (fun _ _ _ h => h) (Or.inl ⟨by rfl, ?yy7_18_0⟩) hHeld ?_
                case yy7_18_0 => (intro W hx; go_simp; try with_reducible rfl)
                simp only [Act.put, List.setIfInBounds_toArray, List.set_cons_zero, List.set_cons_succ]
                refine wpAnyH_take (i := 1) (oi := { dst := some 75, op := Op.move (Operand.tmp 8), type := 45, pos := "law.go:133", after := #[], guard := none }) (v := ?vv8_18_1) rfl (by kernel_rfl) (by kernel_rfl) (by kernel_rfl) (fun _ _ _ h => h) (Or.inl ⟨by rfl, ?yy8_18_1⟩) hHeld ?_
                case yy8_18_1 => (intro W hx; go_simp; try with_reducible rfl)
                simp only [Act.put, List.setIfInBounds_toArray, List.set_cons_zero, List.set_cons_succ]
                refine wpAnyH_take (i := 2) (oi := { dst := some 76, op := Op.call { callee := Callee.builtin Builtin.len, args := #[Operand.tmp 75], argTypes := #[45] }, type := 3, pos := "law.go:133", after := #[{ on := 1, ground := Ground.data }], guard := none }) (v := ?vv9_18_2) rfl (by kernel_rfl) (by kernel_rfl) (by kernel_rfl) (fun _ _ _ h => h) (Or.inl ⟨by rfl, ?yy9_18_2⟩) hHeld ?_
                case yy9_18_2 => (intro W hx; go_simp; try with_reducible rfl)
                simp only [Act.put, List.setIfInBounds_toArray, List.set_cons_zero, List.set_cons_succ]
                refine wpAnyH_take (i := 3) (oi := { dst := some 77, op := Op.binOp BinOp.gtr 3 (Operand.tmp 76) (Operand.const (Value.int IntKind.i64 0)) 3, type := 4, pos := "law.go:133", after := #[{ on := 2, ground := Ground.data }], guard := none }) (v := ?vv10_18_3) rfl (by kernel_rfl) (by kernel_rfl) (by kernel_rfl) (fun _ _ _ h => h) (Or.inl ⟨by rfl, ?yy10_18_3⟩) hHeld ?_
                case yy10_18_3 => (intro W hx; go_simp; try with_reducible rfl)
                simp only [Act.put, List.setIfInBounds_toArray, List.set_cons_zero, List.set_cons_succ]
                refine wpAnyH_take (i := 4) (oi := { dst := some 78, op := Op.binOp BinOp.neq 4 (Operand.tmp 74) (Operand.tmp 77) 4, type := 4, pos := "law.go:133", after := #[{ on := 0, ground := Ground.data }, { on := 3, ground := Ground.data }], guard := none }) (v := ?vv11_18_4) rfl (by kernel_rfl) (by kernel_rfl) (by kernel_rfl) (fun _ _ _ h => h) (Or.inl ⟨by rfl, ?yy11_18_4⟩) hHeld ?_
                case yy11_18_4 => (intro W hx; go_simp; try with_reducible rfl)
                simp only [Act.put, List.setIfInBounds_toArray, List.set_cons_zero, List.set_cons_succ]
                refine wpAnyH_take (i := 5) (oi := { dst := some 79, op := Op.move (Operand.tmp 78), type := 4, pos := "law.go:133", after := #[{ on := 4, ground := Ground.data }], guard := none }) (v := ?vv12_18_5) rfl (by kernel_rfl) (by kernel_rfl) (by kernel_rfl) (fun _ _ _ h => h) (Or.inl ⟨by rfl, ?yy12_18_5⟩) hHeld ?_
                case yy12_18_5 => (intro W hx; go_simp; try with_reducible rfl)
                simp only [Act.put, List.setIfInBounds_toArray, List.set_cons_zero, List.set_cons_succ]
                refine wpAnyH_take (i := 6) (oi := { dst := some 80, op := Op.move (Operand.tmp 13), type := 4, pos := "law.go:133", after := #[{ on := 5, ground := Ground.guard }], guard := some (5, false) }) (v := ?vv13_18_6) rfl (by kernel_rfl) (by kernel_rfl) (by kernel_rfl) (fun _ _ _ h => h) (Or.inl ⟨by rfl, ?yy13_18_6⟩) hHeld ?_
                case yy13_18_6 => (intro W hx; go_simp; try with_reducible rfl)
                simp only [Act.put, List.setIfInBounds_toArray, List.set_cons_zero, List.set_cons_succ]
                refine wpAnyH_take (i := 7) (oi := { dst := some 81, op := Op.move (Operand.tmp 80), type := 4, pos := "law.go:133", after := #[{ on := 6, ground := Ground.data }, { on := 5, ground := Ground.chain }, { on := 5, ground := Ground.guard }], guard := some (5, false) }) (v := ?vv14_18_7) rfl (by kernel_rfl) (by kernel_rfl) (by kernel_rfl) (fun _ _ _ h => h) (Or.inl ⟨by rfl, ?yy14_18_7⟩) hHeld ?_
                case yy14_18_7 => (intro W hx; go_simp; try with_reducible rfl)
                simp only [Act.put, List.setIfInBounds_toArray, List.set_cons_zero, List.set_cons_succ]
                refine wpAnyH_take (i := 8) (oi := { dst := some 82, op := Op.load 37 (Operand.tmp 12), type := 37, pos := "law.go:133", after := #[{ on := 7, ground := Ground.guard }], guard := some (7, true) }) (v := undef) rfl (by kernel_rfl) (by kernel_rfl) (by kernel_rfl) (fun _ _ _ h => h) (Or.inr ⟨by rfl, rfl⟩) hHeld ?_
                simp only [Act.put, List.setIfInBounds_toArray, List.set_cons_zero, List.set_cons_succ]
                refine wpAnyH_take (i := 9) (oi := { dst := some 83, op := Op.move (Operand.tmp 8), type := 45, pos := "law.go:133", after := #[{ on := 7, ground := Ground.guard }], guard := some (7, true) }) (v := undef) rfl (by kernel_rfl) (by kernel_rfl) (by kernel_rfl) (fun _ _ _ h => h) (Or.inr ⟨by rfl, rfl⟩) hHeld ?_
                simp only [Act.put, List.setIfInBounds_toArray, List.set_cons_zero, List.set_cons_succ]
                refine wpAnyH_take (i := 10) (oi := { dst := some 84, op := Op.indexAddr 45 (Operand.tmp 83) (Operand.const (Value.int IntKind.i64 0)), type := 0, pos := "law.go:133", after := #[{ on := 9, ground := Ground.data }, { on := 7, ground := Ground.guard }], guard := some (7, true) }) (v := undef) rfl (by kernel_rfl) (by kernel_rfl) (by kernel_rfl) (fun _ _ _ h => h) (Or.inr ⟨by rfl, rfl⟩) hHeld ?_
                simp only [Act.put, List.setIfInBounds_toArray, List.set_cons_zero, List.set_cons_succ]
                refine wpAnyH_take (i := 11) (oi := { dst := some 85, op := Op.load 37 (Operand.tmp 84), type := 37, pos := "law.go:133", after := #[{ on := 10, ground := Ground.data }, { on := 7, ground := Ground.guard }], guard := some (7, true) }) (v := undef) rfl (by kernel_rfl) (by kernel_rfl) (by kernel_rfl) (fun _ _ _ h => h) (Or.inr ⟨by rfl, rfl⟩) hHeld ?_
                simp only [Act.put, List.setIfInBounds_toArray, List.set_cons_zero, List.set_cons_succ]
                refine wpAnyH_take (i := 12) (oi := { dst := some 86, op := Op.binOp BinOp.neq 37 (Operand.tmp 82) (Operand.tmp 85) 37, type := 4, pos := "law.go:133", after := #[{ on := 8, ground := Ground.data }, { on := 11, ground := Ground.data }, { on := 7, ground := Ground.guard }], guard := some (7, true) }) (v := undef) rfl (by kernel_rfl) (by kernel_rfl) (by kernel_rfl) (fun _ _ _ h => h) (Or.inr ⟨by rfl, rfl⟩) hHeld ?_
                simp only [Act.put, List.setIfInBounds_toArray, List.set_cons_zero, List.set_cons_succ]
                refine wpAnyH_take (i := 13) (oi := { dst := some 87, op := Op.pick (Operand.tmp 81) (Operand.tmp 86) (Operand.const (Value.bool false)), type := 4, pos := "law.go:133", after := #[{ on := 7, ground := Ground.data }, { on := 12, ground := Ground.data }, { on := 5, ground := Ground.guard }], guard := some (5, false) }) (v := ?vv15_18_13) rfl (by kernel_rfl) (by kernel_rfl) (by kernel_rfl) (fun _ _ _ h => h) (Or.inl ⟨by rfl, ?yy15_18_13⟩) hHeld ?_
                case yy15_18_13 => (intro W hx; go_simp; try with_reducible rfl)
                simp only [Act.put, List.setIfInBounds_toArray, List.set_cons_zero, List.set_cons_succ]
                refine wpAnyH_take (i := 14) (oi := { dst := some 88, op := Op.pick (Operand.tmp 79) (Operand.const (Value.bool true)) (Operand.tmp 87), type := 4, pos := "law.go:133", after := #[{ on := 5, ground := Ground.data }, { on := 13, ground := Ground.data }], guard := none }) (v := ?vv16_18_14) rfl (by kernel_rfl) (by kernel_rfl) (by kernel_rfl) (fun _ _ _ h => h) (Or.inl ⟨by rfl, ?yy16_18_14⟩) hHeld ?_
                case yy16_18_14 => (intro W hx; go_simp; try with_reducible rfl)
                simp only [Act.put, List.setIfInBounds_toArray, List.set_cons_zero, List.set_cons_succ]
                refine wpAnyH_done (by kernel_rfl) ?_ _
                have zend := zz0.trans hHeld
                go_wp2
                go_roundg (m - (k + 1))
                case measure => omega
                case rel => exact ⟨k + 1, s', by go_num, by omega, rfl, rfl, HF2.out, by have q := (P9.ext x10).ext zend; rw [hlz] at q; exact q⟩
              · have hlz : s'.rx.length = rest.length + 1 := by rw [hrx]; rfl
                have HRV := Lib.hid (recv_one hrx)
                have hf0 : s'.rx[0]? = some f := by rw [hrx]; rfl
                have HRX := Lib.hid hrx
                clear hrx
                obtain ⟨b2, o2, rfl, hb2, hr2⟩ := Shows.fr PP.out.own.shows rfl hf0
                simp only [Nat.zero_mul, Nat.add_zero] at hr2
                clear hf0
                obtain ⟨A3, hA3, own3, at3⟩ := PP.out.own.tail (by omega)
                simp only [Option.map_some, Addr.add_lit] at hA3
                have hpos : (0 : Int) < s'.rx.length := by omega
                have h1n : (1 : Int) ≤ s'.rx.length := by omega
                have h1c : 1 ≤ c2 := by omega
                go_upto_region 18 with (first
                  | (go_at_call 20; (refine (recv_v PP.out HRV.out).mono ?_); rintro e w9 ⟨rfl, P9, hole9⟩)
                  | refine wpList_stnew rfl 37 _ _ rfl rfl f.vals rfl rfl size37 rfl (fr_one f) ?_)
                obtain ⟨w10, hw10⟩ : ∃ V, V = w9.alloc (.cells f.vals.toArray 37) := ⟨_, rfl⟩
                have k10 : w10.heap[w9.heap.size]? = some (.cells f.vals.toArray 37 (0, 0)) := by rw [hw10]; exact heap_alloc_new _ _
                have x10 : Ext w9 w10 := by rw [hw10]; exact (Ext.refl _).alloc _
                rw [← hw10]
                clear hw10
                have P10 := P9.ext x10
                obtain ⟨b3, o3, hb3, _, hr3⟩ := Shows.fr P10.own.shows rfl (k := 0) (f := f) (by rw [HRX.out]; rfl)
                injection hb3 with hb3
                injection hb3 with hb3 ho3
                subst hb3 ho3
                simp only [Nat.zero_mul, Nat.add_zero] at hr3
                have hne : ∀ V, (binOp .neq 37 (.agg f.vals.toArray) (.agg f.vals.toArray)).run Try.prog V = .ok (.bool false) V := fun V => by rw [run_neF]; simp
                have PX := Lib.hid P10
                clear P10 P9 own3 at3 hA3 hr2 hb2
                obtain ⟨A4, hA4, own4, at4⟩ := PX.out.own.tail (by omega)
                simp only [Option.map_some, Addr.add_lit] at hA4
                have e1 : s'.rx.length - 1 = rest.length := by omega
                have e2 : (frs s'.rx).drop 11 = frs rest := by rw [HRX.out]; have := frs_drop (f :: rest) 1; simpa using this
                rw [e1, e2] at own4
                rw [e1] at at4
                have P11 := PX.out.part (v' := .slice A4 rest.length (c2 - 1)) (ys := rest) own4 at4
                have PY := Lib.hid P11
                clear P11 own4 at4 e1 e2
                refine wp_region_held_drew (S := Ext w10) (by kernel_rfl) ((Ext.refl _).drew) (fun hHeld => ?_)
                obtain ⟨wD17, hwD⟩ : ∃ V, V = World.drew w10 := ⟨_, rfl⟩
                rw [← hwD]
                clear hHeld
                have zz0 : Ext w10 wD17 := by rw [hwD]; exact (Ext.refl _).drew
                clear hwD
                refine wpAnyH_imp (S' := Ext wD17) (fun W h => Ext.trans zz0 h) _ _ _ _ ?_
                have hHeld := Ext.refl wD17
                refine wpAnyH_take (i := 0) (oi := { dst := some 74, op := Op.move (Operand.tmp 13), type := 4, pos := "law.go:133", after := #[], guard := none }) (v := ?vv18_18_0) rfl (by kernel_rfl) (by kernel_rfl) (by kernel_rfl) (fun _ _ _ h => h) (Or.inl ⟨by rfl, ?yy18_18_0⟩) hHeld ?_
                case yy18_18_0 => (intro W hx; go_simp; try with_reducible rfl)
                simp only [Act.put, List.setIfInBounds_toArray, List.set_cons_zero, List.set_cons_succ]
                refine wpAnyH_take (i := 1) (oi := { dst := some 75, op := Op.move (Operand.tmp 8), type := 45, pos := "law.go:133", after := #[], guard := none }) (v := ?vv19_18_1) rfl (by kernel_rfl) (by kernel_rfl) (by kernel_rfl) (fun _ _ _ h => h) (Or.inl ⟨by rfl, ?yy19_18_1⟩) hHeld ?_
                case yy19_18_1 => (intro W hx; go_simp; try with_reducible rfl)
                simp only [Act.put, List.setIfInBounds_toArray, List.set_cons_zero, List.set_cons_succ]
                refine wpAnyH_take (i := 2) (oi := { dst := some 76, op := Op.call { callee := Callee.builtin Builtin.len, args := #[Operand.tmp 75], argTypes := #[45] }, type := 3, pos := "law.go:133", after := #[{ on := 1, ground := Ground.data }], guard := none }) (v := ?vv20_18_2) rfl (by kernel_rfl) (by kernel_rfl) (by kernel_rfl) (fun _ _ _ h => h) (Or.inl ⟨by rfl, ?yy20_18_2⟩) hHeld ?_
                case yy20_18_2 => (intro W hx; go_simp; try with_reducible rfl)
                simp only [Act.put, List.setIfInBounds_toArray, List.set_cons_zero, List.set_cons_succ]
                refine wpAnyH_take (i := 3) (oi := { dst := some 77, op := Op.binOp BinOp.gtr 3 (Operand.tmp 76) (Operand.const (Value.int IntKind.i64 0)) 3, type := 4, pos := "law.go:133", after := #[{ on := 2, ground := Ground.data }], guard := none }) (v := ?vv21_18_3) rfl (by kernel_rfl) (by kernel_rfl) (by kernel_rfl) (fun _ _ _ h => h) (Or.inl ⟨by rfl, ?yy21_18_3⟩) hHeld ?_
                case yy21_18_3 => (intro W hx; go_simp; try with_reducible rfl)
                simp only [Act.put, List.setIfInBounds_toArray, List.set_cons_zero, List.set_cons_succ]
                refine wpAnyH_take (i := 4) (oi := { dst := some 78, op := Op.binOp BinOp.neq 4 (Operand.tmp 74) (Operand.tmp 77) 4, type := 4, pos := "law.go:133", after := #[{ on := 0, ground := Ground.data }, { on := 3, ground := Ground.data }], guard := none }) (v := ?vv22_18_4) rfl (by kernel_rfl) (by kernel_rfl) (by kernel_rfl) (fun _ _ _ h => h) (Or.inl ⟨by rfl, ?yy22_18_4⟩) hHeld ?_
                case yy22_18_4 => (intro W hx; go_simp; try with_reducible rfl)
                simp only [Act.put, List.setIfInBounds_toArray, List.set_cons_zero, List.set_cons_succ]
                refine wpAnyH_take (i := 5) (oi := { dst := some 79, op := Op.move (Operand.tmp 78), type := 4, pos := "law.go:133", after := #[{ on := 4, ground := Ground.data }], guard := none }) (v := ?vv23_18_5) rfl (by kernel_rfl) (by kernel_rfl) (by kernel_rfl) (fun _ _ _ h => h) (Or.inl ⟨by rfl, ?yy23_18_5⟩) hHeld ?_
                case yy23_18_5 => (intro W hx; go_simp; try with_reducible rfl)
                simp only [Act.put, List.setIfInBounds_toArray, List.set_cons_zero, List.set_cons_succ]
                refine wpAnyH_take (i := 6) (oi := { dst := some 80, op := Op.move (Operand.tmp 13), type := 4, pos := "law.go:133", after := #[{ on := 5, ground := Ground.guard }], guard := some (5, false) }) (v := ?vv24_18_6) rfl (by kernel_rfl) (by kernel_rfl) (by kernel_rfl) (fun _ _ _ h => h) (Or.inl ⟨by rfl, ?yy24_18_6⟩) hHeld ?_
                case yy24_18_6 => (intro W hx; go_simp; try with_reducible rfl)
                simp only [Act.put, List.setIfInBounds_toArray, List.set_cons_zero, List.set_cons_succ]
                refine wpAnyH_take (i := 7) (oi := { dst := some 81, op := Op.move (Operand.tmp 80), type := 4, pos := "law.go:133", after := #[{ on := 6, ground := Ground.data }, { on := 5, ground := Ground.chain }, { on := 5, ground := Ground.guard }], guard := some (5, false) }) (v := ?vv25_18_7) rfl (by kernel_rfl) (by kernel_rfl) (by kernel_rfl) (fun _ _ _ h => h) (Or.inl ⟨by rfl, ?yy25_18_7⟩) hHeld ?_
                case yy25_18_7 => (intro W hx; go_simp; try with_reducible rfl)
                simp only [Act.put, List.setIfInBounds_toArray, List.set_cons_zero, List.set_cons_succ]
                refine wpAnyH_take (i := 8) (oi := { dst := some 82, op := Op.load 37 (Operand.tmp 12), type := 37, pos := "law.go:133", after := #[{ on := 7, ground := Ground.guard }], guard := some (7, true) }) (v := ?vv26_18_8) rfl (by kernel_rfl) (by kernel_rfl) (by kernel_rfl) (fun _ _ _ h => h) (Or.inl ⟨by rfl, ?yy26_18_8⟩) hHeld ?_
                case yy26_18_8 => (intro W hx; have hz := zz0.trans hx; refine ld_op (rangeAt_ext (frAt k10) hz) ?_; rfl)
                simp only [Act.put, List.setIfInBounds_toArray, List.set_cons_zero, List.set_cons_succ]
                refine wpAnyH_take (i := 9) (oi := { dst := some 83, op := Op.move (Operand.tmp 8), type := 45, pos := "law.go:133", after := #[{ on := 7, ground := Ground.guard }], guard := some (7, true) }) (v := ?vv27_18_9) rfl (by kernel_rfl) (by kernel_rfl) (by kernel_rfl) (fun _ _ _ h => h) (Or.inl ⟨by rfl, ?yy27_18_9⟩) hHeld ?_
                case yy27_18_9 => (intro W hx; go_simp; try with_reducible rfl)
                simp only [Act.put, List.setIfInBounds_toArray, List.set_cons_zero, List.set_cons_succ]
                refine wpAnyH_take (i := 10) (oi := { dst := some 84, op := Op.indexAddr 45 (Operand.tmp 83) (Operand.const (Value.int IntKind.i64 0)), type := 0, pos := "law.go:133", after := #[{ on := 9, ground := Ground.data }, { on := 7, ground := Ground.guard }], guard := some (7, true) }) (v := ?vv28_18_10) rfl (by kernel_rfl) (by kernel_rfl) (by kernel_rfl) (fun _ _ _ h => h) (Or.inl ⟨by rfl, ?yy28_18_10⟩) hHeld ?_
                case yy28_18_10 => (intro W hx; go_simp; try with_reducible rfl)
                simp only [Act.put, List.setIfInBounds_toArray, List.set_cons_zero, List.set_cons_succ]
                refine wpAnyH_take (i := 11) (oi := { dst := some 85, op := Op.load 37 (Operand.tmp 84), type := 37, pos := "law.go:133", after := #[{ on := 10, ground := Ground.data }, { on := 7, ground := Ground.guard }], guard := some (7, true) }) (v := ?vv29_18_11) rfl (by kernel_rfl) (by kernel_rfl) (by kernel_rfl) (fun _ _ _ h => h) (Or.inl ⟨by rfl, ?yy29_18_11⟩) hHeld ?_
                case yy29_18_11 => (intro W hx; have hz := zz0.trans hx; refine ld_op (rangeAt_ext hr3 hz) ?_; rfl)
                simp only [Act.put, List.setIfInBounds_toArray, List.set_cons_zero, List.set_cons_succ]
                refine wpAnyH_take (i := 12) (oi := { dst := some 86, op := Op.binOp BinOp.neq 37 (Operand.tmp 82) (Operand.tmp 85) 37, type := 4, pos := "law.go:133", after := #[{ on := 8, ground := Ground.data }, { on := 11, ground := Ground.data }, { on := 7, ground := Ground.guard }], guard := some (7, true) }) (v := ?vv30_18_12) rfl (by kernel_rfl) (by kernel_rfl) (by kernel_rfl) (fun _ _ _ h => h) (Or.inl ⟨by rfl, ?yy30_18_12⟩) hHeld ?_
                case yy30_18_12 => (intro W hx; go_simp; try with_reducible rfl)
                simp only [Act.put, List.setIfInBounds_toArray, List.set_cons_zero, List.set_cons_succ]
                refine wpAnyH_take (i := 13) (oi := { dst := some 87, op := Op.pick (Operand.tmp 81) (Operand.tmp 86) (Operand.const (Value.bool false)), type := 4, pos := "law.go:133", after := #[{ on := 7, ground := Ground.data }, { on := 12, ground := Ground.data }, { on := 5, ground := Ground.guard }], guard := some (5, false) }) (v := ?vv31_18_13) rfl (by kernel_rfl) (by kernel_rfl) (by kernel_rfl) (fun _ _ _ h => h) (Or.inl ⟨by rfl, ?yy31_18_13⟩) hHeld ?_
                case yy31_18_13 => (intro W hx; go_simp; try with_reducible rfl)
                simp only [Act.put, List.setIfInBounds_toArray, List.set_cons_zero, List.set_cons_succ]
                refine wpAnyH_take (i := 14) (oi := { dst := some 88, op := Op.pick (Operand.tmp 79) (Operand.const (Value.bool true)) (Operand.tmp 87), type := 4, pos := "law.go:133", after := #[{ on := 5, ground := Ground.data }, { on := 13, ground := Ground.data }], guard := none }) (v := ?vv32_18_14) rfl (by kernel_rfl) (by kernel_rfl) (by kernel_rfl) (fun _ _ _ h => h) (Or.inl ⟨by rfl, ?yy32_18_14⟩) hHeld ?_
                case yy32_18_14 => (intro W hx; go_simp; try with_reducible rfl)
                simp only [Act.put, List.setIfInBounds_toArray, List.set_cons_zero, List.set_cons_succ]
                refine wpAnyH_done (by kernel_rfl) ?_ _
                have zend := zz0.trans hHeld
                go_wp2
                go_roundg (m - (k + 1))
                case measure => omega
                case rel => exact ⟨k + 1, { s' with rx := rest }, by go_num, by omega, rfl, rfl, HF2.out, PY.out.ext zend⟩
          · have hkt' : (tn : Int) ≤ k := by omega
            go_wp2
            go_roundg (m - (k + 1))
            case measure => omega
            case rel => exact ⟨k + 1, s', by go_num, by omega, rfl, rfl, HF2.out, PP.out⟩
    · obtain rfl : k = m := by omega
      go_wp2_with (first
        | (go_at_call 22; (refine (over_v P5).mono ?_); rintro e w6 ⟨rfl, P6, hole6⟩)
        | (go_at_call 22; (refine (over_v L).mono ?_); rintro e w5 ⟨rfl, P5, hole5⟩))
      go_ret
      exact ⟨by simp, P6.x⟩
end Go.Proofs.Ytdikhpifamjalaa
