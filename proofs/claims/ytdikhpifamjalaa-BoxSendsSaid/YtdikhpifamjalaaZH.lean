import Derived.Test.YtdikhpifamjalaaZG
set_option linter.unusedVariables false
set_option linter.unusedSimpArgs false
namespace Go.Proofs.Ytdikhpifamjalaa
open Go.RowKit
set_option maxRecDepth 100000 in
set_option maxHeartbeats 8000000 in
theorem BoxSends_law (w : World) (A : Option Addr) (n c : Nat) (l : List Fr) (hnc : n ≤ c) (hcm : c ≤ maxLen) (hnl : n = l.length) (sh : Shows w 11 A n (frs l)) (ok : ∀ a ∈ l, a.ok) :
    Calls Try.prog 4 #[.slice A n c] w fun e w' => e = .returned (.bool true) ∧ Ext w w' := by
  obtain ⟨m, hm0⟩ : ∃ m, m = min n 10 := ⟨_, rfl⟩
  have hmc : m ≤ c := by omega
  have hm10 : m ≤ 10 := by omega
  have hmin : (if (10 : Int) < n then (10 : Int) else n) = m := by rw [hm0]; split <;> omega
  have sm := sh.take (k := m) (by omega)
  rw [frs_take] at sm
  have hml : m = (l.take m).length := by rw [List.length_take]; omega
  have hok : ∀ x ∈ l.take m, Fr.ok x := fun x hx => ok x (List.mem_of_mem_take hx)
  clear hm0 sh ok hnl
  unfold maxLen at hcm
  generalize l.take m = ys at sm hml hok
  have HM := Lib.hid hml
  clear hml
  go_enter Try.func4, Try.ntmps4
  go_upto_region 2 with (go_at_call 9; (refine (shown_any _).mono ?_); rintro e w1 ⟨rfl, x1⟩)
  go_upto_region 3 with (go_at_call 10; (refine (new_any none 0 0 [] _ Shows.nil rfl (by decide) (by simp)).mono ?_); rintro e w2 ⟨g, F, rfl, bF, x2, nF⟩)
  have L : BxV w 0 0 w2 g (BSt.new []) (.slice none 0 0) [] := ⟨F, bF, x1.trans x2, Nat.zero_le _, fun k hk => ⟨Nat.le_trans x1.size (nF k hk), by omega⟩, OwnS.nil, fun b e => nomatch e⟩
  have L := Lib.hid L
  clear bF nF
  go_wp2
  go_loopg [35, 6] m (fun gk i v wr => ∃ (k : Nat) (s : BSt), i = .int .i64 k ∧ k ≤ m ∧ gk = m - k ∧ BxV w 0 0 wr g s v s.tx)
  case atStart => exact ⟨0, _, rfl, by omega, by omega, L.out⟩
  case round =>
    obtain ⟨k, s, rfl, hk, rfl, L⟩ := hrel
    by_cases hlt : k < m
    · have hkm : (k : Int) < m := by omega
      have hy : ys[k]? = some _ := List.getElem?_eq_getElem (by have := HM.out; omega)
      have hyo := hok _ (List.mem_of_getElem? hy)
      generalize ys[k] = y at hy hyo
      obtain ⟨b, o, rfl, hb, hr⟩ := Shows.fr (sm.ext L.x) HM.out hy
      clear hy
      obtain ⟨A1, c1, rfl, hc1, hc2⟩ := L.own.form
      have ht3 := L.ok.nt
      have LL := Lib.hid L
      clear L
      go_upto_region 9 with (first | refine wpList_load_mid rfl 37 _ rfl _ _ rfl y.vals _ hr Try.underlying37 rfl size37 ?_ | refine wpList_stnew rfl 37 _ _ rfl rfl y.vals rfl rfl size37 rfl (fr_one y) ?_)
      obtain ⟨w4, hw4⟩ : ∃ V, V = wr.alloc (.cells y.vals.toArray 37) := ⟨_, rfl⟩
      have k4 : w4.heap[wr.heap.size]? = some (.cells y.vals.toArray 37 (0, 0)) := by rw [hw4]; exact heap_alloc_new _ _
      have x4 : Ext wr w4 := by rw [hw4]; exact (Ext.refl _).alloc _
      rw [← hw4]
      clear hw4 hr
      have hmay := rmay_fr y w4
      obtain ⟨bm, hbm⟩ : ∃ bm, y.may = bm := ⟨_, rfl⟩
      rw [hbm] at hmay
      have HB := Lib.hid hbm
      have HMAY := Lib.hid hmay
      clear hbm hmay
      go_upto_if 41 with (first
        | refine wpList_ldrow rfl 37 _ rfl k4 rfl Try.underlying37 rfl size37 ?_
        | (go_at_call 28; (refine HMAY.out.mono ?_); rintro e w5 ⟨rfl, x5⟩))
      have k5 := (x5.block _ (blk_lt k4)).trans k4
      have P5 := Lib.hid (LL.out.hole (x4.trans x5))
      have hs5 : wr.heap.size < w5.heap.size := blk_lt k5
      cases bm
      · have HS := Lib.hid (send_no1 (s := s) HB.out)
        go_wp2_with (first
          | refine wpList_ldrow rfl 37 _ rfl k5 rfl Try.underlying37 rfl size37 ?_
          | (go_at_call 14; (refine (send_v P5.out hyo HS.out).mono ?_); rintro e w6 ⟨rfl, P6, hole6⟩))
        go_roundg (m - (k + 1))
        case measure => omega
        case rel => exact ⟨k + 1, s, by go_num, by omega, rfl, P6.no⟩
      · by_cases h3 : 3 ≤ s.tx.length
        · have HS := Lib.hid (send_no2 (s := s) HB.out h3)
          have h3' : (3 : Int) ≤ s.tx.length := by omega
          go_wp2_with (first
            | refine wpList_ldrow rfl 37 _ rfl k5 rfl Try.underlying37 rfl size37 ?_
            | (go_at_call 14; (refine (send_v P5.out hyo HS.out).mono ?_); rintro e w6 ⟨rfl, P6, hole6⟩))
          go_roundg (m - (k + 1))
          case measure => omega
          case rel => exact ⟨k + 1, s, by go_num, by omega, rfl, P6.no⟩
        · have HS := Lib.hid (send_yes (s := s) HB.out h3)
          have h3' : ¬ (3 : Int) ≤ s.tx.length := by omega
          go_upto_region 17 with (first
            | refine wpList_ldrow rfl 37 _ rfl k5 rfl Try.underlying37 rfl size37 ?_
            | (go_at_call 14; (refine (send_v P5.out hyo HS.out).mono ?_); rintro e w6 ⟨rfl, P6, hole6⟩))
          have k6 := (hole6 _ (Nat.le_refl _) hs5).trans k5
          have x7 : Ext w6 (w6.alloc (.cells y.vals.toArray 37)) := (Ext.refl _).alloc _
          have P7 := P6.ext x7
          have O7 := P7.own
          have P7 := Lib.hid P7
          have S7 : Shows (w6.alloc (.cells y.vals.toArray 37)) 11 (some ⟨w6.heap.size, 0, none⟩) 1 (frs [y]) := shows_one 37
          go_wp2_with (first
            | refine wpList_ldrow rfl 37 _ rfl k6 rfl Try.underlying37 rfl size37 ?_
            | refine wpList_bsF (f := y) rfl _ rfl rfl ?_
            | (at_builtin; refine wpList_appS el45 rfl _ _ rfl O7 rfl S7 rfl (frs_one _) (le_max (by omega)) (by omega) P7.out.x.size ?_; intro v8 w8 own8 gr8 at8))
          go_roundg (m - (k + 1))
          case measure => omega
          case rel => exact ⟨k + 1, { s with tx := s.tx ++ [y] }, by go_num, by omega, rfl, P7.out.grow (ys := s.tx ++ [y]) (by rw [frs_app, List.length_append]; exact own8) gr8 at8⟩
    · obtain rfl : k = m := by omega
      obtain ⟨A1, c1, rfl, hc1, hc2⟩ := L.own.form
      have LL := Lib.hid L
      clear L
      go_wp2
      go_loopg [10, 6] s.tx.length (fun gk i v wr2 => ∃ (s : BSt), i = .int .i64 s.tx.length ∧ gk = s.tx.length ∧ BxV w 0 0 wr2 g s v s.tx)
      case atStart => exact ⟨s, rfl, rfl, LL.out⟩
      case round =>
        clear LL
        obtain ⟨s, rfl, rfl, L⟩ := hrel
        obtain ⟨wr2, rfl⟩ : ∃ z : World, z = wr := ⟨_, rfl⟩
        obtain ⟨A1, c1, rfl, hc1, hc2⟩ := L.own.form
        have ht3 := L.ok.nt
        have hokx := L.ok.tx
        have LL := Lib.hid L
        clear L
        by_cases hpos : 0 < s.tx.length
        · have hpos' : (0 : Int) < s.tx.length := by omega
          have h0 : s.tx ≠ [] := List.length_pos_iff.1 hpos
          have hb := best_lt h0
          have HNX := Lib.hid (next_eq h0)
          have HBI := Lib.hid (bestI_some h0)
          have HDN : Hid (s.done.tx = s.tx.eraseIdx (best s.tx)) := Lib.hid (by simp [BSt.done, h0])
          have hfi := getD_at hb
          obtain ⟨b, o, rfl, hbl, hrb⟩ := Shows.fr LL.out.own.shows rfl hfi
          have hoki := hokx _ (List.mem_of_getElem? hfi)
          obtain ⟨f, hf⟩ : ∃ f, f = s.tx.getD (best s.tx) Fr.zero := ⟨_, rfl⟩
          rw [← hf] at HNX hrb hoki
          obtain ⟨pA, hpA⟩ : ∃ pA, (if c1 = best s.tx + 1 then some (⟨b, o, none⟩ : Addr) else some ⟨b, o + (best s.tx + 1) * 11, none⟩) = some pA := by split <;> exact ⟨_, rfl⟩
          have SHW := Lib.hid LL.out.own.shows
          have sh := LL.out.own.shows.drop (k := best s.tx + 1) (by omega) hc1
          rw [frs_drop] at sh
          have sh : Shows wr2 11 (some pA) (s.tx.length - (best s.tx + 1)) (frs (s.tx.drop (best s.tx + 1))) := by
            rw [← hpA]
            simpa [Addr.add_lit] using sh
          have st := LL.out.own.shows.take (k := best s.tx) (by omega)
          rw [frs_take] at st
          have SH := Lib.hid sh
          have ST := Lib.hid st
          clear sh st hfi hf hpos
          have hwr : IntKind.i64.wrap ((s.tx.length : Int) - 1) = s.tx.length - 1 := by rw [IntKind.wrap_i64]; omega
          go_upto_region 23 with (first
            | (go_at_call 24; (refine (next_v LL.out HNX.out).mono ?_); rintro e w5 ⟨rfl, P5, x5⟩)
            | refine wpList_stnew rfl 37 _ _ rfl rfl f.vals rfl rfl size37 rfl (fr_one f) ?_)
          obtain ⟨w6, hw6⟩ : ∃ V, V = w5.alloc (.cells f.vals.toArray 37) := ⟨_, rfl⟩
          have k6 : w6.heap[w5.heap.size]? = some (.cells f.vals.toArray 37 (0, 0)) := by rw [hw6]; exact heap_alloc_new _ _
          have x6 : Ext w5 w6 := by rw [hw6]; exact (Ext.refl _).alloc _
          rw [← hw6]
          clear hw6
          have P6 := Lib.hid (P5.ext x6)
          have x26 := x5.trans x6
          have hrb6 := rangeAt_ext hrb x26
          clear P5 hrb x5 x6
          go_wp2
          go_loopg [70, 13] s.tx.length (fun gk i v wr3 => ∃ (k : Nat), i = .int .i64 k ∧ k ≤ s.tx.length ∧ gk = s.tx.length - k ∧ v = .int .i64 (bestI s.tx k) ∧ Ext w6 wr3)
          case atStart => exact ⟨0, rfl, by omega, by omega, rfl, Ext.refl _⟩
          case round =>
            obtain ⟨k, rfl, hk, rfl, rfl, x7⟩ := hrel
            obtain ⟨wr3, rfl⟩ : ∃ z : World, z = wr := ⟨_, rfl⟩
            by_cases hlt : k < s.tx.length
            · have hkl : (k : Int) < s.tx.length := by omega
              have hfk := getD_at hlt
              have x27 := x26.trans x7
              obtain ⟨b1, o1, hb1, _, hr⟩ := Shows.fr (SHW.out.ext x27) rfl hfk
              injection hb1 with hb1
              injection hb1 with hb1 ho1
              subst hb1 ho1
              by_cases hk0 : k = 0
              · subst hk0
                have e1 : bestI s.tx 0 = -1 := rfl
                have e2 : bestI s.tx 1 = 0 := by simp [bestI, bestTo]
                rw [e1]
                clear e1
                generalize s.tx.getD 0 Fr.zero = x at hr
                go_upto_region 27 with (first
                  | refine wpList_load_mid rfl 37 _ rfl _ _ rfl x.vals _ hr Try.underlying37 rfl size37 ?_
                  | refine wpList_stnew rfl 37 _ _ rfl rfl x.vals rfl rfl size37 rfl (fr_one x) ?_)
                obtain ⟨w8, hw8⟩ : ∃ V, V = wr3.alloc (.cells x.vals.toArray 37) := ⟨_, rfl⟩
                have x8 : Ext wr3 w8 := by rw [hw8]; exact (Ext.refl _).alloc _
                rw [← hw8]
                clear hw8
                refine wp_region_held_drew (S := Ext w8) (by kernel_rfl) ((Ext.refl _).drew) (fun hHeld => ?_)
                obtain ⟨wD1, hwD⟩ : ∃ V, V = World.drew w8 := ⟨_, rfl⟩
                rw [← hwD]
                clear hHeld
                have zz0 : Ext w8 wD1 := by rw [hwD]; exact (Ext.refl _).drew
                clear hwD
                refine wpAnyH_imp (S' := Ext wD1) (fun W h => Ext.trans zz0 h) _ _ _ _ ?_
                have hHeld := Ext.refl wD1
                refine wpAnyH_take (i := 0) (oi := { dst := some 75, op := Op.move (Operand.tmp 13), type := 3, pos := "law.go:96", after := #[], guard := none }) (v := ?vv2_27_0) rfl (by kernel_rfl) (by kernel_rfl) (by kernel_rfl) (fun _ _ _ h => h) (Or.inl ⟨by rfl, ?yy2_27_0⟩) hHeld ?_
                case yy2_27_0 => (intro W hx; go_simp; try with_reducible rfl)
                simp only [Act.put, List.setIfInBounds_toArray, List.set_cons_zero, List.set_cons_succ]
                refine wpAnyH_take (i := 1) (oi := { dst := some 76, op := Op.binOp BinOp.lss 3 (Operand.tmp 75) (Operand.const (Value.int IntKind.i64 0)) 3, type := 4, pos := "law.go:96", after := #[{ on := 0, ground := Ground.data }], guard := none }) (v := ?vv3_27_1) rfl (by kernel_rfl) (by kernel_rfl) (by kernel_rfl) (fun _ _ _ h => h) (Or.inl ⟨by rfl, ?yy3_27_1⟩) hHeld ?_
                case yy3_27_1 => (intro W hx; go_simp; try with_reducible rfl)
                simp only [Act.put, List.setIfInBounds_toArray, List.set_cons_zero, List.set_cons_succ]
                refine wpAnyH_take (i := 2) (oi := { dst := some 77, op := Op.move (Operand.tmp 76), type := 4, pos := "law.go:96", after := #[{ on := 1, ground := Ground.data }], guard := none }) (v := ?vv4_27_2) rfl (by kernel_rfl) (by kernel_rfl) (by kernel_rfl) (fun _ _ _ h => h) (Or.inl ⟨by rfl, ?yy4_27_2⟩) hHeld ?_
                case yy4_27_2 => (intro W hx; go_simp; try with_reducible rfl)
                simp only [Act.put, List.setIfInBounds_toArray, List.set_cons_zero, List.set_cons_succ]
                refine wpAnyH_take (i := 3) (oi := { dst := some 78, op := Op.load 37 (Operand.tmp 15), type := 37, pos := "law.go:96", after := #[{ on := 2, ground := Ground.guard }], guard := some (2, false) }) (v := undef) rfl (by kernel_rfl) (by kernel_rfl) (by kernel_rfl) (fun _ _ _ h => h) (Or.inr ⟨by rfl, rfl⟩) hHeld ?_
                simp only [Act.put, List.setIfInBounds_toArray, List.set_cons_zero, List.set_cons_succ]
                refine wpAnyH_take (i := 4) (oi := { dst := some 79, op := Op.call { callee := Callee.value (Operand.func 29), args := #[Operand.tmp 78], argTypes := #[37] }, type := 34, pos := "law.go:96", after := #[{ on := 3, ground := Ground.data }, { on := 2, ground := Ground.chain }, { on := 2, ground := Ground.guard }], guard := some (2, false) }) (v := undef) rfl (by kernel_rfl) (by kernel_rfl) (by kernel_rfl) (fun _ _ _ h => h) (Or.inr ⟨by rfl, rfl⟩) hHeld ?_
                simp only [Act.put, List.setIfInBounds_toArray, List.set_cons_zero, List.set_cons_succ]
                refine wpAnyH_take (i := 5) (oi := { dst := some 80, op := Op.move (Operand.tmp 6), type := 45, pos := "law.go:96", after := #[{ on := 2, ground := Ground.guard }], guard := some (2, false) }) (v := undef) rfl (by kernel_rfl) (by kernel_rfl) (by kernel_rfl) (fun _ _ _ h => h) (Or.inr ⟨by rfl, rfl⟩) hHeld ?_
                simp only [Act.put, List.setIfInBounds_toArray, List.set_cons_zero, List.set_cons_succ]
                refine wpAnyH_take (i := 6) (oi := { dst := some 81, op := Op.move (Operand.tmp 13), type := 3, pos := "law.go:96", after := #[{ on := 2, ground := Ground.guard }], guard := some (2, false) }) (v := undef) rfl (by kernel_rfl) (by kernel_rfl) (by kernel_rfl) (fun _ _ _ h => h) (Or.inr ⟨by rfl, rfl⟩) hHeld ?_
                simp only [Act.put, List.setIfInBounds_toArray, List.set_cons_zero, List.set_cons_succ]
                refine wpAnyH_take (i := 7) (oi := { dst := some 82, op := Op.indexAddr 45 (Operand.tmp 80) (Operand.tmp 81), type := 0, pos := "law.go:96", after := #[{ on := 5, ground := Ground.data }, { on := 6, ground := Ground.data }, { on := 2, ground := Ground.guard }], guard := some (2, false) }) (v := undef) rfl (by kernel_rfl) (by kernel_rfl) (by kernel_rfl) (fun _ _ _ h => h) (Or.inr ⟨by rfl, rfl⟩) hHeld ?_
                simp only [Act.put, List.setIfInBounds_toArray, List.set_cons_zero, List.set_cons_succ]
                refine wpAnyH_take (i := 8) (oi := { dst := some 83, op := Op.load 37 (Operand.tmp 82), type := 37, pos := "law.go:96", after := #[{ on := 7, ground := Ground.data }, { on := 2, ground := Ground.guard }], guard := some (2, false) }) (v := undef) rfl (by kernel_rfl) (by kernel_rfl) (by kernel_rfl) (fun _ _ _ h => h) (Or.inr ⟨by rfl, rfl⟩) hHeld ?_
                simp only [Act.put, List.setIfInBounds_toArray, List.set_cons_zero, List.set_cons_succ]
                refine wpAnyH_take (i := 9) (oi := { dst := some 84, op := Op.call { callee := Callee.value (Operand.func 29), args := #[Operand.tmp 83], argTypes := #[37] }, type := 34, pos := "law.go:96", after := #[{ on := 8, ground := Ground.data }, { on := 4, ground := Ground.chain }, { on := 2, ground := Ground.guard }], guard := some (2, false) }) (v := undef) rfl (by kernel_rfl) (by kernel_rfl) (by kernel_rfl) (fun _ _ _ h => h) (Or.inr ⟨by rfl, rfl⟩) hHeld ?_
                simp only [Act.put, List.setIfInBounds_toArray, List.set_cons_zero, List.set_cons_succ]
                refine wpAnyH_take (i := 10) (oi := { dst := some 85, op := Op.binOp BinOp.lss 34 (Operand.tmp 79) (Operand.tmp 84) 34, type := 4, pos := "law.go:96", after := #[{ on := 4, ground := Ground.data }, { on := 9, ground := Ground.data }, { on := 2, ground := Ground.guard }], guard := some (2, false) }) (v := undef) rfl (by kernel_rfl) (by kernel_rfl) (by kernel_rfl) (fun _ _ _ h => h) (Or.inr ⟨by rfl, rfl⟩) hHeld ?_
                simp only [Act.put, List.setIfInBounds_toArray, List.set_cons_zero, List.set_cons_succ]
                refine wpAnyH_take (i := 11) (oi := { dst := some 86, op := Op.pick (Operand.tmp 77) (Operand.const (Value.bool true)) (Operand.tmp 85), type := 4, pos := "law.go:96", after := #[{ on := 2, ground := Ground.data }, { on := 10, ground := Ground.data }], guard := none }) (v := ?vv5_27_11) rfl (by kernel_rfl) (by kernel_rfl) (by kernel_rfl) (fun _ _ _ h => h) (Or.inl ⟨by rfl, ?yy5_27_11⟩) hHeld ?_
                case yy5_27_11 => (intro W hx; go_simp; try with_reducible rfl)
                simp only [Act.put, List.setIfInBounds_toArray, List.set_cons_zero, List.set_cons_succ]
                refine wpAnyH_done (by kernel_rfl) ?_ _
                have zend := zz0.trans hHeld
                go_wp2
                go_roundg (s.tx.length - 1)
                case measure => omega
                case rel => exact ⟨1, by go_num, by omega, by omega, by rw [e2], (x7.trans x8).trans zend⟩
              · have e1 : bestI s.tx k = bestTo s.tx k := by simp [bestI, hk0]
                have e2 : bestI s.tx (k + 1) = bestTo s.tx (k + 1) := by simp [bestI]
                rw [e1]
                have hbl2 : bestTo s.tx k < s.tx.length := by rcases bestTo_lt s.tx k with h | h <;> omega
                obtain ⟨b2, o2, hb2, _, hr2⟩ := Shows.fr (SHW.out.ext x27) rfl (getD_at hbl2)
                injection hb2 with hb2
                injection hb2 with hb2 ho2
                subst hb2 ho2
                have hok1 := hokx _ (List.mem_of_getElem? hfk)
                have hok2 := hokx _ (List.mem_of_getElem? (getD_at hbl2))
                have hbn : bestTo s.tx (k + 1) = if rk s.tx k < rk s.tx (bestTo s.tx k) then k else bestTo s.tx k := by rw [bestTo]
                have HBN := Lib.hid hbn
                have HE := Lib.hid e2
                clear hbn e1 e2 hfk
                unfold rk at HBN
                generalize s.tx.getD k Fr.zero = x at hr hok1 HBN
                generalize s.tx.getD (bestTo s.tx k) Fr.zero = y at hr2 hok2 HBN
                have hbb : (bestTo s.tx k : Int) < s.tx.length := by omega
                have hb0 : (0 : Int) ≤ bestTo s.tx k := by omega
                have hn0 : ¬ ((bestTo s.tx k : Int) < 0) := by omega
                generalize bestTo s.tx k = bb at hr2 HBN hbl2 hbb hb0 hn0
                go_upto_region 27 with (first
                  | refine wpList_load_mid rfl 37 _ rfl _ _ rfl x.vals _ hr Try.underlying37 rfl size37 ?_
                  | refine wpList_stnew rfl 37 _ _ rfl rfl x.vals rfl rfl size37 rfl (fr_one x) ?_)
                obtain ⟨w8, hw8⟩ : ∃ V, V = wr3.alloc (.cells x.vals.toArray 37) := ⟨_, rfl⟩
                have k8 : w8.heap[wr3.heap.size]? = some (.cells x.vals.toArray 37 (0, 0)) := by rw [hw8]; exact heap_alloc_new _ _
                have x8 : Ext wr3 w8 := by rw [hw8]; exact (Ext.refl _).alloc _
                rw [← hw8]
                clear hw8
                have hr28 := rangeAt_ext hr2 x8
                refine wp_region_held_drew (S := Ext w8) (by kernel_rfl) ((Ext.refl _).drew) (fun hHeld => ?_)
                obtain ⟨wD6, hwD⟩ : ∃ V, V = World.drew w8 := ⟨_, rfl⟩
                rw [← hwD]
                clear hHeld
                have zz0 : Ext w8 wD6 := by rw [hwD]; exact (Ext.refl _).drew
                clear hwD
                refine wpAnyH_imp (S' := Ext wD6) (fun W h => Ext.trans zz0 h) _ _ _ _ ?_
                have hHeld := Ext.refl wD6
                refine wpAnyH_take (i := 0) (oi := { dst := some 75, op := Op.move (Operand.tmp 13), type := 3, pos := "law.go:96", after := #[], guard := none }) (v := ?vv7_27_0) rfl (by kernel_rfl) (by kernel_rfl) (by kernel_rfl) (fun _ _ _ h => h) (Or.inl ⟨by rfl, ?yy7_27_0⟩) hHeld ?_
                case yy7_27_0 => (intro W hx; go_simp; try with_reducible rfl)
                simp only [Act.put, List.setIfInBounds_toArray, List.set_cons_zero, List.set_cons_succ]
                refine wpAnyH_take (i := 1) (oi := { dst := some 76, op := Op.binOp BinOp.lss 3 (Operand.tmp 75) (Operand.const (Value.int IntKind.i64 0)) 3, type := 4, pos := "law.go:96", after := #[{ on := 0, ground := Ground.data }], guard := none }) (v := ?vv8_27_1) rfl (by kernel_rfl) (by kernel_rfl) (by kernel_rfl) (fun _ _ _ h => h) (Or.inl ⟨by rfl, ?yy8_27_1⟩) hHeld ?_
                case yy8_27_1 => (intro W hx; go_simp; try with_reducible rfl)
                simp only [Act.put, List.setIfInBounds_toArray, List.set_cons_zero, List.set_cons_succ]
                refine wpAnyH_take (i := 2) (oi := { dst := some 77, op := Op.move (Operand.tmp 76), type := 4, pos := "law.go:96", after := #[{ on := 1, ground := Ground.data }], guard := none }) (v := ?vv9_27_2) rfl (by kernel_rfl) (by kernel_rfl) (by kernel_rfl) (fun _ _ _ h => h) (Or.inl ⟨by rfl, ?yy9_27_2⟩) hHeld ?_
                case yy9_27_2 => (intro W hx; go_simp; try with_reducible rfl)
                simp only [Act.put, List.setIfInBounds_toArray, List.set_cons_zero, List.set_cons_succ]
                refine wpAnyH_take (i := 3) (oi := { dst := some 78, op := Op.load 37 (Operand.tmp 15), type := 37, pos := "law.go:96", after := #[{ on := 2, ground := Ground.guard }], guard := some (2, false) }) (v := ?vv10_27_3) rfl (by kernel_rfl) (by kernel_rfl) (by kernel_rfl) (fun _ _ _ h => h) (Or.inl ⟨by rfl, ?yy10_27_3⟩) hHeld ?_
                case yy10_27_3 => (intro W hx; have hz := zz0.trans hx; refine ld_op (rangeAt_ext (frAt k8) hz) ?_; rfl)
                simp only [Act.put, List.setIfInBounds_toArray, List.set_cons_zero, List.set_cons_succ]
                refine wpAnyH_take (i := 5) (oi := { dst := some 80, op := Op.move (Operand.tmp 6), type := 45, pos := "law.go:96", after := #[{ on := 2, ground := Ground.guard }], guard := some (2, false) }) (v := ?vv11_27_5) rfl (by kernel_rfl) (by kernel_rfl) (by kernel_rfl) (fun _ _ _ h => h) (Or.inl ⟨by rfl, ?yy11_27_5⟩) hHeld ?_
                case yy11_27_5 => (intro W hx; go_simp; try with_reducible rfl)
                simp only [Act.put, List.setIfInBounds_toArray, List.set_cons_zero, List.set_cons_succ]
                refine wpAnyH_take (i := 6) (oi := { dst := some 81, op := Op.move (Operand.tmp 13), type := 3, pos := "law.go:96", after := #[{ on := 2, ground := Ground.guard }], guard := some (2, false) }) (v := ?vv12_27_6) rfl (by kernel_rfl) (by kernel_rfl) (by kernel_rfl) (fun _ _ _ h => h) (Or.inl ⟨by rfl, ?yy12_27_6⟩) hHeld ?_
                case yy12_27_6 => (intro W hx; go_simp; try with_reducible rfl)
                simp only [Act.put, List.setIfInBounds_toArray, List.set_cons_zero, List.set_cons_succ]
                refine wpAnyH_take (i := 7) (oi := { dst := some 82, op := Op.indexAddr 45 (Operand.tmp 80) (Operand.tmp 81), type := 0, pos := "law.go:96", after := #[{ on := 5, ground := Ground.data }, { on := 6, ground := Ground.data }, { on := 2, ground := Ground.guard }], guard := some (2, false) }) (v := ?vv13_27_7) rfl (by kernel_rfl) (by kernel_rfl) (by kernel_rfl) (fun _ _ _ h => h) (Or.inl ⟨by rfl, ?yy13_27_7⟩) hHeld ?_
                case yy13_27_7 => (intro W hx; go_simp; try with_reducible rfl)
                simp only [Act.put, List.setIfInBounds_toArray, List.set_cons_zero, List.set_cons_succ]
                refine wpAnyH_take (i := 8) (oi := { dst := some 83, op := Op.load 37 (Operand.tmp 82), type := 37, pos := "law.go:96", after := #[{ on := 7, ground := Ground.data }, { on := 2, ground := Ground.guard }], guard := some (2, false) }) (v := ?vv14_27_8) rfl (by kernel_rfl) (by kernel_rfl) (by kernel_rfl) (fun _ _ _ h => h) (Or.inl ⟨by rfl, ?yy14_27_8⟩) hHeld ?_
                case yy14_27_8 => (intro W hx; have hz := zz0.trans hx; refine ld_op (rangeAt_ext hr28 hz) ?_; rfl)
                simp only [Act.put, List.setIfInBounds_toArray, List.set_cons_zero, List.set_cons_succ]
                refine wpAnyH_ready (rs := [4]) (by kernel_rfl) (by simp) (AllReadyH.cons rfl (fun K hK => ?_) AllReadyH.nil)
                go_simp
                go_wp2_with (go_at_call 29; (refine (rrank_fr _ _ hok1).mono ?_); rintro e wA ⟨rfl, xA⟩)
                refine hK.out _ _ xA (fun hHeld => ?_)
                clear hK K
                refine wpAnyH_imp (S' := Ext wA) (fun W h => Ext.trans xA h) _ _ _ _ ?_
                replace hHeld := Ext.refl wA
                have zz1 := zz0.trans xA
                refine wpAnyH_ready (rs := [9]) (by kernel_rfl) (by simp) (AllReadyH.cons rfl (fun K hK => ?_) AllReadyH.nil)
                go_simp
                go_wp2_with (go_at_call 29; (refine (rrank_fr _ _ hok2).mono ?_); rintro e wB ⟨rfl, xB⟩)
                refine hK.out _ _ xB (fun hHeld => ?_)
                clear hK K
                refine wpAnyH_imp (S' := Ext wB) (fun W h => Ext.trans xB h) _ _ _ _ ?_
                replace hHeld := Ext.refl wB
                have zz2 := zz1.trans xB
                refine wpAnyH_take (i := 10) (oi := { dst := some 85, op := Op.binOp BinOp.lss 34 (Operand.tmp 79) (Operand.tmp 84) 34, type := 4, pos := "law.go:96", after := #[{ on := 4, ground := Ground.data }, { on := 9, ground := Ground.data }, { on := 2, ground := Ground.guard }], guard := some (2, false) }) (v := ?vv15_27_10) rfl (by kernel_rfl) (by kernel_rfl) (by kernel_rfl) (fun _ _ _ h => h) (Or.inl ⟨by rfl, ?yy15_27_10⟩) hHeld ?_
                case yy15_27_10 => (intro W hx; go_simp; try with_reducible rfl)
                simp only [Act.put, List.setIfInBounds_toArray, List.set_cons_zero, List.set_cons_succ]
                refine wpAnyH_take (i := 11) (oi := { dst := some 86, op := Op.pick (Operand.tmp 77) (Operand.const (Value.bool true)) (Operand.tmp 85), type := 4, pos := "law.go:96", after := #[{ on := 2, ground := Ground.data }, { on := 10, ground := Ground.data }], guard := none }) (v := ?vv16_27_11) rfl (by kernel_rfl) (by kernel_rfl) (by kernel_rfl) (fun _ _ _ h => h) (Or.inl ⟨by rfl, ?yy16_27_11⟩) hHeld ?_
                case yy16_27_11 => (intro W hx; go_simp; try with_reducible rfl)
                simp only [Act.put, List.setIfInBounds_toArray, List.set_cons_zero, List.set_cons_succ]
                refine wpAnyH_done (by kernel_rfl) ?_ _
                have zend := zz2.trans hHeld
                by_cases hlt2 : x.rank < y.rank
                · go_wp2
                  go_roundg (s.tx.length - (k + 1))
                  case measure => omega
                  case rel => exact ⟨k + 1, by go_num, by omega, rfl, by rw [HE.out, HBN.out, if_pos hlt2], (x7.trans x8).trans zend⟩
                · go_wp2
                  go_roundg (s.tx.length - (k + 1))
                  case measure => omega
                  case rel => exact ⟨k + 1, by go_num, by omega, rfl, by rw [HE.out, HBN.out, if_neg (by omega)], (x7.trans x8).trans zend⟩
            · obtain rfl : k = s.tx.length := by omega
              rw [HBI.out]
              clear HBI
              have hic : best s.tx ≤ c1 := by omega
              have hicc : best s.tx + 1 ≤ c1 := by omega
              have hi0 : (0 : Int) ≤ best s.tx + 1 := by omega
              have hi00 : (0 : Int) ≤ best s.tx := by omega
              have hin : (best s.tx : Int) < s.tx.length := by omega
              have hwr2 : IntKind.i64.wrap ((best s.tx : Int) + 1) = best s.tx + 1 := by rw [IntKind.wrap_i64]; omega
              have htn : ((best s.tx : Int) + 1).toNat = best s.tx + 1 := by omega
              have hi1 : (best s.tx : Int) + 1 ≤ s.tx.length := by omega
              have hlen : (s.tx.eraseIdx (best s.tx)).length = best s.tx + (s.tx.length - (best s.tx + 1)) := by rw [List.length_eraseIdx, if_pos hb]; omega
              have HLEN := Lib.hid hlen
              have k7 := (x7.block _ (blk_lt k6)).trans k6
              have hrb7 := rangeAt_ext hrb6 x7
              have P7 := Lib.hid (P6.out.ext x7)
              have SH7 := Lib.hid (SH.out.ext (x26.trans x7))
              have ST7 := Lib.hid (ST.out.ext (x26.trans x7))
              have hne : ∀ V, (binOp .neq 37 (.agg f.vals.toArray) (.agg f.vals.toArray)).run Try.prog V = .ok (.bool false) V := fun V => by rw [run_neF]; simp
              have hdl : s.done.tx.length = s.tx.length - 1 := done_len s
              have HDL := Lib.hid hdl
              clear SH ST SHW hlen hdl h0 hk hlt
              generalize best s.tx = bi at *
              go_upto_region 30 with (fail)
              refine wp_region_held_drew (S := Ext wr3) (by kernel_rfl) ((Ext.refl _).drew) (fun hHeld => ?_)
              obtain ⟨wD17, hwD⟩ : ∃ V, V = World.drew wr3 := ⟨_, rfl⟩
              rw [← hwD]
              clear hHeld
              have zz0 : Ext wr3 wD17 := by rw [hwD]; exact (Ext.refl _).drew
              clear hwD
              refine wpAnyH_imp (S' := Ext wD17) (fun W h => Ext.trans zz0 h) _ _ _ _ ?_
              have hHeld := Ext.refl wD17
              refine wpAnyH_take (i := 0) (oi := { dst := some 89, op := Op.move (Operand.tmp 12), type := 4, pos := "law.go:100", after := #[], guard := none }) (v := ?vv18_30_0) rfl (by kernel_rfl) (by kernel_rfl) (by kernel_rfl) (fun _ _ _ h => h) (Or.inl ⟨by rfl, ?yy18_30_0⟩) hHeld ?_
              case yy18_30_0 => (intro W hx; go_simp; try with_reducible rfl)
              simp only [Act.put, List.setIfInBounds_toArray, List.set_cons_zero, List.set_cons_succ]
              refine wpAnyH_take (i := 1) (oi := { dst := some 90, op := Op.unOp UnOp.not 4 (Operand.tmp 89), type := 4, pos := "law.go:100", after := #[{ on := 0, ground := Ground.data }], guard := none }) (v := ?vv19_30_1) rfl (by kernel_rfl) (by kernel_rfl) (by kernel_rfl) (fun _ _ _ h => h) (Or.inl ⟨by rfl, ?yy19_30_1⟩) hHeld ?_
              case yy19_30_1 => (intro W hx; go_simp; try with_reducible rfl)
              simp only [Act.put, List.setIfInBounds_toArray, List.set_cons_zero, List.set_cons_succ]
              refine wpAnyH_take (i := 2) (oi := { dst := some 91, op := Op.move (Operand.tmp 90), type := 4, pos := "law.go:100", after := #[{ on := 1, ground := Ground.data }], guard := none }) (v := ?vv20_30_2) rfl (by kernel_rfl) (by kernel_rfl) (by kernel_rfl) (fun _ _ _ h => h) (Or.inl ⟨by rfl, ?yy20_30_2⟩) hHeld ?_
              case yy20_30_2 => (intro W hx; go_simp; try with_reducible rfl)
              simp only [Act.put, List.setIfInBounds_toArray, List.set_cons_zero, List.set_cons_succ]
              refine wpAnyH_take (i := 3) (oi := { dst := some 92, op := Op.move (Operand.tmp 4), type := 25, pos := "law.go:100", after := #[{ on := 2, ground := Ground.guard }], guard := some (2, false) }) (v := ?vv21_30_3) rfl (by kernel_rfl) (by kernel_rfl) (by kernel_rfl) (fun _ _ _ h => h) (Or.inl ⟨by rfl, ?yy21_30_3⟩) hHeld ?_
              case yy21_30_3 => (intro W hx; go_simp; try with_reducible rfl)
              simp only [Act.put, List.setIfInBounds_toArray, List.set_cons_zero, List.set_cons_succ]
              refine wpAnyH_take (i := 5) (oi := { dst := some 94, op := Op.move (Operand.tmp 10), type := 3, pos := "law.go:100", after := #[{ on := 2, ground := Ground.guard }], guard := some (2, false) }) (v := ?vv22_30_5) rfl (by kernel_rfl) (by kernel_rfl) (by kernel_rfl) (fun _ _ _ h => h) (Or.inl ⟨by rfl, ?yy22_30_5⟩) hHeld ?_
              case yy22_30_5 => (intro W hx; go_simp; try with_reducible rfl)
              simp only [Act.put, List.setIfInBounds_toArray, List.set_cons_zero, List.set_cons_succ]
              refine wpAnyH_ready (rs := [4]) (by kernel_rfl) (by simp) (AllReadyH.cons rfl (fun K hK => ?_) AllReadyH.nil)
              go_simp
              go_wp2_with (go_at_call 26; (refine (wait_v ((P7.out.ext zz0).ext hHeld)).mono ?_); rintro e w' ⟨rfl, rfl⟩)
              refine hK.out _ _ hHeld (fun hHeld => ?_)
              clear hK K
              refine wpAnyH_take (i := 6) (oi := { dst := some 95, op := Op.binOp BinOp.neq 3 (Operand.tmp 93) (Operand.tmp 94) 3, type := 4, pos := "law.go:100", after := #[{ on := 4, ground := Ground.data }, { on := 5, ground := Ground.data }, { on := 2, ground := Ground.guard }], guard := some (2, false) }) (v := ?vv23_30_6) rfl (by kernel_rfl) (by kernel_rfl) (by kernel_rfl) (fun _ _ _ h => h) (Or.inl ⟨by rfl, ?yy23_30_6⟩) hHeld ?_
              case yy23_30_6 => (intro W hx; go_simp; try with_reducible rfl)
              simp only [Act.put, List.setIfInBounds_toArray, List.set_cons_zero, List.set_cons_succ]
              refine wpAnyH_take (i := 7) (oi := { dst := some 96, op := Op.pick (Operand.tmp 91) (Operand.const (Value.bool true)) (Operand.tmp 95), type := 4, pos := "law.go:100", after := #[{ on := 2, ground := Ground.data }, { on := 6, ground := Ground.data }], guard := none }) (v := ?vv24_30_7) rfl (by kernel_rfl) (by kernel_rfl) (by kernel_rfl) (fun _ _ _ h => h) (Or.inl ⟨by rfl, ?yy24_30_7⟩) hHeld ?_
              case yy24_30_7 => (intro W hx; go_simp; try with_reducible rfl)
              simp only [Act.put, List.setIfInBounds_toArray, List.set_cons_zero, List.set_cons_succ]
              refine wpAnyH_take (i := 8) (oi := { dst := some 97, op := Op.move (Operand.tmp 96), type := 4, pos := "law.go:100", after := #[{ on := 7, ground := Ground.data }, { on := 4, ground := Ground.chain }], guard := none }) (v := ?vv25_30_8) rfl (by kernel_rfl) (by kernel_rfl) (by kernel_rfl) (fun _ _ _ h => h) (Or.inl ⟨by rfl, ?yy25_30_8⟩) hHeld ?_
              case yy25_30_8 => (intro W hx; go_simp; try with_reducible rfl)
              simp only [Act.put, List.setIfInBounds_toArray, List.set_cons_zero, List.set_cons_succ]
              refine wpAnyH_take (i := 9) (oi := { dst := some 98, op := Op.load 37 (Operand.tmp 11), type := 37, pos := "law.go:100", after := #[{ on := 8, ground := Ground.guard }], guard := some (8, false) }) (v := ?vv26_30_9) rfl (by kernel_rfl) (by kernel_rfl) (by kernel_rfl) (fun _ _ _ h => h) (Or.inl ⟨by rfl, ?yy26_30_9⟩) hHeld ?_
              case yy26_30_9 => (intro W hx; have hz := zz0.trans hx; refine ld_op (rangeAt_ext (frAt k7) hz) ?_; rfl)
              simp only [Act.put, List.setIfInBounds_toArray, List.set_cons_zero, List.set_cons_succ]
              refine wpAnyH_take (i := 10) (oi := { dst := some 99, op := Op.move (Operand.tmp 6), type := 45, pos := "law.go:100", after := #[{ on := 8, ground := Ground.guard }], guard := some (8, false) }) (v := ?vv27_30_10) rfl (by kernel_rfl) (by kernel_rfl) (by kernel_rfl) (fun _ _ _ h => h) (Or.inl ⟨by rfl, ?yy27_30_10⟩) hHeld ?_
              case yy27_30_10 => (intro W hx; go_simp; try with_reducible rfl)
              simp only [Act.put, List.setIfInBounds_toArray, List.set_cons_zero, List.set_cons_succ]
              refine wpAnyH_take (i := 11) (oi := { dst := some 100, op := Op.move (Operand.tmp 13), type := 3, pos := "law.go:100", after := #[{ on := 8, ground := Ground.guard }], guard := some (8, false) }) (v := ?vv28_30_11) rfl (by kernel_rfl) (by kernel_rfl) (by kernel_rfl) (fun _ _ _ h => h) (Or.inl ⟨by rfl, ?yy28_30_11⟩) hHeld ?_
              case yy28_30_11 => (intro W hx; go_simp; try with_reducible rfl)
              simp only [Act.put, List.setIfInBounds_toArray, List.set_cons_zero, List.set_cons_succ]
              refine wpAnyH_take (i := 12) (oi := { dst := some 101, op := Op.indexAddr 45 (Operand.tmp 99) (Operand.tmp 100), type := 0, pos := "law.go:100", after := #[{ on := 10, ground := Ground.data }, { on := 11, ground := Ground.data }, { on := 8, ground := Ground.guard }], guard := some (8, false) }) (v := ?vv29_30_12) rfl (by kernel_rfl) (by kernel_rfl) (by kernel_rfl) (fun _ _ _ h => h) (Or.inl ⟨by rfl, ?yy29_30_12⟩) hHeld ?_
              case yy29_30_12 => (intro W hx; go_simp; try with_reducible rfl)
              simp only [Act.put, List.setIfInBounds_toArray, List.set_cons_zero, List.set_cons_succ]
              refine wpAnyH_take (i := 13) (oi := { dst := some 102, op := Op.load 37 (Operand.tmp 101), type := 37, pos := "law.go:100", after := #[{ on := 12, ground := Ground.data }, { on := 8, ground := Ground.guard }], guard := some (8, false) }) (v := ?vv30_30_13) rfl (by kernel_rfl) (by kernel_rfl) (by kernel_rfl) (fun _ _ _ h => h) (Or.inl ⟨by rfl, ?yy30_30_13⟩) hHeld ?_
              case yy30_30_13 => (intro W hx; have hz := zz0.trans hx; refine ld_op (rangeAt_ext hrb7 hz) ?_; rfl)
              simp only [Act.put, List.setIfInBounds_toArray, List.set_cons_zero, List.set_cons_succ]
              refine wpAnyH_take (i := 14) (oi := { dst := some 103, op := Op.binOp BinOp.neq 37 (Operand.tmp 98) (Operand.tmp 102) 37, type := 4, pos := "law.go:100", after := #[{ on := 9, ground := Ground.data }, { on := 13, ground := Ground.data }, { on := 8, ground := Ground.guard }], guard := some (8, false) }) (v := ?vv31_30_14) rfl (by kernel_rfl) (by kernel_rfl) (by kernel_rfl) (fun _ _ _ h => h) (Or.inl ⟨by rfl, ?yy31_30_14⟩) hHeld ?_
              case yy31_30_14 => (intro W hx; go_simp; try with_reducible rfl)
              simp only [Act.put, List.setIfInBounds_toArray, List.set_cons_zero, List.set_cons_succ]
              refine wpAnyH_take (i := 15) (oi := { dst := some 104, op := Op.pick (Operand.tmp 97) (Operand.const (Value.bool true)) (Operand.tmp 103), type := 4, pos := "law.go:100", after := #[{ on := 8, ground := Ground.data }, { on := 14, ground := Ground.data }], guard := none }) (v := ?vv32_30_15) rfl (by kernel_rfl) (by kernel_rfl) (by kernel_rfl) (fun _ _ _ h => h) (Or.inl ⟨by rfl, ?yy32_30_15⟩) hHeld ?_
              case yy32_30_15 => (intro W hx; go_simp; try with_reducible rfl)
              simp only [Act.put, List.setIfInBounds_toArray, List.set_cons_zero, List.set_cons_succ]
              refine wpAnyH_done (by kernel_rfl) ?_ _
              have zend := zz0.trans hHeld
              have zen1 := zend
              clear zend zz0
              go_upto_region 32 with (fail)
              refine wp_region_held_drew (S := Ext wD17) (by kernel_rfl) ((Ext.refl _).drew) (fun hHeld => ?_)
              obtain ⟨wB7, hwD⟩ : ∃ V, V = World.drew wD17 := ⟨_, rfl⟩
              rw [← hwD]
              clear hHeld
              have zz0 : Ext wD17 wB7 := by rw [hwD]; exact (Ext.refl _).drew
              clear hwD
              refine wpAnyH_imp (S' := Ext wB7) (fun W h => Ext.trans zz0 h) _ _ _ _ ?_
              have hHeld := Ext.refl wB7
              have hB := Ext.refl wB7
              have hW := zz0
              refine wpAnyH_take (i := 1) (oi := { dst := some 106, op := Op.move (Operand.tmp 6), type := 45, pos := "law.go:103", after := #[], guard := none }) (v := ?vv34_32_1) rfl (by kernel_rfl) (by kernel_rfl) (by kernel_rfl) (fun _ _ _ h => h) (Or.inl ⟨by rfl, ?yy34_32_1⟩) hHeld ?_
              case yy34_32_1 => (intro W hx; go_simp; try with_reducible rfl)
              simp only [Act.put, List.setIfInBounds_toArray, List.set_cons_zero, List.set_cons_succ]
              refine wpAnyH_take (i := 2) (oi := { dst := some 107, op := Op.move (Operand.tmp 13), type := 3, pos := "law.go:103", after := #[], guard := none }) (v := ?vv35_32_2) rfl (by kernel_rfl) (by kernel_rfl) (by kernel_rfl) (fun _ _ _ h => h) (Or.inl ⟨by rfl, ?yy35_32_2⟩) hHeld ?_
              case yy35_32_2 => (intro W hx; go_simp; try with_reducible rfl)
              simp only [Act.put, List.setIfInBounds_toArray, List.set_cons_zero, List.set_cons_succ]
              refine wpAnyH_take (i := 3) (oi := { dst := some 108, op := Op.slice 45 (Operand.tmp 106) none (some (Operand.tmp 107)) none, type := 45, pos := "law.go:103", after := #[{ on := 1, ground := Ground.data }, { on := 2, ground := Ground.data }], guard := none }) (v := ?vv36_32_3) rfl (by kernel_rfl) (by kernel_rfl) (by kernel_rfl) (fun _ _ _ h => h) (Or.inl ⟨by rfl, ?yy36_32_3⟩) hHeld ?_
              case yy36_32_3 => (intro W hx; go_simp; try with_reducible rfl)
              simp only [Act.put, List.setIfInBounds_toArray, List.set_cons_zero, List.set_cons_succ]
              refine wpAnyH_take (i := 5) (oi := { dst := some 110, op := Op.move (Operand.tmp 6), type := 45, pos := "law.go:103", after := #[], guard := none }) (v := ?vv37_32_5) rfl (by kernel_rfl) (by kernel_rfl) (by kernel_rfl) (fun _ _ _ h => h) (Or.inl ⟨by rfl, ?yy37_32_5⟩) hHeld ?_
              case yy37_32_5 => (intro W hx; go_simp; try with_reducible rfl)
              simp only [Act.put, List.setIfInBounds_toArray, List.set_cons_zero, List.set_cons_succ]
              refine wpAnyH_take (i := 6) (oi := { dst := some 111, op := Op.move (Operand.tmp 13), type := 3, pos := "law.go:103", after := #[], guard := none }) (v := ?vv38_32_6) rfl (by kernel_rfl) (by kernel_rfl) (by kernel_rfl) (fun _ _ _ h => h) (Or.inl ⟨by rfl, ?yy38_32_6⟩) hHeld ?_
              case yy38_32_6 => (intro W hx; go_simp; try with_reducible rfl)
              simp only [Act.put, List.setIfInBounds_toArray, List.set_cons_zero, List.set_cons_succ]
              refine wpAnyH_take (i := 7) (oi := { dst := some 112, op := Op.binOp BinOp.add 3 (Operand.tmp 111) (Operand.const (Value.int IntKind.i64 1)) 3, type := 3, pos := "law.go:103", after := #[{ on := 6, ground := Ground.data }], guard := none }) (v := ?vv39_32_7) rfl (by kernel_rfl) (by kernel_rfl) (by kernel_rfl) (fun _ _ _ h => h) (Or.inl ⟨by rfl, ?yy39_32_7⟩) hHeld ?_
              case yy39_32_7 => (intro W hx; go_simp; try with_reducible rfl)
              simp only [Act.put, List.setIfInBounds_toArray, List.set_cons_zero, List.set_cons_succ]
              refine wpAnyH_take (i := 8) (oi := { dst := some 113, op := Op.slice 45 (Operand.tmp 110) (some (Operand.tmp 112)) none none, type := 45, pos := "law.go:103", after := #[{ on := 5, ground := Ground.data }, { on := 7, ground := Ground.data }], guard := none }) (v := ?vv40_32_8) rfl (by kernel_rfl) (by kernel_rfl) (by kernel_rfl) (fun _ _ _ h => h) (Or.inl ⟨by rfl, ?yy40_32_8⟩) hHeld ?_
              case yy40_32_8 => (intro W hx; go_simp; try with_reducible rfl)
              simp only [Act.put, List.setIfInBounds_toArray, List.set_cons_zero, List.set_cons_succ]
              refine wpAnyH_ready (rs := [0]) (by kernel_rfl) (by simp) (AllReadyH.cons rfl (fun K hK => ?_) AllReadyH.nil)
              go_simp
              obtain ⟨wb, hw⟩ : ∃ V, V = World.alloc wB7 (.cells #[] 37) := ⟨_, rfl⟩
              rw [← hw]
              have xb : Ext wB7 wb := by rw [hw]; exact (Ext.refl _).alloc _
              have own0 := own_eq hw (own_lit (e := 37) (size := 11) #[] 0 rfl hB.size (le_max (by omega)) rfl)
              clear hw
              refine hK.out _ _ (hB.trans xb) (fun hHeld => ?_)
              clear hK K
              have hB := hB.trans xb
              have hW := zz0.trans hB
              refine wpAnyH_ready (rs := [4]) (by kernel_rfl) (by simp) (AllReadyH.cons rfl (fun K hK => ?_) AllReadyH.nil)
              rw [if_pos (by rfl)]
              refine wp_app2 (o := { dst := some 109, op := Op.call { callee := Callee.builtin Builtin.append, args := #[Operand.tmp 105, Operand.tmp 108], argTypes := #[45, 45] }, type := 45, pos := "law.go:103", after := #[{ on := 0, ground := Ground.data }, { on := 3, ground := Ground.data }], guard := none }) el45 (.tmp 105) (.tmp 108) rfl own0 rfl (ST7.out.ext (zen1.trans hW)) rfl (frs_one _) (le_max (by omega)) (by omega) rfl hB ?_; intro V1 wq own1 x9 hg9 hat9
              simp only [Act.put, List.setIfInBounds_toArray, List.set_cons_zero, List.set_cons_succ]
              refine hK.out _ _ x9 (fun hHeld => ?_)
              clear hK K
              have hB := x9
              have hW := zz0.trans hB
              clear own0 hg9 hat9
              refine wpAnyH_ready (rs := [9]) (by kernel_rfl) (by simp) (AllReadyH.cons rfl (fun K hK => ?_) AllReadyH.nil)
              rw [if_pos (by rfl)]
              refine wp_app2 (o := { dst := some 114, op := Op.call { callee := Callee.builtin Builtin.append, args := #[Operand.tmp 109, Operand.tmp 113], argTypes := #[45, 45] }, type := 45, pos := "law.go:103", after := #[{ on := 4, ground := Ground.data }, { on := 8, ground := Ground.data }, { on := 4, ground := Ground.chain }], guard := none }) el45 (.tmp 109) (.tmp 113) rfl own1 rfl (SH7.out.ext (zen1.trans hW)) rfl (frs_one _) (le_max (by omega)) (by omega) rfl hB ?_; intro V2 wr9 own2 x9 hg9 hat9
              simp only [Act.put, List.setIfInBounds_toArray, List.set_cons_zero, List.set_cons_succ]
              refine hK.out _ _ x9 (fun hHeld => ?_)
              clear hK K
              have hB := x9
              have hW := zz0.trans hB
              clear own1 hg9 hat9
              refine wpAnyH_take (i := 10) (oi := { dst := some 6, op := Op.assign (Operand.tmp 114), type := 45, pos := "law.go:103", after := #[{ on := 9, ground := Ground.data }, { on := 9, ground := Ground.chain }, { on := 0, ground := Ground.phase }, { on := 1, ground := Ground.phase }, { on := 2, ground := Ground.phase }, { on := 3, ground := Ground.phase }, { on := 4, ground := Ground.phase }, { on := 5, ground := Ground.phase }, { on := 6, ground := Ground.phase }, { on := 7, ground := Ground.phase }, { on := 8, ground := Ground.phase }, { on := 9, ground := Ground.phase }], guard := none }) (v := ?vv41_32_10) rfl (by kernel_rfl) (by kernel_rfl) (by kernel_rfl) (fun _ _ _ h => h) (Or.inl ⟨by rfl, ?yy41_32_10⟩) hHeld ?_
              case yy41_32_10 => (intro W hx; go_simp; try with_reducible rfl)
              simp only [Act.put, List.setIfInBounds_toArray, List.set_cons_zero, List.set_cons_succ]
              refine wpAnyH_done (by kernel_rfl) ?_ _
              have zend := hW
              obtain ⟨A4, c4, rfl⟩ := own_slice own2
              have P9 := Lib.hid (((P7.out.ext zen1).ext zz0).renew hB (v' := .slice A4 _ c4) (ys := s.tx.eraseIdx bi) (by rw [HLEN.out, erase_eq, frs_app]; simpa using own2))
              clear own2
              go_wp2_with (go_at_call 16; (refine (done_v P9.out).mono ?_); rintro e w10 ⟨rfl, P10, hole10⟩)
              go_roundg (s.tx.length - 1)
              case measure => omega
              case rel => exact ⟨s.done, by rw [HDL.out]; congr 1; omega, HDL.out.symm, by rw [HDN.out]; exact P10⟩
        · have h0 : s.tx = [] := List.length_eq_zero_iff.1 (by omega)
          have HNX := Lib.hid (next_zero h0)
          have HDN : Hid (s.done.tx.length = 0) := Lib.hid (by rw [done_len, h0]; rfl)
          have hlz : s.tx.length = 0 := by omega
          clear h0
          go_upto_region 35 with (first
            | (go_at_call 24; (refine (next_v LL.out HNX.out).mono ?_); rintro e w4 ⟨rfl, P4, x4⟩)
            | refine wpList_stnew rfl 37 _ _ rfl rfl Fr.zero.vals rfl rfl size37 rfl (fr_one Fr.zero) ?_)
          have P5 := Lib.hid (P4.ext ((Ext.refl _).alloc (.cells Fr.zero.vals.toArray 37)))
          go_wp2_with (first
            | (go_at_call 26; (refine (wait_v P7).mono ?_); rintro e w8 ⟨rfl, rfl⟩)
            | (go_at_call 16; (refine (done_v P5.out).mono ?_); rintro e w7 ⟨rfl, P7, hole7⟩))
          go_ret
          exact ⟨by simp [HDN.out], P7.x⟩
end Go.Proofs.Ytdikhpifamjalaa
