import Derived.Test.YtjdabmadpclbaaaBR
set_option linter.unusedVariables false
set_option linter.unusedSimpArgs false
namespace Go.Proofs.Ytjdabmadpclbaaa
open Go.RowKit
theorem two {p : Nat → Prop} (h0 : p 0) (h1 : p 1) : ∀ i, i < 2 → p i := by
  intro i hi
  match i, hi with
  | 0, _ => exact h0
  | 1, _ => exact h1
theorem send_no1' {s : BSt} {f : Fr} (h : f.may = false) : s.send f = (s, 1) := by simp [BSt.send, h]
set_option maxRecDepth 100000 in
set_option maxHeartbeats 16000000 in
theorem BusOnce_law (w : World) (xA : Option Addr) (xn xc : Nat) (xl : List Fr) (xnc : xn ≤ xc) (xcm : xc ≤ maxLen) (xnl : xn = xl.length) (xsh : Shows w 11 xA xn (frs xl)) (xok : ∀ a ∈ xl, a.ok)
    (yA : Option Addr) (yn yc : Nat) (yl : List Fr) (ync : yn ≤ yc) (ycm : yc ≤ maxLen) (ynl : yn = yl.length) (ysh : Shows w 11 yA yn (frs yl)) (yok : ∀ a ∈ yl, a.ok) :
    Calls Try.prog 7 #[.slice xA xn xc, .slice yA yn yc] w fun e w' => e = .returned (.bool true) ∧ Ext w w' := by
  have H : Hid (∀ k, k < 2 → (#[Value.slice xA xn xc, .slice yA yn yc])[k]? = some (.slice (of3 xA yA yA k) (of3 xn yn yn k) (of3 xc yc yc k)) ∧ of3 xn yn yn k ≤ of3 xc yc yc k ∧ of3 xc yc yc k ≤ maxLen ∧ of3 xn yn yn k = (of3 xl yl yl k).length ∧ Shows w 11 (of3 xA yA yA k) (of3 xn yn yn k) (frs (of3 xl yl yl k)) ∧ ∀ a ∈ of3 xl yl yl k, a.ok) :=
    Lib.hid (two ⟨rfl, xnc, xcm, xnl, xsh, xok⟩ ⟨rfl, ync, ycm, ynl, ysh, yok⟩)
  clear xnc xcm xnl xsh xok ync ycm ynl ysh yok
  have oft : ∀ y ∈ FT, y.ok := by
    intro y hy
    simp [FT] at hy
    rcases hy with rfl | rfl <;> exact ⟨by simp, by simp⟩
  have hno := fun (W : World) (A : Option Addr) (sh : Shows W 3 A 2 (fis FT)) => nodes_any (w := W) #[.slice none 0 0, .slice none 0 0, .slice A 2 2] (of3 none none A) (of3 0 0 2) (of3 0 0 2) (of3 [] [] FT) (all3 rfl rfl rfl) (all3 (Nat.le_refl _) (Nat.le_refl _) (Nat.le_refl _)) (all3 (by simp [of3]) (by simp [of3]) (by simp [of3, maxLen])) (all3 rfl rfl rfl) (all3 Shows.nil Shows.nil sh) (all3 (fun x hx => by cases hx) (fun x hx => by cases hx) oft)
  have HNO := Lib.hid hno
  clear hno oft
  go_enter Try.func7, Try.ntmps7
  go_upto_region 2 with (go_at_call 8; (refine (shown_any _).mono ?_); rintro e w2 ⟨rfl, x2⟩)
  go_upto_region 3 with (go_at_call 9; (refine (HNO.out _ _ (shows_fi2 (f := ⟨0, 0, false⟩) (h := ⟨0, 0, true⟩) 61)).mono ?_); rintro e w3 ⟨va, vb, gs, hs, rfl, N3⟩)
  have N3 := N3.base (show Ext w2 _ from (Ext.refl _).alloc _)
  obtain ⟨aA, aC, rfl⟩ := own_slice N3.rowA
  obtain ⟨bA', bC', rfl⟩ := own_slice N3.rowB
  have HG3 : Hid (gs.length = 3) := Lib.hid (by rw [N3.lenA, ssN_len])
  have HG9 : Hid (gs.length ≤ 100) := Lib.hid (by rw [N3.lenA, ssN_len]; omega)
  have hon : Once (ssN (of3 [] [] FT) 3) [] 0 := ⟨d0, d0, BSt.new FT, rfl, List.Perm.refl _, rfl, rfl, rfl, rfl, fun x hx => by simp [BSt.new] at hx⟩
  have HO := Lib.hid hon
  have N3 := Lib.hid N3
  generalize hss : ssN (of3 [] [] FT) 3 = ss0 at N3 HO
  clear hon HNO hss
  go_upto_region 4 with (fail)
  obtain ⟨w4, hw4⟩ : ∃ V, V = w3.alloc (.cells #[.slice xA xn xc, .slice yA yn yc] 51) := ⟨_, rfl⟩
  obtain ⟨r, hr⟩ : ∃ r, r = w3.heap.size := ⟨_, rfl⟩
  have kr : w4.heap[r]? = some (.cells #[.slice xA xn xc, .slice yA yn yc] 51 (0, 0)) := by rw [hw4, hr]; exact heap_alloc_new _ _
  have N4 : NW w2 0 0 w4 aA aC bA' bC' gs hs ss0 ss0 (.slice none 0 0) [] r := by rw [hw4]; exact NV.of N3.out hr
  have N4 := Lib.hid N4
  go_wp2
  rw [← hw4, ← hr]
  clear hw4 hr N3
  go_loopg [34, 8] 2 (fun gk i v wr => ∃ (k : Nat) (ss : List BSt) (xs : List Fr), i = .int .i64 k ∧ k ≤ 2 ∧ gk = 2 - k ∧ NW w2 0 0 wr aA aC bA' bC' gs hs ss ss0 v xs r ∧ Once ss xs 0 ∧ wr.heap[r]? = some (.cells #[.slice xA xn xc, .slice yA yn yc] 51 (0, 0)))
  case atStart => exact ⟨0, ss0, [], rfl, by omega, rfl, N4.out, HO.out, kr⟩
  case round =>
    clear N4 HO kr
    obtain ⟨k, ss, xs, rfl, hk, rfl, hN, hO, kr⟩ := hrel
    obtain ⟨wr1, rfl⟩ : ∃ z : World, z = wr := ⟨_, rfl⟩
    by_cases hlt : k < 2
    · have hk2 : (k : Int) < 2 := by omega
      have hk0 : (0 : Int) ≤ k := by omega
      obtain ⟨e1, e2, e3, e4, e5, e6⟩ := H.out k hlt
      have ck := cell_of_row wr1 r k _ 51 (0, 0) kr
      rw [e1] at ck
      generalize of3 xA yA yA k = A' at *
      generalize of3 xn yn yn k = n' at *
      generalize of3 xc yc yc k = c' at *
      generalize of3 xl yl yl k = l' at *
      obtain ⟨g, hg⟩ : ∃ g, gs[k]? = some g := ⟨_, List.getElem?_eq_getElem (show k < gs.length by rw [HG3.out]; omega)⟩
      have hkg : (k : Int) < gs.length := by rw [HG3.out]; omega
      have HG := Lib.hid hg
      have HL := Lib.hid e4
      have H6 := Lib.hid e6
      have SH := Lib.hid e5
      have HN := Lib.hid (And.intro hN (And.intro hO kr))
      clear hN hO e1 e4 e5 e6 hg kr
      unfold maxLen at e3
      go_wp2
      go_loopg [41, 8] n' (fun gk i v wr2 => ∃ (j : Nat) (ss : List BSt) (xs : List Fr), i = .int .i64 j ∧ j ≤ n' ∧ gk = n' - j ∧ NW w2 0 0 wr2 aA aC bA' bC' gs hs ss ss0 v xs r ∧ Once ss xs 0 ∧ wr2.heap[r]? = some (.cells #[.slice xA xn xc, .slice yA yn yc] 51 (0, 0)))
      case atStart => exact ⟨0, ss, xs, rfl, by omega, by omega, HN.out.1, HN.out.2.1, HN.out.2.2⟩
      case round =>
        clear HN ck
        obtain ⟨j, ss2, xs2, rfl, hj, rfl, hN, hO, kr⟩ := hrel
        obtain ⟨wr2, rfl⟩ : ∃ z : World, z = wr := ⟨_, rfl⟩
        by_cases hjn : j < n'
        · have hjn' : (j : Int) < n' := by omega
          obtain ⟨y, hy⟩ : ∃ y, l'[j]? = some y := ⟨_, List.getElem?_eq_getElem (show j < l'.length by rw [← HL.out]; exact hjn)⟩
          have hyo := H6.out y (List.mem_of_getElem? hy)
          obtain ⟨b, o, rfl, hb, hr⟩ := Shows.fr (SH.out.ext (x2.trans (NW.nn hN).x)) HL.out hy
          obtain ⟨s, hs⟩ : ∃ s, ss2[k]? = some s := ⟨_, List.getElem?_eq_getElem (show k < ss2.length by rw [← (NW.nn hN).lenA, HG3.out]; omega)⟩
          obtain ⟨A1, c1, rfl, hc1, hc2⟩ := hN.own.form
          have hxl : xs2.length ≤ 9 := by
            have h1 := once_len hO
            have h2 := tot_le (NW.nn hN).okA
            have h3 := (NW.nn hN).lenA
            rw [HG3.out] at h3
            omega
          have HS := Lib.hid hs
          have HO := Lib.hid hO
          have HN := Lib.hid hN
          clear hN hs hO hy
          go_upto_region 10 with (first
            | refine wpList_load_mid rfl 34 _ rfl _ _ rfl y.vals _ hr Try.underlying34 rfl size37 ?_
            | refine wpList_stnew rfl 34 _ _ rfl rfl y.vals rfl rfl size37 rfl (fr_one y) ?_)
          obtain ⟨w4, hw4⟩ : ∃ V, V = wr2.alloc (.cells y.vals.toArray 34) := ⟨_, rfl⟩
          have k4 : w4.heap[wr2.heap.size]? = some (.cells y.vals.toArray 34 (0, 0)) := by rw [hw4]; exact heap_alloc_new _ _
          have x4 : Ext wr2 w4 := by rw [hw4]; exact (Ext.refl _).alloc _
          rw [← hw4]
          clear hw4 hr
          have kr4 := (x4.block _ (blk_lt kr)).trans kr
          have N4 := Lib.hid (HN.out.hole x4)
          have hs4 : wr2.heap.size < w4.heap.size := blk_lt k4
          obtain ⟨bA, oA, rfl, hbA, _⟩ := ptr_cell (NN.shA (NW.nn N4.out)) rfl HG.out
          have hcA := ptr_cell' (NN.shA (NW.nn N4.out)) rfl HG.out
          clear HN kr
          by_cases h3 : s.tx.length < 3
          · have h3' : (s.tx.length : Int) < 3 := by omega
            have h3b : decide ((s.tx.length : Int) < 3) = true := decide_eq_true h3'
            obtain ⟨bm, hbm⟩ : ∃ bm, y.may = bm := ⟨_, rfl⟩
            have hsd : ∃ s' er, s.send y = (s', er) ∧ (er == 0) = bm ∧ Once (ss2.set k s') (if bm = true then xs2 ++ [y] else xs2) 0 := by
              cases bm
              · exact ⟨s, 1, send_no1' hbm, rfl, by rw [set_same HS.out]; exact HO.out⟩
              · exact ⟨_, 0, send_yes' hbm (by omega), rfl, once_send HO.out hlt HS.out hbm hyo⟩
            obtain ⟨s', er, hsd, heb, hOn⟩ := hsd
            have HSD := Lib.hid hsd
            have HO2 := Lib.hid hOn
            clear hsd hOn hbm
            go_upto_region 10 with (fail)
            refine wp_region_held_drew (S := fun W => W.heap[wr2.heap.size]? = some (.cells y.vals.toArray 34 (0, 0)) ∧ W.cell? ⟨bA, oA + k, none⟩ = some (ptr g)) (by kernel_rfl) (⟨(((Ext.refl w4).drew).block _ hs4).trans k4, (Below.cell ((Ext.refl w4).drew) (p := ⟨bA, oA + k, none⟩) hbA).trans hcA⟩) (fun hHeld => ?_)
            obtain ⟨wD1, hwD⟩ : ∃ V, V = World.drew w4 := ⟨_, rfl⟩
            rw [← hwD] at hHeld ⊢
            have zz0 : Ext w4 wD1 := by rw [hwD]; exact (Ext.refl _).drew
            clear hwD
            have PD := N4.out.ext zz0
            have krD := (zz0.block _ (blk_lt kr4)).trans kr4
            refine wpAnyH_take (i := 0) (oi := { dst := some 45, op := Op.move (Operand.tmp 6), type := 26, pos := "law.go:162", after := #[], guard := none }) (v := ?vv2_10_0) rfl (by kernel_rfl) (by kernel_rfl) (by kernel_rfl) (fun _ _ _ h => h) (Or.inl ⟨by rfl, ?yy2_10_0⟩) hHeld ?_
            case yy2_10_0 => (intro W hx; go_simp; try with_reducible rfl)
            simp only [Act.put, List.setIfInBounds_toArray, List.set_cons_zero, List.set_cons_succ]
            refine wpAnyH_take (i := 1) (oi := { dst := some 46, op := Op.move (Operand.tmp 9), type := 3, pos := "law.go:162", after := #[], guard := none }) (v := ?vv3_10_1) rfl (by kernel_rfl) (by kernel_rfl) (by kernel_rfl) (fun _ _ _ h => h) (Or.inl ⟨by rfl, ?yy3_10_1⟩) hHeld ?_
            case yy3_10_1 => (intro W hx; go_simp; try with_reducible rfl)
            simp only [Act.put, List.setIfInBounds_toArray, List.set_cons_zero, List.set_cons_succ]
            refine wpAnyH_take (i := 2) (oi := { dst := some 47, op := Op.indexAddr 26 (Operand.tmp 45) (Operand.tmp 46), type := 0, pos := "law.go:162", after := #[{ on := 0, ground := Ground.data }, { on := 1, ground := Ground.data }], guard := none }) (v := ?vv4_10_2) rfl (by kernel_rfl) (by kernel_rfl) (by kernel_rfl) (fun _ _ _ h => h) (Or.inl ⟨by rfl, ?yy4_10_2⟩) hHeld ?_
            case yy4_10_2 => (intro W hx; go_simp; try with_reducible rfl)
            simp only [Act.put, List.setIfInBounds_toArray, List.set_cons_zero, List.set_cons_succ]
            refine wpAnyH_take (i := 3) (oi := { dst := some 48, op := Op.load 41 (Operand.tmp 47), type := 41, pos := "law.go:162", after := #[{ on := 2, ground := Ground.data }], guard := none }) (v := ?vv5_10_3) rfl (by kernel_rfl) (by kernel_rfl) (by kernel_rfl) (fun _ _ _ h => h) (Or.inl ⟨by rfl, ?yy5_10_3⟩) hHeld ?_
            case yy5_10_3 => (intro W hx; have q9 := hx.2; go_simp; try with_reducible rfl)
            simp only [Act.put, List.setIfInBounds_toArray, List.set_cons_zero, List.set_cons_succ]
            refine wpAnyH_ready (rs := [4]) (by kernel_rfl) (by simp) (AllReadyH.cons rfl (fun K hK => ?_) AllReadyH.nil)
            go_simp
            go_wp2_with (go_at_call 21; (refine (wait_n (NW.nn PD) HG.out HS.out).mono ?_); rintro e w' ⟨rfl, rfl⟩)
            refine hK.out _ _ (hHeld) (fun hHeld => ?_)
            clear hK K
            refine wpAnyH_take (i := 5) (oi := { dst := some 50, op := Op.binOp BinOp.lss 3 (Operand.tmp 49) (Operand.const (Value.int IntKind.i64 3)) 3, type := 4, pos := "law.go:162", after := #[{ on := 4, ground := Ground.data }], guard := none }) (v := ?vv6_10_5) rfl (by kernel_rfl) (by kernel_rfl) (by kernel_rfl) (fun _ _ _ h => h) (Or.inl ⟨by rfl, ?yy6_10_5⟩) hHeld ?_
            case yy6_10_5 => (intro W hx; go_simp; try with_reducible rfl)
            simp only [Act.put, List.setIfInBounds_toArray, List.set_cons_zero, List.set_cons_succ]
            refine wpAnyH_take (i := 6) (oi := { dst := some 51, op := Op.move (Operand.tmp 50), type := 4, pos := "law.go:162", after := #[{ on := 5, ground := Ground.data }, { on := 4, ground := Ground.chain }], guard := none }) (v := ?vv7_10_6) rfl (by kernel_rfl) (by kernel_rfl) (by kernel_rfl) (fun _ _ _ h => h) (Or.inl ⟨by rfl, ?yy7_10_6⟩) hHeld ?_
            case yy7_10_6 => (intro W hx; go_simp; try with_reducible rfl)
            simp only [Act.put, List.setIfInBounds_toArray, List.set_cons_zero, List.set_cons_succ]
            refine wpAnyH_take (i := 7) (oi := { dst := some 52, op := Op.move (Operand.tmp 6), type := 26, pos := "law.go:162", after := #[{ on := 6, ground := Ground.guard }], guard := some (6, true) }) (v := ?vv8_10_7) rfl (by kernel_rfl) (by kernel_rfl) (by kernel_rfl) (fun _ _ _ h => h) (Or.inl ⟨by rfl, ?yy8_10_7⟩) hHeld ?_
            case yy8_10_7 => (intro W hx; go_simp; try with_reducible rfl)
            simp only [Act.put, List.setIfInBounds_toArray, List.set_cons_zero, List.set_cons_succ]
            refine wpAnyH_take (i := 8) (oi := { dst := some 53, op := Op.move (Operand.tmp 9), type := 3, pos := "law.go:162", after := #[{ on := 6, ground := Ground.guard }], guard := some (6, true) }) (v := ?vv9_10_8) rfl (by kernel_rfl) (by kernel_rfl) (by kernel_rfl) (fun _ _ _ h => h) (Or.inl ⟨by rfl, ?yy9_10_8⟩) hHeld ?_
            case yy9_10_8 => (intro W hx; go_simp; try with_reducible rfl)
            simp only [Act.put, List.setIfInBounds_toArray, List.set_cons_zero, List.set_cons_succ]
            refine wpAnyH_take (i := 9) (oi := { dst := some 54, op := Op.indexAddr 26 (Operand.tmp 52) (Operand.tmp 53), type := 0, pos := "law.go:162", after := #[{ on := 7, ground := Ground.data }, { on := 8, ground := Ground.data }, { on := 6, ground := Ground.guard }], guard := some (6, true) }) (v := ?vv10_10_9) rfl (by kernel_rfl) (by kernel_rfl) (by kernel_rfl) (fun _ _ _ h => h) (Or.inl ⟨by rfl, ?yy10_10_9⟩) hHeld ?_
            case yy10_10_9 => (intro W hx; go_simp; try with_reducible rfl)
            simp only [Act.put, List.setIfInBounds_toArray, List.set_cons_zero, List.set_cons_succ]
            refine wpAnyH_take (i := 10) (oi := { dst := some 55, op := Op.load 41 (Operand.tmp 54), type := 41, pos := "law.go:162", after := #[{ on := 9, ground := Ground.data }, { on := 6, ground := Ground.guard }], guard := some (6, true) }) (v := ?vv11_10_10) rfl (by kernel_rfl) (by kernel_rfl) (by kernel_rfl) (fun _ _ _ h => h) (Or.inl ⟨by rfl, ?yy11_10_10⟩) hHeld ?_
            case yy11_10_10 => (intro W hx; have q9 := hx.2; go_simp; try with_reducible rfl)
            simp only [Act.put, List.setIfInBounds_toArray, List.set_cons_zero, List.set_cons_succ]
            refine wpAnyH_take (i := 11) (oi := { dst := some 56, op := Op.load 34 (Operand.tmp 12), type := 34, pos := "law.go:162", after := #[{ on := 6, ground := Ground.guard }], guard := some (6, true) }) (v := ?vv12_10_11) rfl (by kernel_rfl) (by kernel_rfl) (by kernel_rfl) (fun _ _ _ h => h) (Or.inl ⟨by rfl, ?yy12_10_11⟩) hHeld ?_
            case yy12_10_11 => (intro W hx; refine ld_op (frAt hx.1) ?_; rfl)
            simp only [Act.put, List.setIfInBounds_toArray, List.set_cons_zero, List.set_cons_succ]
            refine wpAnyH_ready (rs := [12]) (by kernel_rfl) (by simp) (AllReadyH.cons rfl (fun K hK => ?_) AllReadyH.nil)
            go_simp
            go_wp2_with (go_at_call 13; (refine (send_w PD HG.out HS.out hyo HSD.out).mono ?_); rintro e w6 ⟨rfl, N6, hole6, kr6⟩)
            refine hK.out _ _ (⟨(hole6 _ (Nat.le_refl _) hs4).trans hHeld.1, ptr_cell' (NN.shA (NW.nn N6)) rfl HG.out⟩) (fun hHeld => ?_)
            clear hK K
            refine wpAnyH_take (i := 13) (oi := { dst := some 58, op := Op.binOp BinOp.eql 40 (Operand.tmp 57) (Operand.const (Value.int IntKind.i64 0)) 40, type := 4, pos := "law.go:162", after := #[{ on := 12, ground := Ground.data }, { on := 6, ground := Ground.guard }], guard := some (6, true) }) (v := ?vv13_10_13) rfl (by kernel_rfl) (by kernel_rfl) (by kernel_rfl) (fun _ _ _ h => h) (Or.inl ⟨by rfl, ?yy13_10_13⟩) hHeld ?_
            case yy13_10_13 => (intro W hx; go_simp; try with_reducible rfl)
            simp only [Act.put, List.setIfInBounds_toArray, List.set_cons_zero, List.set_cons_succ]
            refine wpAnyH_take (i := 14) (oi := { dst := some 59, op := Op.pick (Operand.tmp 51) (Operand.tmp 58) (Operand.const (Value.bool false)), type := 4, pos := "law.go:162", after := #[{ on := 6, ground := Ground.data }, { on := 13, ground := Ground.data }], guard := none }) (v := ?vv14_10_14) rfl (by kernel_rfl) (by kernel_rfl) (by kernel_rfl) (fun _ _ _ h => h) (Or.inl ⟨by rfl, ?yy14_10_14⟩) hHeld ?_
            case yy14_10_14 => (intro W hx; go_simp; try with_reducible rfl)
            simp only [Act.put, List.setIfInBounds_toArray, List.set_cons_zero, List.set_cons_succ]
            refine wpAnyH_done (by kernel_rfl) ?_ _
            have k6 := hHeld.1
            have kr6 := kr6.trans krD
            have N6 := Lib.hid N6.no
            clear PD hole6 hHeld hcA krD
            cases bm
            · go_wp2
              go_roundg (n' - (j + 1))
              case measure => omega
              case rel => exact ⟨j + 1, _, xs2, by go_num, by omega, rfl, N6.out, HO2.out, kr6⟩
            · have x7 : Ext w6 (w6.alloc (.cells y.vals.toArray 34)) := (Ext.refl _).alloc _
              have N7 := N6.out.ext x7
              have O7 := N7.own
              have N7 := Lib.hid N7
              have S7 : Shows (w6.alloc (.cells y.vals.toArray 34)) 11 (some ⟨w6.heap.size, 0, none⟩) 1 (frs [y]) := shows_one 34
              have kr7 := (x7.block _ (blk_lt kr6)).trans kr6
              go_wp2_with (first
                | refine wpList_ldrow rfl 34 _ rfl k6 rfl Try.underlying34 rfl size37 ?_
                | refine wpList_bsF (f := y) rfl _ rfl rfl ?_
                | (at_builtin; refine wpList_appS el45 rfl _ _ rfl O7 rfl S7 rfl (frs_one _) (le_max (by omega)) (by omega) (NW.nn N7.out).x.size ?_; intro v8 w8 own8 gr8 at8))
              go_roundg (n' - (j + 1))
              case measure => omega
              case rel =>
                obtain ⟨q1, q2⟩ := N7.out.grow (ys := xs2 ++ [y]) (by rw [frs_app, List.length_append]; exact own8) gr8 at8
                exact ⟨j + 1, _, xs2 ++ [y], by go_num, by omega, rfl, q1, HO2.out, q2.trans kr7⟩
          · have h3' : ¬ (s.tx.length : Int) < 3 := by omega
            have h3b : decide ((s.tx.length : Int) < 3) = false := decide_eq_false h3'
            go_upto_region 10 with (fail)
            refine wp_region_held_drew (S := fun W => Ext w4 W) (by kernel_rfl) ((Ext.refl w4).drew) (fun hHeld => ?_)
            obtain ⟨wD15, hwD⟩ : ∃ V, V = World.drew w4 := ⟨_, rfl⟩
            rw [← hwD] at hHeld ⊢
            have zz0 : Ext w4 wD15 := by rw [hwD]; exact (Ext.refl _).drew
            clear hwD
            have PD := N4.out.ext zz0
            refine wpAnyH_take (i := 0) (oi := { dst := some 45, op := Op.move (Operand.tmp 6), type := 26, pos := "law.go:162", after := #[], guard := none }) (v := ?vv16_10_0) rfl (by kernel_rfl) (by kernel_rfl) (by kernel_rfl) (fun _ _ _ h => h) (Or.inl ⟨by rfl, ?yy16_10_0⟩) hHeld ?_
            case yy16_10_0 => (intro W hx; go_simp; try with_reducible rfl)
            simp only [Act.put, List.setIfInBounds_toArray, List.set_cons_zero, List.set_cons_succ]
            refine wpAnyH_take (i := 1) (oi := { dst := some 46, op := Op.move (Operand.tmp 9), type := 3, pos := "law.go:162", after := #[], guard := none }) (v := ?vv17_10_1) rfl (by kernel_rfl) (by kernel_rfl) (by kernel_rfl) (fun _ _ _ h => h) (Or.inl ⟨by rfl, ?yy17_10_1⟩) hHeld ?_
            case yy17_10_1 => (intro W hx; go_simp; try with_reducible rfl)
            simp only [Act.put, List.setIfInBounds_toArray, List.set_cons_zero, List.set_cons_succ]
            refine wpAnyH_take (i := 2) (oi := { dst := some 47, op := Op.indexAddr 26 (Operand.tmp 45) (Operand.tmp 46), type := 0, pos := "law.go:162", after := #[{ on := 0, ground := Ground.data }, { on := 1, ground := Ground.data }], guard := none }) (v := ?vv18_10_2) rfl (by kernel_rfl) (by kernel_rfl) (by kernel_rfl) (fun _ _ _ h => h) (Or.inl ⟨by rfl, ?yy18_10_2⟩) hHeld ?_
            case yy18_10_2 => (intro W hx; go_simp; try with_reducible rfl)
            simp only [Act.put, List.setIfInBounds_toArray, List.set_cons_zero, List.set_cons_succ]
            refine wpAnyH_take (i := 3) (oi := { dst := some 48, op := Op.load 41 (Operand.tmp 47), type := 41, pos := "law.go:162", after := #[{ on := 2, ground := Ground.data }], guard := none }) (v := ?vv19_10_3) rfl (by kernel_rfl) (by kernel_rfl) (by kernel_rfl) (fun _ _ _ h => h) (Or.inl ⟨by rfl, ?yy19_10_3⟩) hHeld ?_
            case yy19_10_3 => (intro W hx; have q9 := (Below.cell hx (p := ⟨bA, oA + k, none⟩) hbA).trans hcA; go_simp; try with_reducible rfl)
            simp only [Act.put, List.setIfInBounds_toArray, List.set_cons_zero, List.set_cons_succ]
            refine wpAnyH_ready (rs := [4]) (by kernel_rfl) (by simp) (AllReadyH.cons rfl (fun K hK => ?_) AllReadyH.nil)
            go_simp
            go_wp2_with (go_at_call 21; (refine (wait_n (NW.nn PD) HG.out HS.out).mono ?_); rintro e w' ⟨rfl, rfl⟩)
            refine hK.out _ _ (hHeld) (fun hHeld => ?_)
            clear hK K
            refine wpAnyH_take (i := 5) (oi := { dst := some 50, op := Op.binOp BinOp.lss 3 (Operand.tmp 49) (Operand.const (Value.int IntKind.i64 3)) 3, type := 4, pos := "law.go:162", after := #[{ on := 4, ground := Ground.data }], guard := none }) (v := ?vv20_10_5) rfl (by kernel_rfl) (by kernel_rfl) (by kernel_rfl) (fun _ _ _ h => h) (Or.inl ⟨by rfl, ?yy20_10_5⟩) hHeld ?_
            case yy20_10_5 => (intro W hx; go_simp; try with_reducible rfl)
            simp only [Act.put, List.setIfInBounds_toArray, List.set_cons_zero, List.set_cons_succ]
            refine wpAnyH_take (i := 6) (oi := { dst := some 51, op := Op.move (Operand.tmp 50), type := 4, pos := "law.go:162", after := #[{ on := 5, ground := Ground.data }, { on := 4, ground := Ground.chain }], guard := none }) (v := ?vv21_10_6) rfl (by kernel_rfl) (by kernel_rfl) (by kernel_rfl) (fun _ _ _ h => h) (Or.inl ⟨by rfl, ?yy21_10_6⟩) hHeld ?_
            case yy21_10_6 => (intro W hx; go_simp; try with_reducible rfl)
            simp only [Act.put, List.setIfInBounds_toArray, List.set_cons_zero, List.set_cons_succ]
            refine wpAnyH_take (i := 7) (oi := { dst := some 52, op := Op.move (Operand.tmp 6), type := 26, pos := "law.go:162", after := #[{ on := 6, ground := Ground.guard }], guard := some (6, true) }) (v := undef) rfl (by kernel_rfl) (by kernel_rfl) (by kernel_rfl) (fun _ _ _ h => h) (Or.inr ⟨by rfl, rfl⟩) hHeld ?_
            simp only [Act.put, List.setIfInBounds_toArray, List.set_cons_zero, List.set_cons_succ]
            refine wpAnyH_take (i := 8) (oi := { dst := some 53, op := Op.move (Operand.tmp 9), type := 3, pos := "law.go:162", after := #[{ on := 6, ground := Ground.guard }], guard := some (6, true) }) (v := undef) rfl (by kernel_rfl) (by kernel_rfl) (by kernel_rfl) (fun _ _ _ h => h) (Or.inr ⟨by rfl, rfl⟩) hHeld ?_
            simp only [Act.put, List.setIfInBounds_toArray, List.set_cons_zero, List.set_cons_succ]
            refine wpAnyH_take (i := 9) (oi := { dst := some 54, op := Op.indexAddr 26 (Operand.tmp 52) (Operand.tmp 53), type := 0, pos := "law.go:162", after := #[{ on := 7, ground := Ground.data }, { on := 8, ground := Ground.data }, { on := 6, ground := Ground.guard }], guard := some (6, true) }) (v := undef) rfl (by kernel_rfl) (by kernel_rfl) (by kernel_rfl) (fun _ _ _ h => h) (Or.inr ⟨by rfl, rfl⟩) hHeld ?_
            simp only [Act.put, List.setIfInBounds_toArray, List.set_cons_zero, List.set_cons_succ]
            refine wpAnyH_take (i := 10) (oi := { dst := some 55, op := Op.load 41 (Operand.tmp 54), type := 41, pos := "law.go:162", after := #[{ on := 9, ground := Ground.data }, { on := 6, ground := Ground.guard }], guard := some (6, true) }) (v := undef) rfl (by kernel_rfl) (by kernel_rfl) (by kernel_rfl) (fun _ _ _ h => h) (Or.inr ⟨by rfl, rfl⟩) hHeld ?_
            simp only [Act.put, List.setIfInBounds_toArray, List.set_cons_zero, List.set_cons_succ]
            refine wpAnyH_take (i := 11) (oi := { dst := some 56, op := Op.load 34 (Operand.tmp 12), type := 34, pos := "law.go:162", after := #[{ on := 6, ground := Ground.guard }], guard := some (6, true) }) (v := undef) rfl (by kernel_rfl) (by kernel_rfl) (by kernel_rfl) (fun _ _ _ h => h) (Or.inr ⟨by rfl, rfl⟩) hHeld ?_
            simp only [Act.put, List.setIfInBounds_toArray, List.set_cons_zero, List.set_cons_succ]
            refine wpAnyH_take (i := 12) (oi := { dst := some 57, op := Op.call { callee := Callee.value (Operand.func 13), args := #[Operand.tmp 55, Operand.tmp 56], argTypes := #[41, 34] }, type := 40, pos := "law.go:162", after := #[{ on := 10, ground := Ground.data }, { on := 11, ground := Ground.data }, { on := 6, ground := Ground.chain }, { on := 6, ground := Ground.guard }], guard := some (6, true) }) (v := undef) rfl (by kernel_rfl) (by kernel_rfl) (by kernel_rfl) (fun _ _ _ h => h) (Or.inr ⟨by rfl, rfl⟩) hHeld ?_
            simp only [Act.put, List.setIfInBounds_toArray, List.set_cons_zero, List.set_cons_succ]
            refine wpAnyH_take (i := 13) (oi := { dst := some 58, op := Op.binOp BinOp.eql 40 (Operand.tmp 57) (Operand.const (Value.int IntKind.i64 0)) 40, type := 4, pos := "law.go:162", after := #[{ on := 12, ground := Ground.data }, { on := 6, ground := Ground.guard }], guard := some (6, true) }) (v := undef) rfl (by kernel_rfl) (by kernel_rfl) (by kernel_rfl) (fun _ _ _ h => h) (Or.inr ⟨by rfl, rfl⟩) hHeld ?_
            simp only [Act.put, List.setIfInBounds_toArray, List.set_cons_zero, List.set_cons_succ]
            refine wpAnyH_take (i := 14) (oi := { dst := some 59, op := Op.pick (Operand.tmp 51) (Operand.tmp 58) (Operand.const (Value.bool false)), type := 4, pos := "law.go:162", after := #[{ on := 6, ground := Ground.data }, { on := 13, ground := Ground.data }], guard := none }) (v := ?vv22_10_14) rfl (by kernel_rfl) (by kernel_rfl) (by kernel_rfl) (fun _ _ _ h => h) (Or.inl ⟨by rfl, ?yy22_10_14⟩) hHeld ?_
            case yy22_10_14 => (intro W hx; go_simp; try with_reducible rfl)
            simp only [Act.put, List.setIfInBounds_toArray, List.set_cons_zero, List.set_cons_succ]
            refine wpAnyH_done (by kernel_rfl) ?_ _
            have N6 := Lib.hid PD.no
            have kr6 := (zz0.block _ (blk_lt kr4)).trans kr4
            clear PD hHeld hcA
            go_wp2
            go_roundg (n' - (j + 1))
            case measure => omega
            case rel => exact ⟨j + 1, _, xs2, by go_num, by omega, rfl, N6.out, HO.out, kr6⟩
        · obtain rfl : j = n' := by omega
          have HN := Lib.hid (And.intro hN (And.intro hO kr))
          clear hN hO kr
          go_wp2
          go_roundg (2 - (k + 1))
          case measure => omega
          case rel => exact ⟨k + 1, _, xs2, by go_num, by omega, rfl, HN.out.1, HN.out.2.1, HN.out.2.2⟩
    · obtain rfl : k = 2 := by omega
      obtain ⟨A1, c1, rfl, hc1, hc2⟩ := hN.own.form
      have hxl : xs.length ≤ 9 := by
        have h1 := once_len hO
        have h2 := tot_le (NW.nn hN).okA
        have h3 := (NW.nn hN).lenA
        rw [HG3.out] at h3
        omega
      have HO := Lib.hid hO
      have HN := Lib.hid hN
      clear hN hO kr
      go_wp2
      go_loopg [68, 8, 13] xs.length (fun gk i v mv wr => ∃ (k : Nat) (ss : List BSt) (xs' : List Fr), i = .int .i64 k ∧ k + xs'.length = xs.length ∧ gk = xs'.length ∧ mv = .int .i64 k ∧ NW w2 0 0 wr aA aC bA' bC' gs hs ss ss0 v xs' r ∧ Once ss xs' k)
      case atStart => exact ⟨0, ss, xs, rfl, by omega, rfl, rfl, HN.out, HO.out⟩
      case round =>
        clear HN HO
        obtain ⟨k, ss, xs', rfl, hkt, rfl, rfl, hN, hO⟩ := hrel
        obtain ⟨wr2, rfl⟩ : ∃ z : World, z = wr := ⟨_, rfl⟩
        obtain ⟨A1', c1', rfl, hc1', hc2'⟩ := hN.own.form
        by_cases hpos : 0 < xs'.length
        · have hkT : (k : Int) < xs.length := by omega
          have hps := pick_some (show 0 < tot ss by rw [once_len hO]; exact hpos)
          have hpo : (pick ss).2.1.ok := pickTo_ok (NW.nn hN).okA _ (Nat.le_refl _)
          obtain ⟨pl, f, fd, hp⟩ : ∃ pl f fd, pick ss = (pl, f, fd) := ⟨_, _, _, rfl⟩
          rw [hp] at hps hpo
          simp only at hps hpo
          subst hps
          obtain ⟨ys, hperm, hnext⟩ := once_turn hO hp
          have hfm : f ∈ xs' := hperm.symm.subset (by simp)
          obtain ⟨ai, hai, hal, hat⟩ := lastTo_mem hfm
          have HNX := Lib.hid (hnext (xs'.eraseIdx ai) (((erase_perm xs' ai f hat).symm.trans hperm).cons_inv))
          have HAI := Lib.hid hai
          have HP := Lib.hid hp
          obtain ⟨b1, o1, rfl, _, _⟩ := Shows.fr hN.own.shows rfl hat
          have hel : (xs'.eraseIdx ai).length = ai + (xs'.length - (ai + 1)) := by rw [List.length_eraseIdx, if_pos hal]; omega
          have HEL := Lib.hid hel
          have HN := Lib.hid hN
          clear hN hO hp hperm hnext hfm hai hat hel
          go_upto_region 18 with (first
            | (go_at_call 15; (refine (turn_w false HN.out HG9.out HP.out rfl).mono ?_); rintro e w5 ⟨rfl, N5, _, _⟩)
            | refine wpList_stnew rfl 34 _ _ rfl rfl f.vals rfl rfl size37 rfl (fr_one f) ?_)
          obtain ⟨w6, hw6⟩ : ∃ V, V = w5.alloc (.cells f.vals.toArray 34) := ⟨_, rfl⟩
          have k15 : w6.heap[w5.heap.size]? = some (.cells f.vals.toArray 34 (0, 0)) := by rw [hw6]; exact heap_alloc_new _ _
          have x6 : Ext w5 w6 := by rw [hw6]; exact (Ext.refl _).alloc _
          rw [← hw6]
          clear hw6
          have N6 := Lib.hid (N5.ext x6)
          have SHW := Lib.hid N6.out.own.shows
          clear N5 HN
          go_wp2
          go_loopg [78, 17] xs'.length (fun gk i av wr4 => ∃ (j : Nat), i = .int .i64 j ∧ j ≤ xs'.length ∧ gk = xs'.length - j ∧ av = .int .i64 (lastTo xs' f j) ∧ Ext w6 wr4)
          case atStart => exact ⟨0, rfl, by omega, by omega, rfl, Ext.refl _⟩
          case round =>
            obtain ⟨j, rfl, hj, rfl, rfl, x7⟩ := hrel
            obtain ⟨wr4, rfl⟩ : ∃ z : World, z = wr := ⟨_, rfl⟩
            by_cases hjl : j < xs'.length
            · have hjl' : (j : Int) < xs'.length := by omega
              obtain ⟨b2, o2, hb2, _, hr⟩ := Shows.fr (SHW.out.ext x7) rfl (getD_at hjl)
              injection hb2 with hb2
              injection hb2 with hb2 ho2
              subst hb2 ho2
              have hst : lastTo xs' f (j + 1) = if (xs'.getD j Fr.zero == f) = true then (j : Int) else lastTo xs' f j := rfl
              have HST := Lib.hid hst
              clear hst
              generalize xs'.getD j Fr.zero = y at hr HST
              go_upto_region 22 with (first
                | refine wpList_load_mid rfl 34 _ rfl _ _ rfl y.vals _ hr Try.underlying34 rfl size37 ?_
                | refine wpList_stnew rfl 34 _ _ rfl rfl y.vals rfl rfl size37 rfl (fr_one y) ?_)
              obtain ⟨w8, hw8⟩ : ∃ V, V = wr4.alloc (.cells y.vals.toArray 34) := ⟨_, rfl⟩
              have k19 : w8.heap[wr4.heap.size]? = some (.cells y.vals.toArray 34 (0, 0)) := by rw [hw8]; exact heap_alloc_new _ _
              have x8 : Ext wr4 w8 := by rw [hw8]; exact (Ext.refl _).alloc _
              rw [← hw8]
              clear hw8 hr
              have k158 := ((x7.trans x8).block _ (blk_lt k15)).trans k15
              obtain ⟨bq, hbq⟩ : ∃ bq, (y == f) = bq := ⟨_, rfl⟩
              have heq : ∀ V, (binOp .eql 34 (.agg y.vals.toArray) (.agg f.vals.toArray)).run Try.prog V = .ok (.bool bq) V := fun V => by rw [run_eqF, hbq]
              rw [hbq] at HST
              clear hbq
              go_upto_if 85 with (first
                | refine wpList_ldrow rfl 34 _ rfl k19 rfl Try.underlying34 rfl size37 ?_
                | refine wpList_ldrow rfl 34 _ rfl k158 rfl Try.underlying34 rfl size37 ?_)
              cases bq
              · go_wp2
                go_roundg (xs'.length - (j + 1))
                case measure => omega
                case rel => exact ⟨j + 1, by go_num, by omega, rfl, by rw [HST.out]; simp, x7.trans x8⟩
              · go_wp2
                go_roundg (xs'.length - (j + 1))
                case measure => omega
                case rel => exact ⟨j + 1, by go_num, by omega, rfl, by rw [HST.out]; simp, x7.trans x8⟩
            · obtain rfl : j = xs'.length := by omega
              rw [HAI.out]
              clear HAI
              unfold maxLen at hc2'
              have hic : ai ≤ c1' := by omega
              have hicc : ai + 1 ≤ c1' := by omega
              have hi0 : (0 : Int) ≤ ai + 1 := by omega
              have hi00 : (0 : Int) ≤ ai := by omega
              have hn0 : ¬ ((ai : Int) < 0) := by omega
              have hn0b : decide ((ai : Int) < 0) = false := decide_eq_false hn0
              have hin : (ai : Int) < xs'.length := by omega
              have hwr2 : IntKind.i64.wrap ((ai : Int) + 1) = ai + 1 := by rw [IntKind.wrap_i64]; omega
              have htn : ((ai : Int) + 1).toNat = ai + 1 := by omega
              have hi1 : (ai : Int) + 1 ≤ xs'.length := by omega
              obtain ⟨pA, hpA⟩ : ∃ pA, (if c1' = ai + 1 then some (⟨b1, o1, none⟩ : Addr) else some ⟨b1, o1 + (ai + 1) * 11, none⟩) = some pA := by split <;> exact ⟨_, rfl⟩
              have sh := SHW.out.drop (k := ai + 1) (by omega) hc1'
              rw [frs_drop] at sh
              have sh : Shows w6 11 (some pA) (xs'.length - (ai + 1)) (frs (xs'.drop (ai + 1))) := by
                rw [← hpA]
                simpa [Addr.add_lit] using sh
              have st := SHW.out.take (k := ai) (by omega)
              rw [frs_take] at st
              have SH7 := Lib.hid (sh.ext x7)
              have ST7 := Lib.hid (st.ext x7)
              have N7 := Lib.hid (N6.out.ext x7)
              clear sh st SHW N6 hj hjl
              go_upto_region 27 with (fail)
              refine wp_region_held_drew (S := Ext wr4) (by kernel_rfl) ((Ext.refl _).drew) (fun hHeld => ?_)
              obtain ⟨wB7, hwD⟩ : ∃ V, V = World.drew wr4 := ⟨_, rfl⟩
              rw [← hwD]
              clear hHeld
              have zz0 : Ext wr4 wB7 := by rw [hwD]; exact (Ext.refl _).drew
              clear hwD
              refine wpAnyH_imp (S' := Ext wB7) (fun W h => Ext.trans zz0 h) _ _ _ _ ?_
              have hHeld := Ext.refl wB7
              have hB := Ext.refl wB7
              have hW := zz0
              refine wpAnyH_take (i := 1) (oi := { dst := some 95, op := Op.move (Operand.tmp 8), type := 51, pos := "law.go:179", after := #[], guard := none }) (v := ?vv24_27_1) rfl (by kernel_rfl) (by kernel_rfl) (by kernel_rfl) (fun _ _ _ h => h) (Or.inl ⟨by rfl, ?yy24_27_1⟩) hHeld ?_
              case yy24_27_1 => (intro W hx; go_simp; try with_reducible rfl)
              simp only [Act.put, List.setIfInBounds_toArray, List.set_cons_zero, List.set_cons_succ]
              refine wpAnyH_take (i := 2) (oi := { dst := some 96, op := Op.move (Operand.tmp 17), type := 3, pos := "law.go:179", after := #[], guard := none }) (v := ?vv25_27_2) rfl (by kernel_rfl) (by kernel_rfl) (by kernel_rfl) (fun _ _ _ h => h) (Or.inl ⟨by rfl, ?yy25_27_2⟩) hHeld ?_
              case yy25_27_2 => (intro W hx; go_simp; try with_reducible rfl)
              simp only [Act.put, List.setIfInBounds_toArray, List.set_cons_zero, List.set_cons_succ]
              refine wpAnyH_take (i := 3) (oi := { dst := some 97, op := Op.slice 51 (Operand.tmp 95) none (some (Operand.tmp 96)) none, type := 51, pos := "law.go:179", after := #[{ on := 1, ground := Ground.data }, { on := 2, ground := Ground.data }], guard := none }) (v := ?vv26_27_3) rfl (by kernel_rfl) (by kernel_rfl) (by kernel_rfl) (fun _ _ _ h => h) (Or.inl ⟨by rfl, ?yy26_27_3⟩) hHeld ?_
              case yy26_27_3 => (intro W hx; go_simp; try with_reducible rfl)
              simp only [Act.put, List.setIfInBounds_toArray, List.set_cons_zero, List.set_cons_succ]
              refine wpAnyH_take (i := 5) (oi := { dst := some 99, op := Op.move (Operand.tmp 8), type := 51, pos := "law.go:179", after := #[], guard := none }) (v := ?vv27_27_5) rfl (by kernel_rfl) (by kernel_rfl) (by kernel_rfl) (fun _ _ _ h => h) (Or.inl ⟨by rfl, ?yy27_27_5⟩) hHeld ?_
              case yy27_27_5 => (intro W hx; go_simp; try with_reducible rfl)
              simp only [Act.put, List.setIfInBounds_toArray, List.set_cons_zero, List.set_cons_succ]
              refine wpAnyH_take (i := 6) (oi := { dst := some 100, op := Op.move (Operand.tmp 17), type := 3, pos := "law.go:179", after := #[], guard := none }) (v := ?vv28_27_6) rfl (by kernel_rfl) (by kernel_rfl) (by kernel_rfl) (fun _ _ _ h => h) (Or.inl ⟨by rfl, ?yy28_27_6⟩) hHeld ?_
              case yy28_27_6 => (intro W hx; go_simp; try with_reducible rfl)
              simp only [Act.put, List.setIfInBounds_toArray, List.set_cons_zero, List.set_cons_succ]
              refine wpAnyH_take (i := 7) (oi := { dst := some 101, op := Op.binOp BinOp.add 3 (Operand.tmp 100) (Operand.const (Value.int IntKind.i64 1)) 3, type := 3, pos := "law.go:179", after := #[{ on := 6, ground := Ground.data }], guard := none }) (v := ?vv29_27_7) rfl (by kernel_rfl) (by kernel_rfl) (by kernel_rfl) (fun _ _ _ h => h) (Or.inl ⟨by rfl, ?yy29_27_7⟩) hHeld ?_
              case yy29_27_7 => (intro W hx; go_simp; try with_reducible rfl)
              simp only [Act.put, List.setIfInBounds_toArray, List.set_cons_zero, List.set_cons_succ]
              refine wpAnyH_take (i := 8) (oi := { dst := some 102, op := Op.slice 51 (Operand.tmp 99) (some (Operand.tmp 101)) none none, type := 51, pos := "law.go:179", after := #[{ on := 5, ground := Ground.data }, { on := 7, ground := Ground.data }], guard := none }) (v := ?vv30_27_8) rfl (by kernel_rfl) (by kernel_rfl) (by kernel_rfl) (fun _ _ _ h => h) (Or.inl ⟨by rfl, ?yy30_27_8⟩) hHeld ?_
              case yy30_27_8 => (intro W hx; go_simp; try with_reducible rfl)
              simp only [Act.put, List.setIfInBounds_toArray, List.set_cons_zero, List.set_cons_succ]
              refine wpAnyH_ready (rs := [0]) (by kernel_rfl) (by simp) (AllReadyH.cons rfl (fun K hK => ?_) AllReadyH.nil)
              go_simp
              obtain ⟨wb, hw⟩ : ∃ V, V = World.alloc wB7 (.cells #[] 34) := ⟨_, rfl⟩
              rw [← hw]
              have xb : Ext wB7 wb := by rw [hw]; exact (Ext.refl _).alloc _
              have own0 := own_eq hw (own_lit (e := 34) (size := 11) #[] 0 rfl hB.size (le_max (by omega)) rfl)
              clear hw
              refine hK.out _ _ (hB.trans xb) (fun hHeld => ?_)
              clear hK K
              have hB := hB.trans xb
              have hW := zz0.trans hB
              refine wpAnyH_ready (rs := [4]) (by kernel_rfl) (by simp) (AllReadyH.cons rfl (fun K hK => ?_) AllReadyH.nil)
              rw [if_pos (by rfl)]
              refine wp_app2 (o := { dst := some 98, op := Op.call { callee := Callee.builtin Builtin.append, args := #[Operand.tmp 94, Operand.tmp 97], argTypes := #[51, 51] }, type := 51, pos := "law.go:179", after := #[{ on := 0, ground := Ground.data }, { on := 3, ground := Ground.data }], guard := none }) el45 (.tmp 94) (.tmp 97) rfl own0 rfl (ST7.out.ext hW) rfl (frs_one _) (le_max (by omega)) (by omega) rfl hB ?_; intro V1 wq own1 x9 hg9 hat9
              simp only [Act.put, List.setIfInBounds_toArray, List.set_cons_zero, List.set_cons_succ]
              refine hK.out _ _ x9 (fun hHeld => ?_)
              clear hK K
              have hB := x9
              have hW := zz0.trans hB
              clear own0 hg9 hat9
              refine wpAnyH_ready (rs := [9]) (by kernel_rfl) (by simp) (AllReadyH.cons rfl (fun K hK => ?_) AllReadyH.nil)
              rw [if_pos (by rfl)]
              refine wp_app2 (o := { dst := some 103, op := Op.call { callee := Callee.builtin Builtin.append, args := #[Operand.tmp 98, Operand.tmp 102], argTypes := #[51, 51] }, type := 51, pos := "law.go:179", after := #[{ on := 4, ground := Ground.data }, { on := 8, ground := Ground.data }, { on := 4, ground := Ground.chain }], guard := none }) el45 (.tmp 98) (.tmp 102) rfl own1 rfl (SH7.out.ext hW) rfl (frs_one _) (le_max (by omega)) (by omega) rfl hB ?_; intro V2 wr9 own2 x9 hg9 hat9
              simp only [Act.put, List.setIfInBounds_toArray, List.set_cons_zero, List.set_cons_succ]
              refine hK.out _ _ x9 (fun hHeld => ?_)
              clear hK K
              have hB := x9
              have hW := zz0.trans hB
              clear own1 hg9 hat9
              refine wpAnyH_take (i := 10) (oi := { dst := some 8, op := Op.assign (Operand.tmp 103), type := 51, pos := "law.go:179", after := #[{ on := 9, ground := Ground.data }, { on := 9, ground := Ground.chain }, { on := 0, ground := Ground.phase }, { on := 1, ground := Ground.phase }, { on := 2, ground := Ground.phase }, { on := 3, ground := Ground.phase }, { on := 4, ground := Ground.phase }, { on := 5, ground := Ground.phase }, { on := 6, ground := Ground.phase }, { on := 7, ground := Ground.phase }, { on := 8, ground := Ground.phase }, { on := 9, ground := Ground.phase }], guard := none }) (v := ?vv31_27_10) rfl (by kernel_rfl) (by kernel_rfl) (by kernel_rfl) (fun _ _ _ h => h) (Or.inl ⟨by rfl, ?yy31_27_10⟩) hHeld ?_
              case yy31_27_10 => (intro W hx; go_simp; try with_reducible rfl)
              simp only [Act.put, List.setIfInBounds_toArray, List.set_cons_zero, List.set_cons_succ]
              refine wpAnyH_done (by kernel_rfl) ?_ _
              have zend := hW
              obtain ⟨A4, c4, rfl⟩ := own_slice own2
              have P9 := Lib.hid ((N7.out.ext zz0).renew hB (v' := .slice A4 _ c4) (ys := xs'.eraseIdx ai) (by rw [HEL.out, erase_eq, frs_app]; simpa using own2))
              clear own2
              go_wp2
              go_roundg (xs'.length - 1)
              case measure => omega
              case rel => exact ⟨k + 1, turnL false ss, xs'.eraseIdx ai, by go_num, by rw [HEL.out]; omega, by rw [HEL.out]; omega, by go_num, P9.out, HNX.out⟩
        · have hlz : xs'.length = 0 := by omega
          have hkT : ¬ (k : Int) < xs.length := by omega
          obtain ⟨g2, hg2⟩ : ∃ g, gs[2]? = some g := ⟨_, List.getElem?_eq_getElem (show 2 < gs.length by rw [HG3.out]; omega)⟩
          have hb2 : (2 : Int) < gs.length := by rw [HG3.out]; omega
          have hb2n : 2 < gs.length := by rw [HG3.out]; omega
          obtain ⟨s0, s1, s2, rfl, _, _, _, hr2, hl2, _⟩ := hO
          have hNN := NW.nn hN
          obtain ⟨bA, oA, rfl, hbA, hcA⟩ := ptr_cell (NN.shA hNN) rfl hg2
          have hov := over_n hNN hg2 (show ([s0, s1, s2] : List BSt)[2]? = some s2 from rfl)
          obtain ⟨bl, hbl⟩ : ∃ bl, decide ((4 : Int) < k) = bl := ⟨_, rfl⟩
          have hl3 : s2.lost = bl := by rw [hl2, ← hbl, decide_eq_decide]; omega
          rw [hl3] at hov
          obtain ⟨mm, hmm⟩ : ∃ mm, mm = s2.rx.length := ⟨_, rfl⟩
          have hmin : (if (4 : Int) < k then (4 : Int) else k) = mm := by rw [hmm, hr2]; split <;> omega
          have HTK := Lib.hid (fun (W : World) (h : NN w2 0 0 W (some ⟨bA, oA, none⟩) aC bA' bC' gs hs ([s0, s1, s2].set 2 { s2 with lost := false }) ss0) => taken_n h hg2 (show (([s0, s1, s2] : List BSt).set 2 { s2 with lost := false })[2]? = some { s2 with lost := false } from rfl))
          simp only at HTK
          rw [← hmm] at HTK
          have HOV := Lib.hid hov
          have HG2 := Lib.hid hg2
          clear hov hr2 hl2 hl3 hmm hN hNN hg2 hkt
          go_upto_region 31 with (go_at_call 22; (refine HOV.out.mono ?_); rintro e w5 ⟨rfl, N5, _, _⟩)
          have hcB := ptr_cell' (NN.shA N5) rfl HG2.out
          have HX := Lib.hid (x2.trans N5.x)
          have N5 := Lib.hid N5
          clear hcA
          go_wp2_with (go_at_call 25; (refine (HTK.out _ N5.out).mono ?_); rintro e w6 ⟨rfl, rfl⟩)
          go_ret
          exact ⟨by simp, HX.out⟩
end Go.Proofs.Ytjdabmadpclbaaa
