import Derived.Test.YtdikhpifamjalaaZE
import Derived.Test.YtdikhpifamjalaaT
import Derived.Deep.LoopGhost
import Derived.Deep.DeepCutAuto
import Derived.Deep.CutBlock
set_option linter.unusedVariables false
set_option linter.unusedSimpArgs false
namespace Go.Proofs.Ytdikhpifamjalaa
open Go.RowKit
set_option maxRecDepth 100000 in
set_option maxHeartbeats 8000000 in
theorem BoxPlays_law (w : World) (fA : Option Addr) (fn fc : Nat) (fl : List Fi) (hfc : fn ≤ fc) (hfm : fc ≤ maxLen) (hfl : fn = fl.length) (shf : Shows w 3 fA fn (fis fl)) (okf : ∀ x ∈ fl, x.ok) (A : Option Addr) (n c : Nat) (l : List Ac) (hnc : n ≤ c) (hcm : c ≤ maxLen) (hnl : n = l.length) (sh : Shows w 12 A n (acs l)) (ok : ∀ a ∈ l, a.ok) :
    Calls Try.prog 3 #[.slice fA fn fc, .slice A n c] w fun e w' => e = .returned (.bool true) ∧ Ext w w' := by
  have hfew := few_any A n c
  have hsome := some_any fA fn fc
  obtain ⟨m, hm0⟩ : ∃ m, m = min n 100 := ⟨_, rfl⟩
  obtain ⟨p, hp0⟩ : ∃ p, p = min fn 12 := ⟨_, rfl⟩
  have hmc : m ≤ c := by omega
  have hm100 : m ≤ 100 := by omega
  have hpc : p ≤ fc := by omega
  have sm := sh.take (k := m) (by omega)
  rw [acs, flat_take ac_len] at sm
  have hml : m = (l.take m).length := by rw [List.length_take]; omega
  have hok : ∀ x ∈ l.take m, Ac.ok x := fun x hx => ok x (List.mem_of_mem_take hx)
  have sp := shf.take (k := p) (by omega)
  rw [fis_take] at sp
  have hpl : p = (fl.take p).length := by rw [List.length_take]; omega
  have hokf : ∀ x ∈ fl.take p, Fi.ok x := fun x hx => okf x (List.mem_of_mem_take hx)
  rw [← hm0] at hfew
  rw [← hp0] at hsome
  have HFEW := Lib.hid (fun W => hfew W hnc hcm)
  have HSOME := Lib.hid (fun W => hsome W hfc hfm)
  clear hm0 sh ok hnl hnc hfew hp0 shf okf hfl hfc hsome
  unfold maxLen at hcm hfm
  generalize l.take m = ys at sm hml hok
  generalize fl.take p = fs at sp hpl hokf
  have HM := Lib.hid hml
  have HP := Lib.hid hpl
  have HOF := Lib.hid hokf
  clear hml hpl hokf
  go_enter Try.func3, Try.ntmps3
  go_upto_region 2 with (go_at_call 9; (refine (shown_any _).mono ?_); rintro e w1 ⟨rfl, x1⟩)
  by_cases h8 : 8 < p
  · go_upto_region 3 with (first
      | (go_at_call 10; (refine (new_long _ _ _ _ h8).mono ?_); rintro e w3 ⟨rfl, rfl⟩)
      | (go_at_call 11; (refine (HSOME.out _).mono ?_); rintro e w2 ⟨rfl, rfl⟩))
    go_upto_region 4 with (first
      | (go_at_call 12; (refine (rnew_long _ _ _ _ h8).mono ?_); rintro e w3 ⟨rfl, rfl⟩)
      | (go_at_call 11; (refine (HSOME.out _).mono ?_); rintro e w2 ⟨rfl, rfl⟩))
    go_wp2
    go_ret
    exact ⟨rfl, x1⟩
  go_upto_region 3 with (first
    | (go_at_call 10; (refine (new_any _ _ _ fs _ (sp.ext x1) HP.out h8 HOF.out).mono ?_); rintro e w3 ⟨g, F, rfl, bF, x3, nF⟩)
    | (go_at_call 11; (refine (HSOME.out _).mono ?_); rintro e w2 ⟨rfl, rfl⟩))
  go_upto_region 4 with (first
    | (go_at_call 12; (refine (rnew_any _ _ _ fs _ (sp.ext (x1.trans x3)) HP.out h8 HOF.out).mono ?_); rintro e w4 ⟨h, G, rfl, bG, x4, nG⟩)
    | (go_at_call 11; (refine (HSOME.out _).mono ?_); rintro e w2 ⟨rfl, rfl⟩))
  have L := BxP.new x1 bF x3 nF bG x4 nG
  have L := Lib.hid L
  clear bF nF bG nG h8
  go_wp2_with (go_at_call 13; (refine (HFEW.out _).mono ?_); rintro e w5 ⟨rfl, rfl⟩)
  go_loopg [50] m (fun gk i wr => ∃ (k : Nat) (s : BSt), i = .int .i64 k ∧ k ≤ m ∧ gk = m - k ∧ BxP w 0 0 wr g h s s)
  case atStart => exact ⟨0, _, rfl, by omega, by omega, L.out⟩
  case round =>
    obtain ⟨k, s, rfl, hk, rfl, L⟩ := hrel
    by_cases hlt : k < m
    · have hkm : (k : Int) < m := by omega
      have hy : ys[k]? = some _ := List.getElem?_eq_getElem (by have := HM.out; omega)
      have hyo := hok _ (List.mem_of_getElem? hy)
      generalize ys[k] = y at hy hyo
      obtain ⟨b, o, rfl, hb, hr⟩ := Shows.row ac_len (by omega) (sm.ext L.x) HM.out hy
      clear hy
      have LL := Lib.hid L
      clear L
      go_upto_region 11 with (first | refine wpList_load_mid rfl 39 _ rfl _ _ rfl y.vals _ hr Try.underlying39 rfl size39 ?_ | refine wpList_stnew rfl 39 _ _ rfl rfl y.vals rfl rfl size39 rfl (ac_one y) ?_)
      obtain ⟨w4, hw4⟩ : ∃ V, V = wr.alloc (.cells y.vals.toArray 39) := ⟨_, rfl⟩
      have k4 : w4.heap[wr.heap.size]? = some (.cells y.vals.toArray 39 (0, 0)) := by rw [hw4]; exact heap_alloc_new _ _
      have x4 : Ext wr w4 := by rw [hw4]; exact (Ext.refl _).alloc _
      rw [← hw4]
      clear hw4 hr
      have P4 := Lib.hid (LL.out.hole x4)
      have hsa : wr.heap.size < w4.heap.size := blk_lt k4
      have c0 : w4.cell? ⟨wr.heap.size, 0, none⟩ = some (.int .u8 y.kind) := by rw [cell_of_row _ _ _ _ _ _ k4]; rfl
      obtain ⟨q, hq⟩ : ∃ q, y.kind.tmod 6 = q := ⟨_, rfl⟩
      go_upto_block 2 with fail
      go_cut [12] (fun v12 wx => v12 = .bool true ∧ ∃ s', BxP w 0 0 wx g h s' s')
      case first =>
        by_cases h0 : q = 0
        · subst h0
          obtain ⟨s', er, hsd⟩ : ∃ s' er, s.send y.f = (s', er) := ⟨_, _, rfl⟩
          have HSD := Lib.hid hsd
          clear hsd
          go_upto_region 14 with (fail)
          refine wp_region_held_drew (S := fun W => W.heap[wr.heap.size]? = some (.cells y.vals.toArray 39 (0, 0))) (by kernel_rfl) (((Ext.refl w4).drew.block _ hsa).trans k4) (fun hHeld => ?_)
          obtain ⟨wD1, hwD⟩ : ∃ V, V = World.drew w4 := ⟨_, rfl⟩
          rw [← hwD] at hHeld ⊢
          have zz0 : Ext w4 wD1 := by rw [hwD]; exact (Ext.refl _).drew
          clear hwD
          have PD := P4.out.ext zz0
          refine wpAnyH_take (i := 0) (oi := { dst := some 59, op := Op.move (Operand.tmp 6), type := 25, pos := "law.go:48", after := #[], guard := none }) (v := ?vv2_14_0) rfl (by kernel_rfl) (by kernel_rfl) (by kernel_rfl) (fun _ _ _ h => h) (Or.inl ⟨by rfl, ?yy2_14_0⟩) hHeld ?_
          case yy2_14_0 => (intro W hx; go_simp; try with_reducible rfl)
          simp only [Act.put, List.setIfInBounds_toArray, List.set_cons_zero, List.set_cons_succ]
          refine wpAnyH_take (i := 1) (oi := { dst := some 60, op := Op.fieldAddr 39 (Operand.tmp 11) 1, type := 0, pos := "law.go:48", after := #[], guard := none }) (v := ?vv3_14_1) rfl (by kernel_rfl) (by kernel_rfl) (by kernel_rfl) (fun _ _ _ h => h) (Or.inl ⟨by rfl, ?yy3_14_1⟩) hHeld ?_
          case yy3_14_1 => (intro W hx; go_simp; try with_reducible rfl)
          simp only [Act.put, List.setIfInBounds_toArray, List.set_cons_zero, List.set_cons_succ]
          refine wpAnyH_take (i := 2) (oi := { dst := some 61, op := Op.load 37 (Operand.tmp 60), type := 37, pos := "law.go:48", after := #[{ on := 1, ground := Ground.data }], guard := none }) (v := ?vv4_14_2) rfl (by kernel_rfl) (by kernel_rfl) (by kernel_rfl) (fun _ _ _ h => h) (Or.inl ⟨by rfl, ?yy4_14_2⟩) hHeld ?_
          case yy4_14_2 => (intro W hx; refine ld_op (acAt hx) ?_; rfl)
          simp only [Act.put, List.setIfInBounds_toArray, List.set_cons_zero, List.set_cons_succ]
          refine wpAnyH_take (i := 4) (oi := { dst := some 63, op := Op.move (Operand.tmp 8), type := 30, pos := "law.go:48", after := #[], guard := none }) (v := ?vv5_14_4) rfl (by kernel_rfl) (by kernel_rfl) (by kernel_rfl) (fun _ _ _ h => h) (Or.inl ⟨by rfl, ?yy5_14_4⟩) hHeld ?_
          case yy5_14_4 => (intro W hx; go_simp; try with_reducible rfl)
          simp only [Act.put, List.setIfInBounds_toArray, List.set_cons_zero, List.set_cons_succ]
          refine wpAnyH_take (i := 5) (oi := { dst := some 64, op := Op.fieldAddr 39 (Operand.tmp 11) 1, type := 0, pos := "law.go:48", after := #[], guard := none }) (v := ?vv6_14_5) rfl (by kernel_rfl) (by kernel_rfl) (by kernel_rfl) (fun _ _ _ h => h) (Or.inl ⟨by rfl, ?yy6_14_5⟩) hHeld ?_
          case yy6_14_5 => (intro W hx; go_simp; try with_reducible rfl)
          simp only [Act.put, List.setIfInBounds_toArray, List.set_cons_zero, List.set_cons_succ]
          refine wpAnyH_take (i := 6) (oi := { dst := some 65, op := Op.load 37 (Operand.tmp 64), type := 37, pos := "law.go:48", after := #[{ on := 5, ground := Ground.data }], guard := none }) (v := ?vv7_14_6) rfl (by kernel_rfl) (by kernel_rfl) (by kernel_rfl) (fun _ _ _ h => h) (Or.inl ⟨by rfl, ?yy7_14_6⟩) hHeld ?_
          case yy7_14_6 => (intro W hx; refine ld_op (acAt hx) ?_; rfl)
          simp only [Act.put, List.setIfInBounds_toArray, List.set_cons_zero, List.set_cons_succ]
          refine wpAnyH_ready (rs := [3]) (by kernel_rfl) (by simp) (AllReadyH.cons rfl (fun K hK => ?_) AllReadyH.nil)
          go_simp
          go_wp2_with (go_at_call 14; (refine (send_p PD hyo.2 HSD.out).mono ?_); rintro e w5 ⟨rfl, P5, hole5⟩)
          refine hK.out _ _ ((hole5 _ (Nat.le_refl _) hsa).trans hHeld) (fun hHeld => ?_)
          clear hK K
          refine wpAnyH_ready (rs := [7]) (by kernel_rfl) (by simp) (AllReadyH.cons rfl (fun K hK => ?_) AllReadyH.nil)
          go_simp
          go_wp2_with (go_at_call 15; (refine (rsend_p P5 hyo.2 HSD.out).mono ?_); rintro e w6 ⟨rfl, P6, hole6⟩)
          refine hK.out _ _ ((hole6 _ (Nat.le_refl _) hsa).trans hHeld) (fun hHeld => ?_)
          clear hK K
          refine wpAnyH_take (i := 8) (oi := { dst := some 67, op := Op.binOp BinOp.eql 26 (Operand.tmp 62) (Operand.tmp 66) 26, type := 4, pos := "law.go:48", after := #[{ on := 3, ground := Ground.data }, { on := 7, ground := Ground.data }], guard := none }) (v := ?vv8_14_8) rfl (by kernel_rfl) (by kernel_rfl) (by kernel_rfl) (fun _ _ _ h => h) (Or.inl ⟨by rfl, ?yy8_14_8⟩) hHeld ?_
          case yy8_14_8 => (intro W hx; go_simp; try with_reducible rfl)
          simp only [Act.put, List.setIfInBounds_toArray, List.set_cons_zero, List.set_cons_succ]
          refine wpAnyH_take (i := 9) (oi := { dst := some 12, op := Op.assign (Operand.tmp 67), type := 4, pos := "law.go:48", after := #[{ on := 8, ground := Ground.data }, { on := 7, ground := Ground.chain }, { on := 0, ground := Ground.phase }, { on := 1, ground := Ground.phase }, { on := 2, ground := Ground.phase }, { on := 3, ground := Ground.phase }, { on := 4, ground := Ground.phase }, { on := 5, ground := Ground.phase }, { on := 6, ground := Ground.phase }, { on := 7, ground := Ground.phase }, { on := 8, ground := Ground.phase }], guard := none }) (v := ?vv9_14_9) rfl (by kernel_rfl) (by kernel_rfl) (by kernel_rfl) (fun _ _ _ h => h) (Or.inl ⟨by rfl, ?yy9_14_9⟩) hHeld ?_
          case yy9_14_9 => (intro W hx; go_simp; try with_reducible rfl)
          simp only [Act.put, List.setIfInBounds_toArray, List.set_cons_zero, List.set_cons_succ]
          refine wpAnyH_done (by kernel_rfl) ?_ _
          go_wp2
          go_meet
          case rel => exact ⟨by simp, _, P6.no⟩
        · have b0 : (q == 0) = false := by simpa using h0
          by_cases h1 : q = 1
          · subst h1
            clear h0
            go_wp2_with (first
              | (go_at_call 17; (refine (rdone_p P5).mono ?_); rintro e w6 ⟨rfl, P6, hole6⟩)
              | (go_at_call 16; (refine (done_p P4.out).mono ?_); rintro e w5 ⟨rfl, P5, hole5⟩))
            go_meet
            case rel => exact ⟨rfl, _, P6.no⟩
          · have b1 : (q == 1) = false := by simpa using h1
            by_cases h2 : q = 2
            · subst h2
              clear h0 h1
              obtain ⟨s', er, hsd⟩ : ∃ s' er, s.take y.f = (s', er) := ⟨_, _, rfl⟩
              have HSD := Lib.hid hsd
              clear hsd
              go_upto_region 19 with (fail)
              refine wp_region_held_drew (S := fun W => W.heap[wr.heap.size]? = some (.cells y.vals.toArray 39 (0, 0))) (by kernel_rfl) (((Ext.refl w4).drew.block _ hsa).trans k4) (fun hHeld => ?_)
              obtain ⟨wD10, hwD⟩ : ∃ V, V = World.drew w4 := ⟨_, rfl⟩
              rw [← hwD] at hHeld ⊢
              have zz0 : Ext w4 wD10 := by rw [hwD]; exact (Ext.refl _).drew
              clear hwD
              have PD := P4.out.ext zz0
              refine wpAnyH_take (i := 0) (oi := { dst := some 76, op := Op.move (Operand.tmp 6), type := 25, pos := "law.go:53", after := #[], guard := none }) (v := ?vv11_19_0) rfl (by kernel_rfl) (by kernel_rfl) (by kernel_rfl) (fun _ _ _ h => h) (Or.inl ⟨by rfl, ?yy11_19_0⟩) hHeld ?_
              case yy11_19_0 => (intro W hx; go_simp; try with_reducible rfl)
              simp only [Act.put, List.setIfInBounds_toArray, List.set_cons_zero, List.set_cons_succ]
              refine wpAnyH_take (i := 1) (oi := { dst := some 77, op := Op.fieldAddr 39 (Operand.tmp 11) 1, type := 0, pos := "law.go:53", after := #[], guard := none }) (v := ?vv12_19_1) rfl (by kernel_rfl) (by kernel_rfl) (by kernel_rfl) (fun _ _ _ h => h) (Or.inl ⟨by rfl, ?yy12_19_1⟩) hHeld ?_
              case yy12_19_1 => (intro W hx; go_simp; try with_reducible rfl)
              simp only [Act.put, List.setIfInBounds_toArray, List.set_cons_zero, List.set_cons_succ]
              refine wpAnyH_take (i := 2) (oi := { dst := some 78, op := Op.load 37 (Operand.tmp 77), type := 37, pos := "law.go:53", after := #[{ on := 1, ground := Ground.data }], guard := none }) (v := ?vv13_19_2) rfl (by kernel_rfl) (by kernel_rfl) (by kernel_rfl) (fun _ _ _ h => h) (Or.inl ⟨by rfl, ?yy13_19_2⟩) hHeld ?_
              case yy13_19_2 => (intro W hx; refine ld_op (acAt hx) ?_; rfl)
              simp only [Act.put, List.setIfInBounds_toArray, List.set_cons_zero, List.set_cons_succ]
              refine wpAnyH_take (i := 4) (oi := { dst := some 80, op := Op.move (Operand.tmp 8), type := 30, pos := "law.go:53", after := #[], guard := none }) (v := ?vv14_19_4) rfl (by kernel_rfl) (by kernel_rfl) (by kernel_rfl) (fun _ _ _ h => h) (Or.inl ⟨by rfl, ?yy14_19_4⟩) hHeld ?_
              case yy14_19_4 => (intro W hx; go_simp; try with_reducible rfl)
              simp only [Act.put, List.setIfInBounds_toArray, List.set_cons_zero, List.set_cons_succ]
              refine wpAnyH_take (i := 5) (oi := { dst := some 81, op := Op.fieldAddr 39 (Operand.tmp 11) 1, type := 0, pos := "law.go:53", after := #[], guard := none }) (v := ?vv15_19_5) rfl (by kernel_rfl) (by kernel_rfl) (by kernel_rfl) (fun _ _ _ h => h) (Or.inl ⟨by rfl, ?yy15_19_5⟩) hHeld ?_
              case yy15_19_5 => (intro W hx; go_simp; try with_reducible rfl)
              simp only [Act.put, List.setIfInBounds_toArray, List.set_cons_zero, List.set_cons_succ]
              refine wpAnyH_take (i := 6) (oi := { dst := some 82, op := Op.load 37 (Operand.tmp 81), type := 37, pos := "law.go:53", after := #[{ on := 5, ground := Ground.data }], guard := none }) (v := ?vv16_19_6) rfl (by kernel_rfl) (by kernel_rfl) (by kernel_rfl) (fun _ _ _ h => h) (Or.inl ⟨by rfl, ?yy16_19_6⟩) hHeld ?_
              case yy16_19_6 => (intro W hx; refine ld_op (acAt hx) ?_; rfl)
              simp only [Act.put, List.setIfInBounds_toArray, List.set_cons_zero, List.set_cons_succ]
              refine wpAnyH_ready (rs := [3]) (by kernel_rfl) (by simp) (AllReadyH.cons rfl (fun K hK => ?_) AllReadyH.nil)
              go_simp
              go_wp2_with (go_at_call 18; (refine (take_p PD hyo.2 HSD.out).mono ?_); rintro e w5 ⟨rfl, P5, hole5⟩)
              refine hK.out _ _ ((hole5 _ (Nat.le_refl _) hsa).trans hHeld) (fun hHeld => ?_)
              clear hK K
              refine wpAnyH_ready (rs := [7]) (by kernel_rfl) (by simp) (AllReadyH.cons rfl (fun K hK => ?_) AllReadyH.nil)
              go_simp
              go_wp2_with (go_at_call 19; (refine (rtake_p P5 hyo.2 HSD.out).mono ?_); rintro e w6 ⟨rfl, P6, hole6⟩)
              refine hK.out _ _ ((hole6 _ (Nat.le_refl _) hsa).trans hHeld) (fun hHeld => ?_)
              clear hK K
              refine wpAnyH_take (i := 8) (oi := { dst := some 84, op := Op.binOp BinOp.eql 4 (Operand.tmp 79) (Operand.tmp 83) 4, type := 4, pos := "law.go:53", after := #[{ on := 3, ground := Ground.data }, { on := 7, ground := Ground.data }], guard := none }) (v := ?vv17_19_8) rfl (by kernel_rfl) (by kernel_rfl) (by kernel_rfl) (fun _ _ _ h => h) (Or.inl ⟨by rfl, ?yy17_19_8⟩) hHeld ?_
              case yy17_19_8 => (intro W hx; go_simp; try with_reducible rfl)
              simp only [Act.put, List.setIfInBounds_toArray, List.set_cons_zero, List.set_cons_succ]
              refine wpAnyH_take (i := 9) (oi := { dst := some 12, op := Op.assign (Operand.tmp 84), type := 4, pos := "law.go:53", after := #[{ on := 8, ground := Ground.data }, { on := 7, ground := Ground.chain }, { on := 0, ground := Ground.phase }, { on := 1, ground := Ground.phase }, { on := 2, ground := Ground.phase }, { on := 3, ground := Ground.phase }, { on := 4, ground := Ground.phase }, { on := 5, ground := Ground.phase }, { on := 6, ground := Ground.phase }, { on := 7, ground := Ground.phase }, { on := 8, ground := Ground.phase }], guard := none }) (v := ?vv18_19_9) rfl (by kernel_rfl) (by kernel_rfl) (by kernel_rfl) (fun _ _ _ h => h) (Or.inl ⟨by rfl, ?yy18_19_9⟩) hHeld ?_
              case yy18_19_9 => (intro W hx; go_simp; try with_reducible rfl)
              simp only [Act.put, List.setIfInBounds_toArray, List.set_cons_zero, List.set_cons_succ]
              refine wpAnyH_done (by kernel_rfl) ?_ _
              go_wp2
              go_meet
              case rel => exact ⟨by simp, _, P6.no⟩
            · have b2 : (q == 2) = false := by simpa using h2
              by_cases h3 : q = 3
              · subst h3
                clear h0 h1 h2
                obtain ⟨s', f, bb, hsd⟩ : ∃ s' f bb, s.recv = (s', f, bb) := ⟨_, _, _, rfl⟩
                have HSD := Lib.hid hsd
                clear hsd
                go_upto_region 22 with (first
                  | (go_at_call 20; (refine (recv_p P4.out HSD.out).mono ?_); rintro e w5 ⟨rfl, P5, hole5⟩)
                  | refine wpList_stnew rfl 37 _ _ rfl rfl f.vals rfl rfl size37 rfl (fr_one f) ?_)
                obtain ⟨w6, hw6⟩ : ∃ V, V = w5.alloc (.cells f.vals.toArray 37) := ⟨_, rfl⟩
                have k6 : w6.heap[w5.heap.size]? = some (.cells f.vals.toArray 37 (0, 0)) := by rw [hw6]; exact heap_alloc_new _ _
                have x6 : Ext w5 w6 := by rw [hw6]; exact (Ext.refl _).alloc _
                rw [← hw6]
                clear hw6
                have P6 := Lib.hid (P5.hole x6)
                have hs6 : w5.heap.size < w6.heap.size := blk_lt k6
                clear P5
                go_upto_region 23 with (first
                  | (go_at_call 21; (refine (rrecv_p P6.out HSD.out).mono ?_); rintro e w7 ⟨rfl, P7, hole7⟩)
                  | refine wpList_stnew rfl 37 _ _ rfl rfl f.vals rfl rfl size37 rfl (fr_one f) ?_)
                obtain ⟨w8, hw8⟩ : ∃ V, V = w7.alloc (.cells f.vals.toArray 37) := ⟨_, rfl⟩
                have k8 : w8.heap[w7.heap.size]? = some (.cells f.vals.toArray 37 (0, 0)) := by rw [hw8]; exact heap_alloc_new _ _
                have x8 : Ext w7 w8 := by rw [hw8]; exact (Ext.refl _).alloc _
                rw [← hw8]
                clear hw8
                have k7 := (hole7 _ (Nat.le_refl _) hs6).trans k6
                have k68 := (x8.block _ (blk_lt k7)).trans k7
                have P8 := Lib.hid (P7.ext x8).no
                clear P7
                have heq : ∀ V, (binOp .eql 37 (.agg f.vals.toArray) (.agg f.vals.toArray)).run Try.prog V = .ok (.bool true) V := fun V => by rw [run_eqF]; simp
                go_wp2_with (first
                  | refine wpList_ldrow rfl 37 _ rfl k68 rfl Try.underlying37 rfl size37 ?_
                  | refine wpList_ldrow rfl 37 _ rfl k8 rfl Try.underlying37 rfl size37 ?_)
                go_meet
                case rel => exact ⟨by simp, _, P8.out⟩
              · have b3 : (q == 3) = false := by simpa using h3
                by_cases h4 : q = 4
                · subst h4
                  clear h0 h1 h2 h3
                  go_wp2_with (first
                    | (go_at_call 23; (refine (rover_p P5).mono ?_); rintro e w6 ⟨rfl, P6, hole6⟩)
                    | (go_at_call 22; (refine (over_p P4.out).mono ?_); rintro e w5 ⟨rfl, P5, hole5⟩))
                  go_meet
                  case rel => exact ⟨by simp, _, P6.no⟩
                · have b4 : (q == 4) = false := by simpa using h4
                  clear h0 h1 h2 h3 h4
                  go_wp2
                  go_meet
                  case rel => exact ⟨rfl, _, P4.out.no⟩
      case rest =>
        obtain ⟨rfl, s', P⟩ := hcut
        clear LL P4 k4 c0 hsa x4
        obtain ⟨now, ok1, hnw⟩ : ∃ now ok1, s'.next = (now, ok1) := ⟨_, _, rfl⟩
        have HNW := Lib.hid hnw
        have PH := Lib.hid P
        clear hnw P
        go_upto_region 27 with (first
          | (go_at_call 24; (refine (next_p PH.out HNW.out).mono ?_); rintro e w5 ⟨rfl, P5, x5⟩)
          | refine wpList_stnew rfl 37 _ _ rfl rfl now.vals rfl rfl size37 rfl (fr_one now) ?_)
        obtain ⟨w6, hw6⟩ : ∃ V, V = w5.alloc (.cells now.vals.toArray 37) := ⟨_, rfl⟩
        have k6 : w6.heap[w5.heap.size]? = some (.cells now.vals.toArray 37 (0, 0)) := by rw [hw6]; exact heap_alloc_new _ _
        have x6 : Ext w5 w6 := by rw [hw6]; exact (Ext.refl _).alloc _
        rw [← hw6]
        clear hw6
        have P6 := Lib.hid (P5.ext x6)
        clear P5
        go_upto_region 28 with (first
          | (go_at_call 25; (refine (rnext_p P6.out HNW.out).mono ?_); rintro e w7 ⟨rfl, P7, x7⟩)
          | refine wpList_stnew rfl 37 _ _ rfl rfl now.vals rfl rfl size37 rfl (fr_one now) ?_)
        obtain ⟨w8, hw8⟩ : ∃ V, V = w7.alloc (.cells now.vals.toArray 37) := ⟨_, rfl⟩
        have k8 : w8.heap[w7.heap.size]? = some (.cells now.vals.toArray 37 (0, 0)) := by rw [hw8]; exact heap_alloc_new _ _
        have x8 : Ext w7 w8 := by rw [hw8]; exact (Ext.refl _).alloc _
        rw [← hw8]
        clear hw8
        have k68 := ((x7.trans x8).block _ (blk_lt k6)).trans k6
        have P8 := Lib.hid (P7.ext x8)
        obtain ⟨fA, fc, tA, tc, rA, rc, KH⟩ := P8.out.rrow
        have hok8 := P8.out.ok
        have ht3 := hok8.nt
        have hr4 := hok8.nr
        clear P7 hok8
        have hne : ∀ V, (binOp .neq 37 (.agg now.vals.toArray) (.agg now.vals.toArray)).run Try.prog V = .ok (.bool false) V := fun V => by rw [run_neF]; simp
        refine wp_region_held_drew (S := Ext w8) (by kernel_rfl) ((Ext.refl _).drew) (fun hHeld => ?_)
        obtain ⟨wD19, hwD⟩ : ∃ V, V = World.drew w8 := ⟨_, rfl⟩
        rw [← hwD]
        clear hHeld
        have zz0 : Ext w8 wD19 := by rw [hwD]; exact (Ext.refl _).drew
        clear hwD
        refine wpAnyH_imp (S' := Ext wD19) (fun W h => Ext.trans zz0 h) _ _ _ _ ?_
        have hHeld := Ext.refl wD19
        refine wpAnyH_take (i := 0) (oi := { dst := some 122, op := Op.move (Operand.tmp 12), type := 4, pos := "law.go:63", after := #[], guard := none }) (v := ?vv20_28_0) rfl (by kernel_rfl) (by kernel_rfl) (by kernel_rfl) (fun _ _ _ h => h) (Or.inl ⟨by rfl, ?yy20_28_0⟩) hHeld ?_
        case yy20_28_0 => (intro W hx; go_simp; try with_reducible rfl)
        simp only [Act.put, List.setIfInBounds_toArray, List.set_cons_zero, List.set_cons_succ]
        refine wpAnyH_take (i := 1) (oi := { dst := some 123, op := Op.unOp UnOp.not 4 (Operand.tmp 122), type := 4, pos := "law.go:63", after := #[{ on := 0, ground := Ground.data }], guard := none }) (v := ?vv21_28_1) rfl (by kernel_rfl) (by kernel_rfl) (by kernel_rfl) (fun _ _ _ h => h) (Or.inl ⟨by rfl, ?yy21_28_1⟩) hHeld ?_
        case yy21_28_1 => (intro W hx; go_simp; try with_reducible rfl)
        simp only [Act.put, List.setIfInBounds_toArray, List.set_cons_zero, List.set_cons_succ]
        refine wpAnyH_take (i := 2) (oi := { dst := some 124, op := Op.move (Operand.tmp 123), type := 4, pos := "law.go:63", after := #[{ on := 1, ground := Ground.data }], guard := none }) (v := ?vv22_28_2) rfl (by kernel_rfl) (by kernel_rfl) (by kernel_rfl) (fun _ _ _ h => h) (Or.inl ⟨by rfl, ?yy22_28_2⟩) hHeld ?_
        case yy22_28_2 => (intro W hx; go_simp; try with_reducible rfl)
        simp only [Act.put, List.setIfInBounds_toArray, List.set_cons_zero, List.set_cons_succ]
        refine wpAnyH_take (i := 3) (oi := { dst := some 125, op := Op.load 37 (Operand.tmp 17), type := 37, pos := "law.go:63", after := #[{ on := 2, ground := Ground.guard }], guard := some (2, false) }) (v := ?vv23_28_3) rfl (by kernel_rfl) (by kernel_rfl) (by kernel_rfl) (fun _ _ _ h => h) (Or.inl ⟨by rfl, ?yy23_28_3⟩) hHeld ?_
        case yy23_28_3 => (intro W hx; have hz := zz0.trans hx; refine ld_op (rangeAt_ext (frAt k68) hz) ?_; rfl)
        simp only [Act.put, List.setIfInBounds_toArray, List.set_cons_zero, List.set_cons_succ]
        refine wpAnyH_take (i := 4) (oi := { dst := some 126, op := Op.load 37 (Operand.tmp 19), type := 37, pos := "law.go:63", after := #[{ on := 2, ground := Ground.guard }], guard := some (2, false) }) (v := ?vv24_28_4) rfl (by kernel_rfl) (by kernel_rfl) (by kernel_rfl) (fun _ _ _ h => h) (Or.inl ⟨by rfl, ?yy24_28_4⟩) hHeld ?_
        case yy24_28_4 => (intro W hx; have hz := zz0.trans hx; refine ld_op (rangeAt_ext (frAt k8) hz) ?_; rfl)
        simp only [Act.put, List.setIfInBounds_toArray, List.set_cons_zero, List.set_cons_succ]
        refine wpAnyH_take (i := 5) (oi := { dst := some 127, op := Op.binOp BinOp.neq 37 (Operand.tmp 125) (Operand.tmp 126) 37, type := 4, pos := "law.go:63", after := #[{ on := 3, ground := Ground.data }, { on := 4, ground := Ground.data }, { on := 2, ground := Ground.guard }], guard := some (2, false) }) (v := ?vv25_28_5) rfl (by kernel_rfl) (by kernel_rfl) (by kernel_rfl) (fun _ _ _ h => h) (Or.inl ⟨by rfl, ?yy25_28_5⟩) hHeld ?_
        case yy25_28_5 => (intro W hx; go_simp; try with_reducible rfl)
        simp only [Act.put, List.setIfInBounds_toArray, List.set_cons_zero, List.set_cons_succ]
        refine wpAnyH_take (i := 6) (oi := { dst := some 128, op := Op.pick (Operand.tmp 124) (Operand.const (Value.bool true)) (Operand.tmp 127), type := 4, pos := "law.go:63", after := #[{ on := 2, ground := Ground.data }, { on := 5, ground := Ground.data }], guard := none }) (v := ?vv26_28_6) rfl (by kernel_rfl) (by kernel_rfl) (by kernel_rfl) (fun _ _ _ h => h) (Or.inl ⟨by rfl, ?yy26_28_6⟩) hHeld ?_
        case yy26_28_6 => (intro W hx; go_simp; try with_reducible rfl)
        simp only [Act.put, List.setIfInBounds_toArray, List.set_cons_zero, List.set_cons_succ]
        refine wpAnyH_take (i := 7) (oi := { dst := some 129, op := Op.move (Operand.tmp 128), type := 4, pos := "law.go:63", after := #[{ on := 6, ground := Ground.data }, { on := 2, ground := Ground.chain }], guard := none }) (v := ?vv27_28_7) rfl (by kernel_rfl) (by kernel_rfl) (by kernel_rfl) (fun _ _ _ h => h) (Or.inl ⟨by rfl, ?yy27_28_7⟩) hHeld ?_
        case yy27_28_7 => (intro W hx; go_simp; try with_reducible rfl)
        simp only [Act.put, List.setIfInBounds_toArray, List.set_cons_zero, List.set_cons_succ]
        refine wpAnyH_take (i := 8) (oi := { dst := some 130, op := Op.move (Operand.tmp 18), type := 4, pos := "law.go:63", after := #[{ on := 7, ground := Ground.guard }], guard := some (7, false) }) (v := ?vv28_28_8) rfl (by kernel_rfl) (by kernel_rfl) (by kernel_rfl) (fun _ _ _ h => h) (Or.inl ⟨by rfl, ?yy28_28_8⟩) hHeld ?_
        case yy28_28_8 => (intro W hx; go_simp; try with_reducible rfl)
        simp only [Act.put, List.setIfInBounds_toArray, List.set_cons_zero, List.set_cons_succ]
        refine wpAnyH_take (i := 9) (oi := { dst := some 131, op := Op.move (Operand.tmp 20), type := 4, pos := "law.go:63", after := #[{ on := 7, ground := Ground.guard }], guard := some (7, false) }) (v := ?vv29_28_9) rfl (by kernel_rfl) (by kernel_rfl) (by kernel_rfl) (fun _ _ _ h => h) (Or.inl ⟨by rfl, ?yy29_28_9⟩) hHeld ?_
        case yy29_28_9 => (intro W hx; go_simp; try with_reducible rfl)
        simp only [Act.put, List.setIfInBounds_toArray, List.set_cons_zero, List.set_cons_succ]
        refine wpAnyH_take (i := 10) (oi := { dst := some 132, op := Op.binOp BinOp.neq 4 (Operand.tmp 130) (Operand.tmp 131) 4, type := 4, pos := "law.go:63", after := #[{ on := 8, ground := Ground.data }, { on := 9, ground := Ground.data }, { on := 7, ground := Ground.guard }], guard := some (7, false) }) (v := ?vv30_28_10) rfl (by kernel_rfl) (by kernel_rfl) (by kernel_rfl) (fun _ _ _ h => h) (Or.inl ⟨by rfl, ?yy30_28_10⟩) hHeld ?_
        case yy30_28_10 => (intro W hx; go_simp; try with_reducible rfl)
        simp only [Act.put, List.setIfInBounds_toArray, List.set_cons_zero, List.set_cons_succ]
        refine wpAnyH_take (i := 11) (oi := { dst := some 133, op := Op.pick (Operand.tmp 129) (Operand.const (Value.bool true)) (Operand.tmp 132), type := 4, pos := "law.go:63", after := #[{ on := 7, ground := Ground.data }, { on := 10, ground := Ground.data }], guard := none }) (v := ?vv31_28_11) rfl (by kernel_rfl) (by kernel_rfl) (by kernel_rfl) (fun _ _ _ h => h) (Or.inl ⟨by rfl, ?yy31_28_11⟩) hHeld ?_
        case yy31_28_11 => (intro W hx; go_simp; try with_reducible rfl)
        simp only [Act.put, List.setIfInBounds_toArray, List.set_cons_zero, List.set_cons_succ]
        refine wpAnyH_take (i := 12) (oi := { dst := some 134, op := Op.move (Operand.tmp 133), type := 4, pos := "law.go:63", after := #[{ on := 11, ground := Ground.data }, { on := 7, ground := Ground.chain }], guard := none }) (v := ?vv32_28_12) rfl (by kernel_rfl) (by kernel_rfl) (by kernel_rfl) (fun _ _ _ h => h) (Or.inl ⟨by rfl, ?yy32_28_12⟩) hHeld ?_
        case yy32_28_12 => (intro W hx; go_simp; try with_reducible rfl)
        simp only [Act.put, List.setIfInBounds_toArray, List.set_cons_zero, List.set_cons_succ]
        refine wpAnyH_take (i := 13) (oi := { dst := some 135, op := Op.move (Operand.tmp 6), type := 25, pos := "law.go:63", after := #[{ on := 12, ground := Ground.guard }], guard := some (12, false) }) (v := ?vv33_28_13) rfl (by kernel_rfl) (by kernel_rfl) (by kernel_rfl) (fun _ _ _ h => h) (Or.inl ⟨by rfl, ?yy33_28_13⟩) hHeld ?_
        case yy33_28_13 => (intro W hx; go_simp; try with_reducible rfl)
        simp only [Act.put, List.setIfInBounds_toArray, List.set_cons_zero, List.set_cons_succ]
        refine wpAnyH_take (i := 15) (oi := { dst := some 137, op := Op.move (Operand.tmp 8), type := 30, pos := "law.go:63", after := #[{ on := 12, ground := Ground.guard }], guard := some (12, false) }) (v := ?vv34_28_15) rfl (by kernel_rfl) (by kernel_rfl) (by kernel_rfl) (fun _ _ _ h => h) (Or.inl ⟨by rfl, ?yy34_28_15⟩) hHeld ?_
        case yy34_28_15 => (intro W hx; go_simp; try with_reducible rfl)
        simp only [Act.put, List.setIfInBounds_toArray, List.set_cons_zero, List.set_cons_succ]
        refine wpAnyH_take (i := 16) (oi := { dst := some 138, op := Op.nilCheck (Operand.tmp 137), type := 0, pos := "law.go:63", after := #[{ on := 15, ground := Ground.data }, { on := 12, ground := Ground.guard }], guard := some (12, false) }) (v := ?vv35_28_16) rfl (by kernel_rfl) (by kernel_rfl) (by kernel_rfl) (fun _ _ _ h => h) (Or.inl ⟨by rfl, ?yy35_28_16⟩) hHeld ?_
        case yy35_28_16 => (intro W hx; go_simp; try with_reducible rfl)
        simp only [Act.put, List.setIfInBounds_toArray, List.set_cons_zero, List.set_cons_succ]
        refine wpAnyH_take (i := 17) (oi := { dst := some 139, op := Op.fieldAddr 47 (Operand.tmp 138) 1, type := 0, pos := "law.go:63", after := #[{ on := 16, ground := Ground.data }, { on := 12, ground := Ground.guard }], guard := some (12, false) }) (v := ?vv36_28_17) rfl (by kernel_rfl) (by kernel_rfl) (by kernel_rfl) (fun _ _ _ h => h) (Or.inl ⟨by rfl, ?yy36_28_17⟩) hHeld ?_
        case yy36_28_17 => (intro W hx; go_simp; try with_reducible rfl)
        simp only [Act.put, List.setIfInBounds_toArray, List.set_cons_zero, List.set_cons_succ]
        refine wpAnyH_take (i := 18) (oi := { dst := some 140, op := Op.load 45 (Operand.tmp 139), type := 45, pos := "law.go:63", after := #[{ on := 17, ground := Ground.data }, { on := 12, ground := Ground.guard }], guard := some (12, false) }) (v := ?vv37_28_18) rfl (by kernel_rfl) (by kernel_rfl) (by kernel_rfl) (fun _ _ _ h => h) (Or.inl ⟨by rfl, ?yy37_28_18⟩) hHeld ?_
        case yy37_28_18 => (intro W hx; have hz := zz0.trans hx; have q1 := blk_cell (i := 1) ((hz.block _ (blk_lt KH)).trans KH) rfl; go_simp; try with_reducible rfl)
        simp only [Act.put, List.setIfInBounds_toArray, List.set_cons_zero, List.set_cons_succ]
        refine wpAnyH_take (i := 19) (oi := { dst := some 141, op := Op.call { callee := Callee.builtin Builtin.len, args := #[Operand.tmp 140], argTypes := #[45] }, type := 3, pos := "law.go:63", after := #[{ on := 18, ground := Ground.data }, { on := 12, ground := Ground.guard }], guard := some (12, false) }) (v := ?vv38_28_19) rfl (by kernel_rfl) (by kernel_rfl) (by kernel_rfl) (fun _ _ _ h => h) (Or.inl ⟨by rfl, ?yy38_28_19⟩) hHeld ?_
        case yy38_28_19 => (intro W hx; go_simp; try with_reducible rfl)
        simp only [Act.put, List.setIfInBounds_toArray, List.set_cons_zero, List.set_cons_succ]
        refine wpAnyH_ready (rs := [14]) (by kernel_rfl) (by simp) (AllReadyH.cons rfl (fun K hK => ?_) AllReadyH.nil)
        go_simp
        go_wp2_with (go_at_call 26; (refine (wait_p ((P8.out.ext zz0).ext hHeld)).mono ?_); rintro e w' ⟨rfl, rfl⟩)
        refine hK.out _ _ hHeld (fun hHeld => ?_)
        clear hK K
        refine wpAnyH_take (i := 20) (oi := { dst := some 142, op := Op.binOp BinOp.neq 3 (Operand.tmp 136) (Operand.tmp 141) 3, type := 4, pos := "law.go:63", after := #[{ on := 14, ground := Ground.data }, { on := 19, ground := Ground.data }, { on := 12, ground := Ground.guard }], guard := some (12, false) }) (v := ?vv39_28_20) rfl (by kernel_rfl) (by kernel_rfl) (by kernel_rfl) (fun _ _ _ h => h) (Or.inl ⟨by rfl, ?yy39_28_20⟩) hHeld ?_
        case yy39_28_20 => (intro W hx; go_simp; try with_reducible rfl)
        simp only [Act.put, List.setIfInBounds_toArray, List.set_cons_zero, List.set_cons_succ]
        refine wpAnyH_take (i := 21) (oi := { dst := some 143, op := Op.pick (Operand.tmp 134) (Operand.const (Value.bool true)) (Operand.tmp 142), type := 4, pos := "law.go:63", after := #[{ on := 12, ground := Ground.data }, { on := 20, ground := Ground.data }], guard := none }) (v := ?vv40_28_21) rfl (by kernel_rfl) (by kernel_rfl) (by kernel_rfl) (fun _ _ _ h => h) (Or.inl ⟨by rfl, ?yy40_28_21⟩) hHeld ?_
        case yy40_28_21 => (intro W hx; go_simp; try with_reducible rfl)
        simp only [Act.put, List.setIfInBounds_toArray, List.set_cons_zero, List.set_cons_succ]
        refine wpAnyH_take (i := 22) (oi := { dst := some 144, op := Op.move (Operand.tmp 143), type := 4, pos := "law.go:63", after := #[{ on := 21, ground := Ground.data }, { on := 14, ground := Ground.chain }], guard := none }) (v := ?vv41_28_22) rfl (by kernel_rfl) (by kernel_rfl) (by kernel_rfl) (fun _ _ _ h => h) (Or.inl ⟨by rfl, ?yy41_28_22⟩) hHeld ?_
        case yy41_28_22 => (intro W hx; go_simp; try with_reducible rfl)
        simp only [Act.put, List.setIfInBounds_toArray, List.set_cons_zero, List.set_cons_succ]
        refine wpAnyH_take (i := 23) (oi := { dst := some 145, op := Op.move (Operand.tmp 6), type := 25, pos := "law.go:63", after := #[{ on := 22, ground := Ground.guard }], guard := some (22, false) }) (v := ?vv42_28_23) rfl (by kernel_rfl) (by kernel_rfl) (by kernel_rfl) (fun _ _ _ h => h) (Or.inl ⟨by rfl, ?yy42_28_23⟩) hHeld ?_
        case yy42_28_23 => (intro W hx; go_simp; try with_reducible rfl)
        simp only [Act.put, List.setIfInBounds_toArray, List.set_cons_zero, List.set_cons_succ]
        refine wpAnyH_take (i := 25) (oi := { dst := some 147, op := Op.move (Operand.tmp 8), type := 30, pos := "law.go:63", after := #[{ on := 22, ground := Ground.guard }], guard := some (22, false) }) (v := ?vv43_28_25) rfl (by kernel_rfl) (by kernel_rfl) (by kernel_rfl) (fun _ _ _ h => h) (Or.inl ⟨by rfl, ?yy43_28_25⟩) hHeld ?_
        case yy43_28_25 => (intro W hx; go_simp; try with_reducible rfl)
        simp only [Act.put, List.setIfInBounds_toArray, List.set_cons_zero, List.set_cons_succ]
        refine wpAnyH_take (i := 26) (oi := { dst := some 148, op := Op.nilCheck (Operand.tmp 147), type := 0, pos := "law.go:63", after := #[{ on := 25, ground := Ground.data }, { on := 22, ground := Ground.guard }], guard := some (22, false) }) (v := ?vv44_28_26) rfl (by kernel_rfl) (by kernel_rfl) (by kernel_rfl) (fun _ _ _ h => h) (Or.inl ⟨by rfl, ?yy44_28_26⟩) hHeld ?_
        case yy44_28_26 => (intro W hx; go_simp; try with_reducible rfl)
        simp only [Act.put, List.setIfInBounds_toArray, List.set_cons_zero, List.set_cons_succ]
        refine wpAnyH_take (i := 27) (oi := { dst := some 149, op := Op.fieldAddr 47 (Operand.tmp 148) 2, type := 0, pos := "law.go:63", after := #[{ on := 26, ground := Ground.data }, { on := 22, ground := Ground.guard }], guard := some (22, false) }) (v := ?vv45_28_27) rfl (by kernel_rfl) (by kernel_rfl) (by kernel_rfl) (fun _ _ _ h => h) (Or.inl ⟨by rfl, ?yy45_28_27⟩) hHeld ?_
        case yy45_28_27 => (intro W hx; go_simp; try with_reducible rfl)
        simp only [Act.put, List.setIfInBounds_toArray, List.set_cons_zero, List.set_cons_succ]
        refine wpAnyH_take (i := 28) (oi := { dst := some 150, op := Op.load 45 (Operand.tmp 149), type := 45, pos := "law.go:63", after := #[{ on := 27, ground := Ground.data }, { on := 22, ground := Ground.guard }], guard := some (22, false) }) (v := ?vv46_28_28) rfl (by kernel_rfl) (by kernel_rfl) (by kernel_rfl) (fun _ _ _ h => h) (Or.inl ⟨by rfl, ?yy46_28_28⟩) hHeld ?_
        case yy46_28_28 => (intro W hx; have hz := zz0.trans hx; have q1 := blk_cell (i := 2) ((hz.block _ (blk_lt KH)).trans KH) rfl; go_simp; try with_reducible rfl)
        simp only [Act.put, List.setIfInBounds_toArray, List.set_cons_zero, List.set_cons_succ]
        refine wpAnyH_take (i := 29) (oi := { dst := some 151, op := Op.call { callee := Callee.builtin Builtin.len, args := #[Operand.tmp 150], argTypes := #[45] }, type := 3, pos := "law.go:63", after := #[{ on := 28, ground := Ground.data }, { on := 22, ground := Ground.guard }], guard := some (22, false) }) (v := ?vv47_28_29) rfl (by kernel_rfl) (by kernel_rfl) (by kernel_rfl) (fun _ _ _ h => h) (Or.inl ⟨by rfl, ?yy47_28_29⟩) hHeld ?_
        case yy47_28_29 => (intro W hx; go_simp; try with_reducible rfl)
        simp only [Act.put, List.setIfInBounds_toArray, List.set_cons_zero, List.set_cons_succ]
        refine wpAnyH_ready (rs := [24]) (by kernel_rfl) (by simp) (AllReadyH.cons rfl (fun K hK => ?_) AllReadyH.nil)
        go_simp
        go_wp2_with (go_at_call 27; (refine (taken_p ((P8.out.ext zz0).ext hHeld)).mono ?_); rintro e w' ⟨rfl, rfl⟩)
        refine hK.out _ _ hHeld (fun hHeld => ?_)
        clear hK K
        refine wpAnyH_take (i := 30) (oi := { dst := some 152, op := Op.binOp BinOp.neq 3 (Operand.tmp 146) (Operand.tmp 151) 3, type := 4, pos := "law.go:63", after := #[{ on := 24, ground := Ground.data }, { on := 29, ground := Ground.data }, { on := 22, ground := Ground.guard }], guard := some (22, false) }) (v := ?vv48_28_30) rfl (by kernel_rfl) (by kernel_rfl) (by kernel_rfl) (fun _ _ _ h => h) (Or.inl ⟨by rfl, ?yy48_28_30⟩) hHeld ?_
        case yy48_28_30 => (intro W hx; go_simp; try with_reducible rfl)
        simp only [Act.put, List.setIfInBounds_toArray, List.set_cons_zero, List.set_cons_succ]
        refine wpAnyH_take (i := 31) (oi := { dst := some 153, op := Op.pick (Operand.tmp 144) (Operand.const (Value.bool true)) (Operand.tmp 152), type := 4, pos := "law.go:63", after := #[{ on := 22, ground := Ground.data }, { on := 30, ground := Ground.data }], guard := none }) (v := ?vv49_28_31) rfl (by kernel_rfl) (by kernel_rfl) (by kernel_rfl) (fun _ _ _ h => h) (Or.inl ⟨by rfl, ?yy49_28_31⟩) hHeld ?_
        case yy49_28_31 => (intro W hx; go_simp; try with_reducible rfl)
        simp only [Act.put, List.setIfInBounds_toArray, List.set_cons_zero, List.set_cons_succ]
        refine wpAnyH_done (by kernel_rfl) ?_ _
        have zend := zz0.trans hHeld
        go_wp2
        go_roundg (m - (k + 1))
        case measure => omega
        case rel => exact ⟨k + 1, s', by go_num, by omega, rfl, (P8.out.ext zend).no⟩
    · obtain rfl : k = m := by omega
      go_wp2
      go_ret
      exact ⟨rfl, L.x⟩
end Go.Proofs.Ytdikhpifamjalaa
