import Derived.Test.YtjgmnbfadnlikaaRI
import Derived.Test.YtjgmnbfadnlikaaCE
import Derived.Test.YtjgmnbfadnlikaaReg
set_option linter.unusedVariables false
set_option linter.unusedSimpArgs false
namespace Go.Proofs.Ytjgmnbfadnlikaa
open Go.RowKit
set_option maxRecDepth 100000 in
set_option maxHeartbeats 8000000 in
theorem alike_any {w : World} {g g2 : Nat} {s : MS} {va va2 : Tg → Value} {T T2 : Nat → Option Tg} (h : MemC w g s va T) (h2 : MemR w g2 s va2 T2) : Calls Try.prog 19 #[.pointer (some ⟨g, 0, none⟩), .pointer (some ⟨g2, 0, none⟩)] w fun e w' => e = .returned (.bool true) ∧ Ext w w' := by
  obtain ⟨rA, rc, sA, sc, eA, ec, hr, hs, he, h1, h3, h4, K⟩ := h2.row3
  have HF := Lib.hid (fun W (x : Ext w W) => cells3 ((x.block _ (blk_lt K)).trans K))
  have HM := Lib.hid h
  have hram := h2.ram
  rw [hr] at hram
  have rram : Rd w rA s.ram.length s.ram := ⟨Shows.of_own hram, h2.ok.rb⟩
  have hr1024 := h2.ok.r
  have hn4 := h2.ok.n
  have hvb0 : s.vb 1 0 = s.ram := by unfold MS.vb; rw [if_pos rfl]
  obtain ⟨E0, R0⟩ := rd_all (s := s) (who := 1) (.inl rfl) (k := 0) (n := s.ram.length) (Nat.zero_le _) (by rw [hvb0])
  rw [hvb0] at R0
  obtain ⟨rn, hrn⟩ : ∃ rn, rn = s.ram.length := ⟨_, rfl⟩
  rw [← hrn] at HF rram E0 R0 hr1024
  obtain ⟨sn, hsn⟩ : ∃ sn, sn = s.segs.length := ⟨_, rfl⟩
  have HLEN := Lib.hid hsn
  rw [← hsn] at HF hn4
  have HRR0 := Lib.hid (And.intro E0 (And.intro R0 (And.intro rram hrn)))
  have hrI : (rn : Int) < 9223372036854775808 := by omega
  have HrI := Lib.hid hrI
  obtain ⟨f0, f1, f2⟩ := HF.out _ (Ext.refl w)
  have HSE := Lib.hid (And.intro hs he)
  clear h hram rram hvb0 E0 R0 hrn K hr h1 h3 h4 hrI hsn hs he
  go_enter Try.func19, Try.ntmps19
  go_upto_region 2 with (go_at_call 23; (refine (read_any HM.out 1 0 0 rn (by decide) (by decide) HrI.out).mono ?_); rw [HRR0.out.1, HRR0.out.2.1]; rintro e w6 ⟨x6, v6, rfl, o6⟩)
  clear f0 f1 f2
  rw [← HRR0.out.2.2.2] at o6
  obtain ⟨A6, c6, rfl, _, r6⟩ := rd_own o6 HRR0.out.2.2.1.byts
  refine wp_region_held_drew (S := Ext w6) (by kernel_rfl) ((Ext.refl _).drew) (fun hHeld => ?_)
  obtain ⟨wD1, hwD⟩ : ∃ V, V = World.drew w6 := ⟨_, rfl⟩
  rw [← hwD]
  clear hHeld
  have zz0 : Ext w6 wD1 := by rw [hwD]; exact (Ext.refl _).drew
  clear hwD
  refine wpAnyH_imp (S' := Ext wD1) (fun W h => Ext.trans zz0 h) _ _ _ _ ?_
  have hHeld := Ext.refl wD1
  refine wpAnyH_take (i := 0) (oi := { dst := some 23, op := Op.move (Operand.tmp 6), type := 29, pos := "law.go:89", after := #[], guard := none }) (v := ?vv2_2_0) rfl (by kernel_rfl) (by kernel_rfl) (by kernel_rfl) (fun _ _ _ h => h) (Or.inl ⟨by rfl, ?yy2_2_0⟩) hHeld ?_
  case yy2_2_0 => (intro W hx; go_simp; try with_reducible rfl)
  simp only [Act.put, List.setIfInBounds_toArray, List.set_cons_zero, List.set_cons_succ]
  refine wpAnyH_take (i := 1) (oi := { dst := some 24, op := Op.binOp BinOp.neq 29 (Operand.tmp 23) (Operand.const (Value.int IntKind.i64 0)) 29, type := 4, pos := "law.go:89", after := #[{ on := 0, ground := Ground.data }], guard := none }) (v := ?vv3_2_1) rfl (by kernel_rfl) (by kernel_rfl) (by kernel_rfl) (fun _ _ _ h => h) (Or.inl ⟨by rfl, ?yy3_2_1⟩) hHeld ?_
  case yy3_2_1 => (intro W hx; go_simp; try with_reducible rfl)
  simp only [Act.put, List.setIfInBounds_toArray, List.set_cons_zero, List.set_cons_succ]
  refine wpAnyH_take (i := 2) (oi := { dst := some 25, op := Op.move (Operand.tmp 24), type := 4, pos := "law.go:89", after := #[{ on := 1, ground := Ground.data }], guard := none }) (v := ?vv4_2_2) rfl (by kernel_rfl) (by kernel_rfl) (by kernel_rfl) (fun _ _ _ h => h) (Or.inl ⟨by rfl, ?yy4_2_2⟩) hHeld ?_
  case yy4_2_2 => (intro W hx; go_simp; try with_reducible rfl)
  simp only [Act.put, List.setIfInBounds_toArray, List.set_cons_zero, List.set_cons_succ]
  refine wpAnyH_take (i := 3) (oi := { dst := some 26, op := Op.move (Operand.tmp 5), type := 37, pos := "law.go:89", after := #[{ on := 2, ground := Ground.guard }], guard := some (2, false) }) (v := ?vv5_2_3) rfl (by kernel_rfl) (by kernel_rfl) (by kernel_rfl) (fun _ _ _ h => h) (Or.inl ⟨by rfl, ?yy5_2_3⟩) hHeld ?_
  case yy5_2_3 => (intro W hx; go_simp; try with_reducible rfl)
  simp only [Act.put, List.setIfInBounds_toArray, List.set_cons_zero, List.set_cons_succ]
  refine wpAnyH_take (i := 4) (oi := { dst := some 27, op := Op.convert 37 9 (Operand.tmp 26), type := 9, pos := "law.go:89", after := #[{ on := 3, ground := Ground.data }, { on := 2, ground := Ground.guard }], guard := some (2, false) }) (v := ?vv6_2_4) rfl (by kernel_rfl) (by kernel_rfl) (by kernel_rfl) (fun _ _ _ h => h) (Or.inl ⟨by rfl, ?yy6_2_4⟩) hHeld ?_
  case yy6_2_4 => (intro W hx; have hz := zz0.trans hx; have s1 := str (c := c6) (r6.ext hz); go_simp; try with_reducible rfl)
  simp only [Act.put, List.setIfInBounds_toArray, List.set_cons_zero, List.set_cons_succ]
  refine wpAnyH_take (i := 5) (oi := { dst := some 28, op := Op.move (Operand.tmp 1), type := 32, pos := "law.go:89", after := #[{ on := 2, ground := Ground.guard }], guard := some (2, false) }) (v := ?vv7_2_5) rfl (by kernel_rfl) (by kernel_rfl) (by kernel_rfl) (fun _ _ _ h => h) (Or.inl ⟨by rfl, ?yy7_2_5⟩) hHeld ?_
  case yy7_2_5 => (intro W hx; go_simp; try with_reducible rfl)
  simp only [Act.put, List.setIfInBounds_toArray, List.set_cons_zero, List.set_cons_succ]
  refine wpAnyH_take (i := 6) (oi := { dst := some 29, op := Op.nilCheck (Operand.tmp 28), type := 0, pos := "law.go:89", after := #[{ on := 5, ground := Ground.data }, { on := 2, ground := Ground.guard }], guard := some (2, false) }) (v := ?vv8_2_6) rfl (by kernel_rfl) (by kernel_rfl) (by kernel_rfl) (fun _ _ _ h => h) (Or.inl ⟨by rfl, ?yy8_2_6⟩) hHeld ?_
  case yy8_2_6 => (intro W hx; go_simp; try with_reducible rfl)
  simp only [Act.put, List.setIfInBounds_toArray, List.set_cons_zero, List.set_cons_succ]
  refine wpAnyH_take (i := 7) (oi := { dst := some 30, op := Op.fieldAddr 68 (Operand.tmp 29) 0, type := 0, pos := "law.go:89", after := #[{ on := 6, ground := Ground.data }, { on := 2, ground := Ground.guard }], guard := some (2, false) }) (v := ?vv9_2_7) rfl (by kernel_rfl) (by kernel_rfl) (by kernel_rfl) (fun _ _ _ h => h) (Or.inl ⟨by rfl, ?yy9_2_7⟩) hHeld ?_
  case yy9_2_7 => (intro W hx; go_simp; try with_reducible rfl)
  simp only [Act.put, List.setIfInBounds_toArray, List.set_cons_zero, List.set_cons_succ]
  refine wpAnyH_take (i := 8) (oi := { dst := some 31, op := Op.load 37 (Operand.tmp 30), type := 37, pos := "law.go:89", after := #[{ on := 7, ground := Ground.data }, { on := 2, ground := Ground.guard }], guard := some (2, false) }) (v := ?vv10_2_8) rfl (by kernel_rfl) (by kernel_rfl) (by kernel_rfl) (fun _ _ _ h => h) (Or.inl ⟨by rfl, ?yy10_2_8⟩) hHeld ?_
  case yy10_2_8 => (intro W hx; have hz := zz0.trans hx; obtain ⟨f0, f1, f2⟩ := HF.out _ (x6.trans hz); go_simp; try with_reducible rfl)
  simp only [Act.put, List.setIfInBounds_toArray, List.set_cons_zero, List.set_cons_succ]
  refine wpAnyH_take (i := 9) (oi := { dst := some 32, op := Op.convert 37 9 (Operand.tmp 31), type := 9, pos := "law.go:89", after := #[{ on := 8, ground := Ground.data }, { on := 2, ground := Ground.guard }], guard := some (2, false) }) (v := ?vv11_2_9) rfl (by kernel_rfl) (by kernel_rfl) (by kernel_rfl) (fun _ _ _ h => h) (Or.inl ⟨by rfl, ?yy11_2_9⟩) hHeld ?_
  case yy11_2_9 => (intro W hx; have hz := zz0.trans hx; have s2 := str (c := rc) (HRR0.out.2.2.1.ext (x6.trans hz)); go_simp; try with_reducible rfl)
  simp only [Act.put, List.setIfInBounds_toArray, List.set_cons_zero, List.set_cons_succ]
  refine wpAnyH_take (i := 10) (oi := { dst := some 33, op := Op.binOp BinOp.neq 9 (Operand.tmp 27) (Operand.tmp 32) 9, type := 4, pos := "law.go:89", after := #[{ on := 4, ground := Ground.data }, { on := 9, ground := Ground.data }, { on := 2, ground := Ground.guard }], guard := some (2, false) }) (v := ?vv12_2_10) rfl (by kernel_rfl) (by kernel_rfl) (by kernel_rfl) (fun _ _ _ h => h) (Or.inl ⟨by rfl, ?yy12_2_10⟩) hHeld ?_
  case yy12_2_10 => (intro W hx; go_simp; try with_reducible rfl)
  simp only [Act.put, List.setIfInBounds_toArray, List.set_cons_zero, List.set_cons_succ]
  refine wpAnyH_take (i := 11) (oi := { dst := some 34, op := Op.pick (Operand.tmp 25) (Operand.const (Value.bool true)) (Operand.tmp 33), type := 4, pos := "law.go:89", after := #[{ on := 2, ground := Ground.data }, { on := 10, ground := Ground.data }], guard := none }) (v := ?vv13_2_11) rfl (by kernel_rfl) (by kernel_rfl) (by kernel_rfl) (fun _ _ _ h => h) (Or.inl ⟨by rfl, ?yy13_2_11⟩) hHeld ?_
  case yy13_2_11 => (intro W hx; go_simp; try with_reducible rfl)
  simp only [Act.put, List.setIfInBounds_toArray, List.set_cons_zero, List.set_cons_succ]
  refine wpAnyH_done (by kernel_rfl) ?_ _
  have zend := zz0.trans hHeld
  have x7 := x6.trans zend
  obtain ⟨f0, f1, f2⟩ := HF.out _ x7
  go_upto_region 5 with (fail)
  clear f0 f1 f2
  go_loopw [40] (fun v wr => ∃ (k : Nat), v = .int .i64 k ∧ k ≤ sn ∧ Ext w wr) (fun v _ => sn - (intOf v).toNat)
  case atStart => exact ⟨0, rfl, Nat.zero_le _, x7⟩
  case round =>
    obtain ⟨k, rfl, hk, xk⟩ := hrel
    obtain ⟨wk, rfl⟩ : ∃ z : World, z = wr := ⟨_, rfl⟩
    by_cases hltk : k < sn
    · have hkn : (k : Int) < sn := by omega
      go_upto_region 8 with (fail)
      obtain ⟨w9, hw9⟩ : ∃ V, V = wk.alloc (.cells #[.int .u8 1, .int .u8 2] 5) := ⟨_, rfl⟩
      have K9 : w9.heap[wk.heap.size]? = some (.cells #[.int .u8 1, .int .u8 2] 5 (0, 0)) := by rw [hw9]; exact heap_alloc_new _ _
      have x9 : Ext wk w9 := by rw [hw9]; exact (Ext.refl _).alloc _
      rw [← hw9]
      clear hw9
      have x89 := xk.trans x9
      have HK9 := Lib.hid K9
      have HH2 := Lib.hid h2
      clear K9 h2
      go_loopw [45] (fun v wq => ∃ (j : Nat), v = .int .i64 j ∧ j ≤ 2 ∧ Ext w9 wq) (fun v _ => 2 - (intOf v).toNat)
      case atStart => exact ⟨0, rfl, Nat.zero_le _, Ext.refl _⟩
      case round =>
        obtain ⟨j, rfl, hj, xj⟩ := hrel
        obtain ⟨wi, rfl⟩ : ∃ z : World, z = wr := ⟨_, rfl⟩
        have h2 := HH2.out
        by_cases hltj : j < 2
        · have K9i := (xj.block _ (blk_lt HK9.out)).trans HK9.out
          obtain ⟨q, hq⟩ : ∃ q, s.segs[k]? = some q := ⟨_, List.getElem?_eq_getElem (by rw [← HLEN.out]; exact hltk)⟩
          have hkq := h2.ok.g q (List.mem_of_getElem? hq)
          obtain ⟨sg, eg, es, ee, m0, m1, m2, _, _⟩ := h2.at_ hq HSE.out.1 HSE.out.2
          subst es ee
          rcases (show j = 0 ∨ j = 1 by omega) with rfl | rfl
          · have kc : wi.cell? ⟨wk.heap.size, 0, none⟩ = some (.int .u8 1) := blk_cell K9i rfl
            clear K9i
            have hsee := hkq.a
            obtain ⟨P, pc, u, hpv, hpc, _, hu, hcell⟩ := own_at (h2.pg hq) hsee
            rw [pgRow_get va2 _ _ hsee] at hu
            injection hu with hu
            subst hu
            obtain ⟨pg, hpg⟩ : ∃ p, q.pages[q.a]? = some p := ⟨_, List.getElem?_eq_getElem hsee⟩
            have hby := h2.by_ hq hpg
            obtain ⟨A, c, hv, hc1, hc2⟩ := own_form hby
            rw [hv] at hcell hby
            have hm0 := m0
            rw [hpv] at hm0
            have hvb : s.vb 1 (k + 1) = pg := by rw [vb_seg hq, List.getD_eq_getElem?_getD]; show (q.pages[q.a]?).getD [] = pg; rw [hpg]; rfl
            have hpl := hkq.pl _ (List.mem_of_getElem? hpg)
            have hl2 := hkq.l2
            obtain ⟨L, hL⟩ : ∃ L, L = pg.length := ⟨_, rfl⟩
            rw [← hL] at hcell hby
            have hR : Rd w A L pg := by rw [hL]; rw [hL] at hby; exact ⟨Shows.of_own hby, hkq.pb _ (List.mem_of_getElem? hpg)⟩
            obtain ⟨RE, RR⟩ := rd_all (s := s) (who := 1) (.inl rfl) (k := k + 1) (n := L) (by have := HLEN.out; omega) (by rw [hvb, hL])
            rw [hvb] at RR
            obtain ⟨p, hpE⟩ : ∃ p, p = q.a := ⟨_, rfl⟩
            rw [← hpE] at hcell hsee
            obtain ⟨k1, hk1⟩ : ∃ k1, k1 = k + 1 := ⟨_, rfl⟩
            have hkI : (k : Int) + 1 = (k1 : Int) := by omega
            rw [← hk1] at RE RR
            have hk1b : k1 < 256 := by omega
            have hpn : p < q.pages.length := hsee
            have hpn2 : (p : Int) < q.pages.length := by omega
            have HRR := Lib.hid (And.intro RE RR)
            have HBY := Lib.hid (And.intro hR (show pg.length = L from hL.symm))
            have mm := m1
            rw [← hpE] at mm
            obtain ⟨pn, hpnE⟩ : ∃ pn, pn = q.pages.length := ⟨_, rfl⟩
            rw [← hpnE] at hm0 hpn hpn2
            have HFAC := Lib.hid (fun W (x : Ext w W) => And.intro (cell_ext x hm0) (And.intro (cell_ext x mm) (cell_ext x hcell)))
            have HK1 := Lib.hid (show k1 < 256 ∧ (L : Int) < 9223372036854775808 from ⟨hk1b, by omega⟩)
            have hku := wr8 hk1b
            have xwi := x89.trans xj
            obtain ⟨f0, f1, f2⟩ := HF.out _ xwi
            obtain ⟨n0, n1, n2⟩ := HFAC.out _ xwi
            clear hsee hpv hpc hpg hby hv hc1 hc2 hcell hm0 hvb hpl hl2 hL hR RE RR hpE mm hpnE hk1b m0 m1 m2 hq hkq hk1
            go_upto_region 12 with (go_at_call 23; (refine (read_any (HM.out.ext xwi) 1 k1 0 L HK1.out.1 (by decide) HK1.out.2).mono ?_); rw [HRR.out.1, HRR.out.2]; rintro e w10 ⟨x10, v10, rfl, o10⟩)
            clear f0 f1 f2 n0 n1 n2 hku hkI
            rw [HBY.out.2] at o10
            obtain ⟨A10, c10, rfl, _, r10⟩ := rd_own o10 HBY.out.1.byts
            have xw10 := xwi.trans x10
            obtain ⟨f0, f1, f2⟩ := HF.out _ xw10
            obtain ⟨n0, n1, n2⟩ := HFAC.out _ xw10
            clear f0 f1 f2 n0 n1 n2
            refine wp_region_held_drew (S := Ext w10) (by kernel_rfl) ((Ext.refl _).drew) (fun hHeld => ?_)
            obtain ⟨wD14, hwD⟩ : ∃ V, V = World.drew w10 := ⟨_, rfl⟩
            rw [← hwD]
            clear hHeld
            have zz0 : Ext w10 wD14 := by rw [hwD]; exact (Ext.refl _).drew
            clear hwD
            refine wpAnyH_imp (S' := Ext wD14) (fun W h => Ext.trans zz0 h) _ _ _ _ ?_
            have hHeld := Ext.refl wD14
            refine wpAnyH_take (i := 0) (oi := { dst := some 79, op := Op.move (Operand.tmp 12), type := 29, pos := "law.go:96", after := #[], guard := none }) (v := ?vv15_12_0) rfl (by kernel_rfl) (by kernel_rfl) (by kernel_rfl) (fun _ _ _ h => h) (Or.inl ⟨by rfl, ?yy15_12_0⟩) hHeld ?_
            case yy15_12_0 => (intro W hx; go_simp; try with_reducible rfl)
            simp only [Act.put, List.setIfInBounds_toArray, List.set_cons_zero, List.set_cons_succ]
            refine wpAnyH_take (i := 1) (oi := { dst := some 80, op := Op.binOp BinOp.neq 29 (Operand.tmp 79) (Operand.const (Value.int IntKind.i64 0)) 29, type := 4, pos := "law.go:96", after := #[{ on := 0, ground := Ground.data }], guard := none }) (v := ?vv16_12_1) rfl (by kernel_rfl) (by kernel_rfl) (by kernel_rfl) (fun _ _ _ h => h) (Or.inl ⟨by rfl, ?yy16_12_1⟩) hHeld ?_
            case yy16_12_1 => (intro W hx; go_simp; try with_reducible rfl)
            simp only [Act.put, List.setIfInBounds_toArray, List.set_cons_zero, List.set_cons_succ]
            refine wpAnyH_take (i := 2) (oi := { dst := some 81, op := Op.move (Operand.tmp 80), type := 4, pos := "law.go:96", after := #[{ on := 1, ground := Ground.data }], guard := none }) (v := ?vv17_12_2) rfl (by kernel_rfl) (by kernel_rfl) (by kernel_rfl) (fun _ _ _ h => h) (Or.inl ⟨by rfl, ?yy17_12_2⟩) hHeld ?_
            case yy17_12_2 => (intro W hx; go_simp; try with_reducible rfl)
            simp only [Act.put, List.setIfInBounds_toArray, List.set_cons_zero, List.set_cons_succ]
            refine wpAnyH_take (i := 3) (oi := { dst := some 82, op := Op.move (Operand.tmp 11), type := 37, pos := "law.go:96", after := #[{ on := 2, ground := Ground.guard }], guard := some (2, false) }) (v := ?vv18_12_3) rfl (by kernel_rfl) (by kernel_rfl) (by kernel_rfl) (fun _ _ _ h => h) (Or.inl ⟨by rfl, ?yy18_12_3⟩) hHeld ?_
            case yy18_12_3 => (intro W hx; go_simp; try with_reducible rfl)
            simp only [Act.put, List.setIfInBounds_toArray, List.set_cons_zero, List.set_cons_succ]
            refine wpAnyH_take (i := 4) (oi := { dst := some 83, op := Op.convert 37 9 (Operand.tmp 82), type := 9, pos := "law.go:96", after := #[{ on := 3, ground := Ground.data }, { on := 2, ground := Ground.guard }], guard := some (2, false) }) (v := ?vv19_12_4) rfl (by kernel_rfl) (by kernel_rfl) (by kernel_rfl) (fun _ _ _ h => h) (Or.inl ⟨by rfl, ?yy19_12_4⟩) hHeld ?_
            case yy19_12_4 => (intro W hx; have hz := zz0.trans hx; have s1 := str (c := c10) (r10.ext hz); go_simp; try with_reducible rfl)
            simp only [Act.put, List.setIfInBounds_toArray, List.set_cons_zero, List.set_cons_succ]
            refine wpAnyH_take (i := 5) (oi := { dst := some 84, op := Op.move (Operand.tmp 1), type := 32, pos := "law.go:96", after := #[{ on := 2, ground := Ground.guard }], guard := some (2, false) }) (v := ?vv20_12_5) rfl (by kernel_rfl) (by kernel_rfl) (by kernel_rfl) (fun _ _ _ h => h) (Or.inl ⟨by rfl, ?yy20_12_5⟩) hHeld ?_
            case yy20_12_5 => (intro W hx; go_simp; try with_reducible rfl)
            simp only [Act.put, List.setIfInBounds_toArray, List.set_cons_zero, List.set_cons_succ]
            refine wpAnyH_take (i := 6) (oi := { dst := some 85, op := Op.nilCheck (Operand.tmp 84), type := 0, pos := "law.go:96", after := #[{ on := 5, ground := Ground.data }, { on := 2, ground := Ground.guard }], guard := some (2, false) }) (v := ?vv21_12_6) rfl (by kernel_rfl) (by kernel_rfl) (by kernel_rfl) (fun _ _ _ h => h) (Or.inl ⟨by rfl, ?yy21_12_6⟩) hHeld ?_
            case yy21_12_6 => (intro W hx; go_simp; try with_reducible rfl)
            simp only [Act.put, List.setIfInBounds_toArray, List.set_cons_zero, List.set_cons_succ]
            refine wpAnyH_take (i := 7) (oi := { dst := some 86, op := Op.fieldAddr 68 (Operand.tmp 85) 1, type := 0, pos := "law.go:96", after := #[{ on := 6, ground := Ground.data }, { on := 2, ground := Ground.guard }], guard := some (2, false) }) (v := ?vv22_12_7) rfl (by kernel_rfl) (by kernel_rfl) (by kernel_rfl) (fun _ _ _ h => h) (Or.inl ⟨by rfl, ?yy22_12_7⟩) hHeld ?_
            case yy22_12_7 => (intro W hx; go_simp; try with_reducible rfl)
            simp only [Act.put, List.setIfInBounds_toArray, List.set_cons_zero, List.set_cons_succ]
            refine wpAnyH_take (i := 8) (oi := { dst := some 87, op := Op.load 65 (Operand.tmp 86), type := 65, pos := "law.go:96", after := #[{ on := 7, ground := Ground.data }, { on := 2, ground := Ground.guard }], guard := some (2, false) }) (v := ?vv23_12_8) rfl (by kernel_rfl) (by kernel_rfl) (by kernel_rfl) (fun _ _ _ h => h) (Or.inl ⟨by rfl, ?yy23_12_8⟩) hHeld ?_
            case yy23_12_8 => (intro W hx; have hz := zz0.trans hx; obtain ⟨f0, f1, f2⟩ := HF.out _ (xw10.trans hz); go_simp; try with_reducible rfl)
            simp only [Act.put, List.setIfInBounds_toArray, List.set_cons_zero, List.set_cons_succ]
            refine wpAnyH_take (i := 9) (oi := { dst := some 88, op := Op.move (Operand.tmp 7), type := 3, pos := "law.go:96", after := #[{ on := 2, ground := Ground.guard }], guard := some (2, false) }) (v := ?vv24_12_9) rfl (by kernel_rfl) (by kernel_rfl) (by kernel_rfl) (fun _ _ _ h => h) (Or.inl ⟨by rfl, ?yy24_12_9⟩) hHeld ?_
            case yy24_12_9 => (intro W hx; go_simp; try with_reducible rfl)
            simp only [Act.put, List.setIfInBounds_toArray, List.set_cons_zero, List.set_cons_succ]
            refine wpAnyH_take (i := 10) (oi := { dst := some 89, op := Op.indexAddr 65 (Operand.tmp 87) (Operand.tmp 88), type := 0, pos := "law.go:96", after := #[{ on := 8, ground := Ground.data }, { on := 9, ground := Ground.data }, { on := 2, ground := Ground.guard }], guard := some (2, false) }) (v := ?vv25_12_10) rfl (by kernel_rfl) (by kernel_rfl) (by kernel_rfl) (fun _ _ _ h => h) (Or.inl ⟨by rfl, ?yy25_12_10⟩) hHeld ?_
            case yy25_12_10 => (intro W hx; go_simp; try with_reducible rfl)
            simp only [Act.put, List.setIfInBounds_toArray, List.set_cons_zero, List.set_cons_succ]
            refine wpAnyH_take (i := 11) (oi := { dst := some 90, op := Op.load 23 (Operand.tmp 89), type := 23, pos := "law.go:96", after := #[{ on := 10, ground := Ground.data }, { on := 2, ground := Ground.guard }], guard := some (2, false) }) (v := ?vv26_12_11) rfl (by kernel_rfl) (by kernel_rfl) (by kernel_rfl) (fun _ _ _ h => h) (Or.inl ⟨by rfl, ?yy26_12_11⟩) hHeld ?_
            case yy26_12_11 => (intro W hx; have hz := zz0.trans hx; obtain ⟨n0, n1, n2⟩ := HFAC.out _ (xw10.trans hz); go_simp; try with_reducible rfl)
            simp only [Act.put, List.setIfInBounds_toArray, List.set_cons_zero, List.set_cons_succ]
            refine wpAnyH_take (i := 12) (oi := { dst := some 91, op := Op.move (Operand.tmp 10), type := 3, pos := "law.go:96", after := #[{ on := 2, ground := Ground.guard }], guard := some (2, false) }) (v := ?vv27_12_12) rfl (by kernel_rfl) (by kernel_rfl) (by kernel_rfl) (fun _ _ _ h => h) (Or.inl ⟨by rfl, ?yy27_12_12⟩) hHeld ?_
            case yy27_12_12 => (intro W hx; go_simp; try with_reducible rfl)
            simp only [Act.put, List.setIfInBounds_toArray, List.set_cons_zero, List.set_cons_succ]
            refine wpAnyH_take (i := 13) (oi := { dst := some 92, op := Op.indexAddr 23 (Operand.tmp 90) (Operand.tmp 91), type := 0, pos := "law.go:96", after := #[{ on := 11, ground := Ground.data }, { on := 12, ground := Ground.data }, { on := 2, ground := Ground.guard }], guard := some (2, false) }) (v := ?vv28_12_13) rfl (by kernel_rfl) (by kernel_rfl) (by kernel_rfl) (fun _ _ _ h => h) (Or.inl ⟨by rfl, ?yy28_12_13⟩) hHeld ?_
            case yy28_12_13 => (intro W hx; go_simp; try with_reducible rfl)
            simp only [Act.put, List.setIfInBounds_toArray, List.set_cons_zero, List.set_cons_succ]
            refine wpAnyH_take (i := 14) (oi := { dst := some 93, op := Op.load 37 (Operand.tmp 92), type := 37, pos := "law.go:96", after := #[{ on := 13, ground := Ground.data }, { on := 2, ground := Ground.guard }], guard := some (2, false) }) (v := ?vv29_12_14) rfl (by kernel_rfl) (by kernel_rfl) (by kernel_rfl) (fun _ _ _ h => h) (Or.inl ⟨by rfl, ?yy29_12_14⟩) hHeld ?_
            case yy29_12_14 => (intro W hx; have hz := zz0.trans hx; obtain ⟨n0, n1, n2⟩ := HFAC.out _ (xw10.trans hz); go_simp; try with_reducible rfl)
            simp only [Act.put, List.setIfInBounds_toArray, List.set_cons_zero, List.set_cons_succ]
            refine wpAnyH_take (i := 15) (oi := { dst := some 94, op := Op.convert 37 9 (Operand.tmp 93), type := 9, pos := "law.go:96", after := #[{ on := 14, ground := Ground.data }, { on := 2, ground := Ground.guard }], guard := some (2, false) }) (v := ?vv30_12_15) rfl (by kernel_rfl) (by kernel_rfl) (by kernel_rfl) (fun _ _ _ h => h) (Or.inl ⟨by rfl, ?yy30_12_15⟩) hHeld ?_
            case yy30_12_15 => (intro W hx; have hz := zz0.trans hx; have s2 := str (c := c) (HBY.out.1.ext (xw10.trans hz)); go_simp; try with_reducible rfl)
            simp only [Act.put, List.setIfInBounds_toArray, List.set_cons_zero, List.set_cons_succ]
            refine wpAnyH_take (i := 16) (oi := { dst := some 95, op := Op.binOp BinOp.neq 9 (Operand.tmp 83) (Operand.tmp 94) 9, type := 4, pos := "law.go:96", after := #[{ on := 4, ground := Ground.data }, { on := 15, ground := Ground.data }, { on := 2, ground := Ground.guard }], guard := some (2, false) }) (v := ?vv31_12_16) rfl (by kernel_rfl) (by kernel_rfl) (by kernel_rfl) (fun _ _ _ h => h) (Or.inl ⟨by rfl, ?yy31_12_16⟩) hHeld ?_
            case yy31_12_16 => (intro W hx; go_simp; try with_reducible rfl)
            simp only [Act.put, List.setIfInBounds_toArray, List.set_cons_zero, List.set_cons_succ]
            refine wpAnyH_take (i := 17) (oi := { dst := some 96, op := Op.pick (Operand.tmp 81) (Operand.const (Value.bool true)) (Operand.tmp 95), type := 4, pos := "law.go:96", after := #[{ on := 2, ground := Ground.data }, { on := 16, ground := Ground.data }], guard := none }) (v := ?vv32_12_17) rfl (by kernel_rfl) (by kernel_rfl) (by kernel_rfl) (fun _ _ _ h => h) (Or.inl ⟨by rfl, ?yy32_12_17⟩) hHeld ?_
            case yy32_12_17 => (intro W hx; go_simp; try with_reducible rfl)
            simp only [Act.put, List.setIfInBounds_toArray, List.set_cons_zero, List.set_cons_succ]
            refine wpAnyH_done (by kernel_rfl) ?_ _
            have zend := zz0.trans hHeld
            go_wp2
            go_roundw
            case rel => exact ⟨1, by go_num, by omega, xj.trans (x10.trans zend)⟩
            case measure => simp [intOf]
          · have kc : wi.cell? ⟨wk.heap.size, 1, none⟩ = some (.int .u8 2) := blk_cell K9i rfl
            clear K9i
            have hsee := hkq.x
            obtain ⟨P, pc, u, hpv, hpc, _, hu, hcell⟩ := own_at (h2.pg hq) hsee
            rw [pgRow_get va2 _ _ hsee] at hu
            injection hu with hu
            subst hu
            obtain ⟨pg, hpg⟩ : ∃ p, q.pages[q.x]? = some p := ⟨_, List.getElem?_eq_getElem hsee⟩
            have hby := h2.by_ hq hpg
            obtain ⟨A, c, hv, hc1, hc2⟩ := own_form hby
            rw [hv] at hcell hby
            have hm0 := m0
            rw [hpv] at hm0
            have hvb : s.vb 2 (k + 1) = pg := by rw [vb_seg hq, List.getD_eq_getElem?_getD]; show (q.pages[q.x]?).getD [] = pg; rw [hpg]; rfl
            have hpl := hkq.pl _ (List.mem_of_getElem? hpg)
            have hl2 := hkq.l2
            obtain ⟨L, hL⟩ : ∃ L, L = pg.length := ⟨_, rfl⟩
            rw [← hL] at hcell hby
            have hR : Rd w A L pg := by rw [hL]; rw [hL] at hby; exact ⟨Shows.of_own hby, hkq.pb _ (List.mem_of_getElem? hpg)⟩
            obtain ⟨RE, RR⟩ := rd_all (s := s) (who := 2) (.inr rfl) (k := k + 1) (n := L) (by have := HLEN.out; omega) (by rw [hvb, hL])
            rw [hvb] at RR
            obtain ⟨p, hpE⟩ : ∃ p, p = q.x := ⟨_, rfl⟩
            rw [← hpE] at hcell hsee
            obtain ⟨k1, hk1⟩ : ∃ k1, k1 = k + 1 := ⟨_, rfl⟩
            have hkI : (k : Int) + 1 = (k1 : Int) := by omega
            rw [← hk1] at RE RR
            have hk1b : k1 < 256 := by omega
            have hpn : p < q.pages.length := hsee
            have hpn2 : (p : Int) < q.pages.length := by omega
            have HRR := Lib.hid (And.intro RE RR)
            have HBY := Lib.hid (And.intro hR (show pg.length = L from hL.symm))
            have mm := m2
            rw [← hpE] at mm
            obtain ⟨pn, hpnE⟩ : ∃ pn, pn = q.pages.length := ⟨_, rfl⟩
            rw [← hpnE] at hm0 hpn hpn2
            have HFAC := Lib.hid (fun W (x : Ext w W) => And.intro (cell_ext x hm0) (And.intro (cell_ext x mm) (cell_ext x hcell)))
            have HK1 := Lib.hid (show k1 < 256 ∧ (L : Int) < 9223372036854775808 from ⟨hk1b, by omega⟩)
            have hku := wr8 hk1b
            have xwi := x89.trans xj
            obtain ⟨f0, f1, f2⟩ := HF.out _ xwi
            obtain ⟨n0, n1, n2⟩ := HFAC.out _ xwi
            clear hsee hpv hpc hpg hby hv hc1 hc2 hcell hm0 hvb hpl hl2 hL hR RE RR hpE mm hpnE hk1b m0 m1 m2 hq hkq hk1
            go_upto_region 12 with (go_at_call 23; (refine (read_any (HM.out.ext xwi) 2 k1 0 L HK1.out.1 (by decide) HK1.out.2).mono ?_); rw [HRR.out.1, HRR.out.2]; rintro e w10 ⟨x10, v10, rfl, o10⟩)
            clear f0 f1 f2 n0 n1 n2 hku hkI
            rw [HBY.out.2] at o10
            obtain ⟨A10, c10, rfl, _, r10⟩ := rd_own o10 HBY.out.1.byts
            have xw10 := xwi.trans x10
            obtain ⟨f0, f1, f2⟩ := HF.out _ xw10
            obtain ⟨n0, n1, n2⟩ := HFAC.out _ xw10
            clear f0 f1 f2 n0 n1 n2
            refine wp_region_held_drew (S := Ext w10) (by kernel_rfl) ((Ext.refl _).drew) (fun hHeld => ?_)
            obtain ⟨wD33, hwD⟩ : ∃ V, V = World.drew w10 := ⟨_, rfl⟩
            rw [← hwD]
            clear hHeld
            have zz0 : Ext w10 wD33 := by rw [hwD]; exact (Ext.refl _).drew
            clear hwD
            refine wpAnyH_imp (S' := Ext wD33) (fun W h => Ext.trans zz0 h) _ _ _ _ ?_
            have hHeld := Ext.refl wD33
            refine wpAnyH_take (i := 0) (oi := { dst := some 79, op := Op.move (Operand.tmp 12), type := 29, pos := "law.go:96", after := #[], guard := none }) (v := ?vv34_12_0) rfl (by kernel_rfl) (by kernel_rfl) (by kernel_rfl) (fun _ _ _ h => h) (Or.inl ⟨by rfl, ?yy34_12_0⟩) hHeld ?_
            case yy34_12_0 => (intro W hx; go_simp; try with_reducible rfl)
            simp only [Act.put, List.setIfInBounds_toArray, List.set_cons_zero, List.set_cons_succ]
            refine wpAnyH_take (i := 1) (oi := { dst := some 80, op := Op.binOp BinOp.neq 29 (Operand.tmp 79) (Operand.const (Value.int IntKind.i64 0)) 29, type := 4, pos := "law.go:96", after := #[{ on := 0, ground := Ground.data }], guard := none }) (v := ?vv35_12_1) rfl (by kernel_rfl) (by kernel_rfl) (by kernel_rfl) (fun _ _ _ h => h) (Or.inl ⟨by rfl, ?yy35_12_1⟩) hHeld ?_
            case yy35_12_1 => (intro W hx; go_simp; try with_reducible rfl)
            simp only [Act.put, List.setIfInBounds_toArray, List.set_cons_zero, List.set_cons_succ]
            refine wpAnyH_take (i := 2) (oi := { dst := some 81, op := Op.move (Operand.tmp 80), type := 4, pos := "law.go:96", after := #[{ on := 1, ground := Ground.data }], guard := none }) (v := ?vv36_12_2) rfl (by kernel_rfl) (by kernel_rfl) (by kernel_rfl) (fun _ _ _ h => h) (Or.inl ⟨by rfl, ?yy36_12_2⟩) hHeld ?_
            case yy36_12_2 => (intro W hx; go_simp; try with_reducible rfl)
            simp only [Act.put, List.setIfInBounds_toArray, List.set_cons_zero, List.set_cons_succ]
            refine wpAnyH_take (i := 3) (oi := { dst := some 82, op := Op.move (Operand.tmp 11), type := 37, pos := "law.go:96", after := #[{ on := 2, ground := Ground.guard }], guard := some (2, false) }) (v := ?vv37_12_3) rfl (by kernel_rfl) (by kernel_rfl) (by kernel_rfl) (fun _ _ _ h => h) (Or.inl ⟨by rfl, ?yy37_12_3⟩) hHeld ?_
            case yy37_12_3 => (intro W hx; go_simp; try with_reducible rfl)
            simp only [Act.put, List.setIfInBounds_toArray, List.set_cons_zero, List.set_cons_succ]
            refine wpAnyH_take (i := 4) (oi := { dst := some 83, op := Op.convert 37 9 (Operand.tmp 82), type := 9, pos := "law.go:96", after := #[{ on := 3, ground := Ground.data }, { on := 2, ground := Ground.guard }], guard := some (2, false) }) (v := ?vv38_12_4) rfl (by kernel_rfl) (by kernel_rfl) (by kernel_rfl) (fun _ _ _ h => h) (Or.inl ⟨by rfl, ?yy38_12_4⟩) hHeld ?_
            case yy38_12_4 => (intro W hx; have hz := zz0.trans hx; have s1 := str (c := c10) (r10.ext hz); go_simp; try with_reducible rfl)
            simp only [Act.put, List.setIfInBounds_toArray, List.set_cons_zero, List.set_cons_succ]
            refine wpAnyH_take (i := 5) (oi := { dst := some 84, op := Op.move (Operand.tmp 1), type := 32, pos := "law.go:96", after := #[{ on := 2, ground := Ground.guard }], guard := some (2, false) }) (v := ?vv39_12_5) rfl (by kernel_rfl) (by kernel_rfl) (by kernel_rfl) (fun _ _ _ h => h) (Or.inl ⟨by rfl, ?yy39_12_5⟩) hHeld ?_
            case yy39_12_5 => (intro W hx; go_simp; try with_reducible rfl)
            simp only [Act.put, List.setIfInBounds_toArray, List.set_cons_zero, List.set_cons_succ]
            refine wpAnyH_take (i := 6) (oi := { dst := some 85, op := Op.nilCheck (Operand.tmp 84), type := 0, pos := "law.go:96", after := #[{ on := 5, ground := Ground.data }, { on := 2, ground := Ground.guard }], guard := some (2, false) }) (v := ?vv40_12_6) rfl (by kernel_rfl) (by kernel_rfl) (by kernel_rfl) (fun _ _ _ h => h) (Or.inl ⟨by rfl, ?yy40_12_6⟩) hHeld ?_
            case yy40_12_6 => (intro W hx; go_simp; try with_reducible rfl)
            simp only [Act.put, List.setIfInBounds_toArray, List.set_cons_zero, List.set_cons_succ]
            refine wpAnyH_take (i := 7) (oi := { dst := some 86, op := Op.fieldAddr 68 (Operand.tmp 85) 1, type := 0, pos := "law.go:96", after := #[{ on := 6, ground := Ground.data }, { on := 2, ground := Ground.guard }], guard := some (2, false) }) (v := ?vv41_12_7) rfl (by kernel_rfl) (by kernel_rfl) (by kernel_rfl) (fun _ _ _ h => h) (Or.inl ⟨by rfl, ?yy41_12_7⟩) hHeld ?_
            case yy41_12_7 => (intro W hx; go_simp; try with_reducible rfl)
            simp only [Act.put, List.setIfInBounds_toArray, List.set_cons_zero, List.set_cons_succ]
            refine wpAnyH_take (i := 8) (oi := { dst := some 87, op := Op.load 65 (Operand.tmp 86), type := 65, pos := "law.go:96", after := #[{ on := 7, ground := Ground.data }, { on := 2, ground := Ground.guard }], guard := some (2, false) }) (v := ?vv42_12_8) rfl (by kernel_rfl) (by kernel_rfl) (by kernel_rfl) (fun _ _ _ h => h) (Or.inl ⟨by rfl, ?yy42_12_8⟩) hHeld ?_
            case yy42_12_8 => (intro W hx; have hz := zz0.trans hx; obtain ⟨f0, f1, f2⟩ := HF.out _ (xw10.trans hz); go_simp; try with_reducible rfl)
            simp only [Act.put, List.setIfInBounds_toArray, List.set_cons_zero, List.set_cons_succ]
            refine wpAnyH_take (i := 9) (oi := { dst := some 88, op := Op.move (Operand.tmp 7), type := 3, pos := "law.go:96", after := #[{ on := 2, ground := Ground.guard }], guard := some (2, false) }) (v := ?vv43_12_9) rfl (by kernel_rfl) (by kernel_rfl) (by kernel_rfl) (fun _ _ _ h => h) (Or.inl ⟨by rfl, ?yy43_12_9⟩) hHeld ?_
            case yy43_12_9 => (intro W hx; go_simp; try with_reducible rfl)
            simp only [Act.put, List.setIfInBounds_toArray, List.set_cons_zero, List.set_cons_succ]
            refine wpAnyH_take (i := 10) (oi := { dst := some 89, op := Op.indexAddr 65 (Operand.tmp 87) (Operand.tmp 88), type := 0, pos := "law.go:96", after := #[{ on := 8, ground := Ground.data }, { on := 9, ground := Ground.data }, { on := 2, ground := Ground.guard }], guard := some (2, false) }) (v := ?vv44_12_10) rfl (by kernel_rfl) (by kernel_rfl) (by kernel_rfl) (fun _ _ _ h => h) (Or.inl ⟨by rfl, ?yy44_12_10⟩) hHeld ?_
            case yy44_12_10 => (intro W hx; go_simp; try with_reducible rfl)
            simp only [Act.put, List.setIfInBounds_toArray, List.set_cons_zero, List.set_cons_succ]
            refine wpAnyH_take (i := 11) (oi := { dst := some 90, op := Op.load 23 (Operand.tmp 89), type := 23, pos := "law.go:96", after := #[{ on := 10, ground := Ground.data }, { on := 2, ground := Ground.guard }], guard := some (2, false) }) (v := ?vv45_12_11) rfl (by kernel_rfl) (by kernel_rfl) (by kernel_rfl) (fun _ _ _ h => h) (Or.inl ⟨by rfl, ?yy45_12_11⟩) hHeld ?_
            case yy45_12_11 => (intro W hx; have hz := zz0.trans hx; obtain ⟨n0, n1, n2⟩ := HFAC.out _ (xw10.trans hz); go_simp; try with_reducible rfl)
            simp only [Act.put, List.setIfInBounds_toArray, List.set_cons_zero, List.set_cons_succ]
            refine wpAnyH_take (i := 12) (oi := { dst := some 91, op := Op.move (Operand.tmp 10), type := 3, pos := "law.go:96", after := #[{ on := 2, ground := Ground.guard }], guard := some (2, false) }) (v := ?vv46_12_12) rfl (by kernel_rfl) (by kernel_rfl) (by kernel_rfl) (fun _ _ _ h => h) (Or.inl ⟨by rfl, ?yy46_12_12⟩) hHeld ?_
            case yy46_12_12 => (intro W hx; go_simp; try with_reducible rfl)
            simp only [Act.put, List.setIfInBounds_toArray, List.set_cons_zero, List.set_cons_succ]
            refine wpAnyH_take (i := 13) (oi := { dst := some 92, op := Op.indexAddr 23 (Operand.tmp 90) (Operand.tmp 91), type := 0, pos := "law.go:96", after := #[{ on := 11, ground := Ground.data }, { on := 12, ground := Ground.data }, { on := 2, ground := Ground.guard }], guard := some (2, false) }) (v := ?vv47_12_13) rfl (by kernel_rfl) (by kernel_rfl) (by kernel_rfl) (fun _ _ _ h => h) (Or.inl ⟨by rfl, ?yy47_12_13⟩) hHeld ?_
            case yy47_12_13 => (intro W hx; go_simp; try with_reducible rfl)
            simp only [Act.put, List.setIfInBounds_toArray, List.set_cons_zero, List.set_cons_succ]
            refine wpAnyH_take (i := 14) (oi := { dst := some 93, op := Op.load 37 (Operand.tmp 92), type := 37, pos := "law.go:96", after := #[{ on := 13, ground := Ground.data }, { on := 2, ground := Ground.guard }], guard := some (2, false) }) (v := ?vv48_12_14) rfl (by kernel_rfl) (by kernel_rfl) (by kernel_rfl) (fun _ _ _ h => h) (Or.inl ⟨by rfl, ?yy48_12_14⟩) hHeld ?_
            case yy48_12_14 => (intro W hx; have hz := zz0.trans hx; obtain ⟨n0, n1, n2⟩ := HFAC.out _ (xw10.trans hz); go_simp; try with_reducible rfl)
            simp only [Act.put, List.setIfInBounds_toArray, List.set_cons_zero, List.set_cons_succ]
            refine wpAnyH_take (i := 15) (oi := { dst := some 94, op := Op.convert 37 9 (Operand.tmp 93), type := 9, pos := "law.go:96", after := #[{ on := 14, ground := Ground.data }, { on := 2, ground := Ground.guard }], guard := some (2, false) }) (v := ?vv49_12_15) rfl (by kernel_rfl) (by kernel_rfl) (by kernel_rfl) (fun _ _ _ h => h) (Or.inl ⟨by rfl, ?yy49_12_15⟩) hHeld ?_
            case yy49_12_15 => (intro W hx; have hz := zz0.trans hx; have s2 := str (c := c) (HBY.out.1.ext (xw10.trans hz)); go_simp; try with_reducible rfl)
            simp only [Act.put, List.setIfInBounds_toArray, List.set_cons_zero, List.set_cons_succ]
            refine wpAnyH_take (i := 16) (oi := { dst := some 95, op := Op.binOp BinOp.neq 9 (Operand.tmp 83) (Operand.tmp 94) 9, type := 4, pos := "law.go:96", after := #[{ on := 4, ground := Ground.data }, { on := 15, ground := Ground.data }, { on := 2, ground := Ground.guard }], guard := some (2, false) }) (v := ?vv50_12_16) rfl (by kernel_rfl) (by kernel_rfl) (by kernel_rfl) (fun _ _ _ h => h) (Or.inl ⟨by rfl, ?yy50_12_16⟩) hHeld ?_
            case yy50_12_16 => (intro W hx; go_simp; try with_reducible rfl)
            simp only [Act.put, List.setIfInBounds_toArray, List.set_cons_zero, List.set_cons_succ]
            refine wpAnyH_take (i := 17) (oi := { dst := some 96, op := Op.pick (Operand.tmp 81) (Operand.const (Value.bool true)) (Operand.tmp 95), type := 4, pos := "law.go:96", after := #[{ on := 2, ground := Ground.data }, { on := 16, ground := Ground.data }], guard := none }) (v := ?vv51_12_17) rfl (by kernel_rfl) (by kernel_rfl) (by kernel_rfl) (fun _ _ _ h => h) (Or.inl ⟨by rfl, ?yy51_12_17⟩) hHeld ?_
            case yy51_12_17 => (intro W hx; go_simp; try with_reducible rfl)
            simp only [Act.put, List.setIfInBounds_toArray, List.set_cons_zero, List.set_cons_succ]
            refine wpAnyH_done (by kernel_rfl) ?_ _
            have zend := zz0.trans hHeld
            go_wp2
            go_roundw
            case rel => exact ⟨2, by go_num, by omega, xj.trans (x10.trans zend)⟩
            case measure => simp [intOf]
        · obtain rfl : j = 2 := by omega
          go_wp2
          go_roundw
          case rel => exact ⟨k + 1, by go_num, by omega, x89.trans xj⟩
          case measure => simp [intOf]; omega
    · obtain rfl : k = sn := by omega
      go_wp2
      go_ret
      exact ⟨rfl, xk⟩
end Go.Proofs.Ytjgmnbfadnlikaa
