import Derived.Test.YtnjiajogbadadaaUC
set_option linter.unusedVariables false
set_option linter.unusedSimpArgs false
namespace Go.Proofs.Ytnjiajogbadadaa
open Go.RowKit
set_option maxRecDepth 100000 in
set_option maxHeartbeats 2000000 in
theorem rseed_ok1 (g : Nat) (s : LSt) (F : Nat → Prop) (dA : Option Addr) (n c : Nat) (bs : List Int) (w : World) (hr : Rd w dA n bs) (hF : 0 < n → ∀ ad, dA = some ad → ¬ F ad.block) (h1 : 1 ≤ n) (h2 : n ≤ 20) (h : RkC w g s F) (hz : bits .and .u8 s.lk 1 ≠ 0) :
    Calls Try.prog 13 #[.pointer (some ⟨g, 0, none⟩), .int .u8 0, .int .u8 1, .slice dA n c] w (RSeedPost w g F (LSt.part { s.clear with seed := bs, res := 1 })) := by
  obtain ⟨sA0, sc0, kA0, kc0, h⟩ := h
  have hzz : (bits .and .u8 s.lk 1 == 0) = false := by simpa using hz
  clear hz
  have HF := Lib.hid hF
  have hlen := Lib.hid hr.len
  have r01 : (0 : Int) ≤ 1 ∧ (1 : Int) < 256 := by omega
  go_enter Try.func13, Try.ntmps13
  clear hF
  go_upto_region 7 with (go_at_call 27; (refine (rforget_any _ _ _ _ _ _ _ _ _ _ _ _ h.row).mono ?_); rintro e wa ⟨rfl, Ka, xa⟩)
  have ka : Kept F w wa := .of_grown xa (fun b e => by injection e with e; subst e; exact h.fg)
  obtain ⟨f0, f1, f2, f3, f4, f5⟩ := cells6 Ka
  have ra := hr.kept ka (HF.out (by omega))
  go_upto_region 9 with (fail)
  go_upto_region 10 with (at_builtin; refine wpList_app el29 rfl _ _ rfl (World.ownsRow_lit _ #[] 0 (Nat.le_refl _) (by simp) rfl) rfl ((ra.ext ((Ext.refl _).alloc _)).shows) rfl (u8s_one _) (le_max (by omega)) (by omega) rfl ((Ext.refl _).alloc _) ?_; intro vb wb ownb xb hgb hatb; clear hgb hatb; obtain ⟨Ab, cb, rfl, lb, mb, rb, qb⟩ := back0 ownb ra.byts; have Kb := (xb.block _ (blk_lt Ka)).trans Ka; clear f0 f1 f2 f3 f4 f5; obtain ⟨f0, f1, f2, f3, f4, f5⟩ := cells6 Kb; have z2 := blk_free (i := 2) Kb; have z3 := blk_free (i := 3) Kb)
  obtain ⟨wc, hwc, Kc, xc⟩ := set_new 2 (.slice Ab n cb) Kb
  rw [← hwc]; clear hwc
  clear f0 f1 f2 f3 f4 f5 z2
  obtain ⟨f0, f1, f2, f3, f4, f5⟩ := cells6 Kc
  have z3 := blk_free (i := 3) Kc
  go_upto_region 11 with (fail)
  obtain ⟨w2, hw2, K2', x2'⟩ := set_new 3 (.int .u8 1) Kc
  rw [← hw2]; clear hw2
  have xac := xc.trans x2'
  have kg : Kept (· = g) wb w2 := .of_grown xac (fun b e => by injection e with e; exact e.symm)
  have hgl := blk_lt Ka
  have hne : ∀ ad, Ab = some ad → ad.block ≠ g := fun ad e => by have := qb ad e; omega
  have r5 := rb.kept kg hne
  have kF : Kept F w w2 := (ka.then xb).trans kg (fun i _ e => by subst e; exact h.fg)
  obtain ⟨s', hs'⟩ : ∃ s' : LSt, s' = { s.clear with seed := bs, res := 1 } := ⟨_, rfl⟩
  have hl := hlen.out
  have hAb : Ab ≠ none := by
    obtain ⟨ad, e, _⟩ := rb.shows.2 (by omega)
    rw [e]; exact fun e => nomatch e
  have hR : RkR w2 g s' (fun k => F k ∨ ∃ ad, Ab = some ad ∧ k = ad.block) Ab cb none 0 := by
    subst hs' hl
    exact ⟨K2', r5, lb, ⟨fun e => by have e : bs.length = 0 := e; omega, fun e => absurd e hAb⟩, Rd.nil, .inl h.fg, fun ad e => ⟨.inr ⟨ad, e, rfl⟩, hne ad e⟩, (fun b e => nomatch e), (fun i hi => by
      rcases hi with hi | ⟨ad, e, rfl⟩
      · exact Nat.lt_of_lt_of_le (h.lt i hi) kF.size
      · obtain ⟨ad', e', hb, _⟩ := r5.shows.2 (by omega)
        rw [e] at e'; injection e' with e'; subst e'; exact hb), ⟨h.ok.all, h.ok.lk, r01, by simp [LSt.clear], by simpa using h2, by simp [LSt.clear]⟩⟩
  have HS := Lib.hid hs'
  have HG : ∀ i, (F i ∨ ∃ ad, Ab = some ad ∧ i = ad.block) → F i ∨ w.heap.size ≤ i := by
    rintro i (hi | ⟨ad, e, rfl⟩)
    · exact .inl hi
    · have := qb ad e; have := ka.size; exact .inr (by omega)
  have HGG := Lib.hid HG
  have HKF := Lib.hid kF
  have hfg := Lib.hid h.fg
  generalize hsA : Ab = sA at *
  generalize hsc : cb = sc at *
  obtain ⟨kA, hkA⟩ : ∃ kA : Option Addr, Hid (kA = none) := ⟨_, rfl⟩
  obtain ⟨kc, hkc⟩ : ∃ kc : Nat, Hid (kc = 0) := ⟨_, rfl⟩
  rw [← hkA.out, ← hkc.out] at hR
  clear f0 f1 f2 f3 f4 f5 z3 Kc Kb rb r5 hAb hne qb HG kF kg xac x2' K2' HF hr hs' hsA hsc lb mb ra hl hgl hzz
  have ht := hR.ok.told
  have hl20 := hR.ok.len
  have HRR := Lib.hid hR
  obtain ⟨sn, hsn⟩ : ∃ sn, sn = s'.seed.length := ⟨_, rfl⟩
  obtain ⟨told, htold⟩ : ∃ t, t = s'.told := ⟨_, rfl⟩
  have K2 := hR.row
  have r2 := hR.seed
  have hcap := hR.cap
  rw [← hsn] at K2 r2 hcap ht hl20
  rw [← htold] at K2 ht
  obtain ⟨m, hm⟩ : ∃ m, m = partN sn told := ⟨_, rfl⟩
  obtain ⟨d, hd⟩ : ∃ d, d = sn - told := ⟨_, rfl⟩
  have hmin : (if (6 : Int) < d then (6 : Int) else d) = m := by rw [hm]; unfold partN; split <;> omega
  have hsub : (sn : Int) - told = d := by omega
  have hmd : m ≤ d := by rw [hm]; unfold partN; omega
  obtain ⟨q, hq⟩ : ∃ q, q = told + m := ⟨_, rfl⟩
  have hadd : (told : Int) + m = (q : Int) := by omega
  have htm : told + m ≤ sn := by omega
  have hqc : q ≤ sc := by omega
  have htq : told ≤ q := by omega
  have hqt : q - told = m := by omega
  have hq20 : q ≤ 20 := by omega
  have hwq : IntKind.i64.wrap (q : Int) = q := by rw [IntKind.wrap_i64]; omega
  have hqcI : (q : Int) ≤ sc := by omega
  have HSN := Lib.hid hsn
  have HT := Lib.hid htold
  have HM := Lib.hid hm
  have HQ := Lib.hid hq
  have HD := Lib.hid hd
  clear hsn htold hm hq hd hR
  obtain ⟨f0, f1, f2, f3, f4, f5⟩ := cells6 K2
  go_upto_region 14 with (fail)
  go_quiet (fail)
  obtain ⟨w3, hWq⟩ : ∃ z : World, z = World.drewN w2 nq := ⟨_, rfl⟩
  rw [← hWq]
  have xw3 : Ext w2 w3 := by rw [hWq]; exact (Ext.refl _).drewN _
  clear hWq
  clear f0 f1 f2 f3 f4 f5
  have K3 := (xw3.block _ (blk_lt K2)).trans K2
  have r3 := ((r2.ext xw3).drop (k := told) ht hcap).take (k := m) (by omega)
  obtain ⟨pA, hpA⟩ : ∃ p, (if sc = told then sA else Option.map (fun x => x.add told) sA) = p := ⟨_, rfl⟩
  have r3 : Rd w3 pA m ((s'.seed.drop told).take m) := by rw [← hpA]; simpa using r3
  obtain ⟨f0, f1, f2, f3, f4, f5⟩ := cells6 K3
  go_upto_region 16 with (fail)
  clear f0 f1 f2 f3 f4 f5
  refine wp_region_held_drew (S := Ext w3) (by kernel_rfl) ((Ext.refl _).drew) (fun hHeld => ?_)
  obtain ⟨wD1, hwD⟩ : ∃ V, V = World.drew w3 := ⟨_, rfl⟩
  rw [← hwD]
  clear hHeld
  have zz0 : Ext w3 wD1 := by rw [hwD]; exact (Ext.refl _).drew
  clear hwD
  refine wpAnyH_imp (S' := Ext wD1) (fun W h => Ext.trans zz0 h) _ _ _ _ ?_
  have hHeld := Ext.refl wD1
  have hB := Ext.refl wD1
  have hW := zz0
  refine wpAnyH_take (i := 1) (oi := { dst := some 88, op := Op.move (Operand.tmp 0), type := 26, pos := "ref.go:67", after := #[], guard := none }) (v := ?vv2_16_1) rfl (by kernel_rfl) (by kernel_rfl) (by kernel_rfl) (fun _ _ _ h => h) (Or.inl ⟨by rfl, ?yy2_16_1⟩) hHeld ?_
  case yy2_16_1 => (intro W hx; go_simp; try with_reducible rfl)
  simp only [Act.put, List.setIfInBounds_toArray, List.set_cons_zero, List.set_cons_succ]
  refine wpAnyH_take (i := 2) (oi := { dst := some 89, op := Op.nilCheck (Operand.tmp 88), type := 0, pos := "ref.go:67", after := #[{ on := 1, ground := Ground.data }], guard := none }) (v := ?vv3_16_2) rfl (by kernel_rfl) (by kernel_rfl) (by kernel_rfl) (fun _ _ _ h => h) (Or.inl ⟨by rfl, ?yy3_16_2⟩) hHeld ?_
  case yy3_16_2 => (intro W hx; go_simp; try with_reducible rfl)
  simp only [Act.put, List.setIfInBounds_toArray, List.set_cons_zero, List.set_cons_succ]
  refine wpAnyH_take (i := 3) (oi := { dst := some 90, op := Op.fieldAddr 38 (Operand.tmp 89) 2, type := 0, pos := "ref.go:67", after := #[{ on := 2, ground := Ground.data }], guard := none }) (v := ?vv4_16_3) rfl (by kernel_rfl) (by kernel_rfl) (by kernel_rfl) (fun _ _ _ h => h) (Or.inl ⟨by rfl, ?yy4_16_3⟩) hHeld ?_
  case yy4_16_3 => (intro W hx; go_simp; try with_reducible rfl)
  simp only [Act.put, List.setIfInBounds_toArray, List.set_cons_zero, List.set_cons_succ]
  refine wpAnyH_take (i := 4) (oi := { dst := some 91, op := Op.load 29 (Operand.tmp 90), type := 29, pos := "ref.go:67", after := #[{ on := 3, ground := Ground.data }], guard := none }) (v := ?vv5_16_4) rfl (by kernel_rfl) (by kernel_rfl) (by kernel_rfl) (fun _ _ _ h => h) (Or.inl ⟨by rfl, ?yy5_16_4⟩) hHeld ?_
  case yy5_16_4 => (intro W hx; have hz := zz0.trans hx; obtain ⟨f0, f1, f2, f3, f4, f5⟩ := cells6 ((hz.block _ (blk_lt K3)).trans K3); go_simp; try with_reducible rfl)
  simp only [Act.put, List.setIfInBounds_toArray, List.set_cons_zero, List.set_cons_succ]
  refine wpAnyH_take (i := 5) (oi := { dst := some 92, op := Op.move (Operand.tmp 0), type := 26, pos := "ref.go:67", after := #[], guard := none }) (v := ?vv6_16_5) rfl (by kernel_rfl) (by kernel_rfl) (by kernel_rfl) (fun _ _ _ h => h) (Or.inl ⟨by rfl, ?yy6_16_5⟩) hHeld ?_
  case yy6_16_5 => (intro W hx; go_simp; try with_reducible rfl)
  simp only [Act.put, List.setIfInBounds_toArray, List.set_cons_zero, List.set_cons_succ]
  refine wpAnyH_take (i := 6) (oi := { dst := some 93, op := Op.nilCheck (Operand.tmp 92), type := 0, pos := "ref.go:67", after := #[{ on := 5, ground := Ground.data }], guard := none }) (v := ?vv7_16_6) rfl (by kernel_rfl) (by kernel_rfl) (by kernel_rfl) (fun _ _ _ h => h) (Or.inl ⟨by rfl, ?yy7_16_6⟩) hHeld ?_
  case yy7_16_6 => (intro W hx; go_simp; try with_reducible rfl)
  simp only [Act.put, List.setIfInBounds_toArray, List.set_cons_zero, List.set_cons_succ]
  refine wpAnyH_take (i := 7) (oi := { dst := some 94, op := Op.fieldAddr 38 (Operand.tmp 93) 4, type := 0, pos := "ref.go:67", after := #[{ on := 6, ground := Ground.data }], guard := none }) (v := ?vv8_16_7) rfl (by kernel_rfl) (by kernel_rfl) (by kernel_rfl) (fun _ _ _ h => h) (Or.inl ⟨by rfl, ?yy8_16_7⟩) hHeld ?_
  case yy8_16_7 => (intro W hx; go_simp; try with_reducible rfl)
  simp only [Act.put, List.setIfInBounds_toArray, List.set_cons_zero, List.set_cons_succ]
  refine wpAnyH_take (i := 8) (oi := { dst := some 95, op := Op.load 3 (Operand.tmp 94), type := 3, pos := "ref.go:67", after := #[{ on := 7, ground := Ground.data }], guard := none }) (v := ?vv9_16_8) rfl (by kernel_rfl) (by kernel_rfl) (by kernel_rfl) (fun _ _ _ h => h) (Or.inl ⟨by rfl, ?yy9_16_8⟩) hHeld ?_
  case yy9_16_8 => (intro W hx; have hz := zz0.trans hx; obtain ⟨f0, f1, f2, f3, f4, f5⟩ := cells6 ((hz.block _ (blk_lt K3)).trans K3); go_simp; try with_reducible rfl)
  simp only [Act.put, List.setIfInBounds_toArray, List.set_cons_zero, List.set_cons_succ]
  refine wpAnyH_take (i := 9) (oi := { dst := some 96, op := Op.move (Operand.tmp 0), type := 26, pos := "ref.go:67", after := #[], guard := none }) (v := ?vv10_16_9) rfl (by kernel_rfl) (by kernel_rfl) (by kernel_rfl) (fun _ _ _ h => h) (Or.inl ⟨by rfl, ?yy10_16_9⟩) hHeld ?_
  case yy10_16_9 => (intro W hx; go_simp; try with_reducible rfl)
  simp only [Act.put, List.setIfInBounds_toArray, List.set_cons_zero, List.set_cons_succ]
  refine wpAnyH_take (i := 10) (oi := { dst := some 97, op := Op.nilCheck (Operand.tmp 96), type := 0, pos := "ref.go:67", after := #[{ on := 9, ground := Ground.data }], guard := none }) (v := ?vv11_16_10) rfl (by kernel_rfl) (by kernel_rfl) (by kernel_rfl) (fun _ _ _ h => h) (Or.inl ⟨by rfl, ?yy11_16_10⟩) hHeld ?_
  case yy11_16_10 => (intro W hx; go_simp; try with_reducible rfl)
  simp only [Act.put, List.setIfInBounds_toArray, List.set_cons_zero, List.set_cons_succ]
  refine wpAnyH_take (i := 11) (oi := { dst := some 98, op := Op.fieldAddr 38 (Operand.tmp 97) 4, type := 0, pos := "ref.go:67", after := #[{ on := 10, ground := Ground.data }], guard := none }) (v := ?vv12_16_11) rfl (by kernel_rfl) (by kernel_rfl) (by kernel_rfl) (fun _ _ _ h => h) (Or.inl ⟨by rfl, ?yy12_16_11⟩) hHeld ?_
  case yy12_16_11 => (intro W hx; go_simp; try with_reducible rfl)
  simp only [Act.put, List.setIfInBounds_toArray, List.set_cons_zero, List.set_cons_succ]
  refine wpAnyH_take (i := 12) (oi := { dst := some 99, op := Op.load 3 (Operand.tmp 98), type := 3, pos := "ref.go:67", after := #[{ on := 11, ground := Ground.data }], guard := none }) (v := ?vv13_16_12) rfl (by kernel_rfl) (by kernel_rfl) (by kernel_rfl) (fun _ _ _ h => h) (Or.inl ⟨by rfl, ?yy13_16_12⟩) hHeld ?_
  case yy13_16_12 => (intro W hx; have hz := zz0.trans hx; obtain ⟨f0, f1, f2, f3, f4, f5⟩ := cells6 ((hz.block _ (blk_lt K3)).trans K3); go_simp; try with_reducible rfl)
  simp only [Act.put, List.setIfInBounds_toArray, List.set_cons_zero, List.set_cons_succ]
  refine wpAnyH_take (i := 13) (oi := { dst := some 100, op := Op.move (Operand.tmp 12), type := 3, pos := "ref.go:67", after := #[], guard := none }) (v := ?vv14_16_13) rfl (by kernel_rfl) (by kernel_rfl) (by kernel_rfl) (fun _ _ _ h => h) (Or.inl ⟨by rfl, ?yy14_16_13⟩) hHeld ?_
  case yy14_16_13 => (intro W hx; go_simp; try with_reducible rfl)
  simp only [Act.put, List.setIfInBounds_toArray, List.set_cons_zero, List.set_cons_succ]
  refine wpAnyH_take (i := 14) (oi := { dst := some 101, op := Op.binOp BinOp.add 3 (Operand.tmp 99) (Operand.tmp 100) 3, type := 3, pos := "ref.go:67", after := #[{ on := 12, ground := Ground.data }, { on := 13, ground := Ground.data }], guard := none }) (v := ?vv15_16_14) rfl (by kernel_rfl) (by kernel_rfl) (by kernel_rfl) (fun _ _ _ h => h) (Or.inl ⟨by rfl, ?yy15_16_14⟩) hHeld ?_
  case yy15_16_14 => (intro W hx; go_simp; try with_reducible rfl)
  simp only [Act.put, List.setIfInBounds_toArray, List.set_cons_zero, List.set_cons_succ]
  refine wpAnyH_take (i := 15) (oi := { dst := some 102, op := Op.slice 29 (Operand.tmp 91) (some (Operand.tmp 95)) (some (Operand.tmp 101)) none, type := 29, pos := "ref.go:67", after := #[{ on := 4, ground := Ground.data }, { on := 8, ground := Ground.data }, { on := 14, ground := Ground.data }], guard := none }) (v := ?vv16_16_15) rfl (by kernel_rfl) (by kernel_rfl) (by kernel_rfl) (fun _ _ _ h => h) (Or.inl ⟨by rfl, ?yy16_16_15⟩) hHeld ?_
  case yy16_16_15 => (intro W hx; go_simp; try with_reducible rfl)
  simp only [Act.put, List.setIfInBounds_toArray, List.set_cons_zero, List.set_cons_succ]
  refine wpAnyH_ready (rs := [0]) (by kernel_rfl) (by simp) (AllReadyH.cons rfl (fun K hK => ?_) AllReadyH.nil)
  go_simp
  obtain ⟨wb, hw⟩ : ∃ V, V = World.alloc wD1 (.cells #[] 5) := ⟨_, rfl⟩
  rw [← hw]
  have xb : Ext wD1 wb := by rw [hw]; exact (Ext.refl _).alloc _
  have own0 := own_eq hw (own_lit (e := 5) (size := 1) #[] 0 rfl hB.size (le_max (by omega)) rfl)
  clear hw
  refine hK.out _ _ (hB.trans xb) (fun hHeld => ?_)
  clear hK K
  have hB := hB.trans xb
  have hW := zz0.trans hB
  refine wpAnyH_ready (rs := [16]) (by kernel_rfl) (by simp) (AllReadyH.cons rfl (fun K hK => ?_) AllReadyH.nil)
  rw [if_pos (by rfl)]
  refine wp_app2 (o := { dst := some 103, op := Op.call { callee := Callee.builtin Builtin.append, args := #[Operand.tmp 87, Operand.tmp 102], argTypes := #[29, 29] }, type := 29, pos := "ref.go:67", after := #[{ on := 0, ground := Ground.data }, { on := 15, ground := Ground.data }], guard := none }) el29 (.tmp 87) (.tmp 102) rfl own0 rfl (r3.ext hW).shows rfl (u8s_one _) (le_max (by omega)) (by omega) rfl hB ?_; intro V1 wq own1 x9 hg9 hat9
  simp only [Act.put, List.setIfInBounds_toArray, List.set_cons_zero, List.set_cons_succ]
  refine hK.out _ _ x9 (fun hHeld => ?_)
  clear hK K
  have hB := x9
  have hW := zz0.trans hB
  clear own0 hg9 hat9
  obtain ⟨A4, c4, rfl, l4, m4, r4, q4⟩ := back0 own1 r3.byts
  refine wpAnyH_take (i := 17) (oi := { dst := some 13, op := Op.assign (Operand.tmp 103), type := 29, pos := "ref.go:67", after := #[{ on := 16, ground := Ground.data }, { on := 16, ground := Ground.chain }, { on := 0, ground := Ground.phase }, { on := 1, ground := Ground.phase }, { on := 2, ground := Ground.phase }, { on := 3, ground := Ground.phase }, { on := 4, ground := Ground.phase }, { on := 5, ground := Ground.phase }, { on := 6, ground := Ground.phase }, { on := 7, ground := Ground.phase }, { on := 8, ground := Ground.phase }, { on := 9, ground := Ground.phase }, { on := 10, ground := Ground.phase }, { on := 11, ground := Ground.phase }, { on := 12, ground := Ground.phase }, { on := 13, ground := Ground.phase }, { on := 14, ground := Ground.phase }, { on := 15, ground := Ground.phase }, { on := 16, ground := Ground.phase }], guard := none }) (v := ?vv17_16_17) rfl (by kernel_rfl) (by kernel_rfl) (by kernel_rfl) (fun _ _ _ h => h) (Or.inl ⟨by rfl, ?yy17_16_17⟩) hHeld ?_
  case yy17_16_17 => (intro W hx; go_simp; try with_reducible rfl)
  simp only [Act.put, List.setIfInBounds_toArray, List.set_cons_zero, List.set_cons_succ]
  refine wpAnyH_done (by kernel_rfl) ?_ _
  have zend := hW
  have K4 := (zend.block _ (blk_lt K3)).trans K3
  obtain ⟨f0, f1, f2, f3, f4, f5⟩ := cells6 K4
  have z4 := blk_free (i := 4) K4
  go_upto_region 18 with (fail)
  obtain ⟨w5, hw5, K5, x5⟩ := set_new 4 (.int .i64 (q : Int)) K4
  rw [← hw5]; clear hw5
  go_wp2
  go_ret3
  rw [← HS.out]
  exact rpost_of HRR.out HSN.out HT.out HM.out HQ.out HD.out (Ext.refl w2) xw3 zend HGG.out HKF.out K4 K5 x5 r4 l4 m4 (fun ad e => by have := q4 ad e; have := zz0.size; have := blk_lt K3; omega) (.inl hfg.out)
set_option maxRecDepth 100000 in
set_option maxHeartbeats 2000000 in
theorem rseed_ok4 (g : Nat) (s : LSt) (F : Nat → Prop) (dA : Option Addr) (n c : Nat) (bs : List Int) (w : World) (hr : Rd w dA n bs) (hF : 0 < n → ∀ ad, dA = some ad → ¬ F ad.block) (h1 : 1 ≤ n) (h2 : n ≤ 20) (h : RkC w g s F) (hz : bits .and .u8 s.lk 4 ≠ 0) :
    Calls Try.prog 13 #[.pointer (some ⟨g, 0, none⟩), .int .u8 0, .int .u8 4, .slice dA n c] w (RSeedPost w g F (LSt.part { s.clear with seed := bs, res := 4 })) := by
  obtain ⟨sA0, sc0, kA0, kc0, h⟩ := h
  have hzz : (bits .and .u8 s.lk 4 == 0) = false := by simpa using hz
  clear hz
  have HF := Lib.hid hF
  have hlen := Lib.hid hr.len
  have r01 : (0 : Int) ≤ 4 ∧ (4 : Int) < 256 := by omega
  go_enter Try.func13, Try.ntmps13
  clear hF
  go_upto_region 7 with (go_at_call 27; (refine (rforget_any _ _ _ _ _ _ _ _ _ _ _ _ h.row).mono ?_); rintro e wa ⟨rfl, Ka, xa⟩)
  have ka : Kept F w wa := .of_grown xa (fun b e => by injection e with e; subst e; exact h.fg)
  obtain ⟨f0, f1, f2, f3, f4, f5⟩ := cells6 Ka
  have ra := hr.kept ka (HF.out (by omega))
  go_upto_region 9 with (fail)
  go_upto_region 10 with (at_builtin; refine wpList_app el29 rfl _ _ rfl (World.ownsRow_lit _ #[] 0 (Nat.le_refl _) (by simp) rfl) rfl ((ra.ext ((Ext.refl _).alloc _)).shows) rfl (u8s_one _) (le_max (by omega)) (by omega) rfl ((Ext.refl _).alloc _) ?_; intro vb wb ownb xb hgb hatb; clear hgb hatb; obtain ⟨Ab, cb, rfl, lb, mb, rb, qb⟩ := back0 ownb ra.byts; have Kb := (xb.block _ (blk_lt Ka)).trans Ka; clear f0 f1 f2 f3 f4 f5; obtain ⟨f0, f1, f2, f3, f4, f5⟩ := cells6 Kb; have z2 := blk_free (i := 2) Kb; have z3 := blk_free (i := 3) Kb)
  obtain ⟨wc, hwc, Kc, xc⟩ := set_new 2 (.slice Ab n cb) Kb
  rw [← hwc]; clear hwc
  clear f0 f1 f2 f3 f4 f5 z2
  obtain ⟨f0, f1, f2, f3, f4, f5⟩ := cells6 Kc
  have z3 := blk_free (i := 3) Kc
  go_upto_region 11 with (fail)
  obtain ⟨w2, hw2, K2', x2'⟩ := set_new 3 (.int .u8 4) Kc
  rw [← hw2]; clear hw2
  have xac := xc.trans x2'
  have kg : Kept (· = g) wb w2 := .of_grown xac (fun b e => by injection e with e; exact e.symm)
  have hgl := blk_lt Ka
  have hne : ∀ ad, Ab = some ad → ad.block ≠ g := fun ad e => by have := qb ad e; omega
  have r5 := rb.kept kg hne
  have kF : Kept F w w2 := (ka.then xb).trans kg (fun i _ e => by subst e; exact h.fg)
  obtain ⟨s', hs'⟩ : ∃ s' : LSt, s' = { s.clear with seed := bs, res := 4 } := ⟨_, rfl⟩
  have hl := hlen.out
  have hAb : Ab ≠ none := by
    obtain ⟨ad, e, _⟩ := rb.shows.2 (by omega)
    rw [e]; exact fun e => nomatch e
  have hR : RkR w2 g s' (fun k => F k ∨ ∃ ad, Ab = some ad ∧ k = ad.block) Ab cb none 0 := by
    subst hs' hl
    exact ⟨K2', r5, lb, ⟨fun e => by have e : bs.length = 0 := e; omega, fun e => absurd e hAb⟩, Rd.nil, .inl h.fg, fun ad e => ⟨.inr ⟨ad, e, rfl⟩, hne ad e⟩, (fun b e => nomatch e), (fun i hi => by
      rcases hi with hi | ⟨ad, e, rfl⟩
      · exact Nat.lt_of_lt_of_le (h.lt i hi) kF.size
      · obtain ⟨ad', e', hb, _⟩ := r5.shows.2 (by omega)
        rw [e] at e'; injection e' with e'; subst e'; exact hb), ⟨h.ok.all, h.ok.lk, r01, by simp [LSt.clear], by simpa using h2, by simp [LSt.clear]⟩⟩
  have HS := Lib.hid hs'
  have HG : ∀ i, (F i ∨ ∃ ad, Ab = some ad ∧ i = ad.block) → F i ∨ w.heap.size ≤ i := by
    rintro i (hi | ⟨ad, e, rfl⟩)
    · exact .inl hi
    · have := qb ad e; have := ka.size; exact .inr (by omega)
  have HGG := Lib.hid HG
  have HKF := Lib.hid kF
  have hfg := Lib.hid h.fg
  generalize hsA : Ab = sA at *
  generalize hsc : cb = sc at *
  obtain ⟨kA, hkA⟩ : ∃ kA : Option Addr, Hid (kA = none) := ⟨_, rfl⟩
  obtain ⟨kc, hkc⟩ : ∃ kc : Nat, Hid (kc = 0) := ⟨_, rfl⟩
  rw [← hkA.out, ← hkc.out] at hR
  clear f0 f1 f2 f3 f4 f5 z3 Kc Kb rb r5 hAb hne qb HG kF kg xac x2' K2' HF hr hs' hsA hsc lb mb ra hl hgl hzz
  have ht := hR.ok.told
  have hl20 := hR.ok.len
  have HRR := Lib.hid hR
  obtain ⟨sn, hsn⟩ : ∃ sn, sn = s'.seed.length := ⟨_, rfl⟩
  obtain ⟨told, htold⟩ : ∃ t, t = s'.told := ⟨_, rfl⟩
  have K2 := hR.row
  have r2 := hR.seed
  have hcap := hR.cap
  rw [← hsn] at K2 r2 hcap ht hl20
  rw [← htold] at K2 ht
  obtain ⟨m, hm⟩ : ∃ m, m = partN sn told := ⟨_, rfl⟩
  obtain ⟨d, hd⟩ : ∃ d, d = sn - told := ⟨_, rfl⟩
  have hmin : (if (6 : Int) < d then (6 : Int) else d) = m := by rw [hm]; unfold partN; split <;> omega
  have hsub : (sn : Int) - told = d := by omega
  have hmd : m ≤ d := by rw [hm]; unfold partN; omega
  obtain ⟨q, hq⟩ : ∃ q, q = told + m := ⟨_, rfl⟩
  have hadd : (told : Int) + m = (q : Int) := by omega
  have htm : told + m ≤ sn := by omega
  have hqc : q ≤ sc := by omega
  have htq : told ≤ q := by omega
  have hqt : q - told = m := by omega
  have hq20 : q ≤ 20 := by omega
  have hwq : IntKind.i64.wrap (q : Int) = q := by rw [IntKind.wrap_i64]; omega
  have hqcI : (q : Int) ≤ sc := by omega
  have HSN := Lib.hid hsn
  have HT := Lib.hid htold
  have HM := Lib.hid hm
  have HQ := Lib.hid hq
  have HD := Lib.hid hd
  clear hsn htold hm hq hd hR
  obtain ⟨f0, f1, f2, f3, f4, f5⟩ := cells6 K2
  go_upto_region 14 with (fail)
  go_quiet (fail)
  obtain ⟨w3, hWq⟩ : ∃ z : World, z = World.drewN w2 nq := ⟨_, rfl⟩
  rw [← hWq]
  have xw3 : Ext w2 w3 := by rw [hWq]; exact (Ext.refl _).drewN _
  clear hWq
  clear f0 f1 f2 f3 f4 f5
  have K3 := (xw3.block _ (blk_lt K2)).trans K2
  have r3 := ((r2.ext xw3).drop (k := told) ht hcap).take (k := m) (by omega)
  obtain ⟨pA, hpA⟩ : ∃ p, (if sc = told then sA else Option.map (fun x => x.add told) sA) = p := ⟨_, rfl⟩
  have r3 : Rd w3 pA m ((s'.seed.drop told).take m) := by rw [← hpA]; simpa using r3
  obtain ⟨f0, f1, f2, f3, f4, f5⟩ := cells6 K3
  go_upto_region 16 with (fail)
  clear f0 f1 f2 f3 f4 f5
  refine wp_region_held_drew (S := Ext w3) (by kernel_rfl) ((Ext.refl _).drew) (fun hHeld => ?_)
  obtain ⟨wD18, hwD⟩ : ∃ V, V = World.drew w3 := ⟨_, rfl⟩
  rw [← hwD]
  clear hHeld
  have zz0 : Ext w3 wD18 := by rw [hwD]; exact (Ext.refl _).drew
  clear hwD
  refine wpAnyH_imp (S' := Ext wD18) (fun W h => Ext.trans zz0 h) _ _ _ _ ?_
  have hHeld := Ext.refl wD18
  have hB := Ext.refl wD18
  have hW := zz0
  refine wpAnyH_take (i := 1) (oi := { dst := some 88, op := Op.move (Operand.tmp 0), type := 26, pos := "ref.go:67", after := #[], guard := none }) (v := ?vv19_16_1) rfl (by kernel_rfl) (by kernel_rfl) (by kernel_rfl) (fun _ _ _ h => h) (Or.inl ⟨by rfl, ?yy19_16_1⟩) hHeld ?_
  case yy19_16_1 => (intro W hx; go_simp; try with_reducible rfl)
  simp only [Act.put, List.setIfInBounds_toArray, List.set_cons_zero, List.set_cons_succ]
  refine wpAnyH_take (i := 2) (oi := { dst := some 89, op := Op.nilCheck (Operand.tmp 88), type := 0, pos := "ref.go:67", after := #[{ on := 1, ground := Ground.data }], guard := none }) (v := ?vv20_16_2) rfl (by kernel_rfl) (by kernel_rfl) (by kernel_rfl) (fun _ _ _ h => h) (Or.inl ⟨by rfl, ?yy20_16_2⟩) hHeld ?_
  case yy20_16_2 => (intro W hx; go_simp; try with_reducible rfl)
  simp only [Act.put, List.setIfInBounds_toArray, List.set_cons_zero, List.set_cons_succ]
  refine wpAnyH_take (i := 3) (oi := { dst := some 90, op := Op.fieldAddr 38 (Operand.tmp 89) 2, type := 0, pos := "ref.go:67", after := #[{ on := 2, ground := Ground.data }], guard := none }) (v := ?vv21_16_3) rfl (by kernel_rfl) (by kernel_rfl) (by kernel_rfl) (fun _ _ _ h => h) (Or.inl ⟨by rfl, ?yy21_16_3⟩) hHeld ?_
  case yy21_16_3 => (intro W hx; go_simp; try with_reducible rfl)
  simp only [Act.put, List.setIfInBounds_toArray, List.set_cons_zero, List.set_cons_succ]
  refine wpAnyH_take (i := 4) (oi := { dst := some 91, op := Op.load 29 (Operand.tmp 90), type := 29, pos := "ref.go:67", after := #[{ on := 3, ground := Ground.data }], guard := none }) (v := ?vv22_16_4) rfl (by kernel_rfl) (by kernel_rfl) (by kernel_rfl) (fun _ _ _ h => h) (Or.inl ⟨by rfl, ?yy22_16_4⟩) hHeld ?_
  case yy22_16_4 => (intro W hx; have hz := zz0.trans hx; obtain ⟨f0, f1, f2, f3, f4, f5⟩ := cells6 ((hz.block _ (blk_lt K3)).trans K3); go_simp; try with_reducible rfl)
  simp only [Act.put, List.setIfInBounds_toArray, List.set_cons_zero, List.set_cons_succ]
  refine wpAnyH_take (i := 5) (oi := { dst := some 92, op := Op.move (Operand.tmp 0), type := 26, pos := "ref.go:67", after := #[], guard := none }) (v := ?vv23_16_5) rfl (by kernel_rfl) (by kernel_rfl) (by kernel_rfl) (fun _ _ _ h => h) (Or.inl ⟨by rfl, ?yy23_16_5⟩) hHeld ?_
  case yy23_16_5 => (intro W hx; go_simp; try with_reducible rfl)
  simp only [Act.put, List.setIfInBounds_toArray, List.set_cons_zero, List.set_cons_succ]
  refine wpAnyH_take (i := 6) (oi := { dst := some 93, op := Op.nilCheck (Operand.tmp 92), type := 0, pos := "ref.go:67", after := #[{ on := 5, ground := Ground.data }], guard := none }) (v := ?vv24_16_6) rfl (by kernel_rfl) (by kernel_rfl) (by kernel_rfl) (fun _ _ _ h => h) (Or.inl ⟨by rfl, ?yy24_16_6⟩) hHeld ?_
  case yy24_16_6 => (intro W hx; go_simp; try with_reducible rfl)
  simp only [Act.put, List.setIfInBounds_toArray, List.set_cons_zero, List.set_cons_succ]
  refine wpAnyH_take (i := 7) (oi := { dst := some 94, op := Op.fieldAddr 38 (Operand.tmp 93) 4, type := 0, pos := "ref.go:67", after := #[{ on := 6, ground := Ground.data }], guard := none }) (v := ?vv25_16_7) rfl (by kernel_rfl) (by kernel_rfl) (by kernel_rfl) (fun _ _ _ h => h) (Or.inl ⟨by rfl, ?yy25_16_7⟩) hHeld ?_
  case yy25_16_7 => (intro W hx; go_simp; try with_reducible rfl)
  simp only [Act.put, List.setIfInBounds_toArray, List.set_cons_zero, List.set_cons_succ]
  refine wpAnyH_take (i := 8) (oi := { dst := some 95, op := Op.load 3 (Operand.tmp 94), type := 3, pos := "ref.go:67", after := #[{ on := 7, ground := Ground.data }], guard := none }) (v := ?vv26_16_8) rfl (by kernel_rfl) (by kernel_rfl) (by kernel_rfl) (fun _ _ _ h => h) (Or.inl ⟨by rfl, ?yy26_16_8⟩) hHeld ?_
  case yy26_16_8 => (intro W hx; have hz := zz0.trans hx; obtain ⟨f0, f1, f2, f3, f4, f5⟩ := cells6 ((hz.block _ (blk_lt K3)).trans K3); go_simp; try with_reducible rfl)
  simp only [Act.put, List.setIfInBounds_toArray, List.set_cons_zero, List.set_cons_succ]
  refine wpAnyH_take (i := 9) (oi := { dst := some 96, op := Op.move (Operand.tmp 0), type := 26, pos := "ref.go:67", after := #[], guard := none }) (v := ?vv27_16_9) rfl (by kernel_rfl) (by kernel_rfl) (by kernel_rfl) (fun _ _ _ h => h) (Or.inl ⟨by rfl, ?yy27_16_9⟩) hHeld ?_
  case yy27_16_9 => (intro W hx; go_simp; try with_reducible rfl)
  simp only [Act.put, List.setIfInBounds_toArray, List.set_cons_zero, List.set_cons_succ]
  refine wpAnyH_take (i := 10) (oi := { dst := some 97, op := Op.nilCheck (Operand.tmp 96), type := 0, pos := "ref.go:67", after := #[{ on := 9, ground := Ground.data }], guard := none }) (v := ?vv28_16_10) rfl (by kernel_rfl) (by kernel_rfl) (by kernel_rfl) (fun _ _ _ h => h) (Or.inl ⟨by rfl, ?yy28_16_10⟩) hHeld ?_
  case yy28_16_10 => (intro W hx; go_simp; try with_reducible rfl)
  simp only [Act.put, List.setIfInBounds_toArray, List.set_cons_zero, List.set_cons_succ]
  refine wpAnyH_take (i := 11) (oi := { dst := some 98, op := Op.fieldAddr 38 (Operand.tmp 97) 4, type := 0, pos := "ref.go:67", after := #[{ on := 10, ground := Ground.data }], guard := none }) (v := ?vv29_16_11) rfl (by kernel_rfl) (by kernel_rfl) (by kernel_rfl) (fun _ _ _ h => h) (Or.inl ⟨by rfl, ?yy29_16_11⟩) hHeld ?_
  case yy29_16_11 => (intro W hx; go_simp; try with_reducible rfl)
  simp only [Act.put, List.setIfInBounds_toArray, List.set_cons_zero, List.set_cons_succ]
  refine wpAnyH_take (i := 12) (oi := { dst := some 99, op := Op.load 3 (Operand.tmp 98), type := 3, pos := "ref.go:67", after := #[{ on := 11, ground := Ground.data }], guard := none }) (v := ?vv30_16_12) rfl (by kernel_rfl) (by kernel_rfl) (by kernel_rfl) (fun _ _ _ h => h) (Or.inl ⟨by rfl, ?yy30_16_12⟩) hHeld ?_
  case yy30_16_12 => (intro W hx; have hz := zz0.trans hx; obtain ⟨f0, f1, f2, f3, f4, f5⟩ := cells6 ((hz.block _ (blk_lt K3)).trans K3); go_simp; try with_reducible rfl)
  simp only [Act.put, List.setIfInBounds_toArray, List.set_cons_zero, List.set_cons_succ]
  refine wpAnyH_take (i := 13) (oi := { dst := some 100, op := Op.move (Operand.tmp 12), type := 3, pos := "ref.go:67", after := #[], guard := none }) (v := ?vv31_16_13) rfl (by kernel_rfl) (by kernel_rfl) (by kernel_rfl) (fun _ _ _ h => h) (Or.inl ⟨by rfl, ?yy31_16_13⟩) hHeld ?_
  case yy31_16_13 => (intro W hx; go_simp; try with_reducible rfl)
  simp only [Act.put, List.setIfInBounds_toArray, List.set_cons_zero, List.set_cons_succ]
  refine wpAnyH_take (i := 14) (oi := { dst := some 101, op := Op.binOp BinOp.add 3 (Operand.tmp 99) (Operand.tmp 100) 3, type := 3, pos := "ref.go:67", after := #[{ on := 12, ground := Ground.data }, { on := 13, ground := Ground.data }], guard := none }) (v := ?vv32_16_14) rfl (by kernel_rfl) (by kernel_rfl) (by kernel_rfl) (fun _ _ _ h => h) (Or.inl ⟨by rfl, ?yy32_16_14⟩) hHeld ?_
  case yy32_16_14 => (intro W hx; go_simp; try with_reducible rfl)
  simp only [Act.put, List.setIfInBounds_toArray, List.set_cons_zero, List.set_cons_succ]
  refine wpAnyH_take (i := 15) (oi := { dst := some 102, op := Op.slice 29 (Operand.tmp 91) (some (Operand.tmp 95)) (some (Operand.tmp 101)) none, type := 29, pos := "ref.go:67", after := #[{ on := 4, ground := Ground.data }, { on := 8, ground := Ground.data }, { on := 14, ground := Ground.data }], guard := none }) (v := ?vv33_16_15) rfl (by kernel_rfl) (by kernel_rfl) (by kernel_rfl) (fun _ _ _ h => h) (Or.inl ⟨by rfl, ?yy33_16_15⟩) hHeld ?_
  case yy33_16_15 => (intro W hx; go_simp; try with_reducible rfl)
  simp only [Act.put, List.setIfInBounds_toArray, List.set_cons_zero, List.set_cons_succ]
  refine wpAnyH_ready (rs := [0]) (by kernel_rfl) (by simp) (AllReadyH.cons rfl (fun K hK => ?_) AllReadyH.nil)
  go_simp
  obtain ⟨wb, hw⟩ : ∃ V, V = World.alloc wD18 (.cells #[] 5) := ⟨_, rfl⟩
  rw [← hw]
  have xb : Ext wD18 wb := by rw [hw]; exact (Ext.refl _).alloc _
  have own0 := own_eq hw (own_lit (e := 5) (size := 1) #[] 0 rfl hB.size (le_max (by omega)) rfl)
  clear hw
  refine hK.out _ _ (hB.trans xb) (fun hHeld => ?_)
  clear hK K
  have hB := hB.trans xb
  have hW := zz0.trans hB
  refine wpAnyH_ready (rs := [16]) (by kernel_rfl) (by simp) (AllReadyH.cons rfl (fun K hK => ?_) AllReadyH.nil)
  rw [if_pos (by rfl)]
  refine wp_app2 (o := { dst := some 103, op := Op.call { callee := Callee.builtin Builtin.append, args := #[Operand.tmp 87, Operand.tmp 102], argTypes := #[29, 29] }, type := 29, pos := "ref.go:67", after := #[{ on := 0, ground := Ground.data }, { on := 15, ground := Ground.data }], guard := none }) el29 (.tmp 87) (.tmp 102) rfl own0 rfl (r3.ext hW).shows rfl (u8s_one _) (le_max (by omega)) (by omega) rfl hB ?_; intro V1 wq own1 x9 hg9 hat9
  simp only [Act.put, List.setIfInBounds_toArray, List.set_cons_zero, List.set_cons_succ]
  refine hK.out _ _ x9 (fun hHeld => ?_)
  clear hK K
  have hB := x9
  have hW := zz0.trans hB
  clear own0 hg9 hat9
  obtain ⟨A4, c4, rfl, l4, m4, r4, q4⟩ := back0 own1 r3.byts
  refine wpAnyH_take (i := 17) (oi := { dst := some 13, op := Op.assign (Operand.tmp 103), type := 29, pos := "ref.go:67", after := #[{ on := 16, ground := Ground.data }, { on := 16, ground := Ground.chain }, { on := 0, ground := Ground.phase }, { on := 1, ground := Ground.phase }, { on := 2, ground := Ground.phase }, { on := 3, ground := Ground.phase }, { on := 4, ground := Ground.phase }, { on := 5, ground := Ground.phase }, { on := 6, ground := Ground.phase }, { on := 7, ground := Ground.phase }, { on := 8, ground := Ground.phase }, { on := 9, ground := Ground.phase }, { on := 10, ground := Ground.phase }, { on := 11, ground := Ground.phase }, { on := 12, ground := Ground.phase }, { on := 13, ground := Ground.phase }, { on := 14, ground := Ground.phase }, { on := 15, ground := Ground.phase }, { on := 16, ground := Ground.phase }], guard := none }) (v := ?vv34_16_17) rfl (by kernel_rfl) (by kernel_rfl) (by kernel_rfl) (fun _ _ _ h => h) (Or.inl ⟨by rfl, ?yy34_16_17⟩) hHeld ?_
  case yy34_16_17 => (intro W hx; go_simp; try with_reducible rfl)
  simp only [Act.put, List.setIfInBounds_toArray, List.set_cons_zero, List.set_cons_succ]
  refine wpAnyH_done (by kernel_rfl) ?_ _
  have zend := hW
  have K4 := (zend.block _ (blk_lt K3)).trans K3
  obtain ⟨f0, f1, f2, f3, f4, f5⟩ := cells6 K4
  have z4 := blk_free (i := 4) K4
  go_upto_region 18 with (fail)
  obtain ⟨w5, hw5, K5, x5⟩ := set_new 4 (.int .i64 (q : Int)) K4
  rw [← hw5]; clear hw5
  go_wp2
  go_ret3
  rw [← HS.out]
  exact rpost_of HRR.out HSN.out HT.out HM.out HQ.out HD.out (Ext.refl w2) xw3 zend HGG.out HKF.out K4 K5 x5 r4 l4 m4 (fun ad e => by have := q4 ad e; have := zz0.size; have := blk_lt K3; omega) (.inl hfg.out)
set_option maxRecDepth 100000 in
set_option maxHeartbeats 2000000 in
theorem rseed_ok8 (g : Nat) (s : LSt) (F : Nat → Prop) (dA : Option Addr) (n c : Nat) (bs : List Int) (w : World) (hr : Rd w dA n bs) (hF : 0 < n → ∀ ad, dA = some ad → ¬ F ad.block) (h1 : 1 ≤ n) (h2 : n ≤ 20) (h : RkC w g s F) (hz : bits .and .u8 s.lk 8 ≠ 0) :
    Calls Try.prog 13 #[.pointer (some ⟨g, 0, none⟩), .int .u8 0, .int .u8 8, .slice dA n c] w (RSeedPost w g F (LSt.part { s.clear with seed := bs, res := 8 })) := by
  obtain ⟨sA0, sc0, kA0, kc0, h⟩ := h
  have hzz : (bits .and .u8 s.lk 8 == 0) = false := by simpa using hz
  clear hz
  have HF := Lib.hid hF
  have hlen := Lib.hid hr.len
  have r01 : (0 : Int) ≤ 8 ∧ (8 : Int) < 256 := by omega
  go_enter Try.func13, Try.ntmps13
  clear hF
  go_upto_region 7 with (go_at_call 27; (refine (rforget_any _ _ _ _ _ _ _ _ _ _ _ _ h.row).mono ?_); rintro e wa ⟨rfl, Ka, xa⟩)
  have ka : Kept F w wa := .of_grown xa (fun b e => by injection e with e; subst e; exact h.fg)
  obtain ⟨f0, f1, f2, f3, f4, f5⟩ := cells6 Ka
  have ra := hr.kept ka (HF.out (by omega))
  go_upto_region 9 with (fail)
  go_upto_region 10 with (at_builtin; refine wpList_app el29 rfl _ _ rfl (World.ownsRow_lit _ #[] 0 (Nat.le_refl _) (by simp) rfl) rfl ((ra.ext ((Ext.refl _).alloc _)).shows) rfl (u8s_one _) (le_max (by omega)) (by omega) rfl ((Ext.refl _).alloc _) ?_; intro vb wb ownb xb hgb hatb; clear hgb hatb; obtain ⟨Ab, cb, rfl, lb, mb, rb, qb⟩ := back0 ownb ra.byts; have Kb := (xb.block _ (blk_lt Ka)).trans Ka; clear f0 f1 f2 f3 f4 f5; obtain ⟨f0, f1, f2, f3, f4, f5⟩ := cells6 Kb; have z2 := blk_free (i := 2) Kb; have z3 := blk_free (i := 3) Kb)
  obtain ⟨wc, hwc, Kc, xc⟩ := set_new 2 (.slice Ab n cb) Kb
  rw [← hwc]; clear hwc
  clear f0 f1 f2 f3 f4 f5 z2
  obtain ⟨f0, f1, f2, f3, f4, f5⟩ := cells6 Kc
  have z3 := blk_free (i := 3) Kc
  go_upto_region 11 with (fail)
  obtain ⟨w2, hw2, K2', x2'⟩ := set_new 3 (.int .u8 8) Kc
  rw [← hw2]; clear hw2
  have xac := xc.trans x2'
  have kg : Kept (· = g) wb w2 := .of_grown xac (fun b e => by injection e with e; exact e.symm)
  have hgl := blk_lt Ka
  have hne : ∀ ad, Ab = some ad → ad.block ≠ g := fun ad e => by have := qb ad e; omega
  have r5 := rb.kept kg hne
  have kF : Kept F w w2 := (ka.then xb).trans kg (fun i _ e => by subst e; exact h.fg)
  obtain ⟨s', hs'⟩ : ∃ s' : LSt, s' = { s.clear with seed := bs, res := 8 } := ⟨_, rfl⟩
  have hl := hlen.out
  have hAb : Ab ≠ none := by
    obtain ⟨ad, e, _⟩ := rb.shows.2 (by omega)
    rw [e]; exact fun e => nomatch e
  have hR : RkR w2 g s' (fun k => F k ∨ ∃ ad, Ab = some ad ∧ k = ad.block) Ab cb none 0 := by
    subst hs' hl
    exact ⟨K2', r5, lb, ⟨fun e => by have e : bs.length = 0 := e; omega, fun e => absurd e hAb⟩, Rd.nil, .inl h.fg, fun ad e => ⟨.inr ⟨ad, e, rfl⟩, hne ad e⟩, (fun b e => nomatch e), (fun i hi => by
      rcases hi with hi | ⟨ad, e, rfl⟩
      · exact Nat.lt_of_lt_of_le (h.lt i hi) kF.size
      · obtain ⟨ad', e', hb, _⟩ := r5.shows.2 (by omega)
        rw [e] at e'; injection e' with e'; subst e'; exact hb), ⟨h.ok.all, h.ok.lk, r01, by simp [LSt.clear], by simpa using h2, by simp [LSt.clear]⟩⟩
  have HS := Lib.hid hs'
  have HG : ∀ i, (F i ∨ ∃ ad, Ab = some ad ∧ i = ad.block) → F i ∨ w.heap.size ≤ i := by
    rintro i (hi | ⟨ad, e, rfl⟩)
    · exact .inl hi
    · have := qb ad e; have := ka.size; exact .inr (by omega)
  have HGG := Lib.hid HG
  have HKF := Lib.hid kF
  have hfg := Lib.hid h.fg
  generalize hsA : Ab = sA at *
  generalize hsc : cb = sc at *
  obtain ⟨kA, hkA⟩ : ∃ kA : Option Addr, Hid (kA = none) := ⟨_, rfl⟩
  obtain ⟨kc, hkc⟩ : ∃ kc : Nat, Hid (kc = 0) := ⟨_, rfl⟩
  rw [← hkA.out, ← hkc.out] at hR
  clear f0 f1 f2 f3 f4 f5 z3 Kc Kb rb r5 hAb hne qb HG kF kg xac x2' K2' HF hr hs' hsA hsc lb mb ra hl hgl hzz
  have ht := hR.ok.told
  have hl20 := hR.ok.len
  have HRR := Lib.hid hR
  obtain ⟨sn, hsn⟩ : ∃ sn, sn = s'.seed.length := ⟨_, rfl⟩
  obtain ⟨told, htold⟩ : ∃ t, t = s'.told := ⟨_, rfl⟩
  have K2 := hR.row
  have r2 := hR.seed
  have hcap := hR.cap
  rw [← hsn] at K2 r2 hcap ht hl20
  rw [← htold] at K2 ht
  obtain ⟨m, hm⟩ : ∃ m, m = partN sn told := ⟨_, rfl⟩
  obtain ⟨d, hd⟩ : ∃ d, d = sn - told := ⟨_, rfl⟩
  have hmin : (if (6 : Int) < d then (6 : Int) else d) = m := by rw [hm]; unfold partN; split <;> omega
  have hsub : (sn : Int) - told = d := by omega
  have hmd : m ≤ d := by rw [hm]; unfold partN; omega
  obtain ⟨q, hq⟩ : ∃ q, q = told + m := ⟨_, rfl⟩
  have hadd : (told : Int) + m = (q : Int) := by omega
  have htm : told + m ≤ sn := by omega
  have hqc : q ≤ sc := by omega
  have htq : told ≤ q := by omega
  have hqt : q - told = m := by omega
  have hq20 : q ≤ 20 := by omega
  have hwq : IntKind.i64.wrap (q : Int) = q := by rw [IntKind.wrap_i64]; omega
  have hqcI : (q : Int) ≤ sc := by omega
  have HSN := Lib.hid hsn
  have HT := Lib.hid htold
  have HM := Lib.hid hm
  have HQ := Lib.hid hq
  have HD := Lib.hid hd
  clear hsn htold hm hq hd hR
  obtain ⟨f0, f1, f2, f3, f4, f5⟩ := cells6 K2
  go_upto_region 14 with (fail)
  go_quiet (fail)
  obtain ⟨w3, hWq⟩ : ∃ z : World, z = World.drewN w2 nq := ⟨_, rfl⟩
  rw [← hWq]
  have xw3 : Ext w2 w3 := by rw [hWq]; exact (Ext.refl _).drewN _
  clear hWq
  clear f0 f1 f2 f3 f4 f5
  have K3 := (xw3.block _ (blk_lt K2)).trans K2
  have r3 := ((r2.ext xw3).drop (k := told) ht hcap).take (k := m) (by omega)
  obtain ⟨pA, hpA⟩ : ∃ p, (if sc = told then sA else Option.map (fun x => x.add told) sA) = p := ⟨_, rfl⟩
  have r3 : Rd w3 pA m ((s'.seed.drop told).take m) := by rw [← hpA]; simpa using r3
  obtain ⟨f0, f1, f2, f3, f4, f5⟩ := cells6 K3
  go_upto_region 16 with (fail)
  clear f0 f1 f2 f3 f4 f5
  refine wp_region_held_drew (S := Ext w3) (by kernel_rfl) ((Ext.refl _).drew) (fun hHeld => ?_)
  obtain ⟨wD35, hwD⟩ : ∃ V, V = World.drew w3 := ⟨_, rfl⟩
  rw [← hwD]
  clear hHeld
  have zz0 : Ext w3 wD35 := by rw [hwD]; exact (Ext.refl _).drew
  clear hwD
  refine wpAnyH_imp (S' := Ext wD35) (fun W h => Ext.trans zz0 h) _ _ _ _ ?_
  have hHeld := Ext.refl wD35
  have hB := Ext.refl wD35
  have hW := zz0
  refine wpAnyH_take (i := 1) (oi := { dst := some 88, op := Op.move (Operand.tmp 0), type := 26, pos := "ref.go:67", after := #[], guard := none }) (v := ?vv36_16_1) rfl (by kernel_rfl) (by kernel_rfl) (by kernel_rfl) (fun _ _ _ h => h) (Or.inl ⟨by rfl, ?yy36_16_1⟩) hHeld ?_
  case yy36_16_1 => (intro W hx; go_simp; try with_reducible rfl)
  simp only [Act.put, List.setIfInBounds_toArray, List.set_cons_zero, List.set_cons_succ]
  refine wpAnyH_take (i := 2) (oi := { dst := some 89, op := Op.nilCheck (Operand.tmp 88), type := 0, pos := "ref.go:67", after := #[{ on := 1, ground := Ground.data }], guard := none }) (v := ?vv37_16_2) rfl (by kernel_rfl) (by kernel_rfl) (by kernel_rfl) (fun _ _ _ h => h) (Or.inl ⟨by rfl, ?yy37_16_2⟩) hHeld ?_
  case yy37_16_2 => (intro W hx; go_simp; try with_reducible rfl)
  simp only [Act.put, List.setIfInBounds_toArray, List.set_cons_zero, List.set_cons_succ]
  refine wpAnyH_take (i := 3) (oi := { dst := some 90, op := Op.fieldAddr 38 (Operand.tmp 89) 2, type := 0, pos := "ref.go:67", after := #[{ on := 2, ground := Ground.data }], guard := none }) (v := ?vv38_16_3) rfl (by kernel_rfl) (by kernel_rfl) (by kernel_rfl) (fun _ _ _ h => h) (Or.inl ⟨by rfl, ?yy38_16_3⟩) hHeld ?_
  case yy38_16_3 => (intro W hx; go_simp; try with_reducible rfl)
  simp only [Act.put, List.setIfInBounds_toArray, List.set_cons_zero, List.set_cons_succ]
  refine wpAnyH_take (i := 4) (oi := { dst := some 91, op := Op.load 29 (Operand.tmp 90), type := 29, pos := "ref.go:67", after := #[{ on := 3, ground := Ground.data }], guard := none }) (v := ?vv39_16_4) rfl (by kernel_rfl) (by kernel_rfl) (by kernel_rfl) (fun _ _ _ h => h) (Or.inl ⟨by rfl, ?yy39_16_4⟩) hHeld ?_
  case yy39_16_4 => (intro W hx; have hz := zz0.trans hx; obtain ⟨f0, f1, f2, f3, f4, f5⟩ := cells6 ((hz.block _ (blk_lt K3)).trans K3); go_simp; try with_reducible rfl)
  simp only [Act.put, List.setIfInBounds_toArray, List.set_cons_zero, List.set_cons_succ]
  refine wpAnyH_take (i := 5) (oi := { dst := some 92, op := Op.move (Operand.tmp 0), type := 26, pos := "ref.go:67", after := #[], guard := none }) (v := ?vv40_16_5) rfl (by kernel_rfl) (by kernel_rfl) (by kernel_rfl) (fun _ _ _ h => h) (Or.inl ⟨by rfl, ?yy40_16_5⟩) hHeld ?_
  case yy40_16_5 => (intro W hx; go_simp; try with_reducible rfl)
  simp only [Act.put, List.setIfInBounds_toArray, List.set_cons_zero, List.set_cons_succ]
  refine wpAnyH_take (i := 6) (oi := { dst := some 93, op := Op.nilCheck (Operand.tmp 92), type := 0, pos := "ref.go:67", after := #[{ on := 5, ground := Ground.data }], guard := none }) (v := ?vv41_16_6) rfl (by kernel_rfl) (by kernel_rfl) (by kernel_rfl) (fun _ _ _ h => h) (Or.inl ⟨by rfl, ?yy41_16_6⟩) hHeld ?_
  case yy41_16_6 => (intro W hx; go_simp; try with_reducible rfl)
  simp only [Act.put, List.setIfInBounds_toArray, List.set_cons_zero, List.set_cons_succ]
  refine wpAnyH_take (i := 7) (oi := { dst := some 94, op := Op.fieldAddr 38 (Operand.tmp 93) 4, type := 0, pos := "ref.go:67", after := #[{ on := 6, ground := Ground.data }], guard := none }) (v := ?vv42_16_7) rfl (by kernel_rfl) (by kernel_rfl) (by kernel_rfl) (fun _ _ _ h => h) (Or.inl ⟨by rfl, ?yy42_16_7⟩) hHeld ?_
  case yy42_16_7 => (intro W hx; go_simp; try with_reducible rfl)
  simp only [Act.put, List.setIfInBounds_toArray, List.set_cons_zero, List.set_cons_succ]
  refine wpAnyH_take (i := 8) (oi := { dst := some 95, op := Op.load 3 (Operand.tmp 94), type := 3, pos := "ref.go:67", after := #[{ on := 7, ground := Ground.data }], guard := none }) (v := ?vv43_16_8) rfl (by kernel_rfl) (by kernel_rfl) (by kernel_rfl) (fun _ _ _ h => h) (Or.inl ⟨by rfl, ?yy43_16_8⟩) hHeld ?_
  case yy43_16_8 => (intro W hx; have hz := zz0.trans hx; obtain ⟨f0, f1, f2, f3, f4, f5⟩ := cells6 ((hz.block _ (blk_lt K3)).trans K3); go_simp; try with_reducible rfl)
  simp only [Act.put, List.setIfInBounds_toArray, List.set_cons_zero, List.set_cons_succ]
  refine wpAnyH_take (i := 9) (oi := { dst := some 96, op := Op.move (Operand.tmp 0), type := 26, pos := "ref.go:67", after := #[], guard := none }) (v := ?vv44_16_9) rfl (by kernel_rfl) (by kernel_rfl) (by kernel_rfl) (fun _ _ _ h => h) (Or.inl ⟨by rfl, ?yy44_16_9⟩) hHeld ?_
  case yy44_16_9 => (intro W hx; go_simp; try with_reducible rfl)
  simp only [Act.put, List.setIfInBounds_toArray, List.set_cons_zero, List.set_cons_succ]
  refine wpAnyH_take (i := 10) (oi := { dst := some 97, op := Op.nilCheck (Operand.tmp 96), type := 0, pos := "ref.go:67", after := #[{ on := 9, ground := Ground.data }], guard := none }) (v := ?vv45_16_10) rfl (by kernel_rfl) (by kernel_rfl) (by kernel_rfl) (fun _ _ _ h => h) (Or.inl ⟨by rfl, ?yy45_16_10⟩) hHeld ?_
  case yy45_16_10 => (intro W hx; go_simp; try with_reducible rfl)
  simp only [Act.put, List.setIfInBounds_toArray, List.set_cons_zero, List.set_cons_succ]
  refine wpAnyH_take (i := 11) (oi := { dst := some 98, op := Op.fieldAddr 38 (Operand.tmp 97) 4, type := 0, pos := "ref.go:67", after := #[{ on := 10, ground := Ground.data }], guard := none }) (v := ?vv46_16_11) rfl (by kernel_rfl) (by kernel_rfl) (by kernel_rfl) (fun _ _ _ h => h) (Or.inl ⟨by rfl, ?yy46_16_11⟩) hHeld ?_
  case yy46_16_11 => (intro W hx; go_simp; try with_reducible rfl)
  simp only [Act.put, List.setIfInBounds_toArray, List.set_cons_zero, List.set_cons_succ]
  refine wpAnyH_take (i := 12) (oi := { dst := some 99, op := Op.load 3 (Operand.tmp 98), type := 3, pos := "ref.go:67", after := #[{ on := 11, ground := Ground.data }], guard := none }) (v := ?vv47_16_12) rfl (by kernel_rfl) (by kernel_rfl) (by kernel_rfl) (fun _ _ _ h => h) (Or.inl ⟨by rfl, ?yy47_16_12⟩) hHeld ?_
  case yy47_16_12 => (intro W hx; have hz := zz0.trans hx; obtain ⟨f0, f1, f2, f3, f4, f5⟩ := cells6 ((hz.block _ (blk_lt K3)).trans K3); go_simp; try with_reducible rfl)
  simp only [Act.put, List.setIfInBounds_toArray, List.set_cons_zero, List.set_cons_succ]
  refine wpAnyH_take (i := 13) (oi := { dst := some 100, op := Op.move (Operand.tmp 12), type := 3, pos := "ref.go:67", after := #[], guard := none }) (v := ?vv48_16_13) rfl (by kernel_rfl) (by kernel_rfl) (by kernel_rfl) (fun _ _ _ h => h) (Or.inl ⟨by rfl, ?yy48_16_13⟩) hHeld ?_
  case yy48_16_13 => (intro W hx; go_simp; try with_reducible rfl)
  simp only [Act.put, List.setIfInBounds_toArray, List.set_cons_zero, List.set_cons_succ]
  refine wpAnyH_take (i := 14) (oi := { dst := some 101, op := Op.binOp BinOp.add 3 (Operand.tmp 99) (Operand.tmp 100) 3, type := 3, pos := "ref.go:67", after := #[{ on := 12, ground := Ground.data }, { on := 13, ground := Ground.data }], guard := none }) (v := ?vv49_16_14) rfl (by kernel_rfl) (by kernel_rfl) (by kernel_rfl) (fun _ _ _ h => h) (Or.inl ⟨by rfl, ?yy49_16_14⟩) hHeld ?_
  case yy49_16_14 => (intro W hx; go_simp; try with_reducible rfl)
  simp only [Act.put, List.setIfInBounds_toArray, List.set_cons_zero, List.set_cons_succ]
  refine wpAnyH_take (i := 15) (oi := { dst := some 102, op := Op.slice 29 (Operand.tmp 91) (some (Operand.tmp 95)) (some (Operand.tmp 101)) none, type := 29, pos := "ref.go:67", after := #[{ on := 4, ground := Ground.data }, { on := 8, ground := Ground.data }, { on := 14, ground := Ground.data }], guard := none }) (v := ?vv50_16_15) rfl (by kernel_rfl) (by kernel_rfl) (by kernel_rfl) (fun _ _ _ h => h) (Or.inl ⟨by rfl, ?yy50_16_15⟩) hHeld ?_
  case yy50_16_15 => (intro W hx; go_simp; try with_reducible rfl)
  simp only [Act.put, List.setIfInBounds_toArray, List.set_cons_zero, List.set_cons_succ]
  refine wpAnyH_ready (rs := [0]) (by kernel_rfl) (by simp) (AllReadyH.cons rfl (fun K hK => ?_) AllReadyH.nil)
  go_simp
  obtain ⟨wb, hw⟩ : ∃ V, V = World.alloc wD35 (.cells #[] 5) := ⟨_, rfl⟩
  rw [← hw]
  have xb : Ext wD35 wb := by rw [hw]; exact (Ext.refl _).alloc _
  have own0 := own_eq hw (own_lit (e := 5) (size := 1) #[] 0 rfl hB.size (le_max (by omega)) rfl)
  clear hw
  refine hK.out _ _ (hB.trans xb) (fun hHeld => ?_)
  clear hK K
  have hB := hB.trans xb
  have hW := zz0.trans hB
  refine wpAnyH_ready (rs := [16]) (by kernel_rfl) (by simp) (AllReadyH.cons rfl (fun K hK => ?_) AllReadyH.nil)
  rw [if_pos (by rfl)]
  refine wp_app2 (o := { dst := some 103, op := Op.call { callee := Callee.builtin Builtin.append, args := #[Operand.tmp 87, Operand.tmp 102], argTypes := #[29, 29] }, type := 29, pos := "ref.go:67", after := #[{ on := 0, ground := Ground.data }, { on := 15, ground := Ground.data }], guard := none }) el29 (.tmp 87) (.tmp 102) rfl own0 rfl (r3.ext hW).shows rfl (u8s_one _) (le_max (by omega)) (by omega) rfl hB ?_; intro V1 wq own1 x9 hg9 hat9
  simp only [Act.put, List.setIfInBounds_toArray, List.set_cons_zero, List.set_cons_succ]
  refine hK.out _ _ x9 (fun hHeld => ?_)
  clear hK K
  have hB := x9
  have hW := zz0.trans hB
  clear own0 hg9 hat9
  obtain ⟨A4, c4, rfl, l4, m4, r4, q4⟩ := back0 own1 r3.byts
  refine wpAnyH_take (i := 17) (oi := { dst := some 13, op := Op.assign (Operand.tmp 103), type := 29, pos := "ref.go:67", after := #[{ on := 16, ground := Ground.data }, { on := 16, ground := Ground.chain }, { on := 0, ground := Ground.phase }, { on := 1, ground := Ground.phase }, { on := 2, ground := Ground.phase }, { on := 3, ground := Ground.phase }, { on := 4, ground := Ground.phase }, { on := 5, ground := Ground.phase }, { on := 6, ground := Ground.phase }, { on := 7, ground := Ground.phase }, { on := 8, ground := Ground.phase }, { on := 9, ground := Ground.phase }, { on := 10, ground := Ground.phase }, { on := 11, ground := Ground.phase }, { on := 12, ground := Ground.phase }, { on := 13, ground := Ground.phase }, { on := 14, ground := Ground.phase }, { on := 15, ground := Ground.phase }, { on := 16, ground := Ground.phase }], guard := none }) (v := ?vv51_16_17) rfl (by kernel_rfl) (by kernel_rfl) (by kernel_rfl) (fun _ _ _ h => h) (Or.inl ⟨by rfl, ?yy51_16_17⟩) hHeld ?_
  case yy51_16_17 => (intro W hx; go_simp; try with_reducible rfl)
  simp only [Act.put, List.setIfInBounds_toArray, List.set_cons_zero, List.set_cons_succ]
  refine wpAnyH_done (by kernel_rfl) ?_ _
  have zend := hW
  have K4 := (zend.block _ (blk_lt K3)).trans K3
  obtain ⟨f0, f1, f2, f3, f4, f5⟩ := cells6 K4
  have z4 := blk_free (i := 4) K4
  go_upto_region 18 with (fail)
  obtain ⟨w5, hw5, K5, x5⟩ := set_new 4 (.int .i64 (q : Int)) K4
  rw [← hw5]; clear hw5
  go_wp2
  go_ret3
  rw [← HS.out]
  exact rpost_of HRR.out HSN.out HT.out HM.out HQ.out HD.out (Ext.refl w2) xw3 zend HGG.out HKF.out K4 K5 x5 r4 l4 m4 (fun ad e => by have := q4 ad e; have := zz0.size; have := blk_lt K3; omega) (.inl hfg.out)
theorem rseed_ok (g : Nat) (s : LSt) (F : Nat → Prop) (res : Int) (dA : Option Addr) (n c : Nat) (bs : List Int) (w : World) (hr : Rd w dA n bs) (hF : 0 < n → ∀ ad, dA = some ad → ¬ F ad.block) (h1 : 1 ≤ n) (h2 : n ≤ 20) (h : RkC w g s F) (ho : oneR res = true) (hz : bits .and .u8 s.lk res ≠ 0) :
    Calls Try.prog 13 #[.pointer (some ⟨g, 0, none⟩), .int .u8 0, .int .u8 res, .slice dA n c] w (RSeedPost w g F (LSt.part { s.clear with seed := bs, res := res })) := by
  rcases one_cases ho with rfl | rfl | rfl
  · exact rseed_ok1 g s F dA n c bs w hr hF h1 h2 h hz
  · exact rseed_ok4 g s F dA n c bs w hr hF h1 h2 h hz
  · exact rseed_ok8 g s F dA n c bs w hr hF h1 h2 h hz
theorem rseed_any (g : Nat) (s : LSt) (F : Nat → Prop) (mode res : Int) (dA : Option Addr) (n c : Nat) (bs : List Int) (w : World) (hr : Rd w dA n bs) (hF : 0 < n → ∀ ad, dA = some ad → ¬ F ad.block) (hnm : n ≤ maxLen) (h : RkC w g s F) :
    Calls Try.prog 13 #[.pointer (some ⟨g, 0, none⟩), .int .u8 mode, .int .u8 res, .slice dA n c] w (RSeedPost w g F (s.doSeed mode res bs)) := by
  have hl := hr.len
  unfold LSt.doSeed
  split
  · rename_i hm
    subst hm
    split
    · rename_i hb
      exact rseed_bad g s F res dA n c bs w hr hnm h hb
    · rename_i hb
      simp only [not_or, Bool.not_eq_false, hl] at hb
      split
      · rename_i hz
        exact rseed_free g s F res dA n c w (by omega) (by omega) h hb.1 hz
      · rename_i hz
        exact rseed_ok g s F res dA n c bs w hr hF (by omega) (by omega) h hb.1 hz
  · rename_i h0
    split
    · rename_i h1
      subst h1
      exact rseed_next g s F res dA n c w h
    · rename_i h1
      exact rseed_else g s F mode res dA n c w h h0 h1
end Go.Proofs.Ytnjiajogbadadaa
