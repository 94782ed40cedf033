import Derived.Test.YtnbcmlphnllgeaaGE
set_option linter.unusedVariables false
set_option linter.unusedSimpArgs false
namespace Go.Proofs.Ytnbcmlphnllgeaa
open Go.RowKit
section
variable {w : World} {g : Nat} {ls : List Gl} {lv : Value} {T : Nat → Option Nat}
set_option maxRecDepth 100000 in
set_option maxHeartbeats 8000000 in
theorem take_ok (h : GaC w g ls lv T) {code : Int} (hc : 0 ≤ code ∧ code < 256) {A : Option Addr} {n c : Nat} {bs : List Int} (hr : Rd w A n bs) (hn : n ≤ 100000) {i k : Nat} (hf : findG (ls.map Gl.p) (tabG code) = some (i, k, true)) : Calls Try.prog 13 #[.pointer (some ⟨g, 0, none⟩), .agg #[.int .u8 4, .int .u8 code, .slice A n c]] w (TakeQ ls lv T g (takeG (ls.map Gl.p) 4 code bs) w) := by
  obtain ⟨xp, hxp, hkt, hst⟩ := findG_lt hf
  rw [List.getElem?_map] at hxp
  obtain ⟨x, hx, rfl⟩ := Option.map_eq_some_iff.1 hxp
  have hst' : x.stim = false := by
    have : true = !x.stim := hst
    simpa using this
  obtain ⟨ob, hob⟩ : ∃ z, z = overG code := ⟨_, rfl⟩
  have ht : takeG (ls.map Gl.p) 4 code bs = if (stepG x.p k ob bs).2.length < x.tables then (none, (ls.map Gl.p).set i { x.p with lost := (stepG x.p k ob bs).1, came := (stepG x.p k ob bs).2 }) else (some (i, (stepG x.p k ob bs).1, (stepG x.p k ob bs).2), (ls.map Gl.p).set i { x.p with lost := false, came := [] }) := by
    unfold takeG
    rw [if_neg (by simp), hf]
    have hg : (ls.map Gl.p).getD i ⟨0, false, false, []⟩ = x.p := by rw [List.getD_eq_getElem?_getD, List.getElem?_map, hx]; rfl
    simp only [hg, ← hob]
    rfl
  have HTK := Lib.hid ht
  have HH := Lib.hid h
  have HF := Lib.hid hf
  have HR := Lib.hid hr
  have HX := Lib.hid (And.intro hx (And.intro hkt hst'))
  have hil := (List.getElem?_eq_some_iff.1 hx).1
  have hn100 := h.len
  have hil' : i < 100 := by omega
  have hkl : k < 100000 := by have h1 := (h.tb x (List.mem_of_getElem? hx)).1; have h2 : k < x.tables := hkt; omega
  obtain ⟨tb, htb⟩ : ∃ z, z = tabG code := ⟨_, rfl⟩
  have htb256 : tb < 256 := by rw [htb]; unfold tabG; split <;> omega
  have HTB := Lib.hid htb
  have HOB := Lib.hid hob
  obtain ⟨lA, lc, hlv, hlc, hlm, _⟩ := own_form h.row
  have HLV := Lib.hid hlv
  obtain ⟨ln, hln⟩ : ∃ z, z = ls.length := ⟨_, rfl⟩
  have hiln : (i : Int) < ln := by omega
  have HLN := Lib.hid hln
  have ucn : IntKind.i64.wrap code = code := by rw [IntKind.wrap_i64]; omega
  have hdecide : decide (64 ≤ code) = ob := by rw [hob]; rfl
  have HDE := Lib.hid hdecide
  have htbI : (if (64 : Int) ≤ code then code - 64 else code) = (tb : Int) := by rw [htb]; unfold tabG; split <;> omega
  have HTI := Lib.hid htbI
  have utb := wri tb (by omega)
  clear h ht hf hr hx hkt hst hst' hxp hil hlv hlc hlm htb hob hdecide htbI hln
  obtain ⟨w0, hw0⟩ : ∃ V, V = w.alloc (.cells #[.int .u8 4, .int .u8 code, .slice A n c] 32) := ⟨_, rfl⟩
  have k0 : w0.heap[w.heap.size]? = some (.cells #[.int .u8 4, .int .u8 code, .slice A n c] 32 (0, 0)) := by rw [hw0]; exact heap_alloc_new _ _
  have x0 : Ext w w0 := by rw [hw0]; exact (Ext.refl _).alloc _
  have hs0 : w0.heap.size = w.heap.size + 1 := by rw [hw0]; exact Array.size_push _
  obtain ⟨w1, hw1⟩ : ∃ V, V = w0.alloc (.cells zsm.vals.toArray 35) := ⟨_, rfl⟩
  obtain ⟨q, hq⟩ : ∃ q, q = w.heap.size + 1 := ⟨_, rfl⟩
  have k1 : w1.heap[q]? = some (.cells zsm.vals.toArray 35 (0, 0)) := by rw [hw1, hq, ← hs0]; exact heap_alloc_new _ _
  have x1 : Ext w0 w1 := by rw [hw1]; exact (Ext.refl _).alloc _
  have k01 := (x1.block _ (blk_lt k0)).trans k0
  have hqw : w.heap.size ≤ q := by omega
  have X1 := x0.trans x1
  have m0 := blk_cell (i := 0) (v := .int .u8 4) k01 rfl
  have m1 := blk_cell (i := 1) (v := .int .u8 code) k01 rfl
  go_enter Try.func13, Try.ntmps13
  go_upto_region 1 with (fail)
  rw [← hw0]
  change Code.wp _ _ _ _ (w0.alloc (.cells zsm.vals.toArray 35))
  rw [← hw1, ← hq]
  clear hw0 hw1 hs0 hq
  go_upto_region 3 with (fail)
  clear m0
  go_quiet (fail)
  obtain ⟨w2, hWq⟩ : ∃ z : World, z = World.drewN w1 nq := ⟨_, rfl⟩
  rw [← hWq]
  have xw2 : Ext w1 w2 := by rw [hWq]; exact (Ext.refl _).drewN _
  clear hWq
  go_upto_if 27 with (fail)
  clear m1
  go_cut [6, 7] (fun v6 v7 wx => v6 = .int .i64 (tb : Int) ∧ v7 = .bool ob ∧ wx = w2)
  case first =>
    by_cases ho : (64 : Int) ≤ code
    · have h1 := HTI.out
      rw [if_pos ho] at h1
      have h2 := HDE.out
      rw [decide_eq_true ho] at h2
      have HO2 := Lib.hid h2
      clear h2
      go_wp2_with (fail)
      go_meet
      case rel => exact ⟨rfl, by rw [HO2.out], rfl⟩
    · have h1 := HTI.out
      rw [if_neg ho] at h1
      have h2 := HDE.out
      rw [decide_eq_false ho] at h2
      have HO2 := Lib.hid h2
      have H1 := Lib.hid h1
      clear h2 h1
      go_wp2_with (fail)
      go_meet
      case rel => exact ⟨by rw [H1.out], by rw [HDE.out], rfl⟩
  case rest =>
    obtain ⟨rfl, rfl, hwc⟩ := hcut
    rw [hwc]
    clear hwc
    go_upto_region 9 with (go_at_call 20; (refine (find_any (HH.out.ext (X1.trans xw2)) tb htb256).mono ?_); rw [HTB.out, HF.out]; simp only [foundV, Option.getD_some]; rintro e w3 ⟨rfl, x3⟩)
    have HX3 := Lib.hid (X1.trans (xw2.trans x3))
    have HG3 := Lib.hid (HH.out.ext HX3.out)
    obtain ⟨rb, rc, e1, hrb, hrc, hrm, _, r0, r1, r2, r3, f2, f3⟩ := HG3.out.at_ HX.out.1
    have hlA : lA = some ⟨rb, 0, none⟩ ∧ lc = rc := by have := HLV.out; rw [e1] at this; injection this with t1 t2 t3; exact ⟨t1.symm, t3.symm⟩
    obtain ⟨rfl, rfl⟩ := hlA
    have hob2 := blk_cell (i := 0) (v := lv) HG3.out.obj rfl
    rw [HLV.out, ← HLN.out] at hob2
    obtain ⟨xA, xc, hxv, hxc, hxm⟩ := (HG3.out.bl i x HX.out.1).form
    obtain ⟨cl, hcl⟩ : ∃ z, z = x.els.length := ⟨_, rfl⟩
    rw [hxv, ← hcl] at r3
    have hcl1 := (HG3.out.tb x (List.mem_of_getElem? HX.out.1)).2
    have hclb : cl ≤ 100000 := by omega
    have HCL := Lib.hid (And.intro hcl (And.intro hxv (And.intro hxc hxm)))
    have k03 := ((xw2.trans x3).block _ (blk_lt k01)).trans k01
    have k13 := ((xw2.trans x3).block _ (blk_lt k1)).trans k1
    have HK13 := Lib.hid k13
    have HK03 := Lib.hid k03
    have n2 : w3.cell? ⟨w.heap.size, 2, none⟩ = some (.slice A n c) := blk_cell k03 rfl
    have HE1 := Lib.hid e1
    have HQN := Lib.hid (show T q = none from by
      rcases e : T q with _ | t
      · rfl
      · have := HH.out.lt q t e; omega)
    have hr3 := HR.out.ext HX3.out
    have HR3 := Lib.hid hr3
    have HRB := Lib.hid hrb
    clear e1 hrb hrm hxv hxc hxm hcl hcl1 k03 k13 k0 k1 k01 x0 x1 hr3
    go_upto_block 0 with (fail)
    clear hob2
    go_cut [7] (fun v7 wx => v7 = .bool ob ∧ ∃ T1 x1, GPost w3 wx g (ls.set i x1) lv T T1 ∧ x1.p = { x.p with lost := (stepG x.p k ob bs).1, came := (stepG x.p k ob bs).2 })
    case first =>
      by_cases hk0 : k = 0
      · have hk0I : ((k : Int) == 0) = true := by rw [hk0]; rfl
        have HK0 := Lib.hid hk0
        clear r0 r1 r3 hk0
        go_wp2_with (go_at_call 21; (refine (cl_any c HR3.out hn).mono ?_); rintro e w5 ⟨v5, rfl, x5, ow5⟩; obtain ⟨A5, c5, rfl, _, _, _⟩ := own_form ow5; obtain ⟨w6, hw6⟩ : ∃ V, V = w5.alloc (.cells #[.slice A5 n c5] 30) := ⟨_, rfl⟩; have x6 : Ext w5 w6 := (by rw [hw6]; exact (Ext.refl _).alloc _); obtain ⟨g2, g3, g4, g5, g6, g7⟩ := ga_facts HG3.out HX.out.1 HE1.out (.of_ext (x5.trans x6)) ob; have HBL := Lib.hid (BL.one (w := w3) (by rw [HR.out.len]; exact ow5) HR.out.byts (Nat.le_refl _) x5 hw6); rw [hw6] at g2 g3 g4 g5 g6 g7)
        rw [← hw6]
        obtain ⟨T1, GT, _, _⟩ := ga_two HG3.out HX.out.1 HE1.out (.of_ext (x5.trans x6)) ob (HBL.out.mono (G := fun b => w3.heap.size ≤ b ∧ b < w6.heap.size) (fun b hb h => ⟨h, hb⟩)) (fun b hb => ⟨.inr hb.1, hb.2⟩) (Nat.le_add_left 1 99999)
        have HGT := Lib.hid GT
        clear GT g2 g3 g4 g5 g6 g7 hw6
        go_meet
        case rel => exact ⟨rfl, T1, _, HGT.out, by rw [HK0.out]; rfl⟩
      · have hk0I : ((k : Int) == 0) = false := by simp; omega
        have hk0J : ¬ (k : Int) = 0 := by omega
        have HK0 := Lib.hid hk0
        clear hk0 r0 r1
        by_cases hkc : k = cl
        · have hkcI : ((k : Int) == (cl : Int)) = true := by rw [hkc]; simp
          have HKC := Lib.hid hkc
          rcases hobv : ob with _ | _
          · have HOV := Lib.hid hobv
            clear hobv
            clear hkc
            go_upto_region 14 with (fail)
            have hxr := (HG3.out.bl i x HX.out.1).row
            rw [HCL.out.2.1, ← HCL.out.1] at hxr
            have HXR := Lib.hid hxr
            clear hxr
            refine wp_regionL (Kept (fun b => T b = some (i + 2) ∨ b = rb) w3) (Ext w3) 9 (by kernel_rfl) (Kept.of_ext (Ext.refl _).drew) ((Ext.refl _).drew) (fun hL => ?_)
            have hP := hL.1
            have hE : Ext w3 (World.drew w3) := (Ext.refl _).drew
            obtain ⟨wD1, hwD⟩ : ∃ V, V = World.drew w3 := ⟨_, rfl⟩
            rw [← hwD] at hL hP hE ⊢
            clear hwD
            refine wpAnyL_takeP (i := 0) (oi := { dst := some 78, op := Op.move (Operand.tmp 11), type := 76, pos := "gather.go:61", after := #[], guard := none }) (v := ?vv2_14_0) rfl (by kernel_rfl) (by kernel_rfl) (by kernel_rfl) (by kernel_rfl) (fun _ _ _ h => h) (Or.inl ⟨by rfl, ?yy2_14_0⟩) hL (fun hL => ?_)
            case yy2_14_0 => (intro W hx; go_simp; try with_reducible rfl)
            simp only [Act.put, List.setIfInBounds_toArray, List.set_cons_zero, List.set_cons_succ]
            refine wpAnyL_takeP (i := 1) (oi := { dst := some 79, op := Op.move (Operand.tmp 11), type := 76, pos := "gather.go:61", after := #[], guard := none }) (v := ?vv3_14_1) rfl (by kernel_rfl) (by kernel_rfl) (by kernel_rfl) (by kernel_rfl) (fun _ _ _ h => h) (Or.inl ⟨by rfl, ?yy3_14_1⟩) hL (fun hL => ?_)
            case yy3_14_1 => (intro W hx; go_simp; try with_reducible rfl)
            simp only [Act.put, List.setIfInBounds_toArray, List.set_cons_zero, List.set_cons_succ]
            refine wpAnyL_takeP (i := 2) (oi := { dst := some 80, op := Op.nilCheck (Operand.tmp 79), type := 0, pos := "gather.go:61", after := #[{ on := 1, ground := Ground.data }], guard := none }) (v := ?vv4_14_2) rfl (by kernel_rfl) (by kernel_rfl) (by kernel_rfl) (by kernel_rfl) (fun _ _ _ h => h) (Or.inl ⟨by rfl, ?yy4_14_2⟩) hL (fun hL => ?_)
            case yy4_14_2 => (intro W hx; go_simp; try with_reducible rfl)
            simp only [Act.put, List.setIfInBounds_toArray, List.set_cons_zero, List.set_cons_succ]
            refine wpAnyL_takeP (i := 3) (oi := { dst := some 81, op := Op.fieldAddr 69 (Operand.tmp 80) 3, type := 0, pos := "gather.go:61", after := #[{ on := 2, ground := Ground.data }], guard := none }) (v := ?vv5_14_3) rfl (by kernel_rfl) (by kernel_rfl) (by kernel_rfl) (by kernel_rfl) (fun _ _ _ h => h) (Or.inl ⟨by rfl, ?yy5_14_3⟩) hL (fun hL => ?_)
            case yy5_14_3 => (intro W hx; go_simp; try with_reducible rfl)
            simp only [Act.put, List.setIfInBounds_toArray, List.set_cons_zero, List.set_cons_succ]
            refine wpAnyL_takeB (i := 4) [9] (oi := { dst := some 82, op := Op.load 33 (Operand.tmp 81), type := 33, pos := "gather.go:61", after := #[{ on := 3, ground := Ground.data }], guard := none }) (v := ?vv6_14_4) rfl (by kernel_rfl) (by kernel_rfl) (by kernel_rfl) (by kernel_rfl) (fun _ _ _ h => h) (by kernel_rfl) (Or.inl ⟨by rfl, ?yy6_14_4⟩) hL (fun hL => ?_)
            case yy6_14_4 => (intro W hx; have q1 := cell_ext hx.2 r3; go_simp; try with_reducible rfl)
            simp only [Act.put, List.setIfInBounds_toArray, List.set_cons_zero, List.set_cons_succ]
            refine wpAnyL_takeP (i := 5) (oi := { dst := some 83, op := Op.fieldAddr 32 (Operand.tmp 3) 2, type := 0, pos := "gather.go:61", after := #[], guard := none }) (v := ?vv7_14_5) rfl (by kernel_rfl) (by kernel_rfl) (by kernel_rfl) (by kernel_rfl) (fun _ _ _ h => h) (Or.inl ⟨by rfl, ?yy7_14_5⟩) hL (fun hL => ?_)
            case yy7_14_5 => (intro W hx; go_simp; try with_reducible rfl)
            simp only [Act.put, List.setIfInBounds_toArray, List.set_cons_zero, List.set_cons_succ]
            refine wpAnyL_takeB (i := 6) [7, 8, 9] (oi := { dst := some 84, op := Op.load 30 (Operand.tmp 83), type := 30, pos := "gather.go:61", after := #[{ on := 5, ground := Ground.data }], guard := none }) (v := ?vv8_14_6) rfl (by kernel_rfl) (by kernel_rfl) (by kernel_rfl) (by kernel_rfl) (fun _ _ _ h => h) (by kernel_rfl) (Or.inl ⟨by rfl, ?yy8_14_6⟩) hL (fun hL => ?_)
            case yy8_14_6 => (intro W hx; have q1 := cell_ext hx.2 n2; go_simp; try with_reducible rfl)
            simp only [Act.put, List.setIfInBounds_toArray, List.set_cons_zero, List.set_cons_succ]
            refine wpAnyL_ready (rs := [7]) (by kernel_rfl) (by simp) (AllReadyL.cons rfl (fun K hK => ?_) AllReadyL.nil)
            go_simp
            go_wp2_with (go_at_call 21; (refine (cl_any c (HR3.out.ext hE) hn).mono ?_); rintro e w5 ⟨v5, rfl, x5, ow5⟩; obtain ⟨A5, c5, rfl, _, _, _⟩ := own_form ow5; replace ow5 := own_base ow5 hE.size; have hE5 := Ext.trans hE x5)
            replace hE := hE.trans x5
            replace hP := hP.then x5
            clear hL
            refine hK.out _ _ ⟨hP, fun e => hE⟩ (fun hL => ?_)
            clear hK K
            refine wpAnyL_ready (rs := [8]) (by kernel_rfl) (by simp) (AllReadyL.cons rfl (fun K hK => ?_) AllReadyL.nil)
            go_simp
            obtain ⟨w6, hw⟩ : ∃ V, V = World.alloc w5 (.cells #[.slice A5 n c5] 30) := ⟨_, rfl⟩
            rw [← hw]
            have xb : Ext w5 w6 := by rw [hw]; exact (Ext.refl _).alloc _
            have kb : (World.heap w6)[(World.heap w5).size]? = some (.cells #[.slice A5 n c5] 30) := by rw [hw]; exact heap_alloc_new _ _
            have sh6 : Shows w6 1 (some ⟨(World.heap w5).size, 0, none⟩) 1 [.slice A5 n c5] := (by rw [hw]; exact Shows.new1 _ _ _); have ow6 := own_ext ow5 xb; have hE6 := hE5.trans xb; have own6 := own_ext HXR.out hE6
            clear hw
            replace hE := hE.trans xb
            replace hP := hP.then xb
            clear hL
            refine hK.out _ _ ⟨hP, fun e => hE⟩ (fun hL => ?_)
            clear hK K
            refine wpAnyL_ready (rs := [9]) (by kernel_rfl) (by simp) (AllReadyL.cons rfl (fun K hK => ?_) AllReadyL.nil)
            rw [if_pos (by rfl)]
            refine wp_appB (o := { dst := some 87, op := Op.call { callee := Callee.builtin Builtin.append, args := #[Operand.tmp 82, Operand.tmp 86], argTypes := #[33, 33] }, type := 33, pos := "gather.go:61", after := #[{ on := 4, ground := Ground.data }, { on := 8, ground := Ground.data }, { on := 7, ground := Ground.chain }], guard := none }) el33 _ _ rfl own6 rfl sh6 rfl (by intro u hu; simp at hu; subst hu; rfl) (le_max (by omega)) (by omega) (Nat.zero_le _) ?_; intro v7 w7 own7 x7 at7; obtain ⟨B7, c7, rfl, _, _⟩ := own7.form (by omega)
            simp only [Act.put, List.setIfInBounds_toArray, List.set_cons_zero, List.set_cons_succ]
            replace hP := hP.trans' (Kept.of_grown x7 (fun b e => .inl ((HG3.out.bl i x HX.out.1).rF b (by rw [HCL.out.2.1, ← HCL.out.1]; exact e))))
            have k37 : Kept (fun b => T b = some (i + 2)) w3 w7 := (Kept.of_ext hE6).trans' (Kept.of_grown x7 (fun b e => (HG3.out.bl i x HX.out.1).rF b (by rw [HCL.out.2.1, ← HCL.out.1]; exact e))); obtain ⟨_, _, q3, ff3, _, _⟩ := ga_facts HG3.out HX.out.1 HE1.out k37 false; obtain ⟨T1, GT, _, _⟩ := ga_one HG3.out HX.out.1 HE1.out k37 (((HG3.out.bl i x HX.out.1).app hE6 (by rw [HR.out.len]; exact ow6) HR.out.byts (Nat.le_refl _) (by rw [← HCL.out.1]; exact own7) (by rw [HCL.out.2.1, ← HCL.out.1]; exact x7) (by rw [HCL.out.2.1, ← HCL.out.1]; exact at7)).mono (G := fun b => (T b = some (i + 2) ∨ w3.heap.size ≤ b) ∧ b < w7.heap.size) (fun b hb h => ⟨h, hb⟩)) (fun b hb => hb) (by rw [List.length_append, ← HCL.out.1]; have := HKC.out; simp; omega); have HGT := Lib.hid GT; clear GT k37
            clear hE
            clear hL
            refine hK.out _ _ ⟨hP, fun e => absurd e (by simp)⟩ (fun hL => ?_)
            clear hK K
            refine wpAnyL_takeP (i := 10) (oi := { dst := some 88, op := Op.nilCheck (Operand.tmp 78), type := 0, pos := "gather.go:61", after := #[{ on := 0, ground := Ground.data }, { on := 0, ground := Ground.phase }, { on := 1, ground := Ground.phase }, { on := 2, ground := Ground.phase }, { on := 3, ground := Ground.phase }, { on := 4, ground := Ground.phase }, { on := 5, ground := Ground.phase }, { on := 6, ground := Ground.phase }, { on := 7, ground := Ground.phase }, { on := 8, ground := Ground.phase }, { on := 9, ground := Ground.phase }], guard := none }) (v := ?vv9_14_10) rfl (by kernel_rfl) (by kernel_rfl) (by kernel_rfl) (by kernel_rfl) (fun _ _ _ h => h) (Or.inl ⟨by rfl, ?yy9_14_10⟩) hL (fun hL => ?_)
            case yy9_14_10 => (intro W hx; go_simp; try with_reducible rfl)
            simp only [Act.put, List.setIfInBounds_toArray, List.set_cons_zero, List.set_cons_succ]
            refine wpAnyL_takeP (i := 11) (oi := { dst := some 89, op := Op.fieldAddr 69 (Operand.tmp 88) 3, type := 0, pos := "gather.go:61", after := #[{ on := 10, ground := Ground.data }, { on := 0, ground := Ground.phase }, { on := 1, ground := Ground.phase }, { on := 2, ground := Ground.phase }, { on := 3, ground := Ground.phase }, { on := 4, ground := Ground.phase }, { on := 5, ground := Ground.phase }, { on := 6, ground := Ground.phase }, { on := 7, ground := Ground.phase }, { on := 8, ground := Ground.phase }, { on := 9, ground := Ground.phase }], guard := none }) (v := ?vv10_14_11) rfl (by kernel_rfl) (by kernel_rfl) (by kernel_rfl) (by kernel_rfl) (fun _ _ _ h => h) (Or.inl ⟨by rfl, ?yy10_14_11⟩) hL (fun hL => ?_)
            case yy10_14_11 => (intro W hx; go_simp; try with_reducible rfl)
            simp only [Act.put, List.setIfInBounds_toArray, List.set_cons_zero, List.set_cons_succ]
            refine wpAnyL_ready (rs := [12]) (by kernel_rfl) (by simp) (AllReadyL.cons rfl (fun K hK => ?_) AllReadyL.nil)
            rw [if_pos (by rfl)]
            refine wp_stset (o := { dst := none, op := Op.store 33 (Operand.tmp 89) (Operand.tmp 87), type := 0, pos := "gather.go:61", after := #[{ on := 11, ground := Ground.data }, { on := 9, ground := Ground.data }, { on := 9, ground := Ground.chain }, { on := 0, ground := Ground.phase }, { on := 1, ground := Ground.phase }, { on := 2, ground := Ground.phase }, { on := 3, ground := Ground.phase }, { on := 4, ground := Ground.phase }, { on := 5, ground := Ground.phase }, { on := 6, ground := Ground.phase }, { on := 7, ground := Ground.phase }, { on := 8, ground := Ground.phase }, { on := 9, ground := Ground.phase }], guard := none }) (v := .slice (some ⟨B7, 0, none⟩) (cl + 1) c7) 33 _ _ rfl q3 ff3 rfl rfl size33 rfl (fun c e => by cases e) ?_; obtain ⟨w8, hw8, x8⟩ : ∃ V, V = World.setCell w7 ⟨rb, i * 4 + 3, none⟩ (.slice (some ⟨B7, 0, none⟩) (cl + 1) c7) ∧ w7.grownBy V (some rb) := ⟨_, rfl, set_grown _ _ _ _⟩; rw [← hw8]
            simp only [Act.put]
            replace hP := hP.trans' (Kept.of_grown x8 (fun b e => by injection e with e; exact .inr e.symm))
            clear hL
            refine hK.out _ _ ⟨hP, fun e => absurd e (by simp)⟩ (fun hL => ?_)
            clear hK K
            refine wpAnyL_done (by kernel_rfl) ?_ _
            have HGU := Lib.hid (show GPost w3 w8 g (ls.set i { x with v := .slice (some ⟨B7, 0, none⟩) (cl + 1) c7, els := x.els ++ [(.slice A5 n c5, bs)] }) lv T T1 from by rw [hw8]; exact HGT.out)
            clear hw8 q3 ff3 own7 at7
            go_wp2_with (fail)
            go_meet
            case rel => exact ⟨by rw [HOV.out], T1, _, HGU.out, by unfold stepG; rw [if_neg HK0.out, if_pos ⟨by rw [HKC.out, HCL.out.1]; simp [Gl.p], HOV.out⟩]; simp [Gl.p]⟩
          · have HOV := Lib.hid hobv
            clear hobv hkc
            go_upto_region 10 with (fail)
            obtain ⟨_, _, _, _, f4, f5⟩ := ga_facts HG3.out HX.out.1 HE1.out (Kept.refl _ _) false
            rw [HCL.out.2.1, ← HCL.out.1] at f4
            obtain ⟨T1, GT, _, _⟩ := ga_two HG3.out HX.out.1 HE1.out (Kept.refl _ _) false (BL.nil w3 (fun _ => False)) (fun b hb => hb.elim) (Nat.zero_le _)
            have HGT := Lib.hid GT
            clear GT
            go_wp2_with (fail)
            go_meet
            case rel => exact ⟨by rw [HOV.out], T1, _, HGT.out, by unfold stepG; rw [if_neg HK0.out, if_neg (fun h => by rw [HOV.out] at h; cases h.2)]; rfl⟩
        · have hkcI : ((k : Int) == (cl : Int)) = false := by simp; omega
          have hkcJ : ¬ (k : Int) = cl := by omega
          have HKC := Lib.hid hkc
          clear hkc
          go_upto_region 10 with (fail)
          obtain ⟨_, _, _, _, f4, f5⟩ := ga_facts HG3.out HX.out.1 HE1.out (Kept.refl _ _) false
          rw [HCL.out.2.1, ← HCL.out.1] at f4
          obtain ⟨T1, GT, _, _⟩ := ga_two HG3.out HX.out.1 HE1.out (Kept.refl _ _) false (BL.nil w3 (fun _ => False)) (fun b hb => hb.elim) (Nat.zero_le _)
          have HGT := Lib.hid GT
          clear GT
          go_wp2_with (fail)
          go_meet
          case rel => exact ⟨rfl, T1, _, HGT.out, by unfold stepG; rw [if_neg HK0.out, if_neg (fun h => HKC.out (by rw [HCL.out.1]; have := h.1; simp [Gl.p] at this; exact this))]; rfl⟩
    case rest =>
      obtain ⟨-, T1, x1, GP, hp1⟩ := hcut
      obtain ⟨wo, rfl⟩ : ∃ z : World, z = wc := ⟨_, rfl⟩
      clear r0 r1 r2 r3 f2 f3 n2
      have HGP := Lib.hid GP
      have HP1 := Lib.hid hp1
      have hil : i < ls.length := (List.getElem?_eq_some_iff.1 HX.out.1).1
      have hx1 : (ls.set i x1)[i]? = some x1 := List.getElem?_set_self hil
      obtain ⟨rb', rc', e1, hrb, _, _, _, r0, r1, r2, r3, f2, f3⟩ := HGP.out.1.at_ hx1
      have hrr : rb' = rb := by have := HE1.out; rw [e1] at this; injection this with this; injection this with this; injection this
      subst hrr
      obtain ⟨yA, yc, hyv, hyc, hym⟩ := (HGP.out.1.bl i x1 hx1).form
      obtain ⟨yl, hyl⟩ : ∃ z, z = x1.els.length := ⟨_, rfl⟩
      rw [hyv, ← hyl] at r3
      have HYL := Lib.hid (And.intro hyl (And.intro hyv (And.intro hx1 (And.intro (HGP.out.1.tb x1 (List.mem_of_getElem? hx1)) (And.intro e1 hrb)))))
      have hkq := HGP.out.2.1.blk HK13.out (by rw [HQN.out]; simp)
      have HKQ := Lib.hid hkq
      have hcame : (stepG x.p k ob bs).2.length = yl := by have := congrArg (fun z => z.came.length) HP1.out; simp [Gl.p] at this; rw [hyl]; exact this.symm
      have htbl : x1.tables = x.tables := congrArg Gp.tables HP1.out
      have HCM := Lib.hid (And.intro hcame htbl)
      have HC3 := Lib.hid (And.intro r0 r3)
      have HQ1 := Lib.hid (show T1 q = none from by
        rcases e : T1 q with _ | t
        · rfl
        · have h1 := HGP.out.2.2 q (by rw [e]; simp)
          rw [HQN.out] at h1
          have := blk_lt HK13.out
          rcases h1 with h1 | h1
          · exact absurd rfl h1
          · omega)
      have HGF := Lib.hid (show ∀ W W', Ext wo W → Kept (fun b => b = q) W W' → GPost w W' g (ls.set i x1) lv T T1 from fun W W' xx kk =>
        ⟨(HGP.out.1.ext xx).kept kk (fun b t hb e => by rw [e, HQ1.out] at hb; cases hb), ((((Kept.of_ext HX3.out).trans HGP.out.2.1 (fun _ _ h => h)).then xx).trans kk (fun i hi e => by omega)), fun b hb => (HGP.out.2.2 b hb).imp id (fun h => Nat.le_trans HX3.out.size h)⟩)
      clear GP hp1 hx1 hyv hyc hym hyl e1 hkq hcame htbl r0 r1 r3 hrb
      go_upto_region 15 with (fail)
      by_cases hlt : yl < x1.tables
      · have hltI : (yl : Int) < x1.tables := by omega
        have HLT := Lib.hid hlt
        clear hlt
        refine wp_region_held_drew (S := Ext wo) (by kernel_rfl) ((Ext.refl _).drew) (fun hHeld => ?_)
        obtain ⟨wD11, hwD⟩ : ∃ V, V = World.drew wo := ⟨_, rfl⟩
        rw [← hwD]
        clear hHeld
        have zz0 : Ext wo wD11 := by rw [hwD]; exact (Ext.refl _).drew
        clear hwD
        refine wpAnyH_imp (S' := Ext wD11) (fun W h => Ext.trans zz0 h) _ _ _ _ ?_
        have hHeld := Ext.refl wD11
        refine wpAnyH_take (i := 0) (oi := { dst := some 90, op := Op.move (Operand.tmp 11), type := 76, pos := "gather.go:65", after := #[], guard := none }) (v := ?vv12_15_0) rfl (by kernel_rfl) (by kernel_rfl) (by kernel_rfl) (fun _ _ _ h => h) (Or.inl ⟨by rfl, ?yy12_15_0⟩) hHeld ?_
        case yy12_15_0 => (intro W hx; go_simp; try with_reducible rfl)
        simp only [Act.put, List.setIfInBounds_toArray, List.set_cons_zero, List.set_cons_succ]
        refine wpAnyH_take (i := 1) (oi := { dst := some 91, op := Op.nilCheck (Operand.tmp 90), type := 0, pos := "gather.go:65", after := #[{ on := 0, ground := Ground.data }], guard := none }) (v := ?vv13_15_1) rfl (by kernel_rfl) (by kernel_rfl) (by kernel_rfl) (fun _ _ _ h => h) (Or.inl ⟨by rfl, ?yy13_15_1⟩) hHeld ?_
        case yy13_15_1 => (intro W hx; go_simp; try with_reducible rfl)
        simp only [Act.put, List.setIfInBounds_toArray, List.set_cons_zero, List.set_cons_succ]
        refine wpAnyH_take (i := 2) (oi := { dst := some 92, op := Op.fieldAddr 69 (Operand.tmp 91) 3, type := 0, pos := "gather.go:65", after := #[{ on := 1, ground := Ground.data }], guard := none }) (v := ?vv14_15_2) rfl (by kernel_rfl) (by kernel_rfl) (by kernel_rfl) (fun _ _ _ h => h) (Or.inl ⟨by rfl, ?yy14_15_2⟩) hHeld ?_
        case yy14_15_2 => (intro W hx; go_simp; try with_reducible rfl)
        simp only [Act.put, List.setIfInBounds_toArray, List.set_cons_zero, List.set_cons_succ]
        refine wpAnyH_take (i := 3) (oi := { dst := some 93, op := Op.load 33 (Operand.tmp 92), type := 33, pos := "gather.go:65", after := #[{ on := 2, ground := Ground.data }], guard := none }) (v := ?vv15_15_3) rfl (by kernel_rfl) (by kernel_rfl) (by kernel_rfl) (fun _ _ _ h => h) (Or.inl ⟨by rfl, ?yy15_15_3⟩) hHeld ?_
        case yy15_15_3 => (intro W hx; have hz := zz0.trans hx; have q1 := cell_ext hz HC3.out.2; go_simp; try with_reducible rfl)
        simp only [Act.put, List.setIfInBounds_toArray, List.set_cons_zero, List.set_cons_succ]
        refine wpAnyH_take (i := 4) (oi := { dst := some 94, op := Op.call { callee := Callee.builtin Builtin.len, args := #[Operand.tmp 93], argTypes := #[33] }, type := 3, pos := "gather.go:65", after := #[{ on := 3, ground := Ground.data }], guard := none }) (v := ?vv16_15_4) rfl (by kernel_rfl) (by kernel_rfl) (by kernel_rfl) (fun _ _ _ h => h) (Or.inl ⟨by rfl, ?yy16_15_4⟩) hHeld ?_
        case yy16_15_4 => (intro W hx; go_simp; try with_reducible rfl)
        simp only [Act.put, List.setIfInBounds_toArray, List.set_cons_zero, List.set_cons_succ]
        refine wpAnyH_take (i := 5) (oi := { dst := some 95, op := Op.move (Operand.tmp 11), type := 76, pos := "gather.go:65", after := #[], guard := none }) (v := ?vv17_15_5) rfl (by kernel_rfl) (by kernel_rfl) (by kernel_rfl) (fun _ _ _ h => h) (Or.inl ⟨by rfl, ?yy17_15_5⟩) hHeld ?_
        case yy17_15_5 => (intro W hx; go_simp; try with_reducible rfl)
        simp only [Act.put, List.setIfInBounds_toArray, List.set_cons_zero, List.set_cons_succ]
        refine wpAnyH_take (i := 6) (oi := { dst := some 96, op := Op.nilCheck (Operand.tmp 95), type := 0, pos := "gather.go:65", after := #[{ on := 5, ground := Ground.data }], guard := none }) (v := ?vv18_15_6) rfl (by kernel_rfl) (by kernel_rfl) (by kernel_rfl) (fun _ _ _ h => h) (Or.inl ⟨by rfl, ?yy18_15_6⟩) hHeld ?_
        case yy18_15_6 => (intro W hx; go_simp; try with_reducible rfl)
        simp only [Act.put, List.setIfInBounds_toArray, List.set_cons_zero, List.set_cons_succ]
        refine wpAnyH_take (i := 7) (oi := { dst := some 97, op := Op.fieldAddr 69 (Operand.tmp 96) 0, type := 0, pos := "gather.go:65", after := #[{ on := 6, ground := Ground.data }], guard := none }) (v := ?vv19_15_7) rfl (by kernel_rfl) (by kernel_rfl) (by kernel_rfl) (fun _ _ _ h => h) (Or.inl ⟨by rfl, ?yy19_15_7⟩) hHeld ?_
        case yy19_15_7 => (intro W hx; go_simp; try with_reducible rfl)
        simp only [Act.put, List.setIfInBounds_toArray, List.set_cons_zero, List.set_cons_succ]
        refine wpAnyH_take (i := 8) (oi := { dst := some 98, op := Op.load 3 (Operand.tmp 97), type := 3, pos := "gather.go:65", after := #[{ on := 7, ground := Ground.data }], guard := none }) (v := ?vv20_15_8) rfl (by kernel_rfl) (by kernel_rfl) (by kernel_rfl) (fun _ _ _ h => h) (Or.inl ⟨by rfl, ?yy20_15_8⟩) hHeld ?_
        case yy20_15_8 => (intro W hx; have hz := zz0.trans hx; have q1 := cell_ext hz HC3.out.1; go_simp; try with_reducible rfl)
        simp only [Act.put, List.setIfInBounds_toArray, List.set_cons_zero, List.set_cons_succ]
        refine wpAnyH_take (i := 9) (oi := { dst := some 99, op := Op.binOp BinOp.lss 3 (Operand.tmp 94) (Operand.tmp 98) 3, type := 4, pos := "gather.go:65", after := #[{ on := 4, ground := Ground.data }, { on := 8, ground := Ground.data }], guard := none }) (v := ?vv21_15_9) rfl (by kernel_rfl) (by kernel_rfl) (by kernel_rfl) (fun _ _ _ h => h) (Or.inl ⟨by rfl, ?yy21_15_9⟩) hHeld ?_
        case yy21_15_9 => (intro W hx; go_simp; try with_reducible rfl)
        simp only [Act.put, List.setIfInBounds_toArray, List.set_cons_zero, List.set_cons_succ]
        refine wpAnyH_done (by kernel_rfl) ?_ _
        have zend := zz0.trans hHeld
        have kq := (zend.block _ (blk_lt HKQ.out)).trans HKQ.out
        go_wp2_with (refine wpList_strow rfl 35 (.tmp 4) (.tmp 100) rfl kq rfl rfl size35 rfl (all_oneCell_toArray zsm_one) ?_; intro w5 k5 x5)
        try simp only [Exit.inBlock, Exit.then]
        refine bodyPost_ret (results_row2 rfl rfl k5.out Try.underlying35 rfl (by kernel_rfl)) rfl ?_
        have k5' : Kept (fun b => b = q) (wD11) w5 := .of_grown x5 (fun b e => by injection e with e; exact e.symm)
        have ho : takeG (ls.map Gl.p) 4 code bs = (none, (ls.set i x1).map Gl.p) := by rw [HTK.out, if_pos (by rw [HCM.out.1, ← HCM.out.2]; exact HLT.out), List.map_set, HP1.out]
        rw [ho]
        have GF := HGF.out _ _ zend k5'
        exact ⟨zsm, [], ls.set i x1, T1, fun _ => False, rfl, GF, rfl, SmIs.none _ _, fun b h => h.elim⟩
      · have hltI : ¬ (yl : Int) < x1.tables := by omega
        have HLT := Lib.hid hlt
        clear hlt
        refine wp_region_held_drew (S := Ext wo) (by kernel_rfl) ((Ext.refl _).drew) (fun hHeld => ?_)
        obtain ⟨wD22, hwD⟩ : ∃ V, V = World.drew wo := ⟨_, rfl⟩
        rw [← hwD]
        clear hHeld
        have zz0 : Ext wo wD22 := by rw [hwD]; exact (Ext.refl _).drew
        clear hwD
        refine wpAnyH_imp (S' := Ext wD22) (fun W h => Ext.trans zz0 h) _ _ _ _ ?_
        have hHeld := Ext.refl wD22
        refine wpAnyH_take (i := 0) (oi := { dst := some 90, op := Op.move (Operand.tmp 11), type := 76, pos := "gather.go:65", after := #[], guard := none }) (v := ?vv23_15_0) rfl (by kernel_rfl) (by kernel_rfl) (by kernel_rfl) (fun _ _ _ h => h) (Or.inl ⟨by rfl, ?yy23_15_0⟩) hHeld ?_
        case yy23_15_0 => (intro W hx; go_simp; try with_reducible rfl)
        simp only [Act.put, List.setIfInBounds_toArray, List.set_cons_zero, List.set_cons_succ]
        refine wpAnyH_take (i := 1) (oi := { dst := some 91, op := Op.nilCheck (Operand.tmp 90), type := 0, pos := "gather.go:65", after := #[{ on := 0, ground := Ground.data }], guard := none }) (v := ?vv24_15_1) rfl (by kernel_rfl) (by kernel_rfl) (by kernel_rfl) (fun _ _ _ h => h) (Or.inl ⟨by rfl, ?yy24_15_1⟩) hHeld ?_
        case yy24_15_1 => (intro W hx; go_simp; try with_reducible rfl)
        simp only [Act.put, List.setIfInBounds_toArray, List.set_cons_zero, List.set_cons_succ]
        refine wpAnyH_take (i := 2) (oi := { dst := some 92, op := Op.fieldAddr 69 (Operand.tmp 91) 3, type := 0, pos := "gather.go:65", after := #[{ on := 1, ground := Ground.data }], guard := none }) (v := ?vv25_15_2) rfl (by kernel_rfl) (by kernel_rfl) (by kernel_rfl) (fun _ _ _ h => h) (Or.inl ⟨by rfl, ?yy25_15_2⟩) hHeld ?_
        case yy25_15_2 => (intro W hx; go_simp; try with_reducible rfl)
        simp only [Act.put, List.setIfInBounds_toArray, List.set_cons_zero, List.set_cons_succ]
        refine wpAnyH_take (i := 3) (oi := { dst := some 93, op := Op.load 33 (Operand.tmp 92), type := 33, pos := "gather.go:65", after := #[{ on := 2, ground := Ground.data }], guard := none }) (v := ?vv26_15_3) rfl (by kernel_rfl) (by kernel_rfl) (by kernel_rfl) (fun _ _ _ h => h) (Or.inl ⟨by rfl, ?yy26_15_3⟩) hHeld ?_
        case yy26_15_3 => (intro W hx; have hz := zz0.trans hx; have q1 := cell_ext hz HC3.out.2; go_simp; try with_reducible rfl)
        simp only [Act.put, List.setIfInBounds_toArray, List.set_cons_zero, List.set_cons_succ]
        refine wpAnyH_take (i := 4) (oi := { dst := some 94, op := Op.call { callee := Callee.builtin Builtin.len, args := #[Operand.tmp 93], argTypes := #[33] }, type := 3, pos := "gather.go:65", after := #[{ on := 3, ground := Ground.data }], guard := none }) (v := ?vv27_15_4) rfl (by kernel_rfl) (by kernel_rfl) (by kernel_rfl) (fun _ _ _ h => h) (Or.inl ⟨by rfl, ?yy27_15_4⟩) hHeld ?_
        case yy27_15_4 => (intro W hx; go_simp; try with_reducible rfl)
        simp only [Act.put, List.setIfInBounds_toArray, List.set_cons_zero, List.set_cons_succ]
        refine wpAnyH_take (i := 5) (oi := { dst := some 95, op := Op.move (Operand.tmp 11), type := 76, pos := "gather.go:65", after := #[], guard := none }) (v := ?vv28_15_5) rfl (by kernel_rfl) (by kernel_rfl) (by kernel_rfl) (fun _ _ _ h => h) (Or.inl ⟨by rfl, ?yy28_15_5⟩) hHeld ?_
        case yy28_15_5 => (intro W hx; go_simp; try with_reducible rfl)
        simp only [Act.put, List.setIfInBounds_toArray, List.set_cons_zero, List.set_cons_succ]
        refine wpAnyH_take (i := 6) (oi := { dst := some 96, op := Op.nilCheck (Operand.tmp 95), type := 0, pos := "gather.go:65", after := #[{ on := 5, ground := Ground.data }], guard := none }) (v := ?vv29_15_6) rfl (by kernel_rfl) (by kernel_rfl) (by kernel_rfl) (fun _ _ _ h => h) (Or.inl ⟨by rfl, ?yy29_15_6⟩) hHeld ?_
        case yy29_15_6 => (intro W hx; go_simp; try with_reducible rfl)
        simp only [Act.put, List.setIfInBounds_toArray, List.set_cons_zero, List.set_cons_succ]
        refine wpAnyH_take (i := 7) (oi := { dst := some 97, op := Op.fieldAddr 69 (Operand.tmp 96) 0, type := 0, pos := "gather.go:65", after := #[{ on := 6, ground := Ground.data }], guard := none }) (v := ?vv30_15_7) rfl (by kernel_rfl) (by kernel_rfl) (by kernel_rfl) (fun _ _ _ h => h) (Or.inl ⟨by rfl, ?yy30_15_7⟩) hHeld ?_
        case yy30_15_7 => (intro W hx; go_simp; try with_reducible rfl)
        simp only [Act.put, List.setIfInBounds_toArray, List.set_cons_zero, List.set_cons_succ]
        refine wpAnyH_take (i := 8) (oi := { dst := some 98, op := Op.load 3 (Operand.tmp 97), type := 3, pos := "gather.go:65", after := #[{ on := 7, ground := Ground.data }], guard := none }) (v := ?vv31_15_8) rfl (by kernel_rfl) (by kernel_rfl) (by kernel_rfl) (fun _ _ _ h => h) (Or.inl ⟨by rfl, ?yy31_15_8⟩) hHeld ?_
        case yy31_15_8 => (intro W hx; have hz := zz0.trans hx; have q1 := cell_ext hz HC3.out.1; go_simp; try with_reducible rfl)
        simp only [Act.put, List.setIfInBounds_toArray, List.set_cons_zero, List.set_cons_succ]
        refine wpAnyH_take (i := 9) (oi := { dst := some 99, op := Op.binOp BinOp.lss 3 (Operand.tmp 94) (Operand.tmp 98) 3, type := 4, pos := "gather.go:65", after := #[{ on := 4, ground := Ground.data }, { on := 8, ground := Ground.data }], guard := none }) (v := ?vv32_15_9) rfl (by kernel_rfl) (by kernel_rfl) (by kernel_rfl) (fun _ _ _ h => h) (Or.inl ⟨by rfl, ?yy32_15_9⟩) hHeld ?_
        case yy32_15_9 => (intro W hx; go_simp; try with_reducible rfl)
        simp only [Act.put, List.setIfInBounds_toArray, List.set_cons_zero, List.set_cons_succ]
        refine wpAnyH_done (by kernel_rfl) ?_ _
        have zend := zz0.trans hHeld
        obtain ⟨wp, hwp⟩ : ∃ V, V = wD22 := ⟨_, rfl⟩
        have xp : Ext wo wp := by rw [hwp]; exact zend
        rw [← hwp]
        clear hwp
        go_upto_region 17 with (fail)
        refine wp_region_held_drew (S := Ext wp) (by kernel_rfl) ((Ext.refl _).drew) (fun hHeld => ?_)
        obtain ⟨wDD, hwD⟩ : ∃ V, V = World.drew wp := ⟨_, rfl⟩
        rw [← hwD]
        clear hHeld
        have zz0 : Ext wp wDD := by rw [hwD]; exact (Ext.refl _).drew
        clear hwD
        refine wpAnyH_imp (S' := Ext wDD) (fun W h => Ext.trans zz0 h) _ _ _ _ ?_
        have hHeld := Ext.refl wDD
        refine wpAnyH_take (i := 0) (oi := { dst := some 101, op := Op.move (Operand.tmp 8), type := 3, pos := "gather.go:68", after := #[], guard := none }) (v := ?vv34_17_0) rfl (by kernel_rfl) (by kernel_rfl) (by kernel_rfl) (fun _ _ _ h => h) (Or.inl ⟨by rfl, ?yy34_17_0⟩) hHeld ?_
        case yy34_17_0 => (intro W hx; go_simp; try with_reducible rfl)
        simp only [Act.put, List.setIfInBounds_toArray, List.set_cons_zero, List.set_cons_succ]
        refine wpAnyH_take (i := 1) (oi := { dst := some 102, op := Op.move (Operand.tmp 11), type := 76, pos := "gather.go:68", after := #[], guard := none }) (v := ?vv35_17_1) rfl (by kernel_rfl) (by kernel_rfl) (by kernel_rfl) (fun _ _ _ h => h) (Or.inl ⟨by rfl, ?yy35_17_1⟩) hHeld ?_
        case yy35_17_1 => (intro W hx; go_simp; try with_reducible rfl)
        simp only [Act.put, List.setIfInBounds_toArray, List.set_cons_zero, List.set_cons_succ]
        refine wpAnyH_take (i := 2) (oi := { dst := some 103, op := Op.nilCheck (Operand.tmp 102), type := 0, pos := "gather.go:68", after := #[{ on := 1, ground := Ground.data }], guard := none }) (v := ?vv36_17_2) rfl (by kernel_rfl) (by kernel_rfl) (by kernel_rfl) (fun _ _ _ h => h) (Or.inl ⟨by rfl, ?yy36_17_2⟩) hHeld ?_
        case yy36_17_2 => (intro W hx; go_simp; try with_reducible rfl)
        simp only [Act.put, List.setIfInBounds_toArray, List.set_cons_zero, List.set_cons_succ]
        refine wpAnyH_take (i := 3) (oi := { dst := some 104, op := Op.fieldAddr 69 (Operand.tmp 103) 2, type := 0, pos := "gather.go:68", after := #[{ on := 2, ground := Ground.data }], guard := none }) (v := ?vv37_17_3) rfl (by kernel_rfl) (by kernel_rfl) (by kernel_rfl) (fun _ _ _ h => h) (Or.inl ⟨by rfl, ?yy37_17_3⟩) hHeld ?_
        case yy37_17_3 => (intro W hx; go_simp; try with_reducible rfl)
        simp only [Act.put, List.setIfInBounds_toArray, List.set_cons_zero, List.set_cons_succ]
        refine wpAnyH_take (i := 4) (oi := { dst := some 105, op := Op.load 4 (Operand.tmp 104), type := 4, pos := "gather.go:68", after := #[{ on := 3, ground := Ground.data }], guard := none }) (v := ?vv38_17_4) rfl (by kernel_rfl) (by kernel_rfl) (by kernel_rfl) (fun _ _ _ h => h) (Or.inl ⟨by rfl, ?yy38_17_4⟩) hHeld ?_
        case yy38_17_4 => (intro W hx; have hz := zz0.trans hx; have q1 := cell_ext (xp.trans hz) r2; go_simp; try with_reducible rfl)
        simp only [Act.put, List.setIfInBounds_toArray, List.set_cons_zero, List.set_cons_succ]
        refine wpAnyH_take (i := 5) (oi := { dst := some 106, op := Op.move (Operand.tmp 11), type := 76, pos := "gather.go:68", after := #[], guard := none }) (v := ?vv39_17_5) rfl (by kernel_rfl) (by kernel_rfl) (by kernel_rfl) (fun _ _ _ h => h) (Or.inl ⟨by rfl, ?yy39_17_5⟩) hHeld ?_
        case yy39_17_5 => (intro W hx; go_simp; try with_reducible rfl)
        simp only [Act.put, List.setIfInBounds_toArray, List.set_cons_zero, List.set_cons_succ]
        refine wpAnyH_take (i := 6) (oi := { dst := some 107, op := Op.nilCheck (Operand.tmp 106), type := 0, pos := "gather.go:68", after := #[{ on := 5, ground := Ground.data }], guard := none }) (v := ?vv40_17_6) rfl (by kernel_rfl) (by kernel_rfl) (by kernel_rfl) (fun _ _ _ h => h) (Or.inl ⟨by rfl, ?yy40_17_6⟩) hHeld ?_
        case yy40_17_6 => (intro W hx; go_simp; try with_reducible rfl)
        simp only [Act.put, List.setIfInBounds_toArray, List.set_cons_zero, List.set_cons_succ]
        refine wpAnyH_take (i := 7) (oi := { dst := some 108, op := Op.fieldAddr 69 (Operand.tmp 107) 3, type := 0, pos := "gather.go:68", after := #[{ on := 6, ground := Ground.data }], guard := none }) (v := ?vv41_17_7) rfl (by kernel_rfl) (by kernel_rfl) (by kernel_rfl) (fun _ _ _ h => h) (Or.inl ⟨by rfl, ?yy41_17_7⟩) hHeld ?_
        case yy41_17_7 => (intro W hx; go_simp; try with_reducible rfl)
        simp only [Act.put, List.setIfInBounds_toArray, List.set_cons_zero, List.set_cons_succ]
        refine wpAnyH_take (i := 8) (oi := { dst := some 109, op := Op.load 33 (Operand.tmp 108), type := 33, pos := "gather.go:68", after := #[{ on := 7, ground := Ground.data }], guard := none }) (v := ?vv42_17_8) rfl (by kernel_rfl) (by kernel_rfl) (by kernel_rfl) (fun _ _ _ h => h) (Or.inl ⟨by rfl, ?yy42_17_8⟩) hHeld ?_
        case yy42_17_8 => (intro W hx; have hz := zz0.trans hx; have q1 := cell_ext (xp.trans hz) HC3.out.2; go_simp; try with_reducible rfl)
        simp only [Act.put, List.setIfInBounds_toArray, List.set_cons_zero, List.set_cons_succ]
        refine wpAnyH_take (i := 9) (oi := { dst := some 110, op := Op.build 35 #[(0, Operand.tmp 101), (1, Operand.tmp 105), (2, Operand.tmp 109)], type := 35, pos := "gather.go:68", after := #[{ on := 0, ground := Ground.data }, { on := 4, ground := Ground.data }, { on := 8, ground := Ground.data }], guard := none }) (v := ?vv43_17_9) rfl (by kernel_rfl) (by kernel_rfl) (by kernel_rfl) (fun _ _ _ h => h) (Or.inl ⟨by rfl, ?yy43_17_9⟩) hHeld ?_
        case yy43_17_9 => (intro W hx; go_simp; try with_reducible rfl)
        simp only [Act.put, List.setIfInBounds_toArray, List.set_cons_zero, List.set_cons_succ]
        refine wpAnyH_ready (rs := [10]) (by kernel_rfl) (by simp) (AllReadyH.cons rfl (fun K hK => ?_) AllReadyH.nil)
        go_simp
        obtain ⟨wL, hw⟩ : ∃ V, V = World.alloc wDD (.cells #[.int .i64 0, .bool false, .slice none 0 0] 35) := ⟨_, rfl⟩
        rw [← hw]
        have xa : Ext wDD wL := by rw [hw]; exact (Ext.refl _).alloc _
        have kg : (World.heap wL)[(World.heap wDD).size]? = some (.cells #[.int .i64 0, .bool false, .slice none 0 0] 35) := by rw [hw]; exact heap_alloc_new _ _
        have gle := zz0.size
        clear hw
        refine hK.out _ _ xa (fun hHeld => ?_)
        clear hK K
        refine wpAnyH_imp (S' := fun W => World.grownBy wL W (some (World.heap wDD).size)) (fun W h => Ext.of_grown xa h (fun k e => by cases e; exact Nat.le_refl _)) _ _ _ _ ?_
        replace hHeld := World.grownBy.refl wL (some (World.heap wDD).size)
        have zz1 := zz0.trans xa
        refine wpAnyH_ready (rs := [11]) (by kernel_rfl) (by simp) (AllReadyH.cons rfl (fun K hK => ?_) AllReadyH.nil)
        rw [if_pos (by rfl)]
        refine wp_strow (o := { dst := none, op := Op.store 35 (Operand.tmp 12) (Operand.tmp 110), type := 0, pos := "gather.go:68", after := #[{ on := 10, ground := Ground.data }, { on := 9, ground := Ground.data }, { on := 0, ground := Ground.phase }, { on := 1, ground := Ground.phase }, { on := 2, ground := Ground.phase }, { on := 3, ground := Ground.phase }, { on := 4, ground := Ground.phase }, { on := 5, ground := Ground.phase }, { on := 6, ground := Ground.phase }, { on := 7, ground := Ground.phase }, { on := 8, ground := Ground.phase }, { on := 9, ground := Ground.phase }, { on := 10, ground := Ground.phase }], guard := none }) _ _ _ rfl kg rfl rfl (by kernel_rfl) rfl (by simp [Value.oneCell']) ?_
        clear kg
        intro wS kg xg
        simp only [Act.put]
        refine hK.out _ _ xg (fun hHeld => ?_)
        clear hK K
        refine wpAnyH_imp (S' := fun W => World.grownBy wS W (some (World.heap wDD).size)) (fun W h => World.grownBy_trans xg h) _ _ _ _ ?_
        replace hHeld := World.grownBy.refl wS (some (World.heap wDD).size)
        have zz2 := Ext.of_grown zz1 xg (fun k e => by cases e; exact gle)
        refine wpAnyH_done (by kernel_rfl) ?_ _
        have zend := zz2
        have KS := Lib.hid kg
        clear kg
        obtain ⟨g2, g3, g4, g5, g6, g7⟩ := ga_facts HGP.out.1 HYL.out.2.2.1 HYL.out.2.2.2.2.1 (.of_ext (xp.trans zend)) false
        rw [HYL.out.2.1, ← HYL.out.1] at g4 g6
        obtain ⟨T2, GT, hrel, _⟩ := ga_two HGP.out.1 HYL.out.2.2.1 HYL.out.2.2.2.2.1 (.of_ext (xp.trans zend)) false (BL.nil wS (fun _ => False)) (fun b hb => hb.elim) (Nat.zero_le _)
        go_upto_region 19 with (fail)
        obtain ⟨w7, hw7⟩ : ∃ V, V = (World.setCell wS ⟨rb', i * 4 + 2, none⟩ (.bool false)).setCell ⟨rb', i * 4 + 3, none⟩ (.slice none 0 0) := ⟨_, rfl⟩
        have kp7 : Kept (fun b => b = rb') wS w7 := by rw [hw7]; exact Kept.trans' (F := fun b => b = rb') (Kept.of_set _ rfl) (Kept.of_set _ rfl)
        rw [← hw7] at GT ⊢
        clear hw7 g2 g3 g4 g5 g6 g7
        have hrbl := HGP.out.1.lt rb' 1 HYL.out.2.2.2.2.2
        have sxp := xp.size
        have k7 := kp7.blk KS.out (fun e => by omega)
        have kq7 := kp7.blk (((xp.trans zend).block _ (blk_lt HKQ.out)).trans HKQ.out) (fun e => by have := HQ1.out; rw [e, HYL.out.2.2.2.2.2] at this; cases this)
        have HBL7 := Lib.hid (show BL w7 (fun b => T1 b = some (i + 2)) (.slice yA yl yc) x1.els from by
          have := ((HGP.out.1.bl i x1 HYL.out.2.2.1).ext (xp.trans zend)).kept kp7 (fun b hb e => by rw [e, HYL.out.2.2.2.2.2] at hb; injection hb with hb; omega)
          rw [HYL.out.2.1, ← HYL.out.1] at this
          exact this)
        have HGT := Lib.hid (And.intro GT hrel)
        clear GT hrel kp7 hrbl sxp
        go_wp2_with (first | refine wpList_ldrow rfl 35 (.tmp 12) rfl k7 rfl Try.underlying35 rfl (by kernel_rfl) ?_ | (refine wpList_strow rfl 35 (.tmp 4) (.tmp 117) rfl kq7 rfl rfl size35 rfl (by simp [Value.oneCell']) ?_; intro w9 k9 x9))
        try simp only [Exit.inBlock, Exit.then]
        refine bodyPost_ret (results_row2 rfl rfl k9.out Try.underlying35 rfl (by kernel_rfl)) rfl ?_
        have k5' : Kept (fun b => b = q) w7 w9 := .of_grown x9 (fun b e => by injection e with e; exact e.symm)
        have ho : takeG (ls.map Gl.p) 4 code bs = (some (i, x1.lost, x1.els.map (·.2)), ((ls.set i x1).set i { x1 with lost := false, v := .slice none 0 0, els := [] }).map Gl.p) := by
          have e1 := congrArg Gp.lost HP1.out
          have e2 := congrArg Gp.came HP1.out
          have e3 := congrArg Gp.tables HP1.out
          have e4 := congrArg Gp.stim HP1.out
          rw [HTK.out, if_neg (by rw [HCM.out.1, ← HCM.out.2]; exact HLT.out)]
          simp only [Gl.p] at e1 e2 e3 e4 ⊢
          rw [← e1, ← e2, List.set_set, List.map_set]
          simp [Gl.p, e3, e4]
        rw [ho]
        have GW : GPost w w7 g ((ls.set i x1).set i { x1 with lost := false, v := .slice none 0 0, els := [] }) lv T T2 := ((GPost.same HH.out HX3.out).trans HGP.out).trans HGT.out.1
        have hq2 : T2 q = none := by
          rcases e : T2 q with _ | t
          · rfl
          · have h1 := HGT.out.1.2.2 q (by rw [e]; simp)
            have := blk_lt HKQ.out
            rcases h1 with h1 | h1
            · exact absurd HQ1.out h1
            · omega
        refine ⟨⟨i, x1.lost, .slice yA yl yc⟩, x1.els, _, T2, fun b => T1 b = some (i + 2), rfl, ⟨GW.1.kept k5' (fun b t hb e => by rw [e, hq2] at hb; cases hb), GW.2.1.trans k5' (fun j hj e => by omega), GW.2.2⟩, rfl, ⟨HBL7.out.kept k5' (fun b hb e => by rw [e, HQ1.out] at hb; cases hb), rfl, rfl, rfl⟩, fun b hb => ⟨HGT.out.2 b hb (fun h => h), ?_, ?_⟩⟩
        · have h1 := HGP.out.1.lt b _ hb
          have h2 := (xp.trans zend).size
          have h3 := GW.2.1.size
          have h4 := HGT.out.1.2.1.size
          have h5 := k5'.size
          omega
        · have h1 := HGP.out.2.2 b (by rw [hb]; simp)
          exact h1.imp id (fun h => Nat.le_trans HX3.out.size h)
end
end Go.Proofs.Ytnbcmlphnllgeaa
