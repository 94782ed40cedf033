import Derived.Test.YtjdabmadpclbaaaH
set_option linter.unusedVariables false
set_option linter.unusedSimpArgs false
namespace Go.Proofs.Ytjdabmadpclbaaa
open Go.RowKit
theorem take_nil (f : Fr) (w : World) : Calls Try.prog 35 #[.pointer none, .agg f.vals.toArray] w fun e w' => e = .returned (.bool false) ∧ Ext w w' := by
  go_enter Try.func35, Try.ntmps35
  go_wp2
  go_ret
  exact ⟨rfl, (Ext.refl _).alloc _⟩
theorem send_nil (f : Fr) (w : World) : Calls Try.prog 13 #[.pointer none, .agg f.vals.toArray] w fun e w' => e = .returned (.int .i64 2) ∧ Ext w w' := by
  go_enter Try.func13, Try.ntmps13
  go_wp2
  go_ret
  exact ⟨rfl, (Ext.refl _).alloc _⟩
set_option maxHeartbeats 2000000 in
theorem take_no {w : World} {g : Nat} {s : BSt} {F : Nat → Prop} (h : BxC w 71 g s F) (f : Fr) (hm : f.may = false) : Calls Try.prog 35 #[.pointer (some ⟨g, 0, none⟩), .agg f.vals.toArray] w fun e w' => e = .returned (.bool false) ∧ Ext w w' := by
  have MF := Lib.hid (fun w => may_fr f w)
  rw [hm] at MF
  clear hm
  obtain ⟨id, ext, len, b0, b1, b2, b3, b4, b5, b6, b7⟩ := f
  simp only [Fr.vals] at MF ⊢
  go_enter Try.func35, Try.ntmps35
  go_wp2_with (go_at_call 31; (refine (MF.out _).mono ?_); rintro e w1 ⟨rfl, x1⟩)
  go_ret
  exact ⟨rfl, ((Ext.refl _).alloc _).trans x1⟩
set_option maxHeartbeats 2000000 in
theorem take_out {w : World} {g : Nat} {s : BSt} {F : Nat → Prop} (h : BxC w 71 g s F) (f : Fr) (hm : f.may = true) (hl : s.lets f = false) : Calls Try.prog 35 #[.pointer (some ⟨g, 0, none⟩), .agg f.vals.toArray] w fun e w' => e = .returned (.bool false) ∧ Ext w w' := by
  have MF := Lib.hid (fun w => may_fr f w)
  rw [hm] at MF
  have LF := Lib.hid (fun w (h : BxC w 71 g s F) => lets_any h f)
  rw [hl] at LF
  clear hm hl
  have HH := Lib.hid h
  clear h
  obtain ⟨id, ext, len, b0, b1, b2, b3, b4, b5, b6, b7⟩ := f
  simp only [Fr.vals] at MF LF ⊢
  go_enter Try.func35, Try.ntmps35
  go_wp2_with (first
    | (go_at_call 31; (refine (MF.out _).mono ?_); rintro e w1 ⟨rfl, x1⟩; have kf : w1.heap[w.heap.size]? = some _ := (x1.block _ (by simp)).trans (heap_alloc_new w _); obtain ⟨e0, e1, e2, e3, e4, e5, e6, e7, e8, e9, e10⟩ := cells11 kf)
    | (go_at_call 43; (refine (LF.out _ (HH.out.ext (((Ext.refl _).alloc _).trans x1))).mono ?_); rintro e w2 ⟨rfl, x2⟩))
  go_ret
  exact ⟨rfl, (((Ext.refl _).alloc _).trans x1).trans x2⟩
set_option maxHeartbeats 2000000 in
theorem take_full {w : World} {g : Nat} {s : BSt} {F : Nat → Prop} (h : BxC w 71 g s F) (f : Fr) (hm : f.may = true) (hl : s.lets f = true) (hn : 4 ≤ s.rx.length) : Calls Try.prog 35 #[.pointer (some ⟨g, 0, none⟩), .agg f.vals.toArray] w fun e w' => e = .returned (.bool true) ∧ BxPost w 71 g { s with lost := true } F w' := by
  have MF := Lib.hid (fun w => may_fr f w)
  rw [hm] at MF
  have LF := Lib.hid (fun w (h : BxC w 71 g s F) => lets_any h f)
  rw [hl] at LF
  clear hm hl
  have HC := Lib.hid h
  obtain ⟨_, fA, fc, tA, tc, rA, rc, h⟩ := h
  have HH := Lib.hid h
  have K := h.row
  clear h
  obtain ⟨id, ext, len, b0, b1, b2, b3, b4, b5, b6, b7⟩ := f
  simp only [Fr.vals] at MF LF ⊢
  go_enter Try.func35, Try.ntmps35
  go_wp2_with (first
    | (go_at_call 31; (refine (MF.out _).mono ?_); rintro e w1 ⟨rfl, x1⟩; have kf : w1.heap[w.heap.size]? = some _ := (x1.block _ (by simp)).trans (heap_alloc_new w _); obtain ⟨e0, e1, e2, e3, e4, e5, e6, e7, e8, e9, e10⟩ := cells11 kf)
    | (go_at_call 43; (refine (LF.out _ (HC.out.ext (((Ext.refl _).alloc _).trans x1))).mono ?_); rintro e w2 ⟨rfl, x2⟩; have xw := (((Ext.refl w).alloc (.cells #[.int .u32 id, .bool ext, .int .i64 len, .int .u8 b0, .int .u8 b1, .int .u8 b2, .int .u8 b3, .int .u8 b4, .int .u8 b5, .int .u8 b6, .int .u8 b7] 34)).trans x1).trans x2; have K2 := (xw.block _ (blk_lt K)).trans K; obtain ⟨f0, f1, f2, f3⟩ := cells4 K2; have z3 := blk_free (i := 3) K2))
  go_ret
  obtain ⟨W, hW, K4, x4⟩ := set_new 3 (.bool true) K2
  rw [← hW]
  exact ⟨rfl, BxPost.of xw (bx_set3 (.inl rfl) (HH.out.ext xw) true K4 x4)⟩
set_option maxHeartbeats 4000000 in
theorem take_ok {w : World} {g : Nat} {s : BSt} {F : Nat → Prop} (h : BxC w 71 g s F) (f : Fr) (hf : f.ok) (hm : f.may = true) (hl : s.lets f = true) (hn : ¬ 4 ≤ s.rx.length) : Calls Try.prog 35 #[.pointer (some ⟨g, 0, none⟩), .agg f.vals.toArray] w fun e w' => e = .returned (.bool true) ∧ BxPost w 71 g { s with rx := s.rx ++ [f] } F w' := by
  have MF := Lib.hid (fun w => may_fr f w)
  rw [hm] at MF
  have LF := Lib.hid (fun w (h : BxC w 71 g s F) => lets_any h f)
  rw [hl] at LF
  clear hm hl
  have HC := Lib.hid h
  obtain ⟨_, fA, fc, tA, tc, rA, rc, h⟩ := h
  have HH := Lib.hid h
  have K := h.row
  have hn3 : s.rx.length ≤ 3 := by omega
  clear h hn
  obtain ⟨id, ext, len, b0, b1, b2, b3, b4, b5, b6, b7⟩ := f
  simp only [Fr.vals] at MF LF ⊢
  go_enter Try.func35, Try.ntmps35
  go_upto_region 5 with (first
    | (go_at_call 31; (refine (MF.out _).mono ?_); rintro e w1 ⟨rfl, x1⟩; have kf : w1.heap[w.heap.size]? = some _ := (x1.block _ (by simp)).trans (heap_alloc_new w _); obtain ⟨e0, e1, e2, e3, e4, e5, e6, e7, e8, e9, e10⟩ := cells11 kf)
    | (go_at_call 43; (refine (LF.out _ (HC.out.ext (((Ext.refl _).alloc _).trans x1))).mono ?_); rintro e w2 ⟨rfl, x2⟩; have xw := (((Ext.refl w).alloc (.cells #[.int .u32 id, .bool ext, .int .i64 len, .int .u8 b0, .int .u8 b1, .int .u8 b2, .int .u8 b3, .int .u8 b4, .int .u8 b5, .int .u8 b6, .int .u8 b7] 34)).trans x1).trans x2; have K2 := (xw.block _ (blk_lt K)).trans K; obtain ⟨f0, f1, f2, f3⟩ := cells4 K2))
  have kf2 : w2.heap[w.heap.size]? = some (.cells (Fr.vals (⟨id, ext, len, b0, b1, b2, b3, b4, b5, b6, b7⟩ : Fr)).toArray 34 (0, 0)) := (x2.block _ (blk_lt kf)).trans kf
  have hnF : ¬ F w.heap.size := fun e => by have := HH.out.lt _ e; omega
  have H1 := Lib.hid (HH.out.ext xw)
  have ow := H1.out.rx
  have hng := own_neq ow K2 (by decide)
  clear f0 f1 f2 f3 e0 e1 e2 e3 e4 e5 e6 e7 e8 e9 e10 kf
  refine wp_regionL (Kept F w2) (Ext w2) 7 (by kernel_rfl) (Kept.of_ext (Ext.refl _).drew) ((Ext.refl _).drew) (fun hL => ?_)
  have hP := hL.1
  have hE : Ext w2 (World.drew w2) := (Ext.refl _).drew
  obtain ⟨wD1, hwD⟩ : ∃ V, V = World.drew w2 := ⟨_, rfl⟩
  rw [← hwD] at hL hP hE ⊢
  clear hwD
  refine wpAnyL_takeP (i := 0) (oi := { dst := some 27, op := Op.move (Operand.tmp 0), type := 41, pos := "box.go:77", after := #[], guard := none }) (v := ?vv2_5_0) rfl (by kernel_rfl) (by kernel_rfl) (by kernel_rfl) (by kernel_rfl) (fun _ _ _ h => h) (Or.inl ⟨by rfl, ?yy2_5_0⟩) hL (fun hL => ?_)
  case yy2_5_0 => (intro W hx; go_simp; try with_reducible rfl)
  simp only [Act.put, List.setIfInBounds_toArray, List.set_cons_zero, List.set_cons_succ]
  refine wpAnyL_takeP (i := 1) (oi := { dst := some 28, op := Op.move (Operand.tmp 0), type := 41, pos := "box.go:77", after := #[], guard := none }) (v := ?vv3_5_1) rfl (by kernel_rfl) (by kernel_rfl) (by kernel_rfl) (by kernel_rfl) (fun _ _ _ h => h) (Or.inl ⟨by rfl, ?yy3_5_1⟩) hL (fun hL => ?_)
  case yy3_5_1 => (intro W hx; go_simp; try with_reducible rfl)
  simp only [Act.put, List.setIfInBounds_toArray, List.set_cons_zero, List.set_cons_succ]
  refine wpAnyL_takeP (i := 2) (oi := { dst := some 29, op := Op.nilCheck (Operand.tmp 28), type := 0, pos := "box.go:77", after := #[{ on := 1, ground := Ground.data }], guard := none }) (v := ?vv4_5_2) rfl (by kernel_rfl) (by kernel_rfl) (by kernel_rfl) (by kernel_rfl) (fun _ _ _ h => h) (Or.inl ⟨by rfl, ?yy4_5_2⟩) hL (fun hL => ?_)
  case yy4_5_2 => (intro W hx; go_simp; try with_reducible rfl)
  simp only [Act.put, List.setIfInBounds_toArray, List.set_cons_zero, List.set_cons_succ]
  refine wpAnyL_takeP (i := 3) (oi := { dst := some 30, op := Op.fieldAddr 71 (Operand.tmp 29) 2, type := 0, pos := "box.go:77", after := #[{ on := 2, ground := Ground.data }], guard := none }) (v := ?vv5_5_3) rfl (by kernel_rfl) (by kernel_rfl) (by kernel_rfl) (by kernel_rfl) (fun _ _ _ h => h) (Or.inl ⟨by rfl, ?yy5_5_3⟩) hL (fun hL => ?_)
  case yy5_5_3 => (intro W hx; go_simp; try with_reducible rfl)
  simp only [Act.put, List.setIfInBounds_toArray, List.set_cons_zero, List.set_cons_succ]
  refine wpAnyL_takeB (i := 4) [7] (oi := { dst := some 31, op := Op.load 51 (Operand.tmp 30), type := 51, pos := "box.go:77", after := #[{ on := 3, ground := Ground.data }], guard := none }) (v := ?vv6_5_4) rfl (by kernel_rfl) (by kernel_rfl) (by kernel_rfl) (by kernel_rfl) (fun _ _ _ h => h) (by kernel_rfl) (Or.inl ⟨by rfl, ?yy6_5_4⟩) hL (fun hL => ?_)
  case yy6_5_4 => (intro W hx; have q1 := blk_cell (i := 2) ((hx.2.block _ (blk_lt K2)).trans K2) rfl; go_simp; try with_reducible rfl)
  simp only [Act.put, List.setIfInBounds_toArray, List.set_cons_zero, List.set_cons_succ]
  refine wpAnyL_takeP (i := 5) (oi := { dst := some 32, op := Op.load 34 (Operand.tmp 3), type := 34, pos := "box.go:77", after := #[], guard := none }) (v := ?vv7_5_5) rfl (by kernel_rfl) (by kernel_rfl) (by kernel_rfl) (by kernel_rfl) (fun _ _ _ h => h) (Or.inl ⟨by rfl, ?yy7_5_5⟩) hL (fun hL => ?_)
  case yy7_5_5 => (intro W hx; refine ld_op (frAt (hx.blk kf2 hnF)) ?_; rfl)
  simp only [Act.put, List.setIfInBounds_toArray, List.set_cons_zero, List.set_cons_succ]
  refine wpAnyL_ready (rs := [6]) (by kernel_rfl) (by simp) (AllReadyL.cons rfl (fun K hK => ?_) AllReadyL.nil)
  rw [if_pos (by rfl)]
  refine wp_bsF (o := { dst := some 33, op := Op.buildSlice 51 1 #[(0, Operand.tmp 32)], type := 51, pos := "box.go:77", after := #[{ on := 5, ground := Ground.data }], guard := none }) (f := (⟨id, ext, len, b0, b1, b2, b3, b4, b5, b6, b7⟩ : Fr)) _ rfl rfl ?_; intro w3 hw; have xb : Ext wD1 w3 := (by rw [hw]; exact (Ext.refl _).alloc _); have sh := shows_one (w := wD1) (f := (⟨id, ext, len, b0, b1, b2, b3, b4, b5, b6, b7⟩ : Fr)) 34; rw [← hw] at sh; clear hw; have ow2 := own_ext (own_ext ow hE) xb
  simp only [Act.put, List.setIfInBounds_toArray, List.set_cons_zero, List.set_cons_succ]
  replace hE := hE.trans xb
  replace hP := hP.then xb
  clear hL
  refine hK.out _ _ ⟨hP, fun e => hE⟩ (fun hL => ?_)
  clear hK K
  refine wpAnyL_ready (rs := [7]) (by kernel_rfl) (by simp) (AllReadyL.cons rfl (fun K hK => ?_) AllReadyL.nil)
  rw [if_pos (by rfl)]
  refine wp_appB (o := { dst := some 34, op := Op.call { callee := Callee.builtin Builtin.append, args := #[Operand.tmp 31, Operand.tmp 33], argTypes := #[51, 51] }, type := 51, pos := "box.go:77", after := #[{ on := 4, ground := Ground.data }, { on := 6, ground := Ground.data }], guard := none }) el45 _ _ rfl ow2 rfl sh rfl (frs_one _) (le_max (by omega)) (by omega) (Nat.zero_le _) ?_; intro v3 w4 ow3 x4 at3; obtain ⟨g3, c3, rfl, _, _⟩ := ow3.form (by omega)
  simp only [Act.put, List.setIfInBounds_toArray, List.set_cons_zero, List.set_cons_succ]
  replace hP := hP.trans' (Kept.of_grown x4 (fun b e => HH.out.fr b e))
  have k3 : Kept (fun b => Value.ownBlock (.slice rA s.rx.length rc) = some b) w2 w4 := Kept.trans' (.of_ext hE) (.of_grown x4 (fun b e => e)); have K3 := k3.blk K2 (fun e => hng e); have hs2 := hE.size
  clear hE
  clear hL
  refine hK.out _ _ ⟨hP, fun e => absurd e (by simp)⟩ (fun hL => ?_)
  clear hK K
  refine wpAnyL_takeP (i := 8) (oi := { dst := some 35, op := Op.nilCheck (Operand.tmp 27), type := 0, pos := "box.go:77", after := #[{ on := 0, ground := Ground.data }, { on := 0, ground := Ground.phase }, { on := 1, ground := Ground.phase }, { on := 2, ground := Ground.phase }, { on := 3, ground := Ground.phase }, { on := 4, ground := Ground.phase }, { on := 5, ground := Ground.phase }, { on := 6, ground := Ground.phase }, { on := 7, ground := Ground.phase }], guard := none }) (v := ?vv8_5_8) rfl (by kernel_rfl) (by kernel_rfl) (by kernel_rfl) (by kernel_rfl) (fun _ _ _ h => h) (Or.inl ⟨by rfl, ?yy8_5_8⟩) hL (fun hL => ?_)
  case yy8_5_8 => (intro W hx; go_simp; try with_reducible rfl)
  simp only [Act.put, List.setIfInBounds_toArray, List.set_cons_zero, List.set_cons_succ]
  refine wpAnyL_takeP (i := 9) (oi := { dst := some 36, op := Op.fieldAddr 71 (Operand.tmp 35) 2, type := 0, pos := "box.go:77", after := #[{ on := 8, ground := Ground.data }, { on := 0, ground := Ground.phase }, { on := 1, ground := Ground.phase }, { on := 2, ground := Ground.phase }, { on := 3, ground := Ground.phase }, { on := 4, ground := Ground.phase }, { on := 5, ground := Ground.phase }, { on := 6, ground := Ground.phase }, { on := 7, ground := Ground.phase }], guard := none }) (v := ?vv9_5_9) rfl (by kernel_rfl) (by kernel_rfl) (by kernel_rfl) (by kernel_rfl) (fun _ _ _ h => h) (Or.inl ⟨by rfl, ?yy9_5_9⟩) hL (fun hL => ?_)
  case yy9_5_9 => (intro W hx; go_simp; try with_reducible rfl)
  simp only [Act.put, List.setIfInBounds_toArray, List.set_cons_zero, List.set_cons_succ]
  refine wpAnyL_ready (rs := [10]) (by kernel_rfl) (by simp) (AllReadyL.cons rfl (fun K hK => ?_) AllReadyL.nil)
  rw [if_pos (by rfl)]
  refine wp_stcell (o := { dst := none, op := Op.store 51 (Operand.tmp 36) (Operand.tmp 34), type := 0, pos := "box.go:77", after := #[{ on := 9, ground := Ground.data }, { on := 7, ground := Ground.data }, { on := 7, ground := Ground.chain }, { on := 0, ground := Ground.phase }, { on := 1, ground := Ground.phase }, { on := 2, ground := Ground.phase }, { on := 3, ground := Ground.phase }, { on := 4, ground := Ground.phase }, { on := 5, ground := Ground.phase }, { on := 6, ground := Ground.phase }, { on := 7, ground := Ground.phase }], guard := none }) 51 _ _ rfl K3 rfl rfl (by simp) size45 rfl (fun c e => by cases e) ?_; intro w5 K5 x5
  simp only [Act.put]
  replace hP := hP.trans' (Kept.of_grown x5 (fun b e => by injection e with e; subst e; exact HH.out.fg))
  clear hL
  refine hK.out _ _ ⟨hP, fun e => absurd e (by simp)⟩ (fun hL => ?_)
  clear hK K
  refine wpAnyL_done (by kernel_rfl) ?_ _
  go_wp2
  go_ret
  have hlen : (s.rx ++ [(⟨id, ext, len, b0, b1, b2, b3, b4, b5, b6, b7⟩ : Fr)]).length = s.rx.length + 1 := by simp
  refine ⟨rfl, BxPost.of xw (bx_set2 (.inl rfl) H1.out (s.rx ++ [(⟨id, ext, len, b0, b1, b2, b3, b4, b5, b6, b7⟩ : Fr)]) (A3 := some ⟨g3, 0, none⟩) (c3 := c3) (by rw [hlen, frs_app]; exact ow3) k3 (by rw [hlen]; exact at3.imp (fun e => e) (fun e b e2 => by rw [e] at e2; injection e2 with e2; omega)) (by rw [hlen]; exact K5) x5 ?_ (by omega))⟩
  intro y hy
  rcases List.mem_append.1 hy with hy | hy
  · exact HH.out.ok.rx y hy
  · simp at hy; subst hy; exact hf
theorem take_any {w : World} {g : Nat} {s : BSt} {F : Nat → Prop} (h : BxC w 71 g s F) (f : Fr) (hf : f.ok) : Calls Try.prog 35 #[.pointer (some ⟨g, 0, none⟩), .agg f.vals.toArray] w fun e w' => e = .returned (.bool (s.take f).2) ∧ BxPost w 71 g (s.take f).1 F w' := by
  unfold BSt.take
  rcases hm : f.may with _ | _
  · exact (take_no h f hm).mono fun e w' ⟨h1, h2⟩ => ⟨by simpa using h1, by simpa using bxPost_same h h2⟩
  · rcases hl : s.lets f with _ | _
    · exact (take_out h f hm hl).mono fun e w' ⟨h1, h2⟩ => ⟨by simpa using h1, by simpa using bxPost_same h h2⟩
    · by_cases hn : 4 ≤ s.rx.length
      · simpa [hn] using take_full h f hm hl hn
      · simpa [hn] using take_ok h f hf hm hl hn
end Go.Proofs.Ytjdabmadpclbaaa
