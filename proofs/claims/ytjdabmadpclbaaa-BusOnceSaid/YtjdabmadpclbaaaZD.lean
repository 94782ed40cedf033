import Derived.Test.YtjdabmadpclbaaaZC
set_option linter.unusedVariables false
set_option linter.unusedSimpArgs false
namespace Go.Proofs.Ytjdabmadpclbaaa
open Go.RowKit
theorem rdone_none {w : World} {g : Nat} {s : BSt} {F : Nat → Prop} (h : BxC w 53 g s F) (h0 : s.tx = []) : Calls Try.prog 33 #[.pointer (some ⟨g, 0, none⟩)] w fun e w' => e = .returned (.tuple #[]) ∧ Ext w w' := by
  obtain ⟨_, fA, fc, tA, tc, rA, rc, h⟩ := h
  have hfst := rnext_any g fA s.fl.length fc tA tc rA s.rx.length rc s.lost s.tx w h.row (Shows.of_own h.tx) h.ok.tx (by have := h.ok.nt; omega)
  rw [bestI_nil h0] at hfst
  have HF := Lib.hid hfst
  clear hfst h h0
  go_enter Try.func33, Try.ntmps33
  go_wp2_with (go_at_call 40; (refine HF.out.mono ?_); rintro e w1 ⟨rfl, x1⟩)
  go_end0
  exact ⟨rfl, x1⟩
set_option maxHeartbeats 4000000 in
theorem rdone_some {w : World} {g : Nat} {s : BSt} {F : Nat → Prop} (h : BxC w 53 g s F) (h0 : s.tx ≠ []) : Calls Try.prog 33 #[.pointer (some ⟨g, 0, none⟩)] w fun e w' => e = .returned (.tuple #[]) ∧ BxPost w 53 g { s with tx := s.tx.eraseIdx (best s.tx) } F w' := by
  have hb := best_lt h0
  have hn : 0 < s.tx.length := List.length_pos_iff.2 h0
  have hn3 := h.ok.nt
  obtain ⟨_, fA, fc, tA, tc, rA, rc, h⟩ := h
  have HH := Lib.hid h
  have K := h.row
  have hfst := rnext_any g fA s.fl.length fc tA tc rA s.rx.length rc s.lost s.tx w h.row (Shows.of_own h.tx) h.ok.tx (by omega)
  rw [bestI_some h0] at hfst
  have HF := Lib.hid hfst
  obtain ⟨tb, cur, rfl, ht, h1, h2, h3, h4⟩ := own_some h.tx hn
  obtain ⟨i, hi⟩ : ∃ i, i = best s.tx := ⟨_, rfl⟩
  rw [← hi] at hb HF ⊢
  have hic : i ≤ tc := by omega
  have hicc : i + 1 ≤ tc := by omega
  have hi0 : (0 : Int) ≤ i + 1 := by omega
  have hin : ¬ ((i : Int) < 0) := by omega
  have hwr : IntKind.i64.wrap ((i : Int) + 1) = i + 1 := by rw [IntKind.wrap_i64]; omega
  have htn : ((i : Int) + 1).toNat = i + 1 := by omega
  have hi1 : (i : Int) + 1 ≤ s.tx.length := by omega
  obtain ⟨pA, hpA⟩ : ∃ pA, (if tc = i + 1 then some (⟨tb, 0, none⟩ : Addr) else some ⟨tb, (i + 1) * 11, none⟩) = some pA := by split <;> exact ⟨_, rfl⟩
  have sh := (Shows.of_own h.tx).drop (k := i + 1) (by omega) h1
  rw [frs_drop] at sh
  have sh : Shows w 11 (some pA) (s.tx.length - (i + 1)) (frs (s.tx.drop (i + 1))) := by
    rw [← hpA]
    simpa [Addr.add_mid] using sh
  have st := (Shows.of_own h.tx).take (k := i) (by omega)
  rw [frs_take] at st
  have SH := Lib.hid sh
  have ST := Lib.hid st
  clear h h0 hfst sh st ht h3 h4 hi
  unfold maxLen at h2
  go_enter Try.func33, Try.ntmps33
  go_upto_region 2 with (go_at_call 40; (refine HF.out.mono ?_); rintro e w1 ⟨rfl, x1⟩)
  have K1 := (x1.block _ (blk_lt K)).trans K
  have H1 := Lib.hid (HH.out.ext x1)
  refine wp_regionL (Kept F w1) (Ext w1) 19 (by kernel_rfl) (Kept.of_ext (Ext.refl _).drew) ((Ext.refl _).drew) (fun hL => ?_)
  have hP := hL.1
  have hE : Ext w1 (World.drew w1) := (Ext.refl _).drew
  obtain ⟨wD1, hwD⟩ : ∃ V, V = World.drew w1 := ⟨_, rfl⟩
  rw [← hwD] at hL hP hE ⊢
  clear hwD
  refine wpAnyL_takeP (i := 0) (oi := { dst := some 7, op := Op.move (Operand.tmp 0), type := 43, pos := "ref.go:60", after := #[], guard := none }) (v := ?vv2_2_0) rfl (by kernel_rfl) (by kernel_rfl) (by kernel_rfl) (by kernel_rfl) (fun _ _ _ h => h) (Or.inl ⟨by rfl, ?yy2_2_0⟩) hL (fun hL => ?_)
  case yy2_2_0 => (intro W hx; go_simp; try with_reducible rfl)
  simp only [Act.put, List.setIfInBounds_toArray, List.set_cons_zero, List.set_cons_succ]
  refine wpAnyL_takeP (i := 2) (oi := { dst := some 9, op := Op.move (Operand.tmp 0), type := 43, pos := "ref.go:60", after := #[], guard := none }) (v := ?vv3_2_2) rfl (by kernel_rfl) (by kernel_rfl) (by kernel_rfl) (by kernel_rfl) (fun _ _ _ h => h) (Or.inl ⟨by rfl, ?yy3_2_2⟩) hL (fun hL => ?_)
  case yy3_2_2 => (intro W hx; go_simp; try with_reducible rfl)
  simp only [Act.put, List.setIfInBounds_toArray, List.set_cons_zero, List.set_cons_succ]
  refine wpAnyL_takeP (i := 3) (oi := { dst := some 10, op := Op.nilCheck (Operand.tmp 9), type := 0, pos := "ref.go:60", after := #[{ on := 2, ground := Ground.data }], guard := none }) (v := ?vv4_2_3) rfl (by kernel_rfl) (by kernel_rfl) (by kernel_rfl) (by kernel_rfl) (fun _ _ _ h => h) (Or.inl ⟨by rfl, ?yy4_2_3⟩) hL (fun hL => ?_)
  case yy4_2_3 => (intro W hx; go_simp; try with_reducible rfl)
  simp only [Act.put, List.setIfInBounds_toArray, List.set_cons_zero, List.set_cons_succ]
  refine wpAnyL_takeP (i := 4) (oi := { dst := some 11, op := Op.fieldAddr 53 (Operand.tmp 10) 1, type := 0, pos := "ref.go:60", after := #[{ on := 3, ground := Ground.data }], guard := none }) (v := ?vv5_2_4) rfl (by kernel_rfl) (by kernel_rfl) (by kernel_rfl) (by kernel_rfl) (fun _ _ _ h => h) (Or.inl ⟨by rfl, ?yy5_2_4⟩) hL (fun hL => ?_)
  case yy5_2_4 => (intro W hx; go_simp; try with_reducible rfl)
  simp only [Act.put, List.setIfInBounds_toArray, List.set_cons_zero, List.set_cons_succ]
  refine wpAnyL_takeB (i := 5) [7, 8, 16, 19] (oi := { dst := some 12, op := Op.load 51 (Operand.tmp 11), type := 51, pos := "ref.go:60", after := #[{ on := 4, ground := Ground.data }], guard := none }) (v := ?vv6_2_5) rfl (by kernel_rfl) (by kernel_rfl) (by kernel_rfl) (by kernel_rfl) (fun _ _ _ h => h) (by kernel_rfl) (Or.inl ⟨by rfl, ?yy6_2_5⟩) hL (fun hL => ?_)
  case yy6_2_5 => (intro W hx; have q1 := blk_cell (i := 1) ((hx.2.block _ (blk_lt K1)).trans K1) rfl; go_simp; try with_reducible rfl)
  simp only [Act.put, List.setIfInBounds_toArray, List.set_cons_zero, List.set_cons_succ]
  refine wpAnyL_takeP (i := 6) (oi := { dst := some 13, op := Op.move (Operand.tmp 2), type := 3, pos := "ref.go:60", after := #[], guard := none }) (v := ?vv7_2_6) rfl (by kernel_rfl) (by kernel_rfl) (by kernel_rfl) (by kernel_rfl) (fun _ _ _ h => h) (Or.inl ⟨by rfl, ?yy7_2_6⟩) hL (fun hL => ?_)
  case yy7_2_6 => (intro W hx; go_simp; try with_reducible rfl)
  simp only [Act.put, List.setIfInBounds_toArray, List.set_cons_zero, List.set_cons_succ]
  refine wpAnyL_takeP (i := 7) (oi := { dst := some 14, op := Op.slice 51 (Operand.tmp 12) none (some (Operand.tmp 13)) none, type := 51, pos := "ref.go:60", after := #[{ on := 5, ground := Ground.data }, { on := 6, ground := Ground.data }], guard := none }) (v := ?vv8_2_7) rfl (by kernel_rfl) (by kernel_rfl) (by kernel_rfl) (by kernel_rfl) (fun _ _ _ h => h) (Or.inl ⟨by rfl, ?yy8_2_7⟩) hL (fun hL => ?_)
  case yy8_2_7 => (intro W hx; go_simp; try with_reducible rfl)
  simp only [Act.put, List.setIfInBounds_toArray, List.set_cons_zero, List.set_cons_succ]
  refine wpAnyL_takeP (i := 9) (oi := { dst := some 16, op := Op.move (Operand.tmp 0), type := 43, pos := "ref.go:60", after := #[], guard := none }) (v := ?vv9_2_9) rfl (by kernel_rfl) (by kernel_rfl) (by kernel_rfl) (by kernel_rfl) (fun _ _ _ h => h) (Or.inl ⟨by rfl, ?yy9_2_9⟩) hL (fun hL => ?_)
  case yy9_2_9 => (intro W hx; go_simp; try with_reducible rfl)
  simp only [Act.put, List.setIfInBounds_toArray, List.set_cons_zero, List.set_cons_succ]
  refine wpAnyL_takeP (i := 10) (oi := { dst := some 17, op := Op.nilCheck (Operand.tmp 16), type := 0, pos := "ref.go:60", after := #[{ on := 9, ground := Ground.data }], guard := none }) (v := ?vv10_2_10) rfl (by kernel_rfl) (by kernel_rfl) (by kernel_rfl) (by kernel_rfl) (fun _ _ _ h => h) (Or.inl ⟨by rfl, ?yy10_2_10⟩) hL (fun hL => ?_)
  case yy10_2_10 => (intro W hx; go_simp; try with_reducible rfl)
  simp only [Act.put, List.setIfInBounds_toArray, List.set_cons_zero, List.set_cons_succ]
  refine wpAnyL_takeP (i := 11) (oi := { dst := some 18, op := Op.fieldAddr 53 (Operand.tmp 17) 1, type := 0, pos := "ref.go:60", after := #[{ on := 10, ground := Ground.data }], guard := none }) (v := ?vv11_2_11) rfl (by kernel_rfl) (by kernel_rfl) (by kernel_rfl) (by kernel_rfl) (fun _ _ _ h => h) (Or.inl ⟨by rfl, ?yy11_2_11⟩) hL (fun hL => ?_)
  case yy11_2_11 => (intro W hx; go_simp; try with_reducible rfl)
  simp only [Act.put, List.setIfInBounds_toArray, List.set_cons_zero, List.set_cons_succ]
  refine wpAnyL_takeB (i := 12) [15, 16, 19] (oi := { dst := some 19, op := Op.load 51 (Operand.tmp 18), type := 51, pos := "ref.go:60", after := #[{ on := 11, ground := Ground.data }], guard := none }) (v := ?vv12_2_12) rfl (by kernel_rfl) (by kernel_rfl) (by kernel_rfl) (by kernel_rfl) (fun _ _ _ h => h) (by kernel_rfl) (Or.inl ⟨by rfl, ?yy12_2_12⟩) hL (fun hL => ?_)
  case yy12_2_12 => (intro W hx; have q1 := blk_cell (i := 1) ((hx.2.block _ (blk_lt K1)).trans K1) rfl; go_simp; try with_reducible rfl)
  simp only [Act.put, List.setIfInBounds_toArray, List.set_cons_zero, List.set_cons_succ]
  refine wpAnyL_takeP (i := 13) (oi := { dst := some 20, op := Op.move (Operand.tmp 2), type := 3, pos := "ref.go:60", after := #[], guard := none }) (v := ?vv13_2_13) rfl (by kernel_rfl) (by kernel_rfl) (by kernel_rfl) (by kernel_rfl) (fun _ _ _ h => h) (Or.inl ⟨by rfl, ?yy13_2_13⟩) hL (fun hL => ?_)
  case yy13_2_13 => (intro W hx; go_simp; try with_reducible rfl)
  simp only [Act.put, List.setIfInBounds_toArray, List.set_cons_zero, List.set_cons_succ]
  refine wpAnyL_takeP (i := 14) (oi := { dst := some 21, op := Op.binOp BinOp.add 3 (Operand.tmp 20) (Operand.const (Value.int IntKind.i64 1)) 3, type := 3, pos := "ref.go:60", after := #[{ on := 13, ground := Ground.data }], guard := none }) (v := ?vv14_2_14) rfl (by kernel_rfl) (by kernel_rfl) (by kernel_rfl) (by kernel_rfl) (fun _ _ _ h => h) (Or.inl ⟨by rfl, ?yy14_2_14⟩) hL (fun hL => ?_)
  case yy14_2_14 => (intro W hx; go_simp; try with_reducible rfl)
  simp only [Act.put, List.setIfInBounds_toArray, List.set_cons_zero, List.set_cons_succ]
  refine wpAnyL_takeP (i := 15) (oi := { dst := some 22, op := Op.slice 51 (Operand.tmp 19) (some (Operand.tmp 21)) none none, type := 51, pos := "ref.go:60", after := #[{ on := 12, ground := Ground.data }, { on := 14, ground := Ground.data }], guard := none }) (v := ?vv15_2_15) rfl (by kernel_rfl) (by kernel_rfl) (by kernel_rfl) (by kernel_rfl) (fun _ _ _ h => h) (Or.inl ⟨by rfl, ?yy15_2_15⟩) hL (fun hL => ?_)
  case yy15_2_15 => (intro W hx; go_simp; try with_reducible rfl)
  simp only [Act.put, List.setIfInBounds_toArray, List.set_cons_zero, List.set_cons_succ]
  refine wpAnyL_ready (rs := [1]) (by kernel_rfl) (by simp) (AllReadyL.cons rfl (fun K hK => ?_) AllReadyL.nil)
  go_simp
  obtain ⟨w2, hw⟩ : ∃ V, V = World.alloc wD1 (.cells #[] 34) := ⟨_, rfl⟩
  rw [← hw]
  have xb : Ext wD1 w2 := by rw [hw]; exact (Ext.refl _).alloc _
  have kb : (World.heap w2)[(World.heap wD1).size]? = some (.cells #[] 34) := by rw [hw]; exact heap_alloc_new _ _
  have own1 : World.ownsRow w2 w1.heap.size 34 11 (.slice (some ⟨(World.heap wD1).size, 0, none⟩) 0 0) 0 [] := (by rw [hw]; exact World.ownsRow_made wD1 #[] 0 hE.size (by simp) rfl)
  clear hw
  replace hE := hE.trans xb
  replace hP := hP.then xb
  clear hL
  refine hK.out _ _ ⟨hP, fun e => hE⟩ (fun hL => ?_)
  clear hK K
  refine wpAnyL_ready (rs := [8]) (by kernel_rfl) (by simp) (AllReadyL.cons rfl (fun K hK => ?_) AllReadyL.nil)
  rw [if_pos (by rfl)]
  refine wp_appB (o := { dst := some 15, op := Op.call { callee := Callee.builtin Builtin.append, args := #[Operand.tmp 8, Operand.tmp 14], argTypes := #[51, 51] }, type := 51, pos := "ref.go:60", after := #[{ on := 1, ground := Ground.data }, { on := 7, ground := Ground.data }], guard := none }) el45 _ _ rfl own1 rfl ((ST.out.ext x1).ext hE) rfl (frs_one _) (le_max (by omega)) (by omega) hE.size ?_; intro v4 w4 own6 x4 at4; simp only [List.nil_append, Nat.zero_add] at own6
  simp only [Act.put, List.setIfInBounds_toArray, List.set_cons_zero, List.set_cons_succ]
  replace hE := Ext.of_grown hE x4 (fun k e => (own1.lt k e).1)
  replace hP := Kept.of_ext (F := F) hE
  clear hL
  refine hK.out _ _ ⟨hP, fun e => hE⟩ (fun hL => ?_)
  clear hK K
  refine wpAnyL_ready (rs := [16]) (by kernel_rfl) (by simp) (AllReadyL.cons rfl (fun K hK => ?_) AllReadyL.nil)
  rw [if_pos (by rfl)]
  refine wp_appB (o := { dst := some 23, op := Op.call { callee := Callee.builtin Builtin.append, args := #[Operand.tmp 15, Operand.tmp 22], argTypes := #[51, 51] }, type := 51, pos := "ref.go:60", after := #[{ on := 8, ground := Ground.data }, { on := 15, ground := Ground.data }, { on := 8, ground := Ground.chain }], guard := none }) el45 _ _ rfl own6 rfl ((SH.out.ext x1).ext hE) rfl (frs_one _) (le_max (by omega)) (by omega) hE.size ?_; intro v5 w5 own9 x5 at5; obtain ⟨A3, c3, rfl⟩ := own_slice own9
  simp only [Act.put, List.setIfInBounds_toArray, List.set_cons_zero, List.set_cons_succ]
  replace hE := Ext.of_grown hE x5 (fun k e => (own6.lt k e).1)
  replace hP := Kept.of_ext (F := F) hE
  have K5 := (hE.block _ (blk_lt K1)).trans K1; have x15 := hE
  clear hL
  refine hK.out _ _ ⟨hP, fun e => hE⟩ (fun hL => ?_)
  clear hK K
  refine wpAnyL_takeP (i := 17) (oi := { dst := some 24, op := Op.nilCheck (Operand.tmp 7), type := 0, pos := "ref.go:60", after := #[{ on := 0, ground := Ground.data }, { on := 0, ground := Ground.phase }, { on := 1, ground := Ground.phase }, { on := 2, ground := Ground.phase }, { on := 3, ground := Ground.phase }, { on := 4, ground := Ground.phase }, { on := 5, ground := Ground.phase }, { on := 6, ground := Ground.phase }, { on := 7, ground := Ground.phase }, { on := 8, ground := Ground.phase }, { on := 9, ground := Ground.phase }, { on := 10, ground := Ground.phase }, { on := 11, ground := Ground.phase }, { on := 12, ground := Ground.phase }, { on := 13, ground := Ground.phase }, { on := 14, ground := Ground.phase }, { on := 15, ground := Ground.phase }, { on := 16, ground := Ground.phase }], guard := none }) (v := ?vv16_2_17) rfl (by kernel_rfl) (by kernel_rfl) (by kernel_rfl) (by kernel_rfl) (fun _ _ _ h => h) (Or.inl ⟨by rfl, ?yy16_2_17⟩) hL (fun hL => ?_)
  case yy16_2_17 => (intro W hx; go_simp; try with_reducible rfl)
  simp only [Act.put, List.setIfInBounds_toArray, List.set_cons_zero, List.set_cons_succ]
  refine wpAnyL_takeP (i := 18) (oi := { dst := some 25, op := Op.fieldAddr 53 (Operand.tmp 24) 1, type := 0, pos := "ref.go:60", after := #[{ on := 17, ground := Ground.data }, { on := 0, ground := Ground.phase }, { on := 1, ground := Ground.phase }, { on := 2, ground := Ground.phase }, { on := 3, ground := Ground.phase }, { on := 4, ground := Ground.phase }, { on := 5, ground := Ground.phase }, { on := 6, ground := Ground.phase }, { on := 7, ground := Ground.phase }, { on := 8, ground := Ground.phase }, { on := 9, ground := Ground.phase }, { on := 10, ground := Ground.phase }, { on := 11, ground := Ground.phase }, { on := 12, ground := Ground.phase }, { on := 13, ground := Ground.phase }, { on := 14, ground := Ground.phase }, { on := 15, ground := Ground.phase }, { on := 16, ground := Ground.phase }], guard := none }) (v := ?vv17_2_18) rfl (by kernel_rfl) (by kernel_rfl) (by kernel_rfl) (by kernel_rfl) (fun _ _ _ h => h) (Or.inl ⟨by rfl, ?yy17_2_18⟩) hL (fun hL => ?_)
  case yy17_2_18 => (intro W hx; go_simp; try with_reducible rfl)
  simp only [Act.put, List.setIfInBounds_toArray, List.set_cons_zero, List.set_cons_succ]
  refine wpAnyL_ready (rs := [19]) (by kernel_rfl) (by simp) (AllReadyL.cons rfl (fun K hK => ?_) AllReadyL.nil)
  rw [if_pos (by rfl)]
  refine wp_stcell (o := { dst := none, op := Op.store 51 (Operand.tmp 25) (Operand.tmp 23), type := 0, pos := "ref.go:60", after := #[{ on := 18, ground := Ground.data }, { on := 16, ground := Ground.data }, { on := 16, ground := Ground.chain }, { on := 0, ground := Ground.phase }, { on := 1, ground := Ground.phase }, { on := 2, ground := Ground.phase }, { on := 3, ground := Ground.phase }, { on := 4, ground := Ground.phase }, { on := 5, ground := Ground.phase }, { on := 6, ground := Ground.phase }, { on := 7, ground := Ground.phase }, { on := 8, ground := Ground.phase }, { on := 9, ground := Ground.phase }, { on := 10, ground := Ground.phase }, { on := 11, ground := Ground.phase }, { on := 12, ground := Ground.phase }, { on := 13, ground := Ground.phase }, { on := 14, ground := Ground.phase }, { on := 15, ground := Ground.phase }, { on := 16, ground := Ground.phase }], guard := none }) 51 _ _ rfl K5 rfl rfl (by simp) size45 rfl (fun c e => by cases e) ?_; intro w6 K6 x6
  simp only [Act.put]
  replace hP := hP.trans' (Kept.of_grown x6 (fun b e => by injection e with e; subst e; exact HH.out.fg))
  clear hE
  clear hL
  refine hK.out _ _ ⟨hP, fun e => absurd e (by simp)⟩ (fun hL => ?_)
  clear hK K
  refine wpAnyL_done (by kernel_rfl) ?_ _
  go_wp2
  go_end0
  have hlen : (s.tx.eraseIdx i).length = i + (s.tx.length - (i + 1)) := by rw [List.length_eraseIdx, if_pos hb]; omega
  exact ⟨rfl, BxPost.of x1 (bx_set1 (.inr rfl) H1.out (s.tx.eraseIdx i) (A3 := A3) (c3 := c3) (by rw [hlen, erase_eq, frs_app]; exact own_base own9 (Nat.zero_le _)) (.of_ext x15) (.inr (fun b e => by rw [hlen] at e; exact (own9.lt b e).1)) (by rw [hlen]; exact K6) x6 (erase_ok HH.out.ok.tx) (by omega))⟩
theorem rdone_any {w : World} {g : Nat} {s : BSt} {F : Nat → Prop} (h : BxC w 53 g s F) : Calls Try.prog 33 #[.pointer (some ⟨g, 0, none⟩)] w fun e w' => e = .returned (.tuple #[]) ∧ BxPost w 53 g s.done F w' := by
  unfold BSt.done
  split
  · rename_i h0
    exact (rdone_none h h0).mono fun e w' ⟨h1, h2⟩ => ⟨h1, bxPost_same h h2⟩
  · rename_i h0
    exact rdone_some h h0
end Go.Proofs.Ytjdabmadpclbaaa
