import Derived.Test.YtjdabmadpclbaaaZA
set_option linter.unusedVariables false
set_option linter.unusedSimpArgs false
namespace Go.Proofs.Ytjdabmadpclbaaa
open Go.RowKit
def Apart (v : Value) (A : Option Addr) : Prop := ∀ b, v.ownBlock = some b → ∀ ad, A = some ad → b ≠ ad.block
theorem apart_own {w : World} {base : Nat} {e : TypeId} {size : Nat} {v : Value} {n : Nat} {xs : List Value} (h : w.ownsRow base e size v n xs) : Apart v (some ⟨w.heap.size, 0, none⟩) := fun b hb ad e => by
  injection e with e; subst e
  have := own_lt h hb
  exact Nat.ne_of_lt this
theorem apart_sh {w : World} {A : Option Addr} {n : Nat} {xs : List Value} (h : Shows w 11 A (n + 1) xs) : Apart (.slice (some ⟨w.heap.size, 0, none⟩) 0 0) A := fun b hb ad e => by
  obtain ⟨ad', e', hl, _⟩ := h.2 (by omega)
  rw [e] at e'; injection e' with e'; subst e'
  simp [Value.ownBlock] at hb
  omega
theorem Shows.apart {w w' : World} {A : Option Addr} {n : Nat} {xs : List Value} {v : Value} (h : Shows w 11 A n xs) (x : w.grownBy w' v.ownBlock) (ap : Apart v A) : Shows w' 11 A n xs :=
  h.grown x (fun ad e h2 => ap _ h2.symm ad e rfl)
set_option maxHeartbeats 4000000 in
theorem rsend_ok {w : World} {g : Nat} {s : BSt} {F : Nat → Prop} (h : BxC w 53 g s F) (f : Fr) (hf : f.ok) (hm : f.may = true) (hn : ¬ 3 ≤ s.tx.length) : Calls Try.prog 14 #[.pointer (some ⟨g, 0, none⟩), .agg f.vals.toArray] w fun e w' => e = .returned (.int .i64 (s.send f).2) ∧ BxPost w 53 g (s.send f).1 F w' := by
  have es : s.send f = ({ s with tx := s.tx ++ [f] }, 0) := by simp [BSt.send, hm, hn]
  rw [es]
  obtain ⟨_, fA, fc, tA, tc, rA, rc, h⟩ := h
  have K := h.row
  have HH := Lib.hid h
  have hn3 : s.tx.length ≤ 2 := by omega
  clear h es hn
  go_enter Try.func14, Try.ntmps14
  go_upto_region 5 with (first
    | (go_at_call 23; (refine (rmay_fr f _).mono ?_); rw [hm]; rintro e w1 ⟨rfl, x1⟩; have xw := ((Ext.refl w).alloc (.cells f.vals.toArray 34)).trans x1; have K1 := (xw.block _ (blk_lt K)).trans K; obtain ⟨f0, f1, f2, f3⟩ := cells4 K1)
    | refine wpList_ldrow rfl 34 _ rfl (heap_alloc_new w (.cells f.vals.toArray 34)) rfl Try.underlying34 rfl size37 ?_)
  have kf : w1.heap[w.heap.size]? = some (.cells f.vals.toArray 34 (0, 0)) := (x1.block _ (by simp)).trans (heap_alloc_new w (.cells f.vals.toArray 34))
  have hnF : ¬ F w.heap.size := fun e => by have := HH.out.lt _ e; omega
  have H1 := Lib.hid (HH.out.ext xw)
  clear f0 f1 f2 f3
  refine wp_regionL (Kept F w1) (Ext w1) 12 (by kernel_rfl) (Kept.of_ext (Ext.refl _).drew) ((Ext.refl _).drew) (fun hL => ?_)
  have hP := hL.1
  have hE : Ext w1 (World.drew w1) := (Ext.refl _).drew
  obtain ⟨wD1, hwD⟩ : ∃ V, V = World.drew w1 := ⟨_, rfl⟩
  rw [← hwD] at hL hP hE ⊢
  clear hwD
  refine wpAnyL_takeP (i := 0) (oi := { dst := some 14, op := Op.move (Operand.tmp 0), type := 43, pos := "ref.go:32", after := #[], guard := none }) (v := ?vv2_5_0) rfl (by kernel_rfl) (by kernel_rfl) (by kernel_rfl) (by kernel_rfl) (fun _ _ _ h => h) (Or.inl ⟨by rfl, ?yy2_5_0⟩) hL (fun hL => ?_)
  case yy2_5_0 => (intro W hx; go_simp; try with_reducible rfl)
  simp only [Act.put, List.setIfInBounds_toArray, List.set_cons_zero, List.set_cons_succ]
  refine wpAnyL_takeP (i := 2) (oi := { dst := some 16, op := Op.move (Operand.tmp 0), type := 43, pos := "ref.go:32", after := #[], guard := none }) (v := ?vv3_5_2) rfl (by kernel_rfl) (by kernel_rfl) (by kernel_rfl) (by kernel_rfl) (fun _ _ _ h => h) (Or.inl ⟨by rfl, ?yy3_5_2⟩) hL (fun hL => ?_)
  case yy3_5_2 => (intro W hx; go_simp; try with_reducible rfl)
  simp only [Act.put, List.setIfInBounds_toArray, List.set_cons_zero, List.set_cons_succ]
  refine wpAnyL_takeP (i := 3) (oi := { dst := some 17, op := Op.nilCheck (Operand.tmp 16), type := 0, pos := "ref.go:32", after := #[{ on := 2, ground := Ground.data }], guard := none }) (v := ?vv4_5_3) rfl (by kernel_rfl) (by kernel_rfl) (by kernel_rfl) (by kernel_rfl) (fun _ _ _ h => h) (Or.inl ⟨by rfl, ?yy4_5_3⟩) hL (fun hL => ?_)
  case yy4_5_3 => (intro W hx; go_simp; try with_reducible rfl)
  simp only [Act.put, List.setIfInBounds_toArray, List.set_cons_zero, List.set_cons_succ]
  refine wpAnyL_takeP (i := 4) (oi := { dst := some 18, op := Op.fieldAddr 53 (Operand.tmp 17) 1, type := 0, pos := "ref.go:32", after := #[{ on := 3, ground := Ground.data }], guard := none }) (v := ?vv5_5_4) rfl (by kernel_rfl) (by kernel_rfl) (by kernel_rfl) (by kernel_rfl) (fun _ _ _ h => h) (Or.inl ⟨by rfl, ?yy5_5_4⟩) hL (fun hL => ?_)
  case yy5_5_4 => (intro W hx; go_simp; try with_reducible rfl)
  simp only [Act.put, List.setIfInBounds_toArray, List.set_cons_zero, List.set_cons_succ]
  refine wpAnyL_takeB (i := 5) [6, 9, 12] (oi := { dst := some 19, op := Op.load 51 (Operand.tmp 18), type := 51, pos := "ref.go:32", after := #[{ on := 4, ground := Ground.data }], guard := none }) (v := ?vv6_5_5) rfl (by kernel_rfl) (by kernel_rfl) (by kernel_rfl) (by kernel_rfl) (fun _ _ _ h => h) (by kernel_rfl) (Or.inl ⟨by rfl, ?yy6_5_5⟩) hL (fun hL => ?_)
  case yy6_5_5 => (intro W hx; have q1 := blk_cell (i := 1) ((hx.2.block _ (blk_lt K1)).trans K1) rfl; go_simp; try with_reducible rfl)
  simp only [Act.put, List.setIfInBounds_toArray, List.set_cons_zero, List.set_cons_succ]
  refine wpAnyL_takeP (i := 7) (oi := { dst := some 21, op := Op.load 34 (Operand.tmp 3), type := 34, pos := "ref.go:32", after := #[], guard := none }) (v := ?vv7_5_7) rfl (by kernel_rfl) (by kernel_rfl) (by kernel_rfl) (by kernel_rfl) (fun _ _ _ h => h) (Or.inl ⟨by rfl, ?yy7_5_7⟩) hL (fun hL => ?_)
  case yy7_5_7 => (intro W hx; refine ld_op (frAt (hx.blk kf hnF)) ?_; rfl)
  simp only [Act.put, List.setIfInBounds_toArray, List.set_cons_zero, List.set_cons_succ]
  refine wpAnyL_ready (rs := [1, 8]) (by kernel_rfl) (by simp) (AllReadyL.cons rfl (fun K hK => ?_) (AllReadyL.cons rfl (fun K hK => ?_) AllReadyL.nil))
  · have tok := True.intro
    go_simp
    obtain ⟨w2, hw⟩ : ∃ V, V = World.alloc wD1 (.cells #[] 34) := ⟨_, rfl⟩
    rw [← hw]
    have xb : Ext wD1 w2 := by rw [hw]; exact (Ext.refl _).alloc _
    have kb : (World.heap w2)[(World.heap wD1).size]? = some (.cells #[] 34) := by rw [hw]; exact heap_alloc_new _ _
    have own1 : World.ownsRow w2 w1.heap.size 34 11 (.slice (some ⟨(World.heap wD1).size, 0, none⟩) 0 0) 0 [] := (by rw [hw]; exact World.ownsRow_made wD1 #[] 0 hE.size (by simp) rfl); first | (have ap := apart_sh sh; replace sh := sh.ext xb) | skip
    clear hw
    replace hE := hE.trans xb
    replace hP := hP.then xb
    clear hL
    refine hK.out _ _ ⟨hP, fun e => hE⟩ (fun hL => ?_)
    clear hK K
    refine wpAnyL_ready (rs := [6, 8]) (by kernel_rfl) (by simp) (AllReadyL.cons rfl (fun K hK => ?_) (AllReadyL.cons rfl (fun K hK => ?_) AllReadyL.nil))
    · have tok := True.intro
      rw [if_pos (by rfl)]
      refine wp_appB (o := { dst := some 20, op := Op.call { callee := Callee.builtin Builtin.append, args := #[Operand.tmp 15, Operand.tmp 19], argTypes := #[51, 51] }, type := 51, pos := "ref.go:32", after := #[{ on := 1, ground := Ground.data }, { on := 5, ground := Ground.data }], guard := none }) el45 _ _ rfl own1 rfl ((Shows.of_own H1.out.tx).ext hE) rfl (frs_one _) (le_max (by omega)) (by omega) hE.size ?_; intro v4 w4 own6 x4 at4; simp only [List.nil_append, Nat.zero_add] at own6
      simp only [Act.put, List.setIfInBounds_toArray, List.set_cons_zero, List.set_cons_succ]
      replace hE := Ext.of_grown hE x4 (fun k e => (own1.lt k e).1)
      replace hP := Kept.of_ext (F := F) hE
      first | (replace sh := sh.apart x4 ap) | skip
      clear hL
      refine hK.out _ _ ⟨hP, fun e => hE⟩ (fun hL => ?_)
      clear hK K
      refine wpAnyL_ready (rs := [8]) (by kernel_rfl) (by simp) (AllReadyL.cons rfl (fun K hK => ?_) AllReadyL.nil)
      rw [if_pos (by rfl)]
      refine wp_bsF (o := { dst := some 22, op := Op.buildSlice 51 1 #[(0, Operand.tmp 21)], type := 51, pos := "ref.go:32", after := #[{ on := 7, ground := Ground.data }], guard := none }) _ rfl rfl ?_; intro w3 hw; have xb : Ext w4 w3 := (by rw [hw]; exact (Ext.refl _).alloc _); have sh := shows_one (w := w4) (f := f) 34; rw [← hw] at sh; clear hw; first | (have ap := apart_own own1; replace own1 := own_ext own1 xb) | skip; first | (replace own6 := own_ext own6 xb) | skip
      simp only [Act.put, List.setIfInBounds_toArray, List.set_cons_zero, List.set_cons_succ]
      replace hE := hE.trans xb
      replace hP := hP.then xb
      clear hL
      refine hK.out _ _ ⟨hP, fun e => hE⟩ (fun hL => ?_)
      clear hK K
      refine wpAnyL_ready (rs := [9]) (by kernel_rfl) (by simp) (AllReadyL.cons rfl (fun K hK => ?_) AllReadyL.nil)
      rw [if_pos (by rfl)]
      refine wp_appB (o := { dst := some 23, op := Op.call { callee := Callee.builtin Builtin.append, args := #[Operand.tmp 20, Operand.tmp 22], argTypes := #[51, 51] }, type := 51, pos := "ref.go:32", after := #[{ on := 6, ground := Ground.data }, { on := 8, ground := Ground.data }, { on := 6, ground := Ground.chain }], guard := none }) el45 _ _ rfl own6 rfl sh rfl (frs_one _) (le_max (by omega)) (by omega) hE.size ?_; intro v5 w5 own9 x5 at5; obtain ⟨g3, c3, rfl, _, _⟩ := own9.form (by omega)
      simp only [Act.put, List.setIfInBounds_toArray, List.set_cons_zero, List.set_cons_succ]
      replace hE := Ext.of_grown hE x5 (fun k e => (own6.lt k e).1)
      replace hP := Kept.of_ext (F := F) hE
      have K5 := (hE.block _ (blk_lt K1)).trans K1; have x15 := hE
      clear hL
      refine hK.out _ _ ⟨hP, fun e => hE⟩ (fun hL => ?_)
      clear hK K
      refine wpAnyL_takeP (i := 10) (oi := { dst := some 24, op := Op.nilCheck (Operand.tmp 14), type := 0, pos := "ref.go:32", after := #[{ on := 0, ground := Ground.data }, { on := 0, ground := Ground.phase }, { on := 1, ground := Ground.phase }, { on := 2, ground := Ground.phase }, { on := 3, ground := Ground.phase }, { on := 4, ground := Ground.phase }, { on := 5, ground := Ground.phase }, { on := 6, ground := Ground.phase }, { on := 7, ground := Ground.phase }, { on := 8, ground := Ground.phase }, { on := 9, ground := Ground.phase }], guard := none }) (v := ?vv8_5_10) rfl (by kernel_rfl) (by kernel_rfl) (by kernel_rfl) (by kernel_rfl) (fun _ _ _ h => h) (Or.inl ⟨by rfl, ?yy8_5_10⟩) hL (fun hL => ?_)
      case yy8_5_10 => (intro W hx; go_simp; try with_reducible rfl)
      simp only [Act.put, List.setIfInBounds_toArray, List.set_cons_zero, List.set_cons_succ]
      refine wpAnyL_takeP (i := 11) (oi := { dst := some 25, op := Op.fieldAddr 53 (Operand.tmp 24) 1, type := 0, pos := "ref.go:32", after := #[{ on := 10, ground := Ground.data }, { on := 0, ground := Ground.phase }, { on := 1, ground := Ground.phase }, { on := 2, ground := Ground.phase }, { on := 3, ground := Ground.phase }, { on := 4, ground := Ground.phase }, { on := 5, ground := Ground.phase }, { on := 6, ground := Ground.phase }, { on := 7, ground := Ground.phase }, { on := 8, ground := Ground.phase }, { on := 9, ground := Ground.phase }], guard := none }) (v := ?vv9_5_11) rfl (by kernel_rfl) (by kernel_rfl) (by kernel_rfl) (by kernel_rfl) (fun _ _ _ h => h) (Or.inl ⟨by rfl, ?yy9_5_11⟩) hL (fun hL => ?_)
      case yy9_5_11 => (intro W hx; go_simp; try with_reducible rfl)
      simp only [Act.put, List.setIfInBounds_toArray, List.set_cons_zero, List.set_cons_succ]
      refine wpAnyL_ready (rs := [12]) (by kernel_rfl) (by simp) (AllReadyL.cons rfl (fun K hK => ?_) AllReadyL.nil)
      rw [if_pos (by rfl)]
      refine wp_stcell (o := { dst := none, op := Op.store 51 (Operand.tmp 25) (Operand.tmp 23), type := 0, pos := "ref.go:32", after := #[{ on := 11, ground := Ground.data }, { on := 9, ground := Ground.data }, { on := 9, ground := Ground.chain }, { on := 0, ground := Ground.phase }, { on := 1, ground := Ground.phase }, { on := 2, ground := Ground.phase }, { on := 3, ground := Ground.phase }, { on := 4, ground := Ground.phase }, { on := 5, ground := Ground.phase }, { on := 6, ground := Ground.phase }, { on := 7, ground := Ground.phase }, { on := 8, ground := Ground.phase }, { on := 9, ground := Ground.phase }], guard := none }) 51 _ _ rfl K5 rfl rfl (by simp) size45 rfl (fun c e => by cases e) ?_; intro w6 K6 x6
      simp only [Act.put]
      replace hP := hP.trans' (Kept.of_grown x6 (fun b e => by injection e with e; subst e; exact HH.out.fg))
      clear hE
      clear hL
      refine hK.out _ _ ⟨hP, fun e => absurd e (by simp)⟩ (fun hL => ?_)
      clear hK K
      refine wpAnyL_done (by kernel_rfl) ?_ _
      go_wp2
      go_ret
      have hlen : (s.tx ++ [f]).length = s.tx.length + 1 := by simp
      refine ⟨rfl, BxPost.of xw (bx_set1 (.inr rfl) H1.out (s.tx ++ [f]) (A3 := some ⟨g3, 0, none⟩) (c3 := c3) (by rw [hlen, frs_app]; exact own_base own9 (Nat.zero_le _)) (.of_ext x15) (.inr (fun b e => by rw [hlen] at e; exact (own9.lt b e).1)) (by rw [hlen]; exact K6) x6 ?_ (by omega))⟩
      intro y hy
      rcases List.mem_append.1 hy with hy | hy
      · exact HH.out.ok.tx y hy
      · simp at hy; subst hy; exact hf
    · have tok := True.intro
      rw [if_pos (by rfl)]
      refine wp_bsF (o := { dst := some 22, op := Op.buildSlice 51 1 #[(0, Operand.tmp 21)], type := 51, pos := "ref.go:32", after := #[{ on := 7, ground := Ground.data }], guard := none }) _ rfl rfl ?_; intro w3 hw; have xb : Ext w2 w3 := (by rw [hw]; exact (Ext.refl _).alloc _); have sh := shows_one (w := w2) (f := f) 34; rw [← hw] at sh; clear hw; first | (have ap := apart_own own1; replace own1 := own_ext own1 xb) | skip; first | (replace own6 := own_ext own6 xb) | skip
      simp only [Act.put, List.setIfInBounds_toArray, List.set_cons_zero, List.set_cons_succ]
      replace hE := hE.trans xb
      replace hP := hP.then xb
      clear hL
      refine hK.out _ _ ⟨hP, fun e => hE⟩ (fun hL => ?_)
      clear hK K
      refine wpAnyL_ready (rs := [6]) (by kernel_rfl) (by simp) (AllReadyL.cons rfl (fun K hK => ?_) AllReadyL.nil)
      rw [if_pos (by rfl)]
      refine wp_appB (o := { dst := some 20, op := Op.call { callee := Callee.builtin Builtin.append, args := #[Operand.tmp 15, Operand.tmp 19], argTypes := #[51, 51] }, type := 51, pos := "ref.go:32", after := #[{ on := 1, ground := Ground.data }, { on := 5, ground := Ground.data }], guard := none }) el45 _ _ rfl own1 rfl ((Shows.of_own H1.out.tx).ext hE) rfl (frs_one _) (le_max (by omega)) (by omega) hE.size ?_; intro v4 w4 own6 x4 at4; simp only [List.nil_append, Nat.zero_add] at own6
      simp only [Act.put, List.setIfInBounds_toArray, List.set_cons_zero, List.set_cons_succ]
      replace hE := Ext.of_grown hE x4 (fun k e => (own1.lt k e).1)
      replace hP := Kept.of_ext (F := F) hE
      first | (replace sh := sh.apart x4 ap) | skip
      clear hL
      refine hK.out _ _ ⟨hP, fun e => hE⟩ (fun hL => ?_)
      clear hK K
      refine wpAnyL_ready (rs := [9]) (by kernel_rfl) (by simp) (AllReadyL.cons rfl (fun K hK => ?_) AllReadyL.nil)
      rw [if_pos (by rfl)]
      refine wp_appB (o := { dst := some 23, op := Op.call { callee := Callee.builtin Builtin.append, args := #[Operand.tmp 20, Operand.tmp 22], argTypes := #[51, 51] }, type := 51, pos := "ref.go:32", after := #[{ on := 6, ground := Ground.data }, { on := 8, ground := Ground.data }, { on := 6, ground := Ground.chain }], guard := none }) el45 _ _ rfl own6 rfl sh rfl (frs_one _) (le_max (by omega)) (by omega) hE.size ?_; intro v5 w5 own9 x5 at5; obtain ⟨g3, c3, rfl, _, _⟩ := own9.form (by omega)
      simp only [Act.put, List.setIfInBounds_toArray, List.set_cons_zero, List.set_cons_succ]
      replace hE := Ext.of_grown hE x5 (fun k e => (own6.lt k e).1)
      replace hP := Kept.of_ext (F := F) hE
      have K5 := (hE.block _ (blk_lt K1)).trans K1; have x15 := hE
      clear hL
      refine hK.out _ _ ⟨hP, fun e => hE⟩ (fun hL => ?_)
      clear hK K
      refine wpAnyL_takeP (i := 10) (oi := { dst := some 24, op := Op.nilCheck (Operand.tmp 14), type := 0, pos := "ref.go:32", after := #[{ on := 0, ground := Ground.data }, { on := 0, ground := Ground.phase }, { on := 1, ground := Ground.phase }, { on := 2, ground := Ground.phase }, { on := 3, ground := Ground.phase }, { on := 4, ground := Ground.phase }, { on := 5, ground := Ground.phase }, { on := 6, ground := Ground.phase }, { on := 7, ground := Ground.phase }, { on := 8, ground := Ground.phase }, { on := 9, ground := Ground.phase }], guard := none }) (v := ?vv10_5_10) rfl (by kernel_rfl) (by kernel_rfl) (by kernel_rfl) (by kernel_rfl) (fun _ _ _ h => h) (Or.inl ⟨by rfl, ?yy10_5_10⟩) hL (fun hL => ?_)
      case yy10_5_10 => (intro W hx; go_simp; try with_reducible rfl)
      simp only [Act.put, List.setIfInBounds_toArray, List.set_cons_zero, List.set_cons_succ]
      refine wpAnyL_takeP (i := 11) (oi := { dst := some 25, op := Op.fieldAddr 53 (Operand.tmp 24) 1, type := 0, pos := "ref.go:32", after := #[{ on := 10, ground := Ground.data }, { on := 0, ground := Ground.phase }, { on := 1, ground := Ground.phase }, { on := 2, ground := Ground.phase }, { on := 3, ground := Ground.phase }, { on := 4, ground := Ground.phase }, { on := 5, ground := Ground.phase }, { on := 6, ground := Ground.phase }, { on := 7, ground := Ground.phase }, { on := 8, ground := Ground.phase }, { on := 9, ground := Ground.phase }], guard := none }) (v := ?vv11_5_11) rfl (by kernel_rfl) (by kernel_rfl) (by kernel_rfl) (by kernel_rfl) (fun _ _ _ h => h) (Or.inl ⟨by rfl, ?yy11_5_11⟩) hL (fun hL => ?_)
      case yy11_5_11 => (intro W hx; go_simp; try with_reducible rfl)
      simp only [Act.put, List.setIfInBounds_toArray, List.set_cons_zero, List.set_cons_succ]
      refine wpAnyL_ready (rs := [12]) (by kernel_rfl) (by simp) (AllReadyL.cons rfl (fun K hK => ?_) AllReadyL.nil)
      rw [if_pos (by rfl)]
      refine wp_stcell (o := { dst := none, op := Op.store 51 (Operand.tmp 25) (Operand.tmp 23), type := 0, pos := "ref.go:32", after := #[{ on := 11, ground := Ground.data }, { on := 9, ground := Ground.data }, { on := 9, ground := Ground.chain }, { on := 0, ground := Ground.phase }, { on := 1, ground := Ground.phase }, { on := 2, ground := Ground.phase }, { on := 3, ground := Ground.phase }, { on := 4, ground := Ground.phase }, { on := 5, ground := Ground.phase }, { on := 6, ground := Ground.phase }, { on := 7, ground := Ground.phase }, { on := 8, ground := Ground.phase }, { on := 9, ground := Ground.phase }], guard := none }) 51 _ _ rfl K5 rfl rfl (by simp) size45 rfl (fun c e => by cases e) ?_; intro w6 K6 x6
      simp only [Act.put]
      replace hP := hP.trans' (Kept.of_grown x6 (fun b e => by injection e with e; subst e; exact HH.out.fg))
      clear hE
      clear hL
      refine hK.out _ _ ⟨hP, fun e => absurd e (by simp)⟩ (fun hL => ?_)
      clear hK K
      refine wpAnyL_done (by kernel_rfl) ?_ _
      go_wp2
      go_ret
      have hlen : (s.tx ++ [f]).length = s.tx.length + 1 := by simp
      refine ⟨rfl, BxPost.of xw (bx_set1 (.inr rfl) H1.out (s.tx ++ [f]) (A3 := some ⟨g3, 0, none⟩) (c3 := c3) (by rw [hlen, frs_app]; exact own_base own9 (Nat.zero_le _)) (.of_ext x15) (.inr (fun b e => by rw [hlen] at e; exact (own9.lt b e).1)) (by rw [hlen]; exact K6) x6 ?_ (by omega))⟩
      intro y hy
      rcases List.mem_append.1 hy with hy | hy
      · exact HH.out.ok.tx y hy
      · simp at hy; subst hy; exact hf
  · have tok := True.intro
    rw [if_pos (by rfl)]
    refine wp_bsF (o := { dst := some 22, op := Op.buildSlice 51 1 #[(0, Operand.tmp 21)], type := 51, pos := "ref.go:32", after := #[{ on := 7, ground := Ground.data }], guard := none }) _ rfl rfl ?_; intro w3 hw; have xb : Ext wD1 w3 := (by rw [hw]; exact (Ext.refl _).alloc _); have sh := shows_one (w := wD1) (f := f) 34; rw [← hw] at sh; clear hw; first | (have ap := apart_own own1; replace own1 := own_ext own1 xb) | skip; first | (replace own6 := own_ext own6 xb) | skip
    simp only [Act.put, List.setIfInBounds_toArray, List.set_cons_zero, List.set_cons_succ]
    replace hE := hE.trans xb
    replace hP := hP.then xb
    clear hL
    refine hK.out _ _ ⟨hP, fun e => hE⟩ (fun hL => ?_)
    clear hK K
    refine wpAnyL_ready (rs := [1]) (by kernel_rfl) (by simp) (AllReadyL.cons rfl (fun K hK => ?_) AllReadyL.nil)
    go_simp
    obtain ⟨w2, hw⟩ : ∃ V, V = World.alloc w3 (.cells #[] 34) := ⟨_, rfl⟩
    rw [← hw]
    have xb : Ext w3 w2 := by rw [hw]; exact (Ext.refl _).alloc _
    have kb : (World.heap w2)[(World.heap w3).size]? = some (.cells #[] 34) := by rw [hw]; exact heap_alloc_new _ _
    have own1 : World.ownsRow w2 w1.heap.size 34 11 (.slice (some ⟨(World.heap w3).size, 0, none⟩) 0 0) 0 [] := (by rw [hw]; exact World.ownsRow_made w3 #[] 0 hE.size (by simp) rfl); first | (have ap := apart_sh sh; replace sh := sh.ext xb) | skip
    clear hw
    replace hE := hE.trans xb
    replace hP := hP.then xb
    clear hL
    refine hK.out _ _ ⟨hP, fun e => hE⟩ (fun hL => ?_)
    clear hK K
    refine wpAnyL_ready (rs := [6]) (by kernel_rfl) (by simp) (AllReadyL.cons rfl (fun K hK => ?_) AllReadyL.nil)
    rw [if_pos (by rfl)]
    refine wp_appB (o := { dst := some 20, op := Op.call { callee := Callee.builtin Builtin.append, args := #[Operand.tmp 15, Operand.tmp 19], argTypes := #[51, 51] }, type := 51, pos := "ref.go:32", after := #[{ on := 1, ground := Ground.data }, { on := 5, ground := Ground.data }], guard := none }) el45 _ _ rfl own1 rfl ((Shows.of_own H1.out.tx).ext hE) rfl (frs_one _) (le_max (by omega)) (by omega) hE.size ?_; intro v4 w4 own6 x4 at4; simp only [List.nil_append, Nat.zero_add] at own6
    simp only [Act.put, List.setIfInBounds_toArray, List.set_cons_zero, List.set_cons_succ]
    replace hE := Ext.of_grown hE x4 (fun k e => (own1.lt k e).1)
    replace hP := Kept.of_ext (F := F) hE
    first | (replace sh := sh.apart x4 ap) | skip
    clear hL
    refine hK.out _ _ ⟨hP, fun e => hE⟩ (fun hL => ?_)
    clear hK K
    refine wpAnyL_ready (rs := [9]) (by kernel_rfl) (by simp) (AllReadyL.cons rfl (fun K hK => ?_) AllReadyL.nil)
    rw [if_pos (by rfl)]
    refine wp_appB (o := { dst := some 23, op := Op.call { callee := Callee.builtin Builtin.append, args := #[Operand.tmp 20, Operand.tmp 22], argTypes := #[51, 51] }, type := 51, pos := "ref.go:32", after := #[{ on := 6, ground := Ground.data }, { on := 8, ground := Ground.data }, { on := 6, ground := Ground.chain }], guard := none }) el45 _ _ rfl own6 rfl sh rfl (frs_one _) (le_max (by omega)) (by omega) hE.size ?_; intro v5 w5 own9 x5 at5; obtain ⟨g3, c3, rfl, _, _⟩ := own9.form (by omega)
    simp only [Act.put, List.setIfInBounds_toArray, List.set_cons_zero, List.set_cons_succ]
    replace hE := Ext.of_grown hE x5 (fun k e => (own6.lt k e).1)
    replace hP := Kept.of_ext (F := F) hE
    have K5 := (hE.block _ (blk_lt K1)).trans K1; have x15 := hE
    clear hL
    refine hK.out _ _ ⟨hP, fun e => hE⟩ (fun hL => ?_)
    clear hK K
    refine wpAnyL_takeP (i := 10) (oi := { dst := some 24, op := Op.nilCheck (Operand.tmp 14), type := 0, pos := "ref.go:32", after := #[{ on := 0, ground := Ground.data }, { on := 0, ground := Ground.phase }, { on := 1, ground := Ground.phase }, { on := 2, ground := Ground.phase }, { on := 3, ground := Ground.phase }, { on := 4, ground := Ground.phase }, { on := 5, ground := Ground.phase }, { on := 6, ground := Ground.phase }, { on := 7, ground := Ground.phase }, { on := 8, ground := Ground.phase }, { on := 9, ground := Ground.phase }], guard := none }) (v := ?vv12_5_10) rfl (by kernel_rfl) (by kernel_rfl) (by kernel_rfl) (by kernel_rfl) (fun _ _ _ h => h) (Or.inl ⟨by rfl, ?yy12_5_10⟩) hL (fun hL => ?_)
    case yy12_5_10 => (intro W hx; go_simp; try with_reducible rfl)
    simp only [Act.put, List.setIfInBounds_toArray, List.set_cons_zero, List.set_cons_succ]
    refine wpAnyL_takeP (i := 11) (oi := { dst := some 25, op := Op.fieldAddr 53 (Operand.tmp 24) 1, type := 0, pos := "ref.go:32", after := #[{ on := 10, ground := Ground.data }, { on := 0, ground := Ground.phase }, { on := 1, ground := Ground.phase }, { on := 2, ground := Ground.phase }, { on := 3, ground := Ground.phase }, { on := 4, ground := Ground.phase }, { on := 5, ground := Ground.phase }, { on := 6, ground := Ground.phase }, { on := 7, ground := Ground.phase }, { on := 8, ground := Ground.phase }, { on := 9, ground := Ground.phase }], guard := none }) (v := ?vv13_5_11) rfl (by kernel_rfl) (by kernel_rfl) (by kernel_rfl) (by kernel_rfl) (fun _ _ _ h => h) (Or.inl ⟨by rfl, ?yy13_5_11⟩) hL (fun hL => ?_)
    case yy13_5_11 => (intro W hx; go_simp; try with_reducible rfl)
    simp only [Act.put, List.setIfInBounds_toArray, List.set_cons_zero, List.set_cons_succ]
    refine wpAnyL_ready (rs := [12]) (by kernel_rfl) (by simp) (AllReadyL.cons rfl (fun K hK => ?_) AllReadyL.nil)
    rw [if_pos (by rfl)]
    refine wp_stcell (o := { dst := none, op := Op.store 51 (Operand.tmp 25) (Operand.tmp 23), type := 0, pos := "ref.go:32", after := #[{ on := 11, ground := Ground.data }, { on := 9, ground := Ground.data }, { on := 9, ground := Ground.chain }, { on := 0, ground := Ground.phase }, { on := 1, ground := Ground.phase }, { on := 2, ground := Ground.phase }, { on := 3, ground := Ground.phase }, { on := 4, ground := Ground.phase }, { on := 5, ground := Ground.phase }, { on := 6, ground := Ground.phase }, { on := 7, ground := Ground.phase }, { on := 8, ground := Ground.phase }, { on := 9, ground := Ground.phase }], guard := none }) 51 _ _ rfl K5 rfl rfl (by simp) size45 rfl (fun c e => by cases e) ?_; intro w6 K6 x6
    simp only [Act.put]
    replace hP := hP.trans' (Kept.of_grown x6 (fun b e => by injection e with e; subst e; exact HH.out.fg))
    clear hE
    clear hL
    refine hK.out _ _ ⟨hP, fun e => absurd e (by simp)⟩ (fun hL => ?_)
    clear hK K
    refine wpAnyL_done (by kernel_rfl) ?_ _
    go_wp2
    go_ret
    have hlen : (s.tx ++ [f]).length = s.tx.length + 1 := by simp
    refine ⟨rfl, BxPost.of xw (bx_set1 (.inr rfl) H1.out (s.tx ++ [f]) (A3 := some ⟨g3, 0, none⟩) (c3 := c3) (by rw [hlen, frs_app]; exact own_base own9 (Nat.zero_le _)) (.of_ext x15) (.inr (fun b e => by rw [hlen] at e; exact (own9.lt b e).1)) (by rw [hlen]; exact K6) x6 ?_ (by omega))⟩
    intro y hy
    rcases List.mem_append.1 hy with hy | hy
    · exact HH.out.ok.tx y hy
    · simp at hy; subst hy; exact hf
set_option maxHeartbeats 1000000 in
theorem rsend_no {w : World} {g : Nat} {s : BSt} {F : Nat → Prop} (h : BxC w 53 g s F) (f : Fr) (hm : f.may = false) : Calls Try.prog 14 #[.pointer (some ⟨g, 0, none⟩), .agg f.vals.toArray] w fun e w' => e = .returned (.int .i64 (s.send f).2) ∧ BxPost w 53 g (s.send f).1 F w' := by
  have es : s.send f = (s, 1) := by simp [BSt.send, hm]
  have HH := Lib.hid h
  clear h
  go_enter Try.func14, Try.ntmps14
  go_wp2_with (first
    | (go_at_call 23; (refine (rmay_fr f _).mono ?_); rw [hm]; rintro e w1 ⟨rfl, x1⟩)
    | refine wpList_ldrow rfl 34 _ rfl (heap_alloc_new w (.cells f.vals.toArray 34)) rfl Try.underlying34 rfl size37 ?_)
  go_ret
  rw [es]
  exact ⟨rfl, bxPost_same HH.out (((Ext.refl _).alloc _).trans x1)⟩
set_option maxHeartbeats 1000000 in
theorem rsend_full {w : World} {g : Nat} {s : BSt} {F : Nat → Prop} (h : BxC w 53 g s F) (f : Fr) (hm : f.may = true) (hn : 3 ≤ s.tx.length) : Calls Try.prog 14 #[.pointer (some ⟨g, 0, none⟩), .agg f.vals.toArray] w fun e w' => e = .returned (.int .i64 (s.send f).2) ∧ BxPost w 53 g (s.send f).1 F w' := by
  have es : s.send f = (s, 20) := by simp [BSt.send, hm, hn]
  have HH := Lib.hid h
  obtain ⟨_, fA, fc, tA, tc, rA, rc, h⟩ := h
  have K := h.row
  clear h
  go_enter Try.func14, Try.ntmps14
  go_wp2_with (first
    | (go_at_call 23; (refine (rmay_fr f _).mono ?_); rw [hm]; rintro e w1 ⟨rfl, x1⟩; have xw := ((Ext.refl w).alloc (.cells f.vals.toArray 34)).trans x1; obtain ⟨f0, f1, f2, f3⟩ := cells4 ((xw.block _ (blk_lt K)).trans K))
    | refine wpList_ldrow rfl 34 _ rfl (heap_alloc_new w (.cells f.vals.toArray 34)) rfl Try.underlying34 rfl size37 ?_)
  go_ret
  rw [es]
  exact ⟨rfl, bxPost_same HH.out xw⟩
theorem rsend_any {w : World} {g : Nat} {s : BSt} {F : Nat → Prop} (h : BxC w 53 g s F) (f : Fr) (hf : f.ok) : Calls Try.prog 14 #[.pointer (some ⟨g, 0, none⟩), .agg f.vals.toArray] w fun e w' => e = .returned (.int .i64 (s.send f).2) ∧ BxPost w 53 g (s.send f).1 F w' := by
  rcases hm : f.may with _ | _
  · exact rsend_no h f hm
  · by_cases hn : 3 ≤ s.tx.length
    · exact rsend_full h f hm hn
    · exact rsend_ok h f hf hm hn
end Go.Proofs.Ytjdabmadpclbaaa
