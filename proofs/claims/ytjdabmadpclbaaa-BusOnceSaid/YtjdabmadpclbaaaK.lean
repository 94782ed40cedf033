import Derived.Test.YtjdabmadpclbaaaJ
set_option linter.unusedVariables false
set_option linter.unusedSimpArgs false
namespace Go.Proofs.Ytjdabmadpclbaaa
open Go.RowKit
theorem own_some {w : World} {base : Nat} {e : TypeId} {size n c : Nat} {A : Option Addr} {xs : List Value} (h : w.ownsRow base e size (.slice A n c) n xs) (hn : 0 < n) :
    ∃ b cur, A = some ⟨b, 0, none⟩ ∧ w.heap[b]? = some (.cells cur e (0, 0)) ∧ n ≤ c ∧ c ≤ maxLen ∧ cur.size = c * size ∧ cur.toList.take (n * size) = xs := by
  rcases h.2 with ⟨h1, h2⟩ | ⟨g, cap, cur, h1, _, hg, h3, h4, h5, h6⟩
  · omega
  · injection h1 with h1 _ h2
    subst h2
    exact ⟨g, cur, h1, hg, h3, h4, h5, h6⟩
theorem del_any' {w : World} {g n cap i : Nat} {cur : Array Value} {l : List Fr} (hg : w.heap[g]? = some (.cells cur 34 (0, 0))) (hn : n ≤ cap) (hc : cap ≤ maxLen) (hcs : cur.size = cap * 11) (ht : cur.toList.take (n * 11) = frs l) (hl : l.length = n) (hi : i < n) :
    Calls Try.prog 36 #[.slice (some ⟨g, 0, none⟩) n cap, .int .i64 (i : Int), .int .i64 ((i : Int) + 1)] w fun e w' => e = .returned (.slice (some ⟨g, 0, none⟩) (n - 1) cap) ∧ w'.ownsRow 0 34 11 (.slice (some ⟨g, 0, none⟩) (n - 1) cap) (n - 1) (frs (l.eraseIdx i)) ∧ w.grownBy w' (some g) := by
  rw [show ((i : Int) + 1) = ((i + 1 : Nat) : Int) by omega]
  exact del_any hg hn hc hcs ht hl hi
theorem erase_ok {l : List Fr} {i : Nat} (h : ∀ f ∈ l, f.ok) : ∀ f ∈ l.eraseIdx i, f.ok := fun f hf => h f (List.mem_of_mem_eraseIdx hf)
theorem done_none {w : World} {g : Nat} {s : BSt} {F : Nat → Prop} (h : BxC w 71 g s F) (h0 : s.tx = []) : Calls Try.prog 32 #[.pointer (some ⟨g, 0, none⟩)] w fun e w' => e = .returned (.tuple #[]) ∧ w = w' := by
  have hn : s.tx.length = 0 := by rw [h0]; rfl
  have HH := Lib.hid h
  clear h h0
  go_enter Try.func32, Try.ntmps32
  go_wp2_with (go_at_call 21; (refine (wait_any HH.out).mono ?_); rintro e w1 ⟨rfl, rfl⟩)
  try simp only [Exit.inBlock, Exit.then]
  refine bodyPost_ret (results_none rfl _ _ _) rfl ?_
  exact ⟨rfl, rfl⟩
set_option maxHeartbeats 2000000 in
theorem done_some {w : World} {g : Nat} {s : BSt} {F : Nat → Prop} (h : BxC w 71 g s F) (h0 : s.tx ≠ []) : Calls Try.prog 32 #[.pointer (some ⟨g, 0, none⟩)] w fun e w' => e = .returned (.tuple #[]) ∧ BxPost w 71 g { s with tx := s.tx.eraseIdx (best s.tx) } F w' := by
  have hb := best_lt h0
  have hn : 0 < s.tx.length := List.length_pos_iff.2 h0
  have hn3 := h.ok.nt
  have HC := Lib.hid h
  obtain ⟨_, fA, fc, tA, tc, rA, rc, h⟩ := h
  have HH := Lib.hid h
  have K := h.row
  obtain ⟨tb, cur, rfl, ht, h1, h2, h3, h4⟩ := own_some h.tx hn
  have hng := own_neq h.tx h.row (by decide)
  have hgt : g ≠ tb := fun e => by subst e; exact hng rfl
  clear h h0
  obtain ⟨f0, f1, f2, f3⟩ := cells4 K
  have hfst := fun W (x : Ext w W) => first_any g fA s.fl.length fc (some ⟨tb, 0, none⟩) tc rA s.rx.length rc s.lost s.tx W ((x.block _ (blk_lt K)).trans K) (Shows.of_own (own_ext HH.out.tx x)) HH.out.ok.tx (by have := HH.out.ok.nt; omega)
  have HF := Lib.hid hfst
  have hdel := fun W (x : Ext w W) => del_any' ((x.block _ (blk_lt ht)).trans ht) h1 h2 h3 h4 rfl hb
  have HD := Lib.hid hdel
  clear hfst hdel h1 h2 h3 h4
  have hb3 : (best s.tx : Int) ≤ 3 := by omega
  go_enter Try.func32, Try.ntmps32
  go_wp2_with (first
    | (go_at_call 21; (refine (wait_any HC.out).mono ?_); rintro e w1 ⟨rfl, rfl⟩)
    | (go_at_call 39; (refine (HF.out _ (Ext.refl _)).mono ?_); rintro e w2 ⟨rfl, x2⟩; have K2 := (x2.block _ (blk_lt K)).trans K; obtain ⟨q0, q1, q2, q3⟩ := cells4 K2)
    | (go_at_call 36; (refine (HD.out _ x2).mono ?_); rintro e w3 ⟨rfl, ow3, x3⟩; have K3 := grown_lt K2 x3 (fun e => hgt (by injection e)); obtain ⟨p0, p1, p2, p3⟩ := cells4 K3; have z1 := blk_free (i := 1) K3))
  go_end0
  obtain ⟨W, hW, K4, x4⟩ := set_new 1 (.slice (some ⟨tb, 0, none⟩) (s.tx.length - 1) tc) K3
  rw [← hW]
  have hlen : (s.tx.eraseIdx (best s.tx)).length = s.tx.length - 1 := by rw [List.length_eraseIdx, if_pos hb]
  refine ⟨rfl, BxPost.of x2 (bx_set1 (.inl rfl) (HH.out.ext x2) (s.tx.eraseIdx (best s.tx)) (A3 := some ⟨tb, 0, none⟩) (c3 := tc) (by rw [hlen]; exact ow3) (.of_grown x3 (fun b e => e)) (.inl rfl) (by rw [hlen]; exact K4) x4 (erase_ok HH.out.ok.tx) (by omega))⟩
theorem done_any {w : World} {g : Nat} {s : BSt} {F : Nat → Prop} (h : BxC w 71 g s F) : Calls Try.prog 32 #[.pointer (some ⟨g, 0, none⟩)] w fun e w' => e = .returned (.tuple #[]) ∧ BxPost w 71 g s.done F w' := by
  unfold BSt.done
  split
  · rename_i h0
    exact (done_none h h0).mono fun e w' ⟨h1, h2⟩ => ⟨h1, by subst h2; exact bxPost_same h (Ext.refl _)⟩
  · rename_i h0
    exact done_some h h0
theorem next_none {w : World} {g : Nat} {s : BSt} {F : Nat → Prop} (h : BxC w 71 g s F) (h0 : s.tx = []) : Calls Try.prog 28 #[.pointer (some ⟨g, 0, none⟩)] w fun e w' => e = .returned (.tuple #[.agg Fr.zero.vals.toArray, .bool false]) ∧ Ext w w' := by
  have hn : s.tx.length = 0 := by rw [h0]; rfl
  have HH := Lib.hid h
  clear h h0
  go_enter Try.func28, Try.ntmps28
  go_wp2_with (go_at_call 21; (refine (wait_any (HH.out.ext ((Ext.refl _).alloc _))).mono ?_); rintro e w1 ⟨rfl, rfl⟩)
  try simp only [Exit.inBlock, Exit.then]
  refine bodyPost_ret (results_row2 rfl rfl (heap_alloc_new w _) Try.underlying34 rfl size37) rfl ?_
  exact ⟨rfl, (Ext.refl _).alloc _⟩
set_option maxHeartbeats 2000000 in
theorem next_some {w : World} {g : Nat} {s : BSt} {F : Nat → Prop} (h : BxC w 71 g s F) (h0 : s.tx ≠ []) : Calls Try.prog 28 #[.pointer (some ⟨g, 0, none⟩)] w fun e w' => e = .returned (.tuple #[.agg (s.tx.getD (best s.tx) Fr.zero).vals.toArray, .bool true]) ∧ Ext w w' := by
  have hb := best_lt h0
  have hn : 0 < s.tx.length := List.length_pos_iff.2 h0
  have hn3 := h.ok.nt
  have HC := Lib.hid h
  obtain ⟨_, fA, fc, tA, tc, rA, rc, h⟩ := h
  have HH := Lib.hid h
  have K := h.row
  clear h h0
  have hfst := fun W (x : Ext w W) => first_any g fA s.fl.length fc tA tc rA s.rx.length rc s.lost s.tx W ((x.block _ (blk_lt K)).trans K) (Shows.of_own (own_ext HH.out.tx x)) HH.out.ok.tx (by have := HH.out.ok.nt; omega)
  have HF := Lib.hid hfst
  obtain ⟨b, o, rfl, hbl, hr⟩ := Shows.fr (Shows.of_own HH.out.tx) rfl (getD_at hb)
  generalize s.tx.getD (best s.tx) Fr.zero = f at *
  clear hfst
  have hb3 : (best s.tx : Int) < s.tx.length := by omega
  have hb0 : (0 : Int) ≤ best s.tx := by omega
  generalize best s.tx = bt at *
  go_enter Try.func28, Try.ntmps28
  go_upto_region 3 with (go_at_call 21; (refine (wait_any (HC.out.ext ((Ext.refl _).alloc _))).mono ?_); rintro e w1 ⟨rfl, rfl⟩)
  obtain ⟨w0, hw0⟩ : ∃ V, V = w.alloc (.cells Fr.zero.vals.toArray 34) := ⟨_, rfl⟩
  have k0 : w0.heap[w.heap.size]? = some (.cells Fr.zero.vals.toArray 34 (0, 0)) := by rw [hw0]; exact heap_alloc_new _ _
  have x0 : Ext w w0 := by rw [hw0]; exact (Ext.refl _).alloc _
  have K0 := (x0.block _ (blk_lt K)).trans K
  have hr0 := rangeAt_ext hr x0
  change Code.wp _ _ _ _ (w.alloc (.cells Fr.zero.vals.toArray 34))
  rw [← hw0]
  clear hw0
  refine wp_regionL (Kept (· = w.heap.size) w0) (Ext w0) 8 (by kernel_rfl) (Kept.of_ext (Ext.refl _).drew) ((Ext.refl _).drew) (fun hL => ?_)
  have hP := hL.1
  have hE : Ext w0 (World.drew w0) := (Ext.refl _).drew
  obtain ⟨wD1, hwD⟩ : ∃ V, V = World.drew w0 := ⟨_, rfl⟩
  rw [← hwD] at hL hP hE ⊢
  clear hwD
  refine wpAnyL_takeP (i := 0) (oi := { dst := some 8, op := Op.move (Operand.tmp 0), type := 41, pos := "box.go:46", after := #[], guard := none }) (v := ?vv2_3_0) rfl (by kernel_rfl) (by kernel_rfl) (by kernel_rfl) (by kernel_rfl) (fun _ _ _ h => h) (Or.inl ⟨by rfl, ?yy2_3_0⟩) hL (fun hL => ?_)
  case yy2_3_0 => (intro W hx; go_simp; try with_reducible rfl)
  simp only [Act.put, List.setIfInBounds_toArray, List.set_cons_zero, List.set_cons_succ]
  refine wpAnyL_takeP (i := 1) (oi := { dst := some 9, op := Op.nilCheck (Operand.tmp 8), type := 0, pos := "box.go:46", after := #[{ on := 0, ground := Ground.data }], guard := none }) (v := ?vv3_3_1) rfl (by kernel_rfl) (by kernel_rfl) (by kernel_rfl) (by kernel_rfl) (fun _ _ _ h => h) (Or.inl ⟨by rfl, ?yy3_3_1⟩) hL (fun hL => ?_)
  case yy3_3_1 => (intro W hx; go_simp; try with_reducible rfl)
  simp only [Act.put, List.setIfInBounds_toArray, List.set_cons_zero, List.set_cons_succ]
  refine wpAnyL_takeP (i := 2) (oi := { dst := some 10, op := Op.fieldAddr 71 (Operand.tmp 9) 1, type := 0, pos := "box.go:46", after := #[{ on := 1, ground := Ground.data }], guard := none }) (v := ?vv4_3_2) rfl (by kernel_rfl) (by kernel_rfl) (by kernel_rfl) (by kernel_rfl) (fun _ _ _ h => h) (Or.inl ⟨by rfl, ?yy4_3_2⟩) hL (fun hL => ?_)
  case yy4_3_2 => (intro W hx; go_simp; try with_reducible rfl)
  simp only [Act.put, List.setIfInBounds_toArray, List.set_cons_zero, List.set_cons_succ]
  refine wpAnyL_takeB (i := 3) [6, 7, 8] (oi := { dst := some 11, op := Op.load 51 (Operand.tmp 10), type := 51, pos := "box.go:46", after := #[{ on := 2, ground := Ground.data }], guard := none }) (v := ?vv5_3_3) rfl (by kernel_rfl) (by kernel_rfl) (by kernel_rfl) (by kernel_rfl) (fun _ _ _ h => h) (by kernel_rfl) (Or.inl ⟨by rfl, ?yy5_3_3⟩) hL (fun hL => ?_)
  case yy5_3_3 => (intro W hx; have q1 := blk_cell (i := 1) ((hx.2.block _ (blk_lt K0)).trans K0) rfl; go_simp; try with_reducible rfl)
  simp only [Act.put, List.setIfInBounds_toArray, List.set_cons_zero, List.set_cons_succ]
  refine wpAnyL_takeP (i := 4) (oi := { dst := some 12, op := Op.move (Operand.tmp 0), type := 41, pos := "box.go:46", after := #[], guard := none }) (v := ?vv6_3_4) rfl (by kernel_rfl) (by kernel_rfl) (by kernel_rfl) (by kernel_rfl) (fun _ _ _ h => h) (Or.inl ⟨by rfl, ?yy6_3_4⟩) hL (fun hL => ?_)
  case yy6_3_4 => (intro W hx; go_simp; try with_reducible rfl)
  simp only [Act.put, List.setIfInBounds_toArray, List.set_cons_zero, List.set_cons_succ]
  refine wpAnyL_ready (rs := [5]) (by kernel_rfl) (by simp) (AllReadyL.cons rfl (fun K hK => ?_) AllReadyL.nil)
  go_simp
  go_wp2_with (go_at_call 39; (refine (HF.out _ (x0.trans hE)).mono ?_); rintro e w1 ⟨rfl, x1⟩)
  replace hE := hE.trans x1
  replace hP := hP.then x1
  clear hL
  refine hK.out _ _ ⟨hP, fun e => hE⟩ (fun hL => ?_)
  clear hK K
  refine wpAnyL_takeP (i := 6) (oi := { dst := some 14, op := Op.indexAddr 51 (Operand.tmp 11) (Operand.tmp 13), type := 0, pos := "box.go:46", after := #[{ on := 3, ground := Ground.data }, { on := 5, ground := Ground.data }], guard := none }) (v := ?vv7_3_6) rfl (by kernel_rfl) (by kernel_rfl) (by kernel_rfl) (by kernel_rfl) (fun _ _ _ h => h) (Or.inl ⟨by rfl, ?yy7_3_6⟩) hL (fun hL => ?_)
  case yy7_3_6 => (intro W hx; go_simp; try with_reducible rfl)
  simp only [Act.put, List.setIfInBounds_toArray, List.set_cons_zero, List.set_cons_succ]
  refine wpAnyL_takeB (i := 7) [8] (oi := { dst := some 15, op := Op.load 34 (Operand.tmp 14), type := 34, pos := "box.go:46", after := #[{ on := 6, ground := Ground.data }], guard := none }) (v := ?vv8_3_7) rfl (by kernel_rfl) (by kernel_rfl) (by kernel_rfl) (by kernel_rfl) (fun _ _ _ h => h) (by kernel_rfl) (Or.inl ⟨by rfl, ?yy8_3_7⟩) hL (fun hL => ?_)
  case yy8_3_7 => (intro W hx; refine ld_op (rangeAt_ext hr0 hx.2) ?_; rfl)
  simp only [Act.put, List.setIfInBounds_toArray, List.set_cons_zero, List.set_cons_succ]
  refine wpAnyL_ready (rs := [8]) (by kernel_rfl) (by simp) (AllReadyL.cons rfl (fun K hK => ?_) AllReadyL.nil)
  rw [if_pos (by rfl)]
  have k1 := (hE.block _ (blk_lt k0)).trans k0; refine wp_strow (o := { dst := none, op := Op.store 34 (Operand.tmp 2) (Operand.tmp 15), type := 0, pos := "box.go:46", after := #[{ on := 7, ground := Ground.data }, { on := 5, ground := Ground.chain }, { on := 0, ground := Ground.phase }, { on := 1, ground := Ground.phase }, { on := 2, ground := Ground.phase }, { on := 3, ground := Ground.phase }, { on := 4, ground := Ground.phase }, { on := 5, ground := Ground.phase }, { on := 6, ground := Ground.phase }, { on := 7, ground := Ground.phase }], guard := none }) _ _ _ rfl k1 rfl rfl size37 rfl (all_oneCell_toArray (fr_one f)) ?_; intro w2 k2 x2
  simp only [Act.put]
  replace hP := hP.trans' (Kept.of_grown x2 (fun b e => by injection e with e; exact e.symm))
  have xx := hE
  clear hE
  clear hL
  refine hK.out _ _ ⟨hP, fun e => absurd e (by simp)⟩ (fun hL => ?_)
  clear hK K
  refine wpAnyL_takeP (i := 9) (oi := { dst := some 3, op := Op.assign (Operand.const (Value.bool true)), type := 4, pos := "box.go:46", after := #[{ on := 8, ground := Ground.chain }, { on := 0, ground := Ground.phase }, { on := 1, ground := Ground.phase }, { on := 2, ground := Ground.phase }, { on := 3, ground := Ground.phase }, { on := 4, ground := Ground.phase }, { on := 5, ground := Ground.phase }, { on := 6, ground := Ground.phase }, { on := 7, ground := Ground.phase }, { on := 8, ground := Ground.phase }], guard := none }) (v := ?vv9_3_9) rfl (by kernel_rfl) (by kernel_rfl) (by kernel_rfl) (by kernel_rfl) (fun _ _ _ h => h) (Or.inl ⟨by rfl, ?yy9_3_9⟩) hL (fun hL => ?_)
  case yy9_3_9 => (intro W hx; go_simp; try with_reducible rfl)
  simp only [Act.put, List.setIfInBounds_toArray, List.set_cons_zero, List.set_cons_succ]
  refine wpAnyL_done (by kernel_rfl) ?_ _
  go_wp2
  try simp only [Exit.inBlock, Exit.then]
  refine bodyPost_ret (results_row2 rfl rfl k2 Try.underlying34 rfl size37) rfl ?_
  exact ⟨rfl, Ext.of_grown (x0.trans xx) x2 (fun k e => by injection e with e; omega)⟩
theorem next_any {w : World} {g : Nat} {s : BSt} {F : Nat → Prop} (h : BxC w 71 g s F) : Calls Try.prog 28 #[.pointer (some ⟨g, 0, none⟩)] w fun e w' => e = .returned (.tuple #[.agg s.next.1.vals.toArray, .bool s.next.2]) ∧ Ext w w' := by
  unfold BSt.next
  split
  · rename_i h0
    exact next_none h h0
  · rename_i h0
    exact next_some h h0
end Go.Proofs.Ytjdabmadpclbaaa
