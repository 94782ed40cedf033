import Derived.Test.YtjdabmadpclbaaaK
set_option linter.unusedVariables false
set_option linter.unusedSimpArgs false
namespace Go.Proofs.Ytjdabmadpclbaaa
open Go.RowKit
theorem del0 {w : World} {g n cap : Nat} {cur : Array Value} {l : List Fr} (hg : w.heap[g]? = some (.cells cur 34 (0, 0))) (hn : n ≤ cap) (hc : cap ≤ maxLen) (hcs : cur.size = cap * 11) (ht : cur.toList.take (n * 11) = frs l) (hl : l.length = n) (hi : 0 < n) :
    Calls Try.prog 36 #[.slice (some ⟨g, 0, none⟩) n cap, .int .i64 0, .int .i64 1] w fun e w' => e = .returned (.slice (some ⟨g, 0, none⟩) (n - 1) cap) ∧ w'.ownsRow 0 34 11 (.slice (some ⟨g, 0, none⟩) (n - 1) cap) (n - 1) (frs (l.eraseIdx 0)) ∧ w.grownBy w' (some g) :=
  del_any (i := 0) hg hn hc hcs ht hl hi
theorem recv_nil (w : World) : Calls Try.prog 19 #[.pointer none] w fun e w' => e = .returned (.tuple #[.agg Fr.zero.vals.toArray, .bool false]) ∧ Ext w w' := by
  go_enter Try.func19, Try.ntmps19
  go_wp2_with (go_at_call 25; (refine (taken_nil _).mono ?_); rintro e w1 ⟨rfl, rfl⟩)
  try simp only [Exit.inBlock, Exit.then]
  refine bodyPost_ret (results_row2 rfl rfl (heap_alloc_new w _) Try.underlying34 rfl size37) rfl ?_
  exact ⟨rfl, (Ext.refl _).alloc _⟩
theorem recv_none {w : World} {g : Nat} {s : BSt} {F : Nat → Prop} (h : BxC w 71 g s F) (h0 : s.rx = []) : Calls Try.prog 19 #[.pointer (some ⟨g, 0, none⟩)] w fun e w' => e = .returned (.tuple #[.agg Fr.zero.vals.toArray, .bool false]) ∧ Ext w w' := by
  have hn : s.rx.length = 0 := by rw [h0]; rfl
  have HH := Lib.hid h
  clear h h0
  go_enter Try.func19, Try.ntmps19
  go_wp2_with (go_at_call 25; (refine (taken_any (HH.out.ext ((Ext.refl _).alloc _))).mono ?_); rintro e w1 ⟨rfl, rfl⟩)
  try simp only [Exit.inBlock, Exit.then]
  refine bodyPost_ret (results_row2 rfl rfl (heap_alloc_new w _) Try.underlying34 rfl size37) rfl ?_
  exact ⟨rfl, (Ext.refl _).alloc _⟩
set_option maxHeartbeats 4000000 in
theorem recv_some {w : World} {g : Nat} {s : BSt} {F : Nat → Prop} (h : BxC w 71 g s F) (f : Fr) (l : List Fr) (h0 : s.rx = f :: l) : Calls Try.prog 19 #[.pointer (some ⟨g, 0, none⟩)] w fun e w' => e = .returned (.tuple #[.agg f.vals.toArray, .bool true]) ∧ BxPost w 71 g { s with rx := l } F w' := by
  have hn : 0 < s.rx.length := by rw [h0]; simp
  have hn3 := h.ok.nr
  have hle : (s.rx.eraseIdx 0).length = s.rx.length - 1 := by rw [List.length_eraseIdx, if_pos hn]
  have hl : l = s.rx.eraseIdx 0 := by rw [h0]; rfl
  subst hl
  have hf0 : s.rx[0]? = some f := by rw [h0]; rfl
  have HC := Lib.hid h
  obtain ⟨_, fA, fc, tA, tc, rA, rc, h⟩ := h
  have HH := Lib.hid h
  have K := h.row
  obtain ⟨rb, cur, rfl, ht, h1, h2, h3, h4⟩ := own_some h.rx hn
  have hng := own_neq h.rx h.row (by decide)
  have hgt : g ≠ rb := fun e => by subst e; exact hng rfl
  clear h h0
  obtain ⟨b, o, hbo, hbl, hr⟩ := Shows.fr (Shows.of_own HH.out.rx) rfl hf0
  injection hbo with hbo
  injection hbo with hb ho
  subst hb ho
  simp only [Nat.zero_mul, Nat.add_zero] at hr
  have hdel := fun W (x : Ext w W) => del0 ((x.block _ (blk_lt ht)).trans ht) h1 h2 h3 h4 rfl hn
  have HD := Lib.hid hdel
  have HL := Lib.hid hle
  clear hdel h1 h2 h3 h4 hf0 hle
  obtain ⟨w0, hw0⟩ : ∃ V, V = w.alloc (.cells Fr.zero.vals.toArray 34) := ⟨_, rfl⟩
  have k0 : w0.heap[w.heap.size]? = some (.cells Fr.zero.vals.toArray 34 (0, 0)) := by rw [hw0]; exact heap_alloc_new _ _
  have x0 : Ext w w0 := by rw [hw0]; exact (Ext.refl _).alloc _
  have hr0 := rangeAt_ext hr x0
  have K0 := (x0.block _ (blk_lt K)).trans K
  obtain ⟨f0, f1, f2, f3⟩ := cells4 K0
  have hsz := blk_lt k0
  go_enter Try.func19, Try.ntmps19
  go_upto_region 3 with (go_at_call 25; (refine (taken_any (HC.out.ext ((Ext.refl _).alloc _))).mono ?_); rintro e w1 ⟨rfl, rfl⟩)
  change Code.wp _ _ _ _ (w.alloc (.cells Fr.zero.vals.toArray 34))
  rw [← hw0]
  clear hw0
  go_upto_region 4 with (first | refine wpList_load_mid rfl 34 _ rfl _ _ rfl f.vals _ hr0 Try.underlying34 rfl size37 ?_ | refine wpList_stnew rfl 34 _ _ rfl rfl f.vals rfl rfl size37 rfl (fr_one f) ?_)
  obtain ⟨w1, hw1⟩ : ∃ V, V = w0.alloc (.cells f.vals.toArray 34) := ⟨_, rfl⟩
  have k1 : w1.heap[w0.heap.size]? = some (.cells f.vals.toArray 34 (0, 0)) := by rw [hw1]; exact heap_alloc_new _ _
  have x1 : Ext w0 w1 := by rw [hw1]; exact (Ext.refl _).alloc _
  rw [← hw1]
  clear hw1 f0 f1 f2 f3
  have x01 := x0.trans x1
  have K1 := (x1.block _ (blk_lt K0)).trans K0
  obtain ⟨f0, f1, f2, f3⟩ := cells4 K1
  go_upto_region 5 with (go_at_call 36; (refine (HD.out _ x01).mono ?_); rintro e w3 ⟨rfl, ow3, x3⟩; have K3 := grown_lt K1 x3 (fun e => hgt (by injection e)); obtain ⟨p0, p1, p2, p3⟩ := cells4 K3; have z2 := blk_free (i := 2) K3)
  obtain ⟨W, hW, K4, x4⟩ := set_new 2 (.slice (some ⟨rb, 0, none⟩) (s.rx.length - 1) rc) K3
  rw [← hW]
  clear hW f0 f1 f2 f3 p0 p1 p2 p3 z2
  have hgl := blk_lt K
  have hrl := blk_lt ht
  have k14 := grown_lt (grown_lt k1 x3 (fun e => by injection e with e; omega)) x4 (fun e => by injection e with e; omega)
  have k04 := grown_lt (grown_lt ((x1.block _ (blk_lt k0)).trans k0) x3 (fun e => by injection e with e; omega)) x4 (fun e => by injection e with e; omega)
  go_wp2_with (first | refine wpList_ldrow rfl 34 _ rfl k14 rfl Try.underlying34 rfl size37 ?_ | (refine wpList_strow rfl 34 _ _ rfl k04 rfl rfl size37 rfl (all_oneCell_toArray (fr_one f)) ?_; intro w5 k5 x5))
  try simp only [Exit.inBlock, Exit.then]
  refine bodyPost_ret (results_row2 rfl rfl k5.out Try.underlying34 rfl size37) rfl ?_
  obtain ⟨F', hB, hk, hF⟩ := bx_set2 (.inl rfl) (HH.out.ext x01) (s.rx.eraseIdx 0) (A3 := some ⟨rb, 0, none⟩) (c3 := rc) (by rw [HL.out]; exact ow3) (.of_grown x3 (fun b e => e)) (.inl rfl) (by rw [HL.out]; exact K4) x4 (erase_ok HH.out.ok.rx) (by have := HL.out; omega)
  have hs1 := x1.size
  have hnF : ¬ F' w.heap.size := fun e => by
    rcases hF _ e with h | h
    · have := HH.out.lt _ h; omega
    · have := blk_lt k1; omega
  have k5' : Kept (· = w.heap.size) W w5 := .of_grown x5 (fun b e => by injection e with e; exact e.symm)
  refine ⟨rfl, F', hB.kept k5' (fun i hi e => by subst e; exact hnF hi), (Kept.trans' (.of_ext x01) hk).trans k5' (fun i hi e => by omega), fun k hk => (hF k hk).imp (fun e => e) (fun e => by have := x01.size; omega)⟩
theorem recv_any {w : World} {g : Nat} {s : BSt} {F : Nat → Prop} (h : BxC w 71 g s F) : Calls Try.prog 19 #[.pointer (some ⟨g, 0, none⟩)] w fun e w' => e = .returned (.tuple #[.agg s.recv.2.1.vals.toArray, .bool s.recv.2.2]) ∧ BxPost w 71 g s.recv.1 F w' := by
  unfold BSt.recv
  split
  · rename_i h0
    exact (recv_none h h0).mono fun e w' ⟨h1, h2⟩ => ⟨h1, bxPost_same h h2⟩
  · rename_i f l h0
    exact recv_some h f l h0
end Go.Proofs.Ytjdabmadpclbaaa
