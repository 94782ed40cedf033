import Derived.Test.YtjdabmadpclbaaaW
set_option linter.unusedVariables false
set_option linter.unusedSimpArgs false
namespace Go.Proofs.Ytjdabmadpclbaaa
open Go.RowKit
set_option maxHeartbeats 2000000 in
theorem rrecv_none {w : World} {g : Nat} {s : BSt} {F : Nat → Prop} (h : BxC w 53 g s F) (h0 : s.rx = []) : Calls Try.prog 20 #[.pointer (some ⟨g, 0, none⟩)] w fun e w' => e = .returned (.tuple #[.agg Fr.zero.vals.toArray, .bool false]) ∧ Ext w w' := by
  have hn : s.rx.length = 0 := by rw [h0]; rfl
  obtain ⟨_, fA, fc, tA, tc, rA, rc, h⟩ := h
  have K := h.row
  rw [hn] at K
  have hgl := blk_lt K
  obtain ⟨f0, f1, f2, f3⟩ := cells4 K
  clear h h0 hn
  go_enter Try.func20, Try.ntmps20
  go_wp2
  try simp only [Exit.inBlock, Exit.then]
  refine bodyPost_ret (results_row2 rfl rfl (heap_alloc_new w (.cells Fr.zero.vals.toArray 34)) Try.underlying34 rfl size37) rfl ?_
  exact ⟨rfl, (Ext.refl _).alloc _⟩
set_option maxHeartbeats 4000000 in
theorem rrecv_some {w : World} {g : Nat} {s : BSt} {F : Nat → Prop} (h : BxC w 53 g s F) (f : Fr) (l : List Fr) (h0 : s.rx = f :: l) : Calls Try.prog 20 #[.pointer (some ⟨g, 0, none⟩)] w fun e w' => e = .returned (.tuple #[.agg f.vals.toArray, .bool true]) ∧ BxPost w 53 g { s with rx := l } F w' := by
  have hn : 0 < s.rx.length := by rw [h0]; simp
  have hn3 := h.ok.nr
  have hle : l.length = s.rx.length - 1 := by rw [h0]; simp
  have hdl : s.rx.drop 1 = l := by rw [h0]; rfl
  have hok : ∀ x ∈ l, Fr.ok x := fun x hx => h.ok.rx x (by rw [h0]; simp [hx])
  have hf0 : s.rx[0]? = some f := by rw [h0]; rfl
  obtain ⟨_, fA, fc, tA, tc, rA, rc, h⟩ := h
  have HH := Lib.hid h
  have K := h.row
  obtain ⟨rb, cur, rfl, ht, h1, h2, h3, h4⟩ := own_some h.rx hn
  obtain ⟨b, o, hbo, hbl, hr⟩ := Shows.fr (Shows.of_own h.rx) rfl hf0
  injection hbo with hbo
  injection hbo with hb ho
  subst hb ho
  simp only [Nat.zero_mul, Nat.add_zero] at hr
  obtain ⟨pA, hpA⟩ : ∃ pA, (if rc = 1 then some (⟨rb, 0, none⟩ : Addr) else some ⟨rb, 11, none⟩) = some pA := by split <;> exact ⟨_, rfl⟩
  have sh := (Shows.of_own h.rx).drop (k := 1) (by omega) h1
  rw [frs_drop, hdl] at sh
  have sh : Shows w 11 (some pA) (s.rx.length - 1) (frs l) := by
    rw [← hpA]
    simpa [Addr.add_mid] using sh
  have SH := Lib.hid sh
  have HL := Lib.hid hle
  have hc1 : 1 ≤ rc := by omega
  clear h h0 hf0 hle hdl sh ht h3 h4
  unfold maxLen at h2
  obtain ⟨w0, hw0⟩ : ∃ V, V = w.alloc (.cells Fr.zero.vals.toArray 34) := ⟨_, rfl⟩
  have k0 : w0.heap[w.heap.size]? = some (.cells Fr.zero.vals.toArray 34 (0, 0)) := by rw [hw0]; exact heap_alloc_new _ _
  have x0 : Ext w w0 := by rw [hw0]; exact (Ext.refl _).alloc _
  have hr0 := rangeAt_ext hr x0
  have K0 := (x0.block _ (blk_lt K)).trans K
  obtain ⟨f0, f1, f2, f3⟩ := cells4 K0
  have hsz := blk_lt k0
  go_enter Try.func20, Try.ntmps20
  go_upto_region 1 with (fail)
  change Code.wp _ _ _ _ (w.alloc (.cells Fr.zero.vals.toArray 34))
  rw [← hw0]
  clear hw0
  go_upto_region 4 with (first | refine wpList_load_mid rfl 34 _ rfl _ _ rfl f.vals _ hr0 Try.underlying34 rfl size37 ?_ | refine wpList_stnew rfl 34 _ _ rfl rfl f.vals rfl rfl size37 rfl (fr_one f) ?_)
  obtain ⟨w1, hw1⟩ : ∃ V, V = w0.alloc (.cells f.vals.toArray 34) := ⟨_, rfl⟩
  have k1 : w1.heap[w0.heap.size]? = some (.cells f.vals.toArray 34 (0, 0)) := by rw [hw1]; exact heap_alloc_new _ _
  have x1 : Ext w0 w1 := by rw [hw1]; exact (Ext.refl _).alloc _
  rw [← hw1]
  clear hw1 f0 f1 f2 f3
  have x01 := x0.trans x1
  have K1 := (x1.block _ (blk_lt K0)).trans K0
  have x1e : Ext w1 (w1.alloc (.cells #[] 34)) := (Ext.refl _).alloc _
  have hgsz : g < w1.heap.size := blk_lt K1
  obtain ⟨f0, f1, f2, f3⟩ := cells4 K1
  go_upto_region 5 with (at_builtin; refine wpList_app el45 rfl _ _ rfl (World.ownsRow_made w1 #[] 0 (Nat.le_refl _) (by simp) rfl) rfl (SH.out.ext (x01.trans x1e)) rfl (frs_one _) (le_max (by omega)) (by omega) rfl x1e ?_; intro v9 w3 hown9 x3 hg9 hat9; simp only [List.nil_append, Nat.zero_add] at hown9; obtain ⟨A3, c3, rfl⟩ := own_slice hown9; have K3 := (x3.block _ (blk_lt K1)).trans K1; obtain ⟨p0, p1, p2, p3⟩ := cells4 K3; have z2 := blk_free (i := 2) K3)
  obtain ⟨W, hW, K4, x4⟩ := set_new 2 (.slice A3 (s.rx.length - 1) c3) K3
  rw [← hW]
  clear hW f0 f1 f2 f3 p0 p1 p2 p3 z2
  have hgl := blk_lt K
  have k14 := grown_lt ((x3.block _ (blk_lt k1)).trans k1) x4 (fun e => by injection e with e; omega)
  have k04 := grown_lt (((x1.trans x3).block _ (blk_lt k0)).trans k0) x4 (fun e => by injection e with e; omega)
  go_wp2_with (first | refine wpList_ldrow rfl 34 _ rfl k14 rfl Try.underlying34 rfl size37 ?_ | (refine wpList_strow rfl 34 _ _ rfl k04 rfl rfl size37 rfl (all_oneCell_toArray (fr_one f)) ?_; intro w5 k5 x5))
  try simp only [Exit.inBlock, Exit.then]
  refine bodyPost_ret (results_row2 rfl rfl k5.out Try.underlying34 rfl size37) rfl ?_
  obtain ⟨F', hB, hk, hF⟩ := bx_set2 (.inr rfl) (HH.out.ext x01) l (A3 := A3) (c3 := c3) (by rw [HL.out]; exact own_base hown9 (Nat.zero_le _)) (.of_ext x3) (.inr (fun b e => by rw [HL.out] at e; exact (hown9.lt b e).1)) (by rw [HL.out]; exact K4) x4 hok (by have := HL.out; omega)
  have hs1 := x1.size
  have hnF : ¬ F' w.heap.size := fun e => by
    rcases hF _ e with h | h
    · have := HH.out.lt _ h; omega
    · have := blk_lt k1; omega
  have k5' : Kept (· = w.heap.size) W w5 := .of_grown x5 (fun b e => by injection e with e; exact e.symm)
  refine ⟨rfl, F', hB.kept k5' (fun i hi e => by subst e; exact hnF hi), (Kept.trans' (.of_ext x01) hk).trans k5' (fun i hi e => by omega), fun k hk => (hF k hk).imp (fun e => e) (fun e => by have := x01.size; omega)⟩
theorem rrecv_any {w : World} {g : Nat} {s : BSt} {F : Nat → Prop} (h : BxC w 53 g s F) : Calls Try.prog 20 #[.pointer (some ⟨g, 0, none⟩)] w fun e w' => e = .returned (.tuple #[.agg s.recv.2.1.vals.toArray, .bool s.recv.2.2]) ∧ BxPost w 53 g s.recv.1 F w' := by
  unfold BSt.recv
  split
  · rename_i h0
    exact (rrecv_none h h0).mono fun e w' ⟨h1, h2⟩ => ⟨h1, bxPost_same h h2⟩
  · rename_i f l h0
    exact rrecv_some h f l h0
end Go.Proofs.Ytjdabmadpclbaaa
