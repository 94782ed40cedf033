import Derived.Test.YtjdabmadpclbaaaV
set_option linter.unusedVariables false
set_option linter.unusedSimpArgs false
namespace Go.Proofs.Ytjdabmadpclbaaa
open Go.RowKit
theorem rnew_long (A : Option Addr) (n c : Nat) (w : World) (hn : 8 < n) : Calls Try.prog 27 #[.slice A n c] w fun e w' => e = .returned (.tuple #[.pointer none, .int .i64 3]) ∧ w = w' := by
  go_enter Try.func27, Try.ntmps27
  go_wp2
  go_ret2
  exact ⟨rfl, rfl⟩
theorem rnew_any (A : Option Addr) (n c : Nat) (l : List Fi) (w : World) (hs : Shows w 3 A n (fis l)) (hl : n = l.length) (hn : ¬ 8 < n) (hok : ∀ x ∈ l, Fi.ok x) : Calls Try.prog 27 #[.slice A n c] w fun e w' => ∃ g F, e = .returned (.tuple #[.pointer (some ⟨g, 0, none⟩), .int .i64 0]) ∧ BxC w' 53 g (BSt.new l) F ∧ Ext w w' ∧ ∀ k, F k → w.heap.size ≤ k := by
  subst hl
  go_enter Try.func27, Try.ntmps27
  go_wp2_with (at_builtin; refine wpList_app el22 rfl _ _ rfl (World.ownsRow_made w #[] 0 (Nat.le_refl _) (by simp) rfl) rfl (hs.ext ((Ext.refl w).alloc _)) rfl (fis_one _) (le_max (by omega)) (by omega) rfl ((Ext.refl w).alloc _) ?_; intro v9 w1 hown9 x1 hg9 hat9; simp only [List.nil_append, Nat.zero_add] at hown9; obtain ⟨A1, c1, rfl⟩ := own_slice hown9)
  go_ret2
  obtain ⟨W, hW⟩ : ∃ V, V = w1.alloc (.cells #[.slice A1 l.length c1, .slice none 0 0, .slice none 0 0, .bool false] 53) := ⟨_, rfl⟩
  have K : W.heap[w1.heap.size]? = some (.cells #[.slice A1 l.length c1, .slice none 0 0, .slice none 0 0, .bool false] 53 (0, 0)) := by rw [hW]; exact heap_alloc_new _ _
  have x2 : Ext w1 W := by rw [hW]; exact (Ext.refl _).alloc _
  rw [← hW]
  clear hW
  refine ⟨_, fun k => k = w1.heap.size ∨ Value.ownBlock (.slice A1 l.length c1) = some k, rfl, ⟨.inr rfl, A1, c1, none, 0, none, 0, K, own_base (own_ext hown9 x2) (Nat.zero_le _), World.ownsRow_nil _ _ _ _, World.ownsRow_nil _ _ _ _, .inl rfl, fun b e => .inr e, (fun b e => nomatch e), (fun b e => nomatch e), ?_, ⟨hok, by simp [BSt.new], by simp [BSt.new], by simp [BSt.new]; omega, by simp [BSt.new], by simp [BSt.new]⟩⟩, x1.trans x2, ?_⟩
  · rintro k (rfl | hk)
    · exact blk_lt K
    · exact Nat.lt_of_lt_of_le (own_lt hown9 hk) x2.size
  · rintro k (rfl | hk)
    · exact x1.size
    · exact (hown9.lt k hk).1
theorem bestI_nil {l : List Fr} (h : l = []) : bestI l l.length = -1 := by subst h; rfl
theorem bestI_some {l : List Fr} (h : l ≠ []) : bestI l l.length = best l := by
  have : l.length ≠ 0 := fun e => h (List.length_eq_zero_iff.1 e)
  simp [bestI, this, best]
set_option maxHeartbeats 2000000 in
theorem rnx_none {w : World} {g : Nat} {s : BSt} {F : Nat → Prop} (h : BxC w 53 g s F) (h0 : s.tx = []) : Calls Try.prog 30 #[.pointer (some ⟨g, 0, none⟩)] w fun e w' => e = .returned (.tuple #[.agg Fr.zero.vals.toArray, .bool false]) ∧ Ext w w' := by
  obtain ⟨_, fA, fc, tA, tc, rA, rc, h⟩ := h
  have hfst := fun W (x : Ext w W) => rnext_any g fA s.fl.length fc tA tc rA s.rx.length rc s.lost s.tx W ((x.block _ (blk_lt h.row)).trans h.row) (Shows.of_own (own_ext h.tx x)) h.ok.tx (by have := h.ok.nt; omega)
  rw [bestI_nil h0] at hfst
  have HF := Lib.hid hfst
  clear hfst h h0
  go_enter Try.func30, Try.ntmps30
  go_wp2_with (first
    | (go_at_call 40; (refine (HF.out _ ((Ext.refl _).alloc _)).mono ?_); rintro e w1 ⟨rfl, x1⟩; have k1 := (x1.block _ (by simp)).trans (heap_alloc_new w (.cells Fr.zero.vals.toArray 34)))
    | (refine wpList_strow rfl 34 _ _ rfl k1 rfl rfl size37 rfl (all_oneCell_toArray (fr_one Fr.zero)) ?_; intro w2 k2 x2))
  try simp only [Exit.inBlock, Exit.then]
  refine bodyPost_ret (results_row2 rfl rfl k2.out Try.underlying34 rfl size37) rfl ?_
  exact ⟨rfl, Ext.of_grown (((Ext.refl _).alloc _).trans x1) x2 (fun k e => by injection e with e; omega)⟩
set_option maxHeartbeats 2000000 in
theorem rnx_some {w : World} {g : Nat} {s : BSt} {F : Nat → Prop} (h : BxC w 53 g s F) (h0 : s.tx ≠ []) : Calls Try.prog 30 #[.pointer (some ⟨g, 0, none⟩)] w fun e w' => e = .returned (.tuple #[.agg (s.tx.getD (best s.tx) Fr.zero).vals.toArray, .bool true]) ∧ Ext w w' := by
  obtain ⟨_, fA, fc, tA, tc, rA, rc, h⟩ := h
  have hfst := fun W (x : Ext w W) => rnext_any g fA s.fl.length fc tA tc rA s.rx.length rc s.lost s.tx W ((x.block _ (blk_lt h.row)).trans h.row) (Shows.of_own (own_ext h.tx x)) h.ok.tx (by have := h.ok.nt; omega)
  rw [bestI_some h0] at hfst
  have HF := Lib.hid hfst
  have hb := best_lt h0
  have K := h.row
  have hn3 := h.ok.nt
  obtain ⟨b, o, rfl, hbl, hr⟩ := Shows.fr (Shows.of_own h.tx) rfl (getD_at hb)
  generalize s.tx.getD (best s.tx) Fr.zero = f at *
  clear hfst h h0
  have hb3 : (best s.tx : Int) < s.tx.length := by omega
  have hb0 : (0 : Int) ≤ best s.tx := by omega
  have hb1 : ¬ ((best s.tx : Int) < 0) := by omega
  generalize best s.tx = bt at *
  go_enter Try.func30, Try.ntmps30
  go_wp2_with (first
    | (go_at_call 40; (refine (HF.out _ ((Ext.refl _).alloc _)).mono ?_); rintro e w1 ⟨rfl, x1⟩; have k1 := (x1.block _ (by simp)).trans (heap_alloc_new w (.cells Fr.zero.vals.toArray 34)); have xw := ((Ext.refl w).alloc (.cells Fr.zero.vals.toArray 34)).trans x1; have hr1 := rangeAt_ext hr xw; obtain ⟨f0, f1, f2, f3⟩ := cells4 ((xw.block _ (blk_lt K)).trans K))
    | refine wpList_load_mid rfl 34 _ rfl _ _ rfl f.vals _ hr1 Try.underlying34 rfl size37 ?_
    | (refine wpList_strow rfl 34 _ _ rfl k1 rfl rfl size37 rfl (all_oneCell_toArray (fr_one f)) ?_; intro w2 k2 x2))
  try simp only [Exit.inBlock, Exit.then]
  refine bodyPost_ret (results_row2 rfl rfl k2.out Try.underlying34 rfl size37) rfl ?_
  exact ⟨rfl, Ext.of_grown (((Ext.refl _).alloc _).trans x1) x2 (fun k e => by injection e with e; omega)⟩
theorem rnx_any {w : World} {g : Nat} {s : BSt} {F : Nat → Prop} (h : BxC w 53 g s F) : Calls Try.prog 30 #[.pointer (some ⟨g, 0, none⟩)] w fun e w' => e = .returned (.tuple #[.agg s.next.1.vals.toArray, .bool s.next.2]) ∧ Ext w w' := by
  unfold BSt.next
  split
  · rename_i h0
    exact rnx_none h h0
  · rename_i h0
    exact rnx_some h h0
end Go.Proofs.Ytjdabmadpclbaaa
