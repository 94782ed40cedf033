import Derived.Test.YtnjiajogbadadaaK
set_option linter.unusedVariables false
set_option linter.unusedSimpArgs false
namespace Go.Proofs.Ytnjiajogbadadaa
open Go.RowKit
theorem and_bd {a b : Int} (ha : 0 ≤ a ∧ a < 256) (hb : 0 ≤ b ∧ b < 256) : 0 ≤ bits .and .u8 a b ∧ bits .and .u8 a b < 256 := by
  rw [u8_and a b ha.1 ha.2 hb.1 hb.2]
  have : a.toNat &&& b.toNat ≤ a.toNat := Nat.and_le_left
  omega
def LSt.new (r : Int) : LSt := ⟨bits .and .u8 r 13, bits .and .u8 r 13, [], 0, 0, []⟩
theorem new_cn (r : Int) (w : World) (h : 0 ≤ r ∧ r < 256) : Calls Try.prog 9 #[.int .u8 r] w fun e w' => ∃ g F, e = .returned (.pointer (some ⟨g, 0, none⟩)) ∧ LkC w' g (LSt.new r) F ∧ Ext w w' ∧ ∀ k, F k → w.heap.size ≤ k := by
  refine (new_any r w).mono ?_
  rintro e w' ⟨rfl, K, x⟩
  have hb := and_bd h (b := 13) (by omega)
  exact ⟨_, fun k => k = w.heap.size, rfl, ⟨none, 0, none, 0, K, Rd.nil, Nat.le_refl _, own_nil, Byts.nil, rfl, (fun ad e => nomatch e), (fun b e => nomatch e), (fun k hk => by subst hk; exact blk_lt K), ⟨hb, hb, by simp [LSt.new], by simp [LSt.new], by simp [LSt.new], by simp [LSt.new]⟩⟩, x, fun k hk => by subst hk; exact Nat.le_refl _⟩
theorem locked_cn (g : Nat) (s : LSt) (F : Nat → Prop) (w : World) (h : LkC w g s F) : Calls Try.prog 19 #[.pointer (some ⟨g, 0, none⟩)] w fun e w' => e = .returned (.int .u8 s.lk) ∧ w = w' := by
  obtain ⟨sA, sc, kA, kc, h⟩ := h
  exact locked_any _ _ _ _ _ _ _ _ _ _ _ _ h.row
theorem relock_cn (g : Nat) (s : LSt) (F : Nat → Prop) (w : World) (h : LkC w g s F) : Calls Try.prog 17 #[.pointer (some ⟨g, 0, none⟩)] w fun e w' => e = .returned (.tuple #[]) ∧ LkC w' g { s.clear with lk := s.all } F ∧ Kept F w w' := by
  obtain ⟨sA, sc, kA, kc, h⟩ := h
  refine (relock_any _ _ _ _ _ _ _ _ _ _ _ _ h.row).mono ?_
  rintro e w' ⟨rfl, K, x⟩
  have k : Kept F w w' := .of_grown x (fun b e => by injection e with e; subst e; exact h.fg)
  exact ⟨rfl, ⟨none, 0, none, 0, K, Rd.nil, Nat.le_refl _, own_nil, Byts.nil, h.fg, (fun ad e => nomatch e), (fun b e => nomatch e), (fun i hi => Nat.lt_of_lt_of_le (h.lt i hi) k.size), ⟨h.ok.all, h.ok.all, by simp [LSt.clear], by simp [LSt.clear], by simp [LSt.clear], by simp [LSt.clear]⟩⟩, k⟩
theorem sh_seed : (LSt.new 5).doSeed 0 4 [1, 2] = ⟨⟨5, 5, [1, 2], 4, 2, []⟩, 2, [1, 2], 0⟩ := by kernel_rfl
theorem sh_key : keyB 4 [1, 2] = [236, 248] := by kernel_rfl
theorem sh_unl : LSt.doUnlock ⟨5, 5, [1, 2], 4, 2, []⟩ 2 [236, 248] = ⟨⟨5, 1, [], 0, 0, []⟩, 0⟩ := by kernel_rfl
theorem sh_s1 : ((strOfNums [1, 2]).toList == [1, 2]) = true := by kernel_rfl
set_option maxHeartbeats 1000000 in
theorem shown_any (w : World) : Calls Try.prog 8 #[] w fun e w' => e = .returned (.bool true) ∧ Ext w w' := by
  have hs1 := sh_s1
  have hb2 : Byts [1, 2] := by intro b hb; simp at hb; omega
  have hb3 : Byts [236, 248] := by intro b hb; simp at hb; omega
  go_enter Try.func8, Try.ntmps8
  go_upto_region 2 with (go_at_call 9; (refine (new_cn 5 _ (by omega)).mono ?_); rintro e w1 ⟨g, F, rfl, L1, x1, f1⟩)
  have R1 : Rd (w1.alloc (.cells #[.int .u8 1, .int .u8 2] 5)) (some ⟨w1.heap.size, 0, none⟩) 2 [1, 2] := rd_new (W := w1) (cs := [1, 2]) 5 rfl hb2
  have RR := Lib.hid R1
  clear R1
  have L2 := L1.ext ((Ext.refl w1).alloc (.cells #[.int .u8 1, .int .u8 2] 5))
  have lt1 : ∀ k, F k → k < w1.heap.size := (by obtain ⟨_, _, _, _, h⟩ := L1; exact h.lt)
  go_upto_region 5 with (go_at_call 12; (refine (seed_any _ _ F _ _ _ _ _ [1, 2] _ RR.out (fun _ ad e h => by injection e with e; subst e; have := lt1 _ h; simp at this) (by decide) (by omega) L2).mono ?_); rw [sh_seed]; rintro e w2 ⟨A2, c2, F2, rfl, L3, k2, r2, l2, m2, f2, q2⟩)
  have r2 : Rd w2 A2 2 [1, 2] := r2
  go_upto_region 6 with (go_at_call 20; (refine (key_any _ 2 _ [1, 2] 4 _ r2 (by decide) (by omega) (by omega)).mono ?_); rw [sh_key]; rintro e w3 ⟨A3, rfl, x3, r3, q3⟩)
  have s1 := str (c := c2) (r2.ext x3)
  have s2 := str (c := 2) r3
  have hx : Ext w w2 := (x1.trans ((Ext.refl _).alloc _)).kept k2 (fun i hi => f1 i hi)
  have L3 : LkC w2 g ⟨5, 5, [1, 2], 4, 2, []⟩ F2 := L3
  have L5 := L3.ext (x3.trans ((Ext.refl w3).alloc (.cells #[.int .u8 236, .int .u8 248] 5)))
  have r5 := r3.ext ((Ext.refl w3).alloc (.cells #[.int .u8 236, .int .u8 248] 5))
  have r4 : Rd (w3.alloc (.cells #[.int .u8 236, .int .u8 248] 5)) (some ⟨w3.heap.size, 0, none⟩) 2 [236, 248] := rd_new (W := w3) (cs := [236, 248]) 5 rfl hb3
  have s3 := str (c := 2) r4
  have lt2 : ∀ k, F2 k → k < w2.heap.size := (by obtain ⟨_, _, _, _, h⟩ := L3; exact h.lt)
  have hf2 : ∀ k, F2 k → w.heap.size ≤ k := fun k hk => (f2 k hk).elim (fun h => f1 k h) (fun h => by have := x1.size; simp at h; omega)
  have hu := unlock_any _ _ F2 2 A3 2 2 [236, 248] _ L5 r5
  rw [sh_unl] at hu
  have HU := Lib.hid hu
  clear hu r5 L5
  go_wp2_with (first
    | (go_at_call 14; (refine HU.out.mono ?_); rintro e w6 ⟨rfl, F6, L6, k6, f6⟩)
    | (go_at_call 19; (refine (locked_cn _ _ _ _ L6).mono ?_); rintro e w7 ⟨rfl, rfl⟩))
  go_ret
  exact ⟨by simp, (hx.trans (x3.trans ((Ext.refl w3).alloc _))).kept k6 hf2⟩
set_option maxHeartbeats 1000000 in
theorem LockNil_law (w : World) (mode res left : Int) (A : Option Addr) (n c : Nat) (bs : List Int) (rd : Rd w A n bs) (r0 : 0 ≤ res) (r1 : res < 256) :
    Calls Try.prog 7 #[.int .u8 mode, .int .u8 res, .int .i64 left, .slice A n c] w fun e w' => e = .returned (.bool true) ∧ Ext w w' := by
  go_enter Try.func7, Try.ntmps7
  go_wp2_with (first
    | (go_at_call 8; (refine (shown_any _).mono ?_); rintro e w1 ⟨rfl, x1⟩)
    | (go_at_call 17; (refine (relock_nil _).mono ?_); rintro e w2 ⟨rfl, rfl⟩)
    | (go_at_call 12; (refine (seed_nil _ _ _ _ _ _).mono ?_); rintro e w3 ⟨rfl, rfl⟩)
    | (go_at_call 19; (refine (locked_nil _).mono ?_); rintro e w4 ⟨rfl, rfl⟩)
    | (go_at_call 14; (refine (unlock_nil _ _ _ _ _).mono ?_); rintro e w5 ⟨rfl, rfl⟩)
    | (go_at_call 20; (refine (key_any none 0 0 [] _ _ Rd.nil (by omega) r0 r1).mono ?_); rintro e w6 ⟨A6, rfl, x6, _, _⟩))
  go_ret
  exact ⟨by simp, x1.trans x6⟩
end Go.Proofs.Ytnjiajogbadadaa
