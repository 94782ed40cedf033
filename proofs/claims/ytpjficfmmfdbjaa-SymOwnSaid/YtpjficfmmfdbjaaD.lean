import Derived.Test.YtpjficfmmfdbjaaC
set_option linter.unusedVariables false
set_option linter.unusedSimpArgs false
namespace Go.Proofs.Ytpjficfmmfdbjaa
open Go.RowKit
theorem name_s : mayS ⟨#[115]⟩ 1 2 = true := by decide
theorem name_x (k : Nat) (mu : Int) (hk : k = 1 ∨ k = 2 ∨ k = 4) (m0 : -16777216 ≤ mu) (m1 : mu ≤ 16777216) (mz : mu ≠ 0) : mayS ⟨#[120]⟩ k mu = true := by
  have hn : nameB ⟨#[120]⟩ = true := by decide
  simp [mayS, hn, m0, m1, mz]
  omega
theorem take_putB {x mu ad : Int} {k : Nat} {bg sg : Bool} (hk : k = 1 ∨ k = 2 ∨ k = 4) (hf : fitsB x k sg = true) (x0 : -4294967296 ≤ x) (x1 : x < 4294967296) :
    takeV (putB (IntKind.u64.wrap x) k bg) k bg sg mu ad = mu * x + ad := by
  have hw : isW k = true := by rw [isW_iff]; omega
  obtain ⟨u0, u1⟩ := uwrap_bd x
  unfold takeV
  rw [back_eq _ k bg hw u0 u1]
  have e : (if sg then sgn (IntKind.u64.wrap x % (2 * half k)) k else IntKind.u64.wrap x % (2 * half k)) = x := by
    rw [IntKind.wrap_u64]
    rcases hk with rfl | rfl | rfl <;> cases sg <;> simp [fitsB, half, isW] at hf <;> simp [sgn, half] <;> omega
  rw [e]
theorem shown_put : putB (IntKind.u64.wrap (((4 : Int) - -10).tdiv 2)) 1 false = [7] := by decide
theorem shown_str : ((strOfNums [7]).toList == [7]) = true := by kernel_rfl
theorem shown_any (w : World) : Calls Try.prog 14 #[] w fun e w' => e = .returned (.bool true) ∧ Ext w w' := by
  have hs1 := shown_str
  have hsz : (⟨#[115]⟩ : ByteArray).size ≤ maxLen := by decide
  have hb7 : Byts [7] := by intro b hb; simp at hb; omega
  have htv : takeV [7] 1 false false 2 (-10) = 4 := by decide
  have HTV := Lib.hid htv
  clear htv
  go_enter Try.func14, Try.ntmps14
  go_upto_region 3 with (go_at_call 10; refine (put_ok ⟨#[115]⟩ 0 0 1 false false 2 (-10) 4 _ hsz name_s (by omega) (by omega) (by omega) (by omega) (by decide) (by decide)).mono ?_; rintro e w1 ⟨A1, c1, rfl, _, _, x1, r1⟩; rw [shown_put] at r1)
  have K1 := blk_of x1
  obtain ⟨f0, f1, f2, f3, f4, f5, f6, f7⟩ := cells8 K1
  go_upto_region 4 with (go_at_call 10; refine (put_t ⟨#[115]⟩ 0 0 1 false false 2 (-10) 5 _ hsz name_s (by omega) (by omega) (by omega) (by omega) (by decide)).mono ?_; rintro e w2 ⟨rfl, x2⟩)
  have K2 := (x2.block _ (blk_lt K1)).trans K1
  clear f0 f1 f2 f3 f4 f5 f6 f7
  obtain ⟨f0, f1, f2, f3, f4, f5, f6, f7⟩ := cells8 K2
  have R2 : Rd (w2.alloc (.cells #[.int .u8 7] 5)) (some ⟨w2.heap.size, 0, none⟩) 1 [7] := rd_new (W := w2) (cs := [7]) 5 rfl hb7
  have RR := Lib.hid R2
  clear R2
  go_upto_region 5 with (go_at_call 12; refine (take_ok ⟨#[115]⟩ 0 0 1 false false 2 (-10) _ 1 [7] _ hsz name_s (by omega) (by omega) RR.out (by omega)).mono ?_; rintro e w3 ⟨rfl, x3⟩; rw [HTV.out])
  have s1 := str (c := c1) (r1.ext (x2.trans (((Ext.refl _).alloc _).trans x3)))
  go_wp2
  go_ways
  go_ret
  exact ⟨by simp, ((Ext.refl _).alloc _).trans (x1.trans (x2.trans (((Ext.refl _).alloc _).trans x3)))⟩
/-- The closure: a meaning goes to bytes and back. -/
theorem of_any (x mu ad : Int) (k : Nat) (bg sg : Bool) (g : Nat) (w : World) (hk : k = 1 ∨ k = 2 ∨ k = 4) (m0 : -16777216 ≤ mu) (m1 : mu ≤ 16777216) (mz : mu ≠ 0) (a0 : -2147483648 ≤ ad) (a1 : ad < 2147483648)
    (hf : fitsB x k sg = true) (x0 : -4294967296 ≤ x) (x1 : x < 4294967296)
    (K : w.heap[g]? = some (.cells #[.string ⟨#[120]⟩, .int .u8 0, .int .u32 0, .int .i64 k, .bool bg, .bool sg, .int .i32 mu, .int .i32 ad] 24 (0, 0))) :
    Calls Try.prog 21 #[.int .i64 x, .pointer (some ⟨g, 0, none⟩)] w fun e w' => e = .returned (.bool true) ∧ Ext w w' := by
  obtain ⟨p0, p1⟩ := mul_bd m0 m1 x0 x1
  have hsz : (⟨#[120]⟩ : ByteArray).size ≤ maxLen := by decide
  have hm := name_x k mu hk m0 m1 mz
  have ht : (mu * x + ad - ad).tmod mu = 0 := by rw [Int.add_sub_cancel, Int.mul_tmod_right]
  have hq : (mu * x + ad - ad).tdiv mu = x := by rw [Int.add_sub_cancel, Int.mul_tdiv_cancel_left _ mz]
  have hf' : fitsB ((mu * x + ad - ad).tdiv mu) k sg = true := by rw [hq]; exact hf
  have HQ := Lib.hid hq
  have HT := Lib.hid ht
  have HF := Lib.hid hf'
  have HM := Lib.hid hm
  have HTV := Lib.hid (take_putB (bg := bg) (mu := mu) (ad := ad) hk hf x0 x1)
  clear ht hq hf' hm
  obtain ⟨f0, f1, f2, f3, f4, f5, f6, f7⟩ := cells8 K
  go_enter Try.func21, Try.ntmps21
  go_upto_region 2 with (go_at_call 10; (with_reducible refine (put_ok _ _ _ _ _ _ _ _ _ _ hsz HM.out a0 a1 (by omega) (by omega) HT.out HF.out).mono ?_); rintro e w1 ⟨A1, c1, rfl, l1, _, x1', r1⟩; rw [HQ.out] at r1)
  clear f0 f1 f2 f3 f4 f5 f6 f7
  have K1 := (x1'.block _ (blk_lt K)).trans K
  obtain ⟨f0, f1, f2, f3, f4, f5, f6, f7⟩ := cells8 K1
  go_upto_region 3 with (go_at_call 12; (with_reducible refine (take_ok _ _ _ _ _ _ _ _ _ _ _ _ hsz HM.out a0 a1 r1 l1).mono ?_); rintro e w2 ⟨rfl, x2'⟩; rw [HTV.out])
  clear f0 f1 f2 f3 f4 f5 f6 f7
  have K2 := (x2'.block _ (blk_lt K1)).trans K1
  obtain ⟨f0, f1, f2, f3, f4, f5, f6, f7⟩ := cells8 K2
  go_wp2
  go_ret
  exact ⟨by simp, x1'.trans x2'⟩
end Go.Proofs.Ytpjficfmmfdbjaa
