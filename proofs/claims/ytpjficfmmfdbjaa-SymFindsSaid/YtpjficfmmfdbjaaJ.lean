import Derived.Test.YtpjficfmmfdbjaaE
set_option linter.unusedVariables false
set_option linter.unusedSimpArgs false
namespace Go.Proofs.Ytpjficfmmfdbjaa
open Go.RowKit
theorem put_may (s : ByteArray) (ar aa wd : Int) (bg sg : Bool) (mu ad v : Int) (w : World) (hs : s.size ≤ maxLen) (hm : mayS s wd mu = false) :
    Calls Try.prog 10 #[.agg #[.string s, .int .u8 ar, .int .u32 aa, .int .i64 wd, .bool bg, .bool sg, .int .i32 mu, .int .i32 ad], .int .i64 v] w fun e w' => e = .returned (.tuple #[.slice none 0 0, .int .i64 1]) ∧ Ext w w' := by
  have HM := Lib.hid hm
  clear hm
  go_enter Try.func10, Try.ntmps10
  go_wp2_with (go_at_call 15; (with_reducible refine (may_any _ _ _ _ _ _ _ _ _ hs).mono ?_); rintro e w1 ⟨rfl, x1⟩; rw [HM.out])
  go_ret2
  exact ⟨rfl, ((Ext.refl w).alloc _).trans x1⟩
theorem put_far (s : ByteArray) (ar aa wd : Int) (bg sg : Bool) (mu ad v : Int) (w : World) (hs : s.size ≤ maxLen) (hm : mayS s wd mu = true) (hv : v < -4611686018427387904 ∨ 4611686018427387904 < v) :
    Calls Try.prog 10 #[.agg #[.string s, .int .u8 ar, .int .u32 aa, .int .i64 wd, .bool bg, .bool sg, .int .i32 mu, .int .i32 ad], .int .i64 v] w fun e w' => e = .returned (.tuple #[.slice none 0 0, .int .i64 1]) ∧ Ext w w' := by
  have HM := Lib.hid hm
  clear hm
  rcases hv with hv | hv
  · go_enter Try.func10, Try.ntmps10
    go_wp2_with (go_at_call 15; (with_reducible refine (may_any _ _ _ _ _ _ _ _ _ hs).mono ?_); rintro e w1 ⟨rfl, x1⟩; rw [HM.out])
    go_ret2
    exact ⟨rfl, ((Ext.refl w).alloc _).trans x1⟩
  · go_enter Try.func10, Try.ntmps10
    go_wp2_with (go_at_call 15; (with_reducible refine (may_any _ _ _ _ _ _ _ _ _ hs).mono ?_); rintro e w1 ⟨rfl, x1⟩; rw [HM.out])
    go_ret2
    exact ⟨rfl, ((Ext.refl w).alloc _).trans x1⟩
theorem take_may (s : ByteArray) (ar aa wd : Int) (bg sg : Bool) (mu ad : Int) (A : Option Addr) (n c : Nat) (w : World) (hs : s.size ≤ maxLen) (hm : mayS s wd mu = false) :
    Calls Try.prog 12 #[.agg #[.string s, .int .u8 ar, .int .u32 aa, .int .i64 wd, .bool bg, .bool sg, .int .i32 mu, .int .i32 ad], .slice A n c] w fun e w' => e = .returned (.tuple #[.int .i64 0, .int .i64 1]) ∧ Ext w w' := by
  have HM := Lib.hid hm
  clear hm
  go_enter Try.func12, Try.ntmps12
  go_wp2_with (go_at_call 15; (with_reducible refine (may_any _ _ _ _ _ _ _ _ _ hs).mono ?_); rintro e w1 ⟨rfl, x1⟩; rw [HM.out])
  go_ret2
  exact ⟨rfl, ((Ext.refl w).alloc _).trans x1⟩
theorem take_len (s : ByteArray) (ar aa : Int) (k : Nat) (bg sg : Bool) (mu ad : Int) (A : Option Addr) (n c : Nat) (w : World) (hs : s.size ≤ maxLen) (hm : mayS s k mu = true) (hn : n ≤ maxLen) (hk : n ≠ k) :
    Calls Try.prog 12 #[.agg #[.string s, .int .u8 ar, .int .u32 aa, .int .i64 k, .bool bg, .bool sg, .int .i32 mu, .int .i32 ad], .slice A n c] w fun e w' => e = .returned (.tuple #[.int .i64 0, .int .i64 5]) ∧ Ext w w' := by
  have HM := Lib.hid hm
  clear hm
  unfold maxLen at hn
  go_enter Try.func12, Try.ntmps12
  go_upto_region 3 with (go_at_call 15; (with_reducible refine (may_any _ _ _ _ _ _ _ _ _ hs).mono ?_); rintro e w1 ⟨rfl, x1⟩; rw [HM.out])
  have K1 := blk_of x1
  have z1 := ((Ext.refl w).alloc (.cells #[.string s, .int .u8 ar, .int .u32 aa, .int .i64 k, .bool bg, .bool sg, .int .i32 mu, .int .i32 ad] 24)).trans x1
  have f3 := blk_cell (i := 3) K1 rfl
  have hb : ((n : Int) != (k : Int)) = true := by simp; omega
  go_wp2
  go_ret2
  exact ⟨rfl, z1⟩
def putOk (s : ByteArray) (wd : Int) (k : Nat) (sg : Bool) (mu ad v : Int) : Bool :=
  mayS s wd mu && decide (-4611686018427387904 ≤ v) && decide (v ≤ 4611686018427387904) && (v - ad).tmod mu == 0 && fitsB ((v - ad).tdiv mu) k sg
theorem put_bad (s : ByteArray) (ar aa : Int) (k : Nat) (bg sg : Bool) (mu ad v : Int) (w : World) (hs : s.size ≤ maxLen) (a0 : -2147483648 ≤ ad) (a1 : ad < 2147483648) (h : putOk s k k sg mu ad v = false) :
    Calls Try.prog 10 #[.agg #[.string s, .int .u8 ar, .int .u32 aa, .int .i64 k, .bool bg, .bool sg, .int .i32 mu, .int .i32 ad], .int .i64 v] w fun e w' => e = .returned (.tuple #[.slice none 0 0, .int .i64 1]) ∧ Ext w w' := by
  rcases hm : mayS s k mu with _ | _
  · exact put_may _ _ _ _ _ _ _ _ _ _ hs hm
  · by_cases hv : -4611686018427387904 ≤ v ∧ v ≤ 4611686018427387904
    · by_cases ht : (v - ad).tmod mu = 0
      · have hf : fitsB ((v - ad).tdiv mu) k sg = false := by
          rw [Bool.eq_false_iff]
          intro hf
          simp [putOk, hm, hv.1, hv.2, ht, hf] at h
        exact put_f _ _ _ _ _ _ _ _ _ _ hs hm a0 a1 hv.1 hv.2 ht hf
      · exact put_t _ _ _ _ _ _ _ _ _ _ hs hm a0 a1 hv.1 hv.2 ht
    · exact put_far _ _ _ _ _ _ _ _ _ _ hs hm (by omega)
end Go.Proofs.Ytpjficfmmfdbjaa
