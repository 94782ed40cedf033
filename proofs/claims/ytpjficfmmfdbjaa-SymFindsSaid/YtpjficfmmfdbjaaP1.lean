import Derived.Test.YtpjficfmmfdbjaaR
import Derived.Test.YtpjficfmmfdbjaaO
set_option linter.unusedVariables false
set_option linter.unusedSimpArgs false
namespace Go.Proofs.Ytpjficfmmfdbjaa
open Go.RowKit
set_option maxHeartbeats 1000000 in
theorem rmay_any (s : ByteArray) (ar aa wd : Int) (bg sg : Bool) (mu ad : Int) (w : World) (hs : s.size ≤ maxLen) :
    Calls Try.prog 16 #[.agg #[.string s, .int .u8 ar, .int .u32 aa, .int .i64 wd, .bool bg, .bool sg, .int .i32 mu, .int .i32 ad]] w fun e w' => e = .returned (.bool (mayS s wd mu)) ∧ Ext w w' := by
  unfold maxLen at hs
  have K1 := blk_of (Ext.refl (w.alloc (.cells #[.string s, .int .u8 ar, .int .u32 aa, .int .i64 wd, .bool bg, .bool sg, .int .i32 mu, .int .i32 ad] 24)))
  obtain ⟨f0, f1, f2, f3, f4, f5, f6, f7⟩ := cells8 K1
  clear K1
  go_enter Try.func16, Try.ntmps16
  go_wp2
  go_loop [2, 3] (fun _ i => ∃ k : Nat, k ≤ s.size ∧ i = .int .i64 k ∧ Hid (nameOk (s.data.toList.take k) = true)) (fun _ i => s.size - (intOf i).toNat)
  case atStart => exact ⟨0, Nat.zero_le _, rfl, rfl⟩
  case round =>
    obtain ⟨k, hk, rfl, ho⟩ := hrel
    by_cases hlt : k < s.size
    · have hb := Lib.hid fun h => nameOk_bad hlt h
      have hg := Lib.hid fun h => nameOk_snoc hlt ho.out h
      by_cases hc : (s[k].toNat : Int) ≤ 32
      · have HB := Lib.hid (hb.out hc)
        go_wp2
        go_ret
        exact ⟨ret_b (by unfold mayS nameB; rw [HB.out]; rfl), (Ext.refl _).alloc _⟩
      · have HG := Lib.hid (hg.out hc)
        go_wp2
        go_round
        case rel => exact ⟨k + 1, by omega, by go_num, HG.out⟩
        case measure => simp [intOf]; omega
    · obtain rfl : k = s.size := by omega
      have ho' : nameOk s.data.toList = true := by have := ho.out; rwa [List.take_of_length_le (by simp)] at this
      have HO := Lib.hid ho'
      clear ho' ho
      go_wp2
      all_goals go_ret
      all_goals exact ⟨ret_b (by unfold mayS nameB; rw [HO.out, Bool.eq_iff_iff]; simp <;> omega), (Ext.refl _).alloc _⟩
theorem rput_may (s : ByteArray) (ar aa wd : Int) (bg sg : Bool) (mu ad v : Int) (w : World) (hs : s.size ≤ maxLen) (hm : mayS s wd mu = false) :
    Calls Try.prog 11 #[.agg #[.string s, .int .u8 ar, .int .u32 aa, .int .i64 wd, .bool bg, .bool sg, .int .i32 mu, .int .i32 ad], .int .i64 v] w fun e w' => e = .returned (.tuple #[.slice none 0 0, .int .i64 1]) ∧ Ext w w' := by
  have HM := Lib.hid hm
  clear hm
  go_enter Try.func11, Try.ntmps11
  go_wp2_with (go_at_call 16; (with_reducible refine (rmay_any _ _ _ _ _ _ _ _ _ hs).mono ?_); rintro e w1 ⟨rfl, x1⟩; rw [HM.out])
  go_ret2
  exact ⟨rfl, ((Ext.refl w).alloc _).trans x1⟩
theorem rput_far (s : ByteArray) (ar aa wd : Int) (bg sg : Bool) (mu ad v : Int) (w : World) (hs : s.size ≤ maxLen) (hm : mayS s wd mu = true) (hv : v < -4611686018427387904 ∨ 4611686018427387904 < v) :
    Calls Try.prog 11 #[.agg #[.string s, .int .u8 ar, .int .u32 aa, .int .i64 wd, .bool bg, .bool sg, .int .i32 mu, .int .i32 ad], .int .i64 v] w fun e w' => e = .returned (.tuple #[.slice none 0 0, .int .i64 1]) ∧ Ext w w' := by
  have HM := Lib.hid hm
  clear hm
  rcases hv with hv | hv
  · go_enter Try.func11, Try.ntmps11
    go_wp2_with (go_at_call 16; (with_reducible refine (rmay_any _ _ _ _ _ _ _ _ _ hs).mono ?_); rintro e w1 ⟨rfl, x1⟩; rw [HM.out])
    go_ret2
    exact ⟨rfl, ((Ext.refl w).alloc _).trans x1⟩
  · go_enter Try.func11, Try.ntmps11
    go_wp2_with (go_at_call 16; (with_reducible refine (rmay_any _ _ _ _ _ _ _ _ _ hs).mono ?_); rintro e w1 ⟨rfl, x1⟩; rw [HM.out])
    go_ret2
    exact ⟨rfl, ((Ext.refl w).alloc _).trans x1⟩
theorem rtake_may (s : ByteArray) (ar aa wd : Int) (bg sg : Bool) (mu ad : Int) (A : Option Addr) (n c : Nat) (w : World) (hs : s.size ≤ maxLen) (hm : mayS s wd mu = false) :
    Calls Try.prog 13 #[.agg #[.string s, .int .u8 ar, .int .u32 aa, .int .i64 wd, .bool bg, .bool sg, .int .i32 mu, .int .i32 ad], .slice A n c] w fun e w' => e = .returned (.tuple #[.int .i64 0, .int .i64 1]) ∧ Ext w w' := by
  have HM := Lib.hid hm
  clear hm
  go_enter Try.func13, Try.ntmps13
  go_wp2_with (go_at_call 16; (with_reducible refine (rmay_any _ _ _ _ _ _ _ _ _ hs).mono ?_); rintro e w1 ⟨rfl, x1⟩; rw [HM.out])
  go_ret2
  exact ⟨rfl, ((Ext.refl w).alloc _).trans x1⟩
theorem rtake_len (s : ByteArray) (ar aa : Int) (k : Nat) (bg sg : Bool) (mu ad : Int) (A : Option Addr) (n c : Nat) (w : World) (hs : s.size ≤ maxLen) (hm : mayS s k mu = true) (hn : n ≤ maxLen) (hk : n ≠ k) :
    Calls Try.prog 13 #[.agg #[.string s, .int .u8 ar, .int .u32 aa, .int .i64 k, .bool bg, .bool sg, .int .i32 mu, .int .i32 ad], .slice A n c] w fun e w' => e = .returned (.tuple #[.int .i64 0, .int .i64 5]) ∧ Ext w w' := by
  have HM := Lib.hid hm
  clear hm
  unfold maxLen at hn
  go_enter Try.func13, Try.ntmps13
  go_upto_region 3 with (go_at_call 16; (with_reducible refine (rmay_any _ _ _ _ _ _ _ _ _ hs).mono ?_); rintro e w1 ⟨rfl, x1⟩; rw [HM.out])
  have K1 := blk_of x1
  have z1 := ((Ext.refl w).alloc (.cells #[.string s, .int .u8 ar, .int .u32 aa, .int .i64 k, .bool bg, .bool sg, .int .i32 mu, .int .i32 ad] 24)).trans x1
  have f3 := blk_cell (i := 3) K1 rfl
  have hb : ((n : Int) != (k : Int)) = true := by simp; omega
  go_wp2
  go_ret2
  exact ⟨rfl, z1⟩
set_option maxHeartbeats 1000000 in
theorem rtake_ok (s : ByteArray) (ar aa : Int) (k : Nat) (bg sg : Bool) (mu ad : Int) (A : Option Addr) (c : Nat) (bs : List Int) (w : World) (hs : s.size ≤ maxLen) (hm : mayS s k mu = true) (a0 : -2147483648 ≤ ad) (a1 : ad < 2147483648) (hr : Rd w A k bs) (hkc : k ≤ c) :
    Calls Try.prog 13 #[.agg #[.string s, .int .u8 ar, .int .u32 aa, .int .i64 k, .bool bg, .bool sg, .int .i32 mu, .int .i32 ad], .slice A k c] w fun e w' => e = .returned (.tuple #[.int .i64 (takeV bs k bg sg mu ad), .int .i64 0]) ∧ Ext w w' := by
  obtain ⟨hw, m0, m1, mz⟩ := may_parts hm
  have hk : k = 1 ∨ k = 2 ∨ k = 4 := by omega
  have HM := Lib.hid hm
  have HW := Lib.hid (isW_k hm)
  have hk1000 : k ≤ 1000 := by omega
  obtain ⟨q0, q1⟩ := take_x_bd bg hr.byts hk
  obtain ⟨s0, s1⟩ := sgn_bd (v := takeTo bs k bg k) hk
  clear hm hw
  have hlen := hr.len
  go_enter Try.func13, Try.ntmps13
  go_upto_region 3 with (go_at_call 16; (with_reducible refine (rmay_any _ _ _ _ _ _ _ _ _ hs).mono ?_); rintro e w1 ⟨rfl, x1⟩; rw [HM.out])
  have K1 := blk_of x1
  have z1 := ((Ext.refl w).alloc (.cells #[.string s, .int .u8 ar, .int .u32 aa, .int .i64 k, .bool bg, .bool sg, .int .i32 mu, .int .i32 ad] 24)).trans x1
  have r1 := hr.ext z1
  clear x1 hlen
  have f3 := blk_cell (i := 3) K1 rfl
  have f4 := blk_cell (i := 4) K1 rfl
  go_upto_region 6 with (go_at_call 28; (with_reducible refine (rtake_any _ _ _ _ _ _ _ r1 hk1000 hkc HW.out (by omega)).mono ?_); rintro e w2 ⟨A2, c2, rfl, _, _, x2, _⟩)
  have K2 := (x2.block _ (blk_lt K1)).trans K1
  have f5 := blk_cell (i := 5) K2 rfl
  have g3 := blk_cell (i := 3) K2 rfl
  have f6 := blk_cell (i := 6) K2 rfl
  have f7 := blk_cell (i := 7) K2 rfl
  clear f3 f4 K1
  have HV := Lib.hid (show takeV bs k bg sg mu ad = mu * (if sg then sgn (takeTo bs k bg k) k else takeTo bs k bg k) + ad from rfl)
  generalize hx : takeTo bs k bg k = x at *
  have HX := Lib.hid hx
  clear hx
  rcases sg with _ | _
  · obtain ⟨p0, p1⟩ := mul_bd m0 m1 (show -4294967296 ≤ x by omega) q1
    go_wp2
    go_ret2
    exact ⟨by rw [HV.out]; rfl, z1.trans x2⟩
  · obtain ⟨p0, p1⟩ := mul_bd m0 m1 (show -4294967296 ≤ sgn x k by omega) (show sgn x k < 4294967296 by omega)
    go_wp2_with (go_at_call 29; (with_reducible refine (rsigned_any _ _ _ HW.out q0 (by omega)).mono ?_); rintro e w3 ⟨rfl, rfl⟩)
    go_ret2
    exact ⟨by rw [HV.out]; rfl, z1.trans x2⟩
end Go.Proofs.Ytpjficfmmfdbjaa
