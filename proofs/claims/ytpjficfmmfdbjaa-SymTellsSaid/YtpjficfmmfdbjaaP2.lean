import Derived.Test.YtpjficfmmfdbjaaP1
set_option linter.unusedVariables false
namespace Go.Proofs.Ytpjficfmmfdbjaa
open Go.RowKit
theorem quo_parts (v ad mu : Int) (a0 : -2147483648 ≤ ad) (a1 : ad < 2147483648) (v0 : -4611686018427387904 ≤ v) (v1 : v ≤ 4611686018427387904) :
    ∃ x t, (v - ad).tdiv mu = x ∧ (v - ad).tmod mu = t ∧ x * mu = v - ad - t ∧ (-4611686020574871553 ≤ t ∧ t ≤ 4611686020574871553) ∧ (-4611686020574871553 ≤ v - ad - t ∧ v - ad - t ≤ 4611686020574871553) := by
  refine ⟨_, _, rfl, rfl, ?_, ?_, ?_⟩
  · have h := Int.mul_tdiv_add_tmod (v - ad) mu
    rw [Int.mul_comm]; omega
  · have h : ((v - ad).tmod mu).natAbs = (v - ad).natAbs % mu.natAbs := Int.natAbs_tmod _ _
    have h2 := Nat.mod_le (v - ad).natAbs mu.natAbs
    omega
  · have h := Int.mul_tdiv_add_tmod (v - ad) mu
    have h1 : (mu * ((v - ad).tdiv mu)).natAbs = mu.natAbs * ((v - ad).natAbs / mu.natAbs) := by rw [Int.natAbs_mul, Int.natAbs_tdiv]; rfl
    have h2 := Nat.mul_div_le (v - ad).natAbs mu.natAbs
    omega
set_option maxHeartbeats 1000000 in
theorem rput_t (s : ByteArray) (ar aa : Int) (k : Nat) (bg sg : Bool) (mu ad v : Int) (w : World) (hs : s.size ≤ maxLen) (hm : mayS s k mu = true) (a0 : -2147483648 ≤ ad) (a1 : ad < 2147483648) (v0 : -4611686018427387904 ≤ v) (v1 : v ≤ 4611686018427387904) (ht : (v - ad).tmod mu ≠ 0) :
    Calls Try.prog 11 #[.agg #[.string s, .int .u8 ar, .int .u32 aa, .int .i64 k, .bool bg, .bool sg, .int .i32 mu, .int .i32 ad], .int .i64 v] w fun e w' => e = .returned (.tuple #[.slice none 0 0, .int .i64 1]) ∧ Ext w w' := by
  obtain ⟨hw, m0, m1, mz⟩ := may_parts hm
  have HM := Lib.hid hm
  have HW := Lib.hid (isW_k hm)
  clear hm hw
  have mzb : (mu == 0) = false := by simpa using mz
  obtain ⟨x0, x1⟩ := x_bd v ad mu a0 a1 v0 v1
  obtain ⟨x, t, hx, ht', hxm, ⟨t0, t1⟩, ⟨y0, y1⟩⟩ := quo_parts v ad mu a0 a1 v0 v1
  rw [hx] at x0 x1
  have hwx := IntWalk.wrap64_in x ⟨x0, by omega⟩
  have HX := Lib.hid hx
  have HXM := Lib.hid hxm
  have p0 : -9223372036854775808 ≤ x * mu := by omega
  have p1 : x * mu < 9223372036854775808 := by omega
  have q0 : -9223372036854775808 ≤ x * mu + ad := by omega
  have q1 : x * mu + ad < 9223372036854775808 := by omega
  clear hxm
  go_enter Try.func11, Try.ntmps11
  go_upto_region 3 with (go_at_call 16; (with_reducible refine (rmay_any _ _ _ _ _ _ _ _ _ hs).mono ?_); rintro e w1 ⟨rfl, x1⟩; rw [HM.out])
  have K1 := blk_of x1
  have z1 := ((Ext.refl w).alloc (.cells #[.string s, .int .u8 ar, .int .u32 aa, .int .i64 k, .bool bg, .bool sg, .int .i32 mu, .int .i32 ad] 24)).trans x1
  clear x1
  obtain ⟨f0, f1, f2, f3, f4, f5, f6, f7⟩ := cells8 K1
  have hb : (x * mu + ad != v) = true := by rw [HXM.out]; simp; omega
  clear ht ht'
  go_upto_region 4 with (fail)
  try rw [hx]
  try rw [hwx]
  clear hx hwx
  go_wp2
  go_ret2
  exact ⟨rfl, z1⟩
set_option maxHeartbeats 1000000 in
theorem rput_f (s : ByteArray) (ar aa : Int) (k : Nat) (bg sg : Bool) (mu ad v : Int) (w : World) (hs : s.size ≤ maxLen) (hm : mayS s k mu = true) (a0 : -2147483648 ≤ ad) (a1 : ad < 2147483648) (v0 : -4611686018427387904 ≤ v) (v1 : v ≤ 4611686018427387904) (ht : (v - ad).tmod mu = 0) (hf : fitsB ((v - ad).tdiv mu) k sg = false) :
    Calls Try.prog 11 #[.agg #[.string s, .int .u8 ar, .int .u32 aa, .int .i64 k, .bool bg, .bool sg, .int .i32 mu, .int .i32 ad], .int .i64 v] w fun e w' => e = .returned (.tuple #[.slice none 0 0, .int .i64 1]) ∧ Ext w w' := by
  obtain ⟨hw, m0, m1, mz⟩ := may_parts hm
  have HM := Lib.hid hm
  have HW := Lib.hid (isW_k hm)
  clear hm hw
  have mzb : (mu == 0) = false := by simpa using mz
  obtain ⟨x0, x1⟩ := x_bd v ad mu a0 a1 v0 v1
  obtain ⟨x, t, hx, ht', hxm, ⟨t0, t1⟩, ⟨y0, y1⟩⟩ := quo_parts v ad mu a0 a1 v0 v1
  rw [hx] at x0 x1
  have hwx := IntWalk.wrap64_in x ⟨x0, by omega⟩
  have HX := Lib.hid hx
  have HXM := Lib.hid hxm
  have p0 : -9223372036854775808 ≤ x * mu := by omega
  have p1 : x * mu < 9223372036854775808 := by omega
  have q0 : -9223372036854775808 ≤ x * mu + ad := by omega
  have q1 : x * mu + ad < 9223372036854775808 := by omega
  clear hxm
  go_enter Try.func11, Try.ntmps11
  go_upto_region 3 with (go_at_call 16; (with_reducible refine (rmay_any _ _ _ _ _ _ _ _ _ hs).mono ?_); rintro e w1 ⟨rfl, x1⟩; rw [HM.out])
  have K1 := blk_of x1
  have z1 := ((Ext.refl w).alloc (.cells #[.string s, .int .u8 ar, .int .u32 aa, .int .i64 k, .bool bg, .bool sg, .int .i32 mu, .int .i32 ad] 24)).trans x1
  clear x1
  obtain ⟨f0, f1, f2, f3, f4, f5, f6, f7⟩ := cells8 K1
  have hb : (x * mu + ad != v) = false := by rw [HXM.out]; simp; omega
  rw [hx] at hf
  have HF := Lib.hid hf
  clear ht ht' hf
  go_upto_region 4 with (fail)
  try rw [hx]
  try rw [hwx]
  clear hx hwx
  go_wp2_with (go_at_call 24; (with_reducible refine (rfits_any _ _ _ _ HW.out x0 (by omega)).mono ?_); rintro e w2 ⟨rfl, rfl⟩; rw [HF.out])
  go_ret2
  exact ⟨rfl, z1⟩
set_option maxHeartbeats 1000000 in
theorem rput_ok (s : ByteArray) (ar aa : Int) (k : Nat) (bg sg : Bool) (mu ad v : Int) (w : World) (hs : s.size ≤ maxLen) (hm : mayS s k mu = true) (a0 : -2147483648 ≤ ad) (a1 : ad < 2147483648) (v0 : -4611686018427387904 ≤ v) (v1 : v ≤ 4611686018427387904) (ht : (v - ad).tmod mu = 0) (hf : fitsB ((v - ad).tdiv mu) k sg = true) :
    Calls Try.prog 11 #[.agg #[.string s, .int .u8 ar, .int .u32 aa, .int .i64 k, .bool bg, .bool sg, .int .i32 mu, .int .i32 ad], .int .i64 v] w fun e w' => ∃ A c, e = .returned (.tuple #[.slice A k c, .int .i64 0]) ∧ k ≤ c ∧ c ≤ maxLen ∧ Ext w w' ∧ Rd w' A k (putB (IntKind.u64.wrap ((v - ad).tdiv mu)) k bg) := by
  obtain ⟨hw, m0, m1, mz⟩ := may_parts hm
  have HM := Lib.hid hm
  have HW := Lib.hid (isW_k hm)
  clear hm hw
  have mzb : (mu == 0) = false := by simpa using mz
  obtain ⟨x0, x1⟩ := x_bd v ad mu a0 a1 v0 v1
  obtain ⟨x, t, hx, ht', hxm, ⟨t0, t1⟩, ⟨y0, y1⟩⟩ := quo_parts v ad mu a0 a1 v0 v1
  rw [hx] at x0 x1
  have hwx := IntWalk.wrap64_in x ⟨x0, by omega⟩
  have HX := Lib.hid hx
  have HXM := Lib.hid hxm
  have p0 : -9223372036854775808 ≤ x * mu := by omega
  have p1 : x * mu < 9223372036854775808 := by omega
  have q0 : -9223372036854775808 ≤ x * mu + ad := by omega
  have q1 : x * mu + ad < 9223372036854775808 := by omega
  clear hxm
  go_enter Try.func11, Try.ntmps11
  go_upto_region 3 with (go_at_call 16; (with_reducible refine (rmay_any _ _ _ _ _ _ _ _ _ hs).mono ?_); rintro e w1 ⟨rfl, x1⟩; rw [HM.out])
  have K1 := blk_of x1
  have z1 := ((Ext.refl w).alloc (.cells #[.string s, .int .u8 ar, .int .u32 aa, .int .i64 k, .bool bg, .bool sg, .int .i32 mu, .int .i32 ad] 24)).trans x1
  clear x1
  obtain ⟨f0, f1, f2, f3, f4, f5, f6, f7⟩ := cells8 K1
  have hb : (x * mu + ad != v) = false := by rw [HXM.out]; simp; omega
  rw [hx] at hf
  have HF := Lib.hid hf
  clear ht ht' hf
  obtain ⟨u0, u1⟩ := uwrap_bd x
  go_upto_region 4 with (fail)
  try rw [hx]
  try rw [hwx]
  clear hx hwx
  go_upto_region 6 with (go_at_call 24; (with_reducible refine (rfits_any _ _ _ _ HW.out x0 (by omega)).mono ?_); rintro e w2 ⟨rfl, rfl⟩; rw [HF.out])
  go_wp2_with (go_at_call 25; (with_reducible refine (rput_own _ _ _ [] _ _ _ _ Rd.nil (by omega) HW.out u0 u1).mono ?_); rintro e w3 ⟨A, c, rfl, l3, m3, x3, r3, _⟩)
  go_ret2
  simp only [Nat.zero_add, List.nil_append] at l3 r3
  exact ⟨A, c, by simp, l3, m3, z1.trans x3, by rw [HX.out]; exact r3⟩
theorem rput_bad (s : ByteArray) (ar aa : Int) (k : Nat) (bg sg : Bool) (mu ad v : Int) (w : World) (hs : s.size ≤ maxLen) (a0 : -2147483648 ≤ ad) (a1 : ad < 2147483648) (h : putOk s k k sg mu ad v = false) :
    Calls Try.prog 11 #[.agg #[.string s, .int .u8 ar, .int .u32 aa, .int .i64 k, .bool bg, .bool sg, .int .i32 mu, .int .i32 ad], .int .i64 v] w fun e w' => e = .returned (.tuple #[.slice none 0 0, .int .i64 1]) ∧ Ext w w' := by
  rcases hm : mayS s k mu with _ | _
  · exact rput_may _ _ _ _ _ _ _ _ _ _ hs hm
  · by_cases hv : -4611686018427387904 ≤ v ∧ v ≤ 4611686018427387904
    · by_cases ht : (v - ad).tmod mu = 0
      · have hf : fitsB ((v - ad).tdiv mu) k sg = false := by
          rw [Bool.eq_false_iff]
          intro hf
          simp [putOk, hm, hv.1, hv.2, ht, hf] at h
        exact rput_f _ _ _ _ _ _ _ _ _ _ hs hm a0 a1 hv.1 hv.2 ht hf
      · exact rput_t _ _ _ _ _ _ _ _ _ _ hs hm a0 a1 hv.1 hv.2 ht
    · exact rput_far _ _ _ _ _ _ _ _ _ _ hs hm (by omega)
end Go.Proofs.Ytpjficfmmfdbjaa
