import Derived.Test.YtkagdklnfljkjaaC
namespace Go.Proofs.Ytkagdklnfljkjaa
open Go.RowKit
theorem str {w : World} {A : Option Addr} {n c : Nat} {bs : List Int} (hr : Rd w A n bs) : (convert 22 9 (.slice A n c)).run Try.prog w = .ok (.string (strOfNums bs)) w := run_str Try.underlying22 Try.underlying5 Try.underlying9 hr

theorem NumPuts_law (w : World) (A : Option Addr) (n c : Nat) (bs : List Int) (hr : Rd w A n bs) (hnc : n ≤ c) (hc : c ≤ maxLen) (v : Int) (h0 : 0 ≤ v) (h1 : v < 18446744073709551616) (wd : Int) (big : Bool) :
    Calls Try.prog 3 #[.slice A n c, .int .u64 v, .int .i64 wd, .bool big] w fun e w' => e = .returned (.bool true) ∧ Ext w w' := by
  have hr' := hr.take (k := min n 20) (by omega)
  have hm : min n 20 ≤ 1000 := by omega
  have hmc : min n 20 ≤ c := by omega
  have H1 := Lib.hid h1; clear h1
  generalize hmm : min n 20 = m at *
  have HM := Lib.hid hmm; clear hmm
  cases hw : isW wd with
  | true =>
    obtain ⟨k, rfl⟩ : ∃ k : Nat, wd = k := ⟨wd.toNat, by rw [isW_iff] at hw; omega⟩
    by_cases hle : (k : Int) ≤ m
    · go_enter Try.func3, Try.ntmps3
      go_wp2_with (first
        | (go_at_call 10; refine (few_any _ _ _ _ hnc hc).mono ?_; rintro e w' ⟨rfl, rfl⟩; rw [HM.out])
        | (go_at_call 9; refine (put_any _ _ _ _ _ _ _ _ hr' hm hw h0 H1.out).mono ?_; rintro e w1 ⟨A1, c1, rfl, h1, h2, x1, r1⟩; have hr1 := hr'.ext x1)
        | (go_at_call 11; refine (rput_any _ _ _ _ _ _ _ _ hr1 hm hw h0 H1.out).mono ?_; rintro e w2 ⟨A2, c2, rfl, h3, h4, x2, r2⟩; have hr2 := hr1.ext x2)
        | (go_at_call 12; refine (take_any _ _ _ _ _ _ _ hr2 hm hmc hw hle).mono ?_; rintro e w3 ⟨A3, c3, rfl, h5, h6, x3, r3⟩; have hr3 := hr2.ext x3)
        | (go_at_call 13; refine (rtake_any _ _ _ _ _ _ _ hr3 hm hmc hw hle).mono ?_; rintro e w4 ⟨A4, c4, rfl, h7, h8, x4, r4⟩)
        | (go_at_call 14; refine (shown_any _).mono ?_; rintro e w5 ⟨rfl, x5⟩; have s1 := fun c => str (c := c) (r1.ext (x2.trans (x3.trans (x4.trans x5)))); have s2 := fun c => str (c := c) (r2.ext (x3.trans (x4.trans x5))); have s3 := fun c => str (c := c) (r3.ext (x4.trans x5)); have s4 := fun c => str (c := c) (r4.ext x5)))
      go_ret
      exact ⟨rfl, x1.trans (x2.trans (x3.trans (x4.trans x5)))⟩
    · go_enter Try.func3, Try.ntmps3
      go_wp2_with (first
        | (go_at_call 10; refine (few_any _ _ _ _ hnc hc).mono ?_; rintro e w' ⟨rfl, rfl⟩; rw [HM.out])
        | (go_at_call 9; refine (put_any _ _ _ _ _ _ _ _ hr' hm hw h0 H1.out).mono ?_; rintro e w1 ⟨A1, c1, rfl, h1, h2, x1, r1⟩; have hr1 := hr'.ext x1)
        | (go_at_call 11; refine (rput_any _ _ _ _ _ _ _ _ hr1 hm hw h0 H1.out).mono ?_; rintro e w2 ⟨A2, c2, rfl, h3, h4, x2, r2⟩)
        | (go_at_call 12; refine (take_no5 _ _ _ _ _ _ hw (by omega)).mono ?_; rintro e w3 ⟨rfl, rfl⟩)
        | (go_at_call 13; refine (rtake_no5 _ _ _ _ _ _ hw (by omega)).mono ?_; rintro e w4 ⟨rfl, rfl⟩)
        | (go_at_call 14; refine (shown_any _).mono ?_; rintro e w5 ⟨rfl, x5⟩; have s1 := fun c => str (c := c) (r1.ext (x2.trans x5)); have s2 := fun c => str (c := c) (r2.ext x5); have s3 := fun c => str (c := c) (w := w5) (A := none) Rd.nil))
      go_ret
      exact ⟨rfl, x1.trans (x2.trans x5)⟩
  | false =>
    go_enter Try.func3, Try.ntmps3
    go_wp2_with (first
      | (go_at_call 10; refine (few_any _ _ _ _ hnc hc).mono ?_; rintro e w' ⟨rfl, rfl⟩; rw [HM.out])
      | (go_at_call 9; refine (put_no _ _ _ _ _ _ _ hw).mono ?_; rintro e w1 ⟨rfl, rfl⟩)
      | (go_at_call 11; refine (rput_no _ _ _ _ _ _ _ hw).mono ?_; rintro e w2 ⟨rfl, rfl⟩)
      | (go_at_call 12; refine (take_no1 _ _ _ _ _ _ hw).mono ?_; rintro e w3 ⟨rfl, rfl⟩)
      | (go_at_call 13; refine (rtake_no1 _ _ _ _ _ _ hw).mono ?_; rintro e w4 ⟨rfl, rfl⟩)
      | (go_at_call 14; refine (shown_any _).mono ?_; rintro e w5 ⟨rfl, x5⟩; have s3 := fun c => str (c := c) (w := w5) (A := none) Rd.nil))
    go_ret
    exact ⟨rfl, x5⟩
theorem NumSigns_law (w : World) (v : Int) (h0 : 0 ≤ v) (h1 : v < 18446744073709551616) (x : Int) (h2 : -9223372036854775808 ≤ x) (h3 : x < 9223372036854775808) (wd : Int) (s : Bool) :
    Calls Try.prog 4 #[.int .u64 v, .int .i64 x, .int .i64 wd, .bool s] w fun e w' => e = .returned (.bool true) ∧ Ext w w' := by
  have H1 := Lib.hid h1; clear h1
  have H2 := Lib.hid h2; clear h2
  have H3 := Lib.hid h3; clear h3
  cases hw : isW wd with
  | true =>
    go_enter Try.func4, Try.ntmps4
    go_wp2_with (first
      | (go_at_call 15; refine (signed_any _ _ _ hw h0 H1.out).mono ?_; rintro e w' ⟨rfl, rfl⟩)
      | (go_at_call 16; refine (rsigned_any _ _ _ hw h0 H1.out).mono ?_; rintro e w' ⟨rfl, rfl⟩)
      | (go_at_call 17; refine (fits_any _ _ _ _ hw H2.out H3.out).mono ?_; rintro e w' ⟨rfl, rfl⟩)
      | (go_at_call 18; refine (rfits_any _ _ _ _ hw H2.out H3.out).mono ?_; rintro e w' ⟨rfl, rfl⟩)
      | (go_at_call 14; refine (shown_any _).mono ?_; rintro e w5 ⟨rfl, x5⟩))
    go_ret
    exact ⟨by simp, x5⟩
  | false =>
    go_enter Try.func4, Try.ntmps4
    go_wp2_with (first
      | (go_at_call 15; refine (signed_no _ _ _ hw).mono ?_; rintro e w' ⟨rfl, rfl⟩)
      | (go_at_call 16; refine (rsigned_no _ _ _ hw).mono ?_; rintro e w' ⟨rfl, rfl⟩)
      | (go_at_call 17; refine (fits_no _ _ _ _ hw).mono ?_; rintro e w' ⟨rfl, rfl⟩)
      | (go_at_call 18; refine (rfits_no _ _ _ _ hw).mono ?_; rintro e w' ⟨rfl, rfl⟩)
      | (go_at_call 14; refine (shown_any _).mono ?_; rintro e w5 ⟨rfl, x5⟩))
    go_ret
    exact ⟨rfl, x5⟩
end Go.Proofs.Ytkagdklnfljkjaa
