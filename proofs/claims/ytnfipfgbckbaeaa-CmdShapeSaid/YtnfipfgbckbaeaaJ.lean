import Derived.Test.YtnfipfgbckbaeaaI
import Derived.Test.YtnfipfgbckbaeaaN
set_option linter.unusedVariables false
namespace Go.Proofs.Ytnfipfgbckbaeaa
open Go.RowKit
theorem take_err (A : Option Addr) (n cp : Nat) (bs : List Int) (er : Int) (w : World) (hr : Rd w A n bs) (hnc : n ≤ cp) (hc : cp ≤ maxLen) (hn : n ≤ 100) (h : errOf bs = some er) :
    Calls Try.prog 14 #[.slice A n cp] w fun e w' => e = .returned (.tuple #[.agg #[.int .u8 0, .int .u8 0, .int .u8 0, .int .u8 0, .int .u8 0, .int .u8 0, .int .u32 0, .slice none 0 0], .int .i64 er]) ∧ Ext w w' :=
  (take_walk A n cp bs w hr hnc hc hn).mono fun e w' hp => by
    rcases hp with ⟨er', h', he, hx⟩ | ⟨h', _⟩
    · rw [h] at h'; injection h' with h'; subst h'; exact ⟨he, hx⟩
    · rw [h] at h'; cases h'
theorem rtake_err (A : Option Addr) (n cp : Nat) (bs : List Int) (er : Int) (w : World) (hr : Rd w A n bs) (hnc : n ≤ cp) (hc : cp ≤ maxLen) (hn : n ≤ 100) (h : errOf bs = some er) :
    Calls Try.prog 15 #[.slice A n cp] w fun e w' => e = .returned (.tuple #[.agg #[.int .u8 0, .int .u8 0, .int .u8 0, .int .u8 0, .int .u8 0, .int .u8 0, .int .u32 0, .slice none 0 0], .int .i64 er]) ∧ Ext w w' :=
  (rtake_walk A n cp bs w hr hnc hc hn).mono fun e w' hp => by
    rcases hp with ⟨er', h', he, hx⟩ | ⟨h', _⟩
    · rw [h] at h'; injection h' with h'; subst h'; exact ⟨he, hx⟩
    · rw [h] at h'; cases h'
theorem take_okF (A : Option Addr) (n cp : Nat) (c : Int) (r : List Int) (a0 a1 a2 a3 a4 : Int) (w : World) (hr : Rd w A n (c :: r)) (hnc : n ≤ cp) (hc : cp ≤ maxLen) (hn : n ≤ 100) (h : errOf (c :: r) = none) (hal : al5 c r = [a0, a1, a2, a3, a4]) :
    Calls Try.prog 14 #[.slice A n cp] w fun e w' => ∃ A' c', e = .returned (.tuple #[.agg #[.int .u8 c, .int .u8 a0, .int .u8 a1, .int .u8 a2, .int .u8 a3, .int .u8 a4, .int .u32 (wOf c r), .slice A' (nn c r) c'], .int .i64 0]) ∧ nn c r ≤ c' ∧ c' ≤ maxLen ∧ Ext w w' ∧ Rd w' A' (nn c r) ((r3 c r).take (nn c r)) ∧ ∀ ad, A' = some ad → w.heap.size ≤ ad.block :=
  (take_walk A n cp (c :: r) w hr hnc hc hn).mono fun e w' hp => by
    rcases hp with ⟨er', h', he, hx⟩ | ⟨_, c2, r2, b0, b1, b2, b3, b4, A', c', hcr, hb, he, l1, l2, hx, hrd, hfr⟩
    · rw [h] at h'; cases h'
    · injection hcr with h1 h2; subst h1 h2
      rw [hal] at hb
      simp only [List.cons.injEq, and_true] at hb
      obtain ⟨rfl, rfl, rfl, rfl, rfl⟩ := hb
      exact ⟨A', c', he, l1, l2, hx, hrd, hfr⟩
theorem take_ok (A : Option Addr) (n cp : Nat) (c : Int) (r : List Int) (a0 a1 a2 a3 a4 : Int) (w : World) (hr : Rd w A n (c :: r)) (hnc : n ≤ cp) (hc : cp ≤ maxLen) (hn : n ≤ 100) (h : errOf (c :: r) = none) (hal : al5 c r = [a0, a1, a2, a3, a4]) :
    Calls Try.prog 14 #[.slice A n cp] w fun e w' => ∃ A' c', e = .returned (.tuple #[.agg #[.int .u8 c, .int .u8 a0, .int .u8 a1, .int .u8 a2, .int .u8 a3, .int .u8 a4, .int .u32 (wOf c r), .slice A' (nn c r) c'], .int .i64 0]) ∧ nn c r ≤ c' ∧ c' ≤ maxLen ∧ Ext w w' ∧ Rd w' A' (nn c r) ((r3 c r).take (nn c r)) :=
  (take_okF A n cp c r a0 a1 a2 a3 a4 w hr hnc hc hn h hal).mono fun _ _ ⟨A', c', p1, p2, p3, p4, p5, _⟩ => ⟨A', c', p1, p2, p3, p4, p5⟩
theorem rtake_okF (A : Option Addr) (n cp : Nat) (c : Int) (r : List Int) (a0 a1 a2 a3 a4 : Int) (w : World) (hr : Rd w A n (c :: r)) (hnc : n ≤ cp) (hc : cp ≤ maxLen) (hn : n ≤ 100) (h : errOf (c :: r) = none) (hal : al5 c r = [a0, a1, a2, a3, a4]) :
    Calls Try.prog 15 #[.slice A n cp] w fun e w' => ∃ A' c', e = .returned (.tuple #[.agg #[.int .u8 c, .int .u8 a0, .int .u8 a1, .int .u8 a2, .int .u8 a3, .int .u8 a4, .int .u32 (wOf c r), .slice A' (nn c r) c'], .int .i64 0]) ∧ nn c r ≤ c' ∧ c' ≤ maxLen ∧ Ext w w' ∧ Rd w' A' (nn c r) ((r3 c r).take (nn c r)) ∧ ∀ ad, A' = some ad → w.heap.size ≤ ad.block :=
  (rtake_walk A n cp (c :: r) w hr hnc hc hn).mono fun e w' hp => by
    rcases hp with ⟨er', h', he, hx⟩ | ⟨_, c2, r2, b0, b1, b2, b3, b4, A', c', hcr, hb, he, l1, l2, hx, hrd, hfr⟩
    · rw [h] at h'; cases h'
    · injection hcr with h1 h2; subst h1 h2
      rw [hal] at hb
      simp only [List.cons.injEq, and_true] at hb
      obtain ⟨rfl, rfl, rfl, rfl, rfl⟩ := hb
      exact ⟨A', c', he, l1, l2, hx, hrd, hfr⟩
theorem rtake_ok (A : Option Addr) (n cp : Nat) (c : Int) (r : List Int) (a0 a1 a2 a3 a4 : Int) (w : World) (hr : Rd w A n (c :: r)) (hnc : n ≤ cp) (hc : cp ≤ maxLen) (hn : n ≤ 100) (h : errOf (c :: r) = none) (hal : al5 c r = [a0, a1, a2, a3, a4]) :
    Calls Try.prog 15 #[.slice A n cp] w fun e w' => ∃ A' c', e = .returned (.tuple #[.agg #[.int .u8 c, .int .u8 a0, .int .u8 a1, .int .u8 a2, .int .u8 a3, .int .u8 a4, .int .u32 (wOf c r), .slice A' (nn c r) c'], .int .i64 0]) ∧ nn c r ≤ c' ∧ c' ≤ maxLen ∧ Ext w w' ∧ Rd w' A' (nn c r) ((r3 c r).take (nn c r)) :=
  (rtake_okF A n cp c r a0 a1 a2 a3 a4 w hr hnc hc hn h hal).mono fun _ _ ⟨A', c', p1, p2, p3, p4, p5, _⟩ => ⟨A', c', p1, p2, p3, p4, p5⟩
set_option maxHeartbeats 1000000 in
theorem CmdPuts_law (w : World) (c a0 a1 a2 a3 a4 W : Int) (A : Option Addr) (n cp : Nat) (bs : List Int) (h0 : 0 ≤ c) (h1 : c < 256) (hal : Byts [a0, a1, a2, a3, a4]) (W0 : 0 ≤ W) (W1 : W < 4294967296) (hr : Rd w A n bs) (hnc : n ≤ cp) (hc : cp ≤ maxLen) (d : Int) (d0 : 0 ≤ d) (d1 : d < 256) :
    Calls Try.prog 3 #[.agg #[.int .u8 c, .int .u8 a0, .int .u8 a1, .int .u8 a2, .int .u8 a3, .int .u8 a4, .int .u32 W, .slice A n cp], .int .u8 d] w fun e w' => e = .returned (.bool true) ∧ Ext w w' := by
  have hr' := hr.take (k := min n 20) (by omega)
  have hm20 : min n 20 ≤ 20 := by omega
  generalize hmm : min n 20 = m at *
  have HM := Lib.hid hmm; clear hmm
  rcases hb : badC c [a0, a1, a2, a3, a4] W m with _ | _
  · have HB := Lib.hid hb; clear hb
    go_enter Try.func3, Try.ntmps3
    go_upto_region 2 with (first
      | (go_at_call 9; (with_reducible refine (few_any _ _ _ _ _ _ _ _ _ _ _ hnc hc).mono ?_); rintro e w1 ⟨rfl, x1⟩; rw [HM.out])
      | (go_at_call 8; (with_reducible refine (put_good _ _ _ _ _ _ _ _ _ _ _ _ h0 h1 hal W0 W1 (hr'.ext (((Ext.refl _).alloc _).trans x1)) hm20 HB.out).mono ?_); rintro e w2 ⟨A2, c2, rfl, _, _, x2, r2⟩))
    obtain ⟨f0, f1, f2, f3, f4, f5, f6, f7⟩ := cells8 (blk_of (x1.trans x2))
    have v2 := ((Ext.refl w).alloc (.cells #[.int .u8 c, .int .u8 a0, .int .u8 a1, .int .u8 a2, .int .u8 a3, .int .u8 a4, .int .u32 W, .slice A n cp] 26)).trans (x1.trans x2)
    have hr2 := hr'.ext v2
    clear x1 x2
    go_upto_region 5 with (first
      | (go_at_call 9; (with_reducible refine (few_any _ _ _ _ _ _ _ _ _ _ _ hnc hc).mono ?_); rintro e w3 ⟨rfl, x3⟩; rw [HM.out]; clear f0 f1 f2 f3 f4 f5 f6 f7)
      | (go_at_call 10; (with_reducible refine (rput_good _ _ _ _ _ _ _ _ _ _ _ _ h0 h1 hal W0 W1 (hr2.ext x3) hm20 HB.out).mono ?_); rintro e w4 ⟨A4, c4, rfl, _, _, x4, r4⟩)
      | (go_at_call 11; (with_reducible refine (shape_any _ _ d0 d1).mono ?_); rintro e w5 ⟨rfl, rfl⟩)
      | (go_at_call 12; (with_reducible refine (rshape_any _ _ d0 d1).mono ?_); rintro e w5 ⟨rfl, rfl⟩))
    go_wp2_with (go_at_call 13; (with_reducible refine (shown_any _).mono ?_); rintro e w6 ⟨rfl, x6⟩; have s1 := str (c := c2) (r2.ext (x3.trans (x4.trans x6))); have s2 := str (c := c4) (r4.ext x6))
    go_ret
    exact ⟨by simp, v2.trans (x3.trans (x4.trans x6))⟩
  · have HB := Lib.hid hb; clear hb
    go_enter Try.func3, Try.ntmps3
    go_upto_region 2 with (first
      | (go_at_call 9; (with_reducible refine (few_any _ _ _ _ _ _ _ _ _ _ _ hnc hc).mono ?_); rintro e w1 ⟨rfl, x1⟩; rw [HM.out])
      | (go_at_call 8; (with_reducible refine (put_bad _ _ _ _ _ _ _ _ _ _ _ _ h0 h1 hal W0 W1 (hr'.ext (((Ext.refl _).alloc _).trans x1)) hm20 HB.out).mono ?_); rintro e w2 ⟨rfl, x2⟩))
    obtain ⟨f0, f1, f2, f3, f4, f5, f6, f7⟩ := cells8 (blk_of (x1.trans x2))
    have v2 := ((Ext.refl w).alloc (.cells #[.int .u8 c, .int .u8 a0, .int .u8 a1, .int .u8 a2, .int .u8 a3, .int .u8 a4, .int .u32 W, .slice A n cp] 26)).trans (x1.trans x2)
    have hr2 := hr'.ext v2
    clear x1 x2
    go_upto_region 5 with (first
      | (go_at_call 9; (with_reducible refine (few_any _ _ _ _ _ _ _ _ _ _ _ hnc hc).mono ?_); rintro e w3 ⟨rfl, x3⟩; rw [HM.out]; clear f0 f1 f2 f3 f4 f5 f6 f7)
      | (go_at_call 10; (with_reducible refine (rput_bad _ _ _ _ _ _ _ _ _ _ _ _ h0 h1 hal W0 W1 (hr2.ext x3) hm20 HB.out).mono ?_); rintro e w4 ⟨rfl, x4⟩)
      | (go_at_call 11; (with_reducible refine (shape_any _ _ d0 d1).mono ?_); rintro e w5 ⟨rfl, rfl⟩)
      | (go_at_call 12; (with_reducible refine (rshape_any _ _ d0 d1).mono ?_); rintro e w5 ⟨rfl, rfl⟩))
    go_wp2_with (go_at_call 13; (with_reducible refine (shown_any _).mono ?_); rintro e w6 ⟨rfl, x6⟩; have s1 := fun (W : World) => str (A := none) (n := 0) (c := 0) (w := W) Rd.nil)
    go_ret
    exact ⟨by simp, v2.trans (x3.trans (x4.trans x6))⟩
set_option maxHeartbeats 1000000 in
theorem CmdTakes_law (w : World) (A : Option Addr) (n cp : Nat) (bs : List Int) (hr : Rd w A n bs) (hnc : n ≤ cp) (hc : cp ≤ maxLen) :
    Calls Try.prog 4 #[.slice A n cp] w fun e w' => e = .returned (.bool true) ∧ Ext w w' := by
  have hr' := hr.take (k := min n 20) (by omega)
  have hm20 : min n 20 ≤ 100 := by omega
  have hmc : min n 20 ≤ cp := by omega
  have hnc' : (n : Int) ≤ cp := by omega
  have hc' := hc
  unfold maxLen at hc'
  go_enter Try.func4, Try.ntmps4
  go_upto_region 1 with (fail)
  go_cut [3] (fun v3 wr => v3 = .slice A (min n 20) cp ∧ w = wr)
  case first =>
    by_cases h20 : (20 : Int) < n
    · have hv : min n 20 = 20 := by omega
      have HV := Lib.hid hv; clear hv
      go_wp2
      go_meet
      case rel => exact ⟨by rw [HV.out], rfl⟩
    · have hv : min n 20 = n := by omega
      have HV := Lib.hid hv; clear hv
      go_wp2
      go_meet
      case rel => exact ⟨by rw [HV.out], rfl⟩
  case rest =>
    obtain ⟨rfl, rfl⟩ := hcut
    generalize bs.take (min n 20) = xs at *
    generalize min n 20 = m at *
    rcases he : errOf xs with _ | er
    · obtain ⟨c, r, rfl⟩ := errOf_byts he
      obtain ⟨c0, c1⟩ := hr'.byts c (by simp)
      have hal : ∃ a0 a1 a2 a3 a4, al5 c r = [a0, a1, a2, a3, a4] := list5 (by
        have h := he
        rw [errOf_cons] at h
        by_cases h2 : r.length < sm c
        · rw [if_pos h2] at h; split at h <;> cases h
        · exact al5_len c r (by omega))
      obtain ⟨a0, a1, a2, a3, a4, hal⟩ := hal
      have HE := Lib.hid he
      have HA := Lib.hid hal
      clear he hal
      go_wp2_with (first
        | (go_at_call 14; (with_reducible refine (take_ok _ _ _ _ _ _ _ _ _ _ _ hr' hmc hc hm20 HE.out HA.out).mono ?_); rintro e w1 ⟨A1, c1', rfl, _, _, x1, r1⟩)
        | (go_at_call 15; (with_reducible refine (rtake_ok _ _ _ _ _ _ _ _ _ _ _ (hr'.ext (x1.alloc _)) hmc hc hm20 HE.out HA.out).mono ?_); rintro e w2 ⟨A2, c2', rfl, _, _, x2, r2⟩)
        | (go_at_call 13; (with_reducible refine (shown_any _).mono ?_); rintro e w3 ⟨rfl, x3⟩; obtain ⟨f0, f1, f2, f3, f4, f5, f6, f7⟩ := cells8 (blk_of ((x2.alloc _).trans x3)); obtain ⟨g0, g1, g2, g3, g4, g5, g6, g7⟩ := cells8 (blk_of x3))
        | (go_at_call 16; (with_reducible refine (same_any _ _ _ _ _ _ _ _ _ _ _ _ _ _ _ (r1.ext (((Ext.refl _).alloc _).trans ((x2.alloc _).trans x3))) (r2.ext (((Ext.refl _).alloc _).trans x3))).mono ?_); rintro e w4 ⟨rfl, x4⟩))
      go_ret
      exact ⟨by simp, (x1.alloc _).trans ((x2.alloc _).trans (x3.trans x4))⟩
    · have HE := Lib.hid he
      clear he
      go_wp2_with (first
        | (go_at_call 14; (with_reducible refine (take_err _ _ _ _ _ _ hr' hmc hc hm20 HE.out).mono ?_); rintro e w1 ⟨rfl, x1⟩)
        | (go_at_call 15; (with_reducible refine (rtake_err _ _ _ _ _ _ (hr'.ext (x1.alloc _)) hmc hc hm20 HE.out).mono ?_); rintro e w2 ⟨rfl, x2⟩)
        | (go_at_call 13; (with_reducible refine (shown_any _).mono ?_); rintro e w3 ⟨rfl, x3⟩; obtain ⟨f0, f1, f2, f3, f4, f5, f6, f7⟩ := cells8 (blk_of ((x2.alloc _).trans x3)); obtain ⟨g0, g1, g2, g3, g4, g5, g6, g7⟩ := cells8 (blk_of x3))
        | (go_at_call 16; (with_reducible refine (same_any _ _ _ _ _ _ _ _ _ _ _ _ _ [] _ Rd.nil Rd.nil).mono ?_); rintro e w4 ⟨rfl, x4⟩))
      go_ret
      exact ⟨by simp, (x1.alloc _).trans ((x2.alloc _).trans (x3.trans x4))⟩
end Go.Proofs.Ytnfipfgbckbaeaa
