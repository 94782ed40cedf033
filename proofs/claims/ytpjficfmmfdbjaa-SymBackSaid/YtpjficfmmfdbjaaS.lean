import Derived.Test.YtpjficfmmfdbjaaR
import Derived.Test.YtpjficfmmfdbjaaO
set_option linter.unusedVariables false
namespace Go.Proofs.Ytpjficfmmfdbjaa
open Go.RowKit
theorem cut_sz {s : ByteArray} (h : s.size ≤ maxLen) : (cut40 s).size ≤ maxLen := by unfold cut40; rw [ByteArray.size_extract]; omega
theorem fits_bd {x : Int} {k : Nat} {sg : Bool} (hk : k = 1 ∨ k = 2 ∨ k = 4) (hf : fitsB x k sg = true) : -4294967296 ≤ x ∧ x < 4294967296 := by
  rcases hk with rfl | rfl | rfl <;> cases sg <;> simp [fitsB, half, isW] at hf <;> omega
theorem back_v {v ad mu : Int} {k : Nat} {bg sg : Bool} (hk : k = 1 ∨ k = 2 ∨ k = 4) (ht : (v - ad).tmod mu = 0) (hf : fitsB ((v - ad).tdiv mu) k sg = true) : takeV (putB (IntKind.u64.wrap ((v - ad).tdiv mu)) k bg) k bg sg mu ad = v := by
  obtain ⟨b0, b1⟩ := fits_bd hk hf
  rw [take_putB hk hf b0 b1]
  have h := Int.mul_tdiv_add_tmod (v - ad) mu
  omega
theorem putOk_parts {s : ByteArray} {wd : Int} {k : Nat} {sg : Bool} {mu ad v : Int} (h : putOk s wd k sg mu ad v = true) : -4611686018427387904 ≤ v ∧ v ≤ 4611686018427387904 ∧ (v - ad).tmod mu = 0 ∧ fitsB ((v - ad).tdiv mu) k sg = true := by
  simp [putOk] at h
  obtain ⟨⟨⟨⟨_, h1⟩, h2⟩, h3⟩, h4⟩ := h
  exact ⟨h1, h2, h3, h4⟩
def BackX (s : ByteArray) (ar aa wd : Int) (bg sg : Bool) (mu ad : Int) (v : Value) (wr : World) : Prop :=
  ∃ g, v = .pointer (some ⟨g, 0, none⟩) ∧ wr.heap[g]? = some (.cells #[.string (cut40 s), .int .u8 ar, .int .u32 aa, .int .i64 wd, .bool bg, .bool sg, .int .i32 mu, .int .i32 ad] 24 (0, 0))
set_option maxRecDepth 100000 in
set_option maxHeartbeats 4000000 in
theorem SymBack_law (w : World) (s : ByteArray) (ar aa wd : Int) (bg sg : Bool) (mu ad : Int) (A : Option Addr) (n c : Nat) (bs : List Int) (v : Int) (hs : s.size ≤ maxLen) (mm0 : -2147483648 ≤ mu) (mm1 : mu < 2147483648) (a0 : -2147483648 ≤ ad) (a1 : ad < 2147483648) (rd : Rd w A n bs) (le : n ≤ c) (cm : c ≤ maxLen) (v0 : -9223372036854775808 ≤ v) (v1 : v < 9223372036854775808) :
    Calls Try.prog 5 #[.agg #[.string s, .int .u8 ar, .int .u32 aa, .int .i64 wd, .bool bg, .bool sg, .int .i32 mu, .int .i32 ad], .slice A n c, .int .i64 v] w fun e w' => e = .returned (.bool true) ∧ Ext w w' := by
  go_enter Try.func5, Try.ntmps5
  go_upto_region 2 with (go_at_call 14; (with_reducible refine (shown_any _).mono ?_); rintro e w1 ⟨rfl, x1⟩)
  have K1 := blk_of x1
  have z1 := ((Ext.refl w).alloc (.cells #[.string s, .int .u8 ar, .int .u32 aa, .int .i64 wd, .bool bg, .bool sg, .int .i32 mu, .int .i32 ad] 24)).trans x1
  clear x1
  go_cut [8] (fun v8 wr => BackX s ar aa wd bg sg mu ad v8 wr ∧ Ext w wr)
  case first =>
    obtain ⟨f0, f1, f2, f3, f4, f5, f6, f7⟩ := cells8 K1
    go_upto_region 3 with (go_at_call 9; (refine (few_one _ _ _ _ _ _ _ _ _ _ _ _ hs (blk_of (Ext.refl _))).mono ?_); rintro e w2 ⟨V, rfl, ⟨g2, c2, cs2, fr2, rfl, hge, KF⟩, x2⟩; obtain ⟨h0, h1, h2, h3, h4, h5, h6, h7⟩ := cells8a KF)
    go_meet
    case rel => exact ⟨⟨_, rfl, blk_of (Ext.refl _)⟩, (z1.trans (((Ext.refl _).alloc _).trans x2)).alloc _⟩
  case rest =>
    obtain ⟨⟨g, rfl, KX⟩, xc⟩ := hcut
    obtain ⟨wA, rfl⟩ : ∃ z : World, z = wc := ⟨_, rfl⟩
    clear K1 z1
    have hx := cut_sz hs
    obtain ⟨x, hxx⟩ : ∃ x, x = cut40 s := ⟨_, rfl⟩
    rw [← hxx] at KX hx
    clear hxx hs
    have rdw := rd.ext xc
    clear rd
    obtain ⟨m, hm0⟩ : ∃ m, m = min n 10 := ⟨_, rfl⟩
    have rdm := rdw.take (k := m) (by omega)
    have hmc : m ≤ c := by omega
    have hml : m ≤ maxLen := by omega
    clear rdw
    go_upto_region 3 with (fail)
    go_cut [9] (fun v9 wr => v9 = .slice A m c ∧ wr = wA)
    case first =>
      unfold maxLen at cm
      by_cases hn : n ≤ 10
      · go_wp2
        go_meet
        case rel => exact ⟨by rw [hm0, Nat.min_eq_left hn], rfl⟩
      · go_wp2
        go_meet
        case rel => exact ⟨by rw [hm0, Nat.min_eq_right (by omega)], rfl⟩
    case rest =>
      obtain ⟨rfl, rfl⟩ := hcut
      clear hm0 le cm
      obtain ⟨f0, f1, f2, f3, f4, f5, f6, f7⟩ := cells8 KX
      rcases hm : mayS x wd mu with _ | _
      · have HM := Lib.hid hm
        clear hm
        go_wp2_with (first
          | (go_at_call 12; (with_reducible refine (take_may _ _ _ _ _ _ _ _ _ _ _ _ hx HM.out).mono ?_); rintro e w3 ⟨rfl, x3⟩; replace KX := (x3.block _ (blk_lt KX)).trans KX; replace xc := xc.trans x3; replace rdm := rdm.ext x3; clear f0 f1 f2 f3 f4 f5 f6 f7; obtain ⟨f0, f1, f2, f3, f4, f5, f6, f7⟩ := cells8 KX)
          | (go_at_call 10; (with_reducible refine (put_may _ _ _ _ _ _ _ _ _ _ hx HM.out).mono ?_); rintro e w4 ⟨rfl, x4⟩; replace KX := (x4.block _ (blk_lt KX)).trans KX; replace xc := xc.trans x4; replace rdm := rdm.ext x4; clear f0 f1 f2 f3 f4 f5 f6 f7; obtain ⟨f0, f1, f2, f3, f4, f5, f6, f7⟩ := cells8 KX))
        go_ret
        exact ⟨by simp, xc⟩
      · obtain ⟨hwd, m0, m1, mz⟩ := may_parts hm
        obtain ⟨k, rfl, hk⟩ : ∃ k : Nat, wd = (k : Int) ∧ (k = 1 ∨ k = 2 ∨ k = 4) := ⟨wd.toNat, by omega, by omega⟩
        have HM := Lib.hid hm
        clear hm hwd
        by_cases hmk : m = k
        · subst hmk
          obtain ⟨t0, t1, tt, tf, tp⟩ := take_back (ad := ad) (mu := mu) bg sg rdm.len rdm.byts hk m0 m1 mz a0 a1
          have TT := Lib.hid tt
          have TF := Lib.hid tf
          have TP := Lib.hid tp
          clear tt tf tp
          go_upto_region 5 with (go_at_call 12; (with_reducible refine (take_ok _ _ _ _ _ _ _ _ _ _ _ _ hx HM.out a0 a1 rdm hmc).mono ?_); rintro e w3 ⟨rfl, x3⟩; replace KX := (x3.block _ (blk_lt KX)).trans KX; replace xc := xc.trans x3; replace rdm := rdm.ext x3; clear f0 f1 f2 f3 f4 f5 f6 f7; obtain ⟨f0, f1, f2, f3, f4, f5, f6, f7⟩ := cells8 KX)
          go_upto_region 7 with (go_at_call 10; (with_reducible refine (put_ok _ _ _ _ _ _ _ _ _ _ hx HM.out a0 a1 t0 t1 TT.out TF.out).mono ?_); rintro e w4 ⟨A3, c3, rfl, _, _, x4, r3⟩; rw [TP.out] at r3; replace KX := (x4.block _ (blk_lt KX)).trans KX; replace xc := xc.trans x4; replace rdm := rdm.ext x4; clear f0 f1 f2 f3 f4 f5 f6 f7; obtain ⟨f0, f1, f2, f3, f4, f5, f6, f7⟩ := cells8 KX)
          have s1 := str (c := c3) r3
          have s2 := str (c := c) rdm
          go_upto_region 9 with (fail)
          clear s1 s2
          rcases hp : putOk x m m sg mu ad v with _ | _
          · have HP := Lib.hid hp
            clear hp
            go_wp2_with (go_at_call 10; (with_reducible refine (put_bad _ _ _ _ _ _ _ _ _ _ hx a0 a1 HP.out).mono ?_); rintro e w4 ⟨rfl, x4⟩; replace KX := (x4.block _ (blk_lt KX)).trans KX; replace xc := xc.trans x4; replace rdm := rdm.ext x4; clear f0 f1 f2 f3 f4 f5 f6 f7; obtain ⟨f0, f1, f2, f3, f4, f5, f6, f7⟩ := cells8 KX)
            go_ret
            exact ⟨by simp, xc⟩
          · obtain ⟨p0, p1, pt, pf⟩ := putOk_parts hp
            have PT := Lib.hid pt
            have PF := Lib.hid pf
            have BV := Lib.hid (back_v (bg := bg) hk pt pf)
            clear hp pt pf
            go_upto_region 12 with (go_at_call 10; (with_reducible refine (put_ok _ _ _ _ _ _ _ _ _ _ hx HM.out a0 a1 p0 p1 PT.out PF.out).mono ?_); rintro e w4 ⟨A4, c4, rfl, l4, _, x4, r4⟩; replace KX := (x4.block _ (blk_lt KX)).trans KX; replace xc := xc.trans x4; replace rdm := rdm.ext x4; clear f0 f1 f2 f3 f4 f5 f6 f7; obtain ⟨f0, f1, f2, f3, f4, f5, f6, f7⟩ := cells8 KX)
            go_upto_region 13 with (go_at_call 12; (with_reducible refine (take_ok _ _ _ _ _ _ _ _ _ _ _ _ hx HM.out a0 a1 r4 l4).mono ?_); rintro e w5 ⟨rfl, x5⟩; rw [BV.out]; replace KX := (x5.block _ (blk_lt KX)).trans KX; replace xc := xc.trans x5; replace rdm := rdm.ext x5; clear f0 f1 f2 f3 f4 f5 f6 f7; obtain ⟨f0, f1, f2, f3, f4, f5, f6, f7⟩ := cells8 KX)
            go_wp2_with (go_at_call 15; (with_reducible refine (may_any _ _ _ _ _ _ _ _ _ hx).mono ?_); rintro e w6 ⟨rfl, x6⟩; rw [HM.out])
            go_ret
            exact ⟨by simp, xc.trans x6⟩
        · go_upto_region 9 with (go_at_call 12; (with_reducible refine (take_len _ _ _ _ _ _ _ _ _ _ _ _ hx HM.out hml hmk).mono ?_); rintro e w3 ⟨rfl, x3⟩; replace KX := (x3.block _ (blk_lt KX)).trans KX; replace xc := xc.trans x3; replace rdm := rdm.ext x3; clear f0 f1 f2 f3 f4 f5 f6 f7; obtain ⟨f0, f1, f2, f3, f4, f5, f6, f7⟩ := cells8 KX)
          rcases hp : putOk x k k sg mu ad v with _ | _
          · have HP := Lib.hid hp
            clear hp
            go_wp2_with (go_at_call 10; (with_reducible refine (put_bad _ _ _ _ _ _ _ _ _ _ hx a0 a1 HP.out).mono ?_); rintro e w4 ⟨rfl, x4⟩; replace KX := (x4.block _ (blk_lt KX)).trans KX; replace xc := xc.trans x4; replace rdm := rdm.ext x4; clear f0 f1 f2 f3 f4 f5 f6 f7; obtain ⟨f0, f1, f2, f3, f4, f5, f6, f7⟩ := cells8 KX)
            go_ret
            exact ⟨by simp, xc⟩
          · obtain ⟨p0, p1, pt, pf⟩ := putOk_parts hp
            have PT := Lib.hid pt
            have PF := Lib.hid pf
            have BV := Lib.hid (back_v (bg := bg) hk pt pf)
            clear hp pt pf
            go_upto_region 12 with (go_at_call 10; (with_reducible refine (put_ok _ _ _ _ _ _ _ _ _ _ hx HM.out a0 a1 p0 p1 PT.out PF.out).mono ?_); rintro e w4 ⟨A4, c4, rfl, l4, _, x4, r4⟩; replace KX := (x4.block _ (blk_lt KX)).trans KX; replace xc := xc.trans x4; replace rdm := rdm.ext x4; clear f0 f1 f2 f3 f4 f5 f6 f7; obtain ⟨f0, f1, f2, f3, f4, f5, f6, f7⟩ := cells8 KX)
            go_upto_region 13 with (go_at_call 12; (with_reducible refine (take_ok _ _ _ _ _ _ _ _ _ _ _ _ hx HM.out a0 a1 r4 l4).mono ?_); rintro e w5 ⟨rfl, x5⟩; rw [BV.out]; replace KX := (x5.block _ (blk_lt KX)).trans KX; replace xc := xc.trans x5; replace rdm := rdm.ext x5; clear f0 f1 f2 f3 f4 f5 f6 f7; obtain ⟨f0, f1, f2, f3, f4, f5, f6, f7⟩ := cells8 KX)
            go_wp2_with (go_at_call 15; (with_reducible refine (may_any _ _ _ _ _ _ _ _ _ hx).mono ?_); rintro e w6 ⟨rfl, x6⟩; rw [HM.out])
            go_ret
            exact ⟨by simp, xc.trans x6⟩
end Go.Proofs.Ytpjficfmmfdbjaa
