import Derived.Test.YtpjficfmmfdbjaaT
set_option linter.unusedVariables false
namespace Go.Proofs.Ytpjficfmmfdbjaa
open Go.RowKit
theorem el25 : Elem Try.prog 25 5 1 1 (.int .u8 0) := Elem.mk' Try.underlying25 (by kernel_rfl) rfl (by omega)
theorem cut_sz {s : ByteArray} (h : s.size ≤ maxLen) : (cut40 s).size ≤ maxLen := by unfold cut40; rw [ByteArray.size_extract]; omega
def BackX (s : ByteArray) (ar aa wd : Int) (bg sg : Bool) (mu ad : Int) (v : Value) (wr : World) : Prop :=
  ∃ g, v = .pointer (some ⟨g, 0, none⟩) ∧ wr.heap[g]? = some (.cells #[.string (cut40 s), .int .u8 ar, .int .u32 aa, .int .i64 wd, .bool bg, .bool sg, .int .i32 mu, .int .i32 ad] 24 (0, 0))
set_option maxRecDepth 100000 in
set_option maxHeartbeats 4000000 in
theorem SymOrders_law (w : World) (s : ByteArray) (ar aa wd : Int) (bg sg : Bool) (mu ad : Int) (A : Option Addr) (n c : Nat) (bs : List Int) (more : Int) (hs : s.size ≤ maxLen) (mm0 : -2147483648 ≤ mu) (mm1 : mu < 2147483648) (a0 : -2147483648 ≤ ad) (a1 : ad < 2147483648) (rd : Rd w A n bs) (le : n ≤ c) (cm : c ≤ maxLen) (r0 : -32768 ≤ more) (r1 : more < 32768) :
    Calls Try.prog 7 #[.agg #[.string s, .int .u8 ar, .int .u32 aa, .int .i64 wd, .bool bg, .bool sg, .int .i32 mu, .int .i32 ad], .slice A n c, .int .i16 more] w fun e w' => e = .returned (.bool true) ∧ Ext w w' := by
  go_enter Try.func7, Try.ntmps7
  go_upto_region 2 with (go_at_call 14; (with_reducible refine (shown_any _).mono ?_); rintro e w1 ⟨rfl, x1⟩)
  have K1 := blk_of x1
  have z1 := ((Ext.refl w).alloc (.cells #[.string s, .int .u8 ar, .int .u32 aa, .int .i64 wd, .bool bg, .bool sg, .int .i32 mu, .int .i32 ad] 24)).trans x1
  clear x1
  go_cut [8] (fun v8 wr => BackX s ar aa wd bg sg mu ad v8 wr ∧ Ext w wr)
  case first =>
    obtain ⟨f0, f1, f2, f3, f4, f5, f6, f7⟩ := cells8 K1
    go_upto_region 3 with (go_at_call 9; (refine (few_one _ _ _ _ _ _ _ _ _ _ _ _ hs (blk_of (Ext.refl _))).mono ?_); rintro e w2 ⟨V, rfl, ⟨g2, c2, cs2, fr2, rfl, hge, KF⟩, x2⟩; obtain ⟨h0, h1, h2, h3, h4, h5, h6, h7⟩ := cells8a KF)
    go_meet
    case rel => exact ⟨⟨_, rfl, blk_of (Ext.refl _)⟩, (z1.trans (((Ext.refl _).alloc _).trans x2)).alloc _⟩
  case rest =>
    obtain ⟨⟨g, rfl, KX⟩, xc⟩ := hcut
    obtain ⟨wA, rfl⟩ : ∃ z : World, z = wc := ⟨_, rfl⟩
    clear K1 z1
    have hx := cut_sz hs
    obtain ⟨x, hxx⟩ : ∃ x, x = cut40 s := ⟨_, rfl⟩
    rw [← hxx] at KX hx
    clear hxx hs
    have rdw := rd.ext xc
    clear rd
    obtain ⟨m, hm0⟩ : ∃ m, m = min n 4 := ⟨_, rfl⟩
    have rdm := rdw.take (k := m) (by omega)
    have hmc : m ≤ c := by omega
    have hml : m ≤ maxLen := by omega
    have hm4 : m ≤ 4 := by omega
    clear rdw
    generalize bs.take m = ys at rdm
    go_upto_region 3 with (fail)
    go_cut [9] (fun v9 wr => v9 = .slice A m c ∧ wr = wA)
    case first =>
      unfold maxLen at cm
      by_cases hn : n ≤ 4
      · go_wp2
        go_meet
        case rel => exact ⟨by rw [hm0, Nat.min_eq_left hn], rfl⟩
      · go_wp2
        go_meet
        case rel => exact ⟨by rw [hm0, Nat.min_eq_right (by omega)], rfl⟩
    case rest =>
      obtain ⟨rfl, rfl⟩ := hcut
      clear hm0 le cm
      have hlm := rdm.len
      go_wp2
      go_loopw [10, 33] (fun o i wr => ∃ k : Nat, k ≤ m ∧ i = .int .i64 k ∧ wr.ownsRow wc.heap.size 5 1 o k (u8s (ys.reverse.take k)) ∧ Ext wc wr) (fun _ i _ => m - (intOf i).toNat)
      case atStart => exact ⟨0, by omega, rfl, ⟨by simp [u8s], .inl ⟨rfl, rfl⟩⟩, Ext.refl _⟩
      case round =>
        obtain ⟨k, hk, rfl, ho, xg⟩ := hrel
        by_cases hlt : (k : Int) < m
        · have rk := rdm.ext xg
          obtain ⟨j, hj, hj2⟩ : ∃ j : Nat, (m : Int) - 1 - k = j ∧ j = m - 1 - k := ⟨m - 1 - k, by omega, rfl⟩
          obtain ⟨bk, off, rfl, hbl, hcl⟩ := rk.cell (k := j) (by omega)
          clear rk
          have HJ := Lib.hid hj2
          clear hj2 hlm
          go_wp2_with (at_builtin; refine wpList_app el25 rfl _ _ rfl (ho.alloc _) rfl (Shows.new1 _ _ _) rfl (by intro u hu; simp at hu; subst hu; rfl) (by simp only [maxLen]; omega) (by omega) rfl (xg.alloc _) ?_; intro v4 w4 own4 x4 hg4 hat4)
          go_roundw
          case rel => exact ⟨k + 1, by omega, by go_num, by rw [rev_snoc ys k (by have := rdm.len; omega), u8s_append, rdm.len, ← HJ.out]; exact own4, x4⟩
          case measure => simp [intOf]; omega
        · obtain rfl : k = m := by omega
          have ht : ys.reverse.take k = ys.reverse := List.take_of_length_le (by have := rdm.len; simp; omega)
          rw [ht] at ho
          obtain ⟨T, ct, rfl, lt, mt, rt⟩ := own_rd ho (fun b hb => rdm.byts b (List.mem_reverse.1 hb))
          clear ho ht hlt hk
          replace KX := (xg.block _ (blk_lt KX)).trans KX
          replace xc := xc.trans xg
          replace rdm := rdm.ext xg
          obtain ⟨f0, f1, f2, f3, f4, f5, f6, f7⟩ := cells8 KX
          have hadd : ad + more < -2147483648 ∨ 2147483647 < ad + more ∨ (-2147483648 ≤ ad + more ∧ ad + more ≤ 2147483647) := by omega
          rcases hm : mayS x wd mu with _ | _
          · have HM := Lib.hid hm
            clear hm
            rcases hadd with hadd | hadd | hadd
            · have tok := True.intro
              go_upto_region 11 with (go_at_call 12; (with_reducible refine (take_may _ _ _ _ _ _ _ _ _ _ _ _ hx HM.out).mono ?_); rintro e w3 ⟨rfl, x3⟩; replace KX := (x3.block _ (blk_lt KX)).trans KX; replace xc := xc.trans x3; replace rdm := rdm.ext x3; replace rt := rt.ext x3; clear f0 f1 f2 f3 f4 f5 f6 f7; obtain ⟨f0, f1, f2, f3, f4, f5, f6, f7⟩ := cells8 KX)
              go_upto_region 12 with (fail)
              obtain ⟨k0, k1, k2, k3, k4, k5, k6, k7⟩ := cells8 ((((Ext.refl w3).alloc (.cells #[.string x, .int .u8 ar, .int .u32 aa, .int .i64 wd, .bool bg, .bool sg, .int .i32 mu, .int .i32 ad] 24)).block _ (blk_lt KX)).trans KX)
              go_upto_region 14 with (go_at_call 12; (with_reducible refine (take_may _ _ _ _ _ _ _ _ _ _ _ _ hx HM.out).mono ?_); rintro e w4 ⟨rfl, x4⟩; replace KX := ((((Ext.refl _).alloc _).trans x4).block _ (blk_lt KX)).trans KX; replace xc := xc.trans (((Ext.refl _).alloc _).trans x4); replace rdm := rdm.ext (((Ext.refl _).alloc _).trans x4); replace rt := rt.ext (((Ext.refl _).alloc _).trans x4); clear f0 f1 f2 f3 f4 f5 f6 f7; obtain ⟨f0, f1, f2, f3, f4, f5, f6, f7⟩ := cells8 KX)
              clear k0 k1 k2 k3 k4 k5 k6 k7
              go_upto_region 15 with (fail)
              obtain ⟨k0, k1, k2, k3, k4, k5, k6, k7⟩ := cells8 ((((Ext.refl w4).alloc (.cells #[.string x, .int .u8 ar, .int .u32 aa, .int .i64 wd, .bool bg, .bool sg, .int .i32 mu, .int .i32 ad] 24)).block _ (blk_lt KX)).trans KX)
              go_upto_region 17 with (go_at_call 12; (with_reducible refine (take_may _ _ _ _ _ _ _ _ _ _ _ _ hx HM.out).mono ?_); rintro e w5 ⟨rfl, x5⟩; have KW := blk_of x5; replace KX := ((((Ext.refl _).alloc _).trans x5).block _ (blk_lt KX)).trans KX; replace xc := xc.trans (((Ext.refl _).alloc _).trans x5); replace rdm := rdm.ext (((Ext.refl _).alloc _).trans x5); replace rt := rt.ext (((Ext.refl _).alloc _).trans x5); clear f0 f1 f2 f3 f4 f5 f6 f7; obtain ⟨f0, f1, f2, f3, f4, f5, f6, f7⟩ := cells8 KX)
              obtain ⟨y0, y1, y2, y3, y4, y5, y6, y7⟩ := cells8 KW
              go_wp2
              go_ret
              exact ⟨by first | (simp; done) | (simp; omega), xc⟩
            · have tok := True.intro
              go_upto_region 11 with (go_at_call 12; (with_reducible refine (take_may _ _ _ _ _ _ _ _ _ _ _ _ hx HM.out).mono ?_); rintro e w3 ⟨rfl, x3⟩; replace KX := (x3.block _ (blk_lt KX)).trans KX; replace xc := xc.trans x3; replace rdm := rdm.ext x3; replace rt := rt.ext x3; clear f0 f1 f2 f3 f4 f5 f6 f7; obtain ⟨f0, f1, f2, f3, f4, f5, f6, f7⟩ := cells8 KX)
              go_upto_region 12 with (fail)
              obtain ⟨k0, k1, k2, k3, k4, k5, k6, k7⟩ := cells8 ((((Ext.refl w3).alloc (.cells #[.string x, .int .u8 ar, .int .u32 aa, .int .i64 wd, .bool bg, .bool sg, .int .i32 mu, .int .i32 ad] 24)).block _ (blk_lt KX)).trans KX)
              go_upto_region 14 with (go_at_call 12; (with_reducible refine (take_may _ _ _ _ _ _ _ _ _ _ _ _ hx HM.out).mono ?_); rintro e w4 ⟨rfl, x4⟩; replace KX := ((((Ext.refl _).alloc _).trans x4).block _ (blk_lt KX)).trans KX; replace xc := xc.trans (((Ext.refl _).alloc _).trans x4); replace rdm := rdm.ext (((Ext.refl _).alloc _).trans x4); replace rt := rt.ext (((Ext.refl _).alloc _).trans x4); clear f0 f1 f2 f3 f4 f5 f6 f7; obtain ⟨f0, f1, f2, f3, f4, f5, f6, f7⟩ := cells8 KX)
              clear k0 k1 k2 k3 k4 k5 k6 k7
              go_upto_region 15 with (fail)
              obtain ⟨k0, k1, k2, k3, k4, k5, k6, k7⟩ := cells8 ((((Ext.refl w4).alloc (.cells #[.string x, .int .u8 ar, .int .u32 aa, .int .i64 wd, .bool bg, .bool sg, .int .i32 mu, .int .i32 ad] 24)).block _ (blk_lt KX)).trans KX)
              go_upto_region 17 with (go_at_call 12; (with_reducible refine (take_may _ _ _ _ _ _ _ _ _ _ _ _ hx HM.out).mono ?_); rintro e w5 ⟨rfl, x5⟩; have KW := blk_of x5; replace KX := ((((Ext.refl _).alloc _).trans x5).block _ (blk_lt KX)).trans KX; replace xc := xc.trans (((Ext.refl _).alloc _).trans x5); replace rdm := rdm.ext (((Ext.refl _).alloc _).trans x5); replace rt := rt.ext (((Ext.refl _).alloc _).trans x5); clear f0 f1 f2 f3 f4 f5 f6 f7; obtain ⟨f0, f1, f2, f3, f4, f5, f6, f7⟩ := cells8 KX)
              obtain ⟨y0, y1, y2, y3, y4, y5, y6, y7⟩ := cells8 KW
              go_wp2
              go_ret
              exact ⟨by first | (simp; done) | (simp; omega), xc⟩
            · try (obtain ⟨ha0, ha1⟩ := hadd)
              go_upto_region 11 with (go_at_call 12; (with_reducible refine (take_may _ _ _ _ _ _ _ _ _ _ _ _ hx HM.out).mono ?_); rintro e w3 ⟨rfl, x3⟩; replace KX := (x3.block _ (blk_lt KX)).trans KX; replace xc := xc.trans x3; replace rdm := rdm.ext x3; replace rt := rt.ext x3; clear f0 f1 f2 f3 f4 f5 f6 f7; obtain ⟨f0, f1, f2, f3, f4, f5, f6, f7⟩ := cells8 KX)
              go_upto_region 12 with (fail)
              obtain ⟨k0, k1, k2, k3, k4, k5, k6, k7⟩ := cells8 ((((Ext.refl w3).alloc (.cells #[.string x, .int .u8 ar, .int .u32 aa, .int .i64 wd, .bool bg, .bool sg, .int .i32 mu, .int .i32 ad] 24)).block _ (blk_lt KX)).trans KX)
              go_upto_region 14 with (go_at_call 12; (with_reducible refine (take_may _ _ _ _ _ _ _ _ _ _ _ _ hx HM.out).mono ?_); rintro e w4 ⟨rfl, x4⟩; replace KX := ((((Ext.refl _).alloc _).trans x4).block _ (blk_lt KX)).trans KX; replace xc := xc.trans (((Ext.refl _).alloc _).trans x4); replace rdm := rdm.ext (((Ext.refl _).alloc _).trans x4); replace rt := rt.ext (((Ext.refl _).alloc _).trans x4); clear f0 f1 f2 f3 f4 f5 f6 f7; obtain ⟨f0, f1, f2, f3, f4, f5, f6, f7⟩ := cells8 KX)
              clear k0 k1 k2 k3 k4 k5 k6 k7
              go_upto_region 15 with (fail)
              obtain ⟨k0, k1, k2, k3, k4, k5, k6, k7⟩ := cells8 ((((Ext.refl w4).alloc (.cells #[.string x, .int .u8 ar, .int .u32 aa, .int .i64 wd, .bool bg, .bool sg, .int .i32 mu, .int .i32 ad] 24)).block _ (blk_lt KX)).trans KX)
              go_upto_region 17 with (go_at_call 12; (with_reducible refine (take_may _ _ _ _ _ _ _ _ _ _ _ _ hx HM.out).mono ?_); rintro e w5 ⟨rfl, x5⟩; have KW := blk_of x5; replace KX := ((((Ext.refl _).alloc _).trans x5).block _ (blk_lt KX)).trans KX; replace xc := xc.trans (((Ext.refl _).alloc _).trans x5); replace rdm := rdm.ext (((Ext.refl _).alloc _).trans x5); replace rt := rt.ext (((Ext.refl _).alloc _).trans x5); clear f0 f1 f2 f3 f4 f5 f6 f7; obtain ⟨f0, f1, f2, f3, f4, f5, f6, f7⟩ := cells8 KX)
              obtain ⟨y0, y1, y2, y3, y4, y5, y6, y7⟩ := cells8 KW
              go_wp2
              go_ret
              exact ⟨by first | (simp; done) | (simp; omega), xc⟩
          · obtain ⟨hwd, m0, m1, mz⟩ := may_parts hm
            obtain ⟨q, rfl, hk⟩ : ∃ q : Nat, wd = (q : Int) ∧ (q = 1 ∨ q = 2 ∨ q = 4) := ⟨wd.toNat, by omega, by omega⟩
            have HM := Lib.hid hm
            clear hm hwd
            by_cases hmk : k = q
            · subst hmk
              obtain ⟨t0, t1, _⟩ := take_back (ad := ad) (mu := mu) bg sg rdm.len rdm.byts hk m0 m1 mz a0 a1
              have HR := Lib.hid (takeV_rev (mu := mu) (ad := ad) bg sg rdm.len hk)
              have HA0 := Lib.hid (show takeV ys k bg sg mu (-2147483648) = takeV ys k bg sg mu ad + ((-2147483648) - ad) by have := takeV_add ys k bg sg mu ad (-2147483648); omega)
              have HA1 := Lib.hid (show takeV ys k bg sg mu 2147483647 = takeV ys k bg sg mu ad + (2147483647 - ad) by have := takeV_add ys k bg sg mu ad 2147483647; omega)
              have HA2 := Lib.hid (show takeV ys k bg sg mu (ad + more) = takeV ys k bg sg mu ad + ((ad + more) - ad) by have := takeV_add ys k bg sg mu ad (ad + more); omega)
              rcases hadd with hadd | hadd | hadd
              · have tok := True.intro
                go_upto_region 11 with (go_at_call 12; (with_reducible refine (take_ok _ _ _ _ _ _ _ _ _ _ _ _ hx HM.out a0 a1 rdm hmc).mono ?_); rintro e w3 ⟨rfl, x3⟩; replace KX := (x3.block _ (blk_lt KX)).trans KX; replace xc := xc.trans x3; replace rdm := rdm.ext x3; replace rt := rt.ext x3; clear f0 f1 f2 f3 f4 f5 f6 f7; obtain ⟨f0, f1, f2, f3, f4, f5, f6, f7⟩ := cells8 KX)
                go_upto_region 12 with (fail)
                obtain ⟨k0, k1, k2, k3, k4, k5, k6, k7⟩ := cells8 ((((Ext.refl w3).alloc (.cells #[.string x, .int .u8 ar, .int .u32 aa, .int .i64 k, .bool bg, .bool sg, .int .i32 mu, .int .i32 ad] 24)).block _ (blk_lt KX)).trans KX)
                go_upto_region 14 with (go_at_call 12; (with_reducible refine (take_ok _ _ _ _ _ _ _ _ _ _ _ _ hx HM.out a0 a1 (rt.ext ((Ext.refl _).alloc _)) lt).mono ?_); rintro e w4 ⟨rfl, x4⟩; rw [HR.out]; replace KX := ((((Ext.refl _).alloc _).trans x4).block _ (blk_lt KX)).trans KX; replace xc := xc.trans (((Ext.refl _).alloc _).trans x4); replace rdm := rdm.ext (((Ext.refl _).alloc _).trans x4); replace rt := rt.ext (((Ext.refl _).alloc _).trans x4); clear f0 f1 f2 f3 f4 f5 f6 f7; obtain ⟨f0, f1, f2, f3, f4, f5, f6, f7⟩ := cells8 KX)
                clear k0 k1 k2 k3 k4 k5 k6 k7
                go_upto_region 15 with (fail)
                obtain ⟨k0, k1, k2, k3, k4, k5, k6, k7⟩ := cells8 ((((Ext.refl w4).alloc (.cells #[.string x, .int .u8 ar, .int .u32 aa, .int .i64 k, .bool bg, .bool sg, .int .i32 mu, .int .i32 ad] 24)).block _ (blk_lt KX)).trans KX)
                go_upto_region 17 with (go_at_call 12; (with_reducible refine (take_ok _ _ _ _ _ _ _ _ _ _ _ _ hx HM.out (by omega) (by omega) (rdm.ext ((Ext.refl _).alloc _)) hmc).mono ?_); rintro e w5 ⟨rfl, x5⟩; rw [HA0.out]; have KW := blk_of x5; replace KX := ((((Ext.refl _).alloc _).trans x5).block _ (blk_lt KX)).trans KX; replace xc := xc.trans (((Ext.refl _).alloc _).trans x5); replace rdm := rdm.ext (((Ext.refl _).alloc _).trans x5); replace rt := rt.ext (((Ext.refl _).alloc _).trans x5); clear f0 f1 f2 f3 f4 f5 f6 f7; obtain ⟨f0, f1, f2, f3, f4, f5, f6, f7⟩ := cells8 KX)
                obtain ⟨y0, y1, y2, y3, y4, y5, y6, y7⟩ := cells8 KW
                go_wp2
                go_ret
                exact ⟨by first | (simp; done) | (simp; omega), xc⟩
              · have tok := True.intro
                go_upto_region 11 with (go_at_call 12; (with_reducible refine (take_ok _ _ _ _ _ _ _ _ _ _ _ _ hx HM.out a0 a1 rdm hmc).mono ?_); rintro e w3 ⟨rfl, x3⟩; replace KX := (x3.block _ (blk_lt KX)).trans KX; replace xc := xc.trans x3; replace rdm := rdm.ext x3; replace rt := rt.ext x3; clear f0 f1 f2 f3 f4 f5 f6 f7; obtain ⟨f0, f1, f2, f3, f4, f5, f6, f7⟩ := cells8 KX)
                go_upto_region 12 with (fail)
                obtain ⟨k0, k1, k2, k3, k4, k5, k6, k7⟩ := cells8 ((((Ext.refl w3).alloc (.cells #[.string x, .int .u8 ar, .int .u32 aa, .int .i64 k, .bool bg, .bool sg, .int .i32 mu, .int .i32 ad] 24)).block _ (blk_lt KX)).trans KX)
                go_upto_region 14 with (go_at_call 12; (with_reducible refine (take_ok _ _ _ _ _ _ _ _ _ _ _ _ hx HM.out a0 a1 (rt.ext ((Ext.refl _).alloc _)) lt).mono ?_); rintro e w4 ⟨rfl, x4⟩; rw [HR.out]; replace KX := ((((Ext.refl _).alloc _).trans x4).block _ (blk_lt KX)).trans KX; replace xc := xc.trans (((Ext.refl _).alloc _).trans x4); replace rdm := rdm.ext (((Ext.refl _).alloc _).trans x4); replace rt := rt.ext (((Ext.refl _).alloc _).trans x4); clear f0 f1 f2 f3 f4 f5 f6 f7; obtain ⟨f0, f1, f2, f3, f4, f5, f6, f7⟩ := cells8 KX)
                clear k0 k1 k2 k3 k4 k5 k6 k7
                go_upto_region 15 with (fail)
                obtain ⟨k0, k1, k2, k3, k4, k5, k6, k7⟩ := cells8 ((((Ext.refl w4).alloc (.cells #[.string x, .int .u8 ar, .int .u32 aa, .int .i64 k, .bool bg, .bool sg, .int .i32 mu, .int .i32 ad] 24)).block _ (blk_lt KX)).trans KX)
                go_upto_region 17 with (go_at_call 12; (with_reducible refine (take_ok _ _ _ _ _ _ _ _ _ _ _ _ hx HM.out (by omega) (by omega) (rdm.ext ((Ext.refl _).alloc _)) hmc).mono ?_); rintro e w5 ⟨rfl, x5⟩; rw [HA1.out]; have KW := blk_of x5; replace KX := ((((Ext.refl _).alloc _).trans x5).block _ (blk_lt KX)).trans KX; replace xc := xc.trans (((Ext.refl _).alloc _).trans x5); replace rdm := rdm.ext (((Ext.refl _).alloc _).trans x5); replace rt := rt.ext (((Ext.refl _).alloc _).trans x5); clear f0 f1 f2 f3 f4 f5 f6 f7; obtain ⟨f0, f1, f2, f3, f4, f5, f6, f7⟩ := cells8 KX)
                obtain ⟨y0, y1, y2, y3, y4, y5, y6, y7⟩ := cells8 KW
                go_wp2
                go_ret
                exact ⟨by first | (simp; done) | (simp; omega), xc⟩
              · try (obtain ⟨ha0, ha1⟩ := hadd)
                go_upto_region 11 with (go_at_call 12; (with_reducible refine (take_ok _ _ _ _ _ _ _ _ _ _ _ _ hx HM.out a0 a1 rdm hmc).mono ?_); rintro e w3 ⟨rfl, x3⟩; replace KX := (x3.block _ (blk_lt KX)).trans KX; replace xc := xc.trans x3; replace rdm := rdm.ext x3; replace rt := rt.ext x3; clear f0 f1 f2 f3 f4 f5 f6 f7; obtain ⟨f0, f1, f2, f3, f4, f5, f6, f7⟩ := cells8 KX)
                go_upto_region 12 with (fail)
                obtain ⟨k0, k1, k2, k3, k4, k5, k6, k7⟩ := cells8 ((((Ext.refl w3).alloc (.cells #[.string x, .int .u8 ar, .int .u32 aa, .int .i64 k, .bool bg, .bool sg, .int .i32 mu, .int .i32 ad] 24)).block _ (blk_lt KX)).trans KX)
                go_upto_region 14 with (go_at_call 12; (with_reducible refine (take_ok _ _ _ _ _ _ _ _ _ _ _ _ hx HM.out a0 a1 (rt.ext ((Ext.refl _).alloc _)) lt).mono ?_); rintro e w4 ⟨rfl, x4⟩; rw [HR.out]; replace KX := ((((Ext.refl _).alloc _).trans x4).block _ (blk_lt KX)).trans KX; replace xc := xc.trans (((Ext.refl _).alloc _).trans x4); replace rdm := rdm.ext (((Ext.refl _).alloc _).trans x4); replace rt := rt.ext (((Ext.refl _).alloc _).trans x4); clear f0 f1 f2 f3 f4 f5 f6 f7; obtain ⟨f0, f1, f2, f3, f4, f5, f6, f7⟩ := cells8 KX)
                clear k0 k1 k2 k3 k4 k5 k6 k7
                go_upto_region 15 with (fail)
                obtain ⟨k0, k1, k2, k3, k4, k5, k6, k7⟩ := cells8 ((((Ext.refl w4).alloc (.cells #[.string x, .int .u8 ar, .int .u32 aa, .int .i64 k, .bool bg, .bool sg, .int .i32 mu, .int .i32 ad] 24)).block _ (blk_lt KX)).trans KX)
                go_upto_region 17 with (go_at_call 12; (with_reducible refine (take_ok _ _ _ _ _ _ _ _ _ _ _ _ hx HM.out (by omega) (by omega) (rdm.ext ((Ext.refl _).alloc _)) hmc).mono ?_); rintro e w5 ⟨rfl, x5⟩; rw [HA2.out]; have KW := blk_of x5; replace KX := ((((Ext.refl _).alloc _).trans x5).block _ (blk_lt KX)).trans KX; replace xc := xc.trans (((Ext.refl _).alloc _).trans x5); replace rdm := rdm.ext (((Ext.refl _).alloc _).trans x5); replace rt := rt.ext (((Ext.refl _).alloc _).trans x5); clear f0 f1 f2 f3 f4 f5 f6 f7; obtain ⟨f0, f1, f2, f3, f4, f5, f6, f7⟩ := cells8 KX)
                obtain ⟨y0, y1, y2, y3, y4, y5, y6, y7⟩ := cells8 KW
                go_wp2
                go_ret
                exact ⟨by first | (simp; done) | (simp; omega), xc⟩
            · rcases hadd with hadd | hadd | hadd
              · have tok := True.intro
                go_upto_region 11 with (go_at_call 12; (with_reducible refine (take_len _ _ _ _ _ _ _ _ _ _ _ _ hx HM.out hml hmk).mono ?_); rintro e w3 ⟨rfl, x3⟩; replace KX := (x3.block _ (blk_lt KX)).trans KX; replace xc := xc.trans x3; replace rdm := rdm.ext x3; replace rt := rt.ext x3; clear f0 f1 f2 f3 f4 f5 f6 f7; obtain ⟨f0, f1, f2, f3, f4, f5, f6, f7⟩ := cells8 KX)
                go_upto_region 12 with (fail)
                obtain ⟨k0, k1, k2, k3, k4, k5, k6, k7⟩ := cells8 ((((Ext.refl w3).alloc (.cells #[.string x, .int .u8 ar, .int .u32 aa, .int .i64 q, .bool bg, .bool sg, .int .i32 mu, .int .i32 ad] 24)).block _ (blk_lt KX)).trans KX)
                go_upto_region 14 with (go_at_call 12; (with_reducible refine (take_len _ _ _ _ _ _ _ _ _ _ _ _ hx HM.out hml hmk).mono ?_); rintro e w4 ⟨rfl, x4⟩; replace KX := ((((Ext.refl _).alloc _).trans x4).block _ (blk_lt KX)).trans KX; replace xc := xc.trans (((Ext.refl _).alloc _).trans x4); replace rdm := rdm.ext (((Ext.refl _).alloc _).trans x4); replace rt := rt.ext (((Ext.refl _).alloc _).trans x4); clear f0 f1 f2 f3 f4 f5 f6 f7; obtain ⟨f0, f1, f2, f3, f4, f5, f6, f7⟩ := cells8 KX)
                clear k0 k1 k2 k3 k4 k5 k6 k7
                go_upto_region 15 with (fail)
                obtain ⟨k0, k1, k2, k3, k4, k5, k6, k7⟩ := cells8 ((((Ext.refl w4).alloc (.cells #[.string x, .int .u8 ar, .int .u32 aa, .int .i64 q, .bool bg, .bool sg, .int .i32 mu, .int .i32 ad] 24)).block _ (blk_lt KX)).trans KX)
                go_upto_region 17 with (go_at_call 12; (with_reducible refine (take_len _ _ _ _ _ _ _ _ _ _ _ _ hx HM.out hml hmk).mono ?_); rintro e w5 ⟨rfl, x5⟩; have KW := blk_of x5; replace KX := ((((Ext.refl _).alloc _).trans x5).block _ (blk_lt KX)).trans KX; replace xc := xc.trans (((Ext.refl _).alloc _).trans x5); replace rdm := rdm.ext (((Ext.refl _).alloc _).trans x5); replace rt := rt.ext (((Ext.refl _).alloc _).trans x5); clear f0 f1 f2 f3 f4 f5 f6 f7; obtain ⟨f0, f1, f2, f3, f4, f5, f6, f7⟩ := cells8 KX)
                obtain ⟨y0, y1, y2, y3, y4, y5, y6, y7⟩ := cells8 KW
                go_wp2
                go_ret
                exact ⟨by first | (simp; done) | (simp; omega), xc⟩
              · have tok := True.intro
                go_upto_region 11 with (go_at_call 12; (with_reducible refine (take_len _ _ _ _ _ _ _ _ _ _ _ _ hx HM.out hml hmk).mono ?_); rintro e w3 ⟨rfl, x3⟩; replace KX := (x3.block _ (blk_lt KX)).trans KX; replace xc := xc.trans x3; replace rdm := rdm.ext x3; replace rt := rt.ext x3; clear f0 f1 f2 f3 f4 f5 f6 f7; obtain ⟨f0, f1, f2, f3, f4, f5, f6, f7⟩ := cells8 KX)
                go_upto_region 12 with (fail)
                obtain ⟨k0, k1, k2, k3, k4, k5, k6, k7⟩ := cells8 ((((Ext.refl w3).alloc (.cells #[.string x, .int .u8 ar, .int .u32 aa, .int .i64 q, .bool bg, .bool sg, .int .i32 mu, .int .i32 ad] 24)).block _ (blk_lt KX)).trans KX)
                go_upto_region 14 with (go_at_call 12; (with_reducible refine (take_len _ _ _ _ _ _ _ _ _ _ _ _ hx HM.out hml hmk).mono ?_); rintro e w4 ⟨rfl, x4⟩; replace KX := ((((Ext.refl _).alloc _).trans x4).block _ (blk_lt KX)).trans KX; replace xc := xc.trans (((Ext.refl _).alloc _).trans x4); replace rdm := rdm.ext (((Ext.refl _).alloc _).trans x4); replace rt := rt.ext (((Ext.refl _).alloc _).trans x4); clear f0 f1 f2 f3 f4 f5 f6 f7; obtain ⟨f0, f1, f2, f3, f4, f5, f6, f7⟩ := cells8 KX)
                clear k0 k1 k2 k3 k4 k5 k6 k7
                go_upto_region 15 with (fail)
                obtain ⟨k0, k1, k2, k3, k4, k5, k6, k7⟩ := cells8 ((((Ext.refl w4).alloc (.cells #[.string x, .int .u8 ar, .int .u32 aa, .int .i64 q, .bool bg, .bool sg, .int .i32 mu, .int .i32 ad] 24)).block _ (blk_lt KX)).trans KX)
                go_upto_region 17 with (go_at_call 12; (with_reducible refine (take_len _ _ _ _ _ _ _ _ _ _ _ _ hx HM.out hml hmk).mono ?_); rintro e w5 ⟨rfl, x5⟩; have KW := blk_of x5; replace KX := ((((Ext.refl _).alloc _).trans x5).block _ (blk_lt KX)).trans KX; replace xc := xc.trans (((Ext.refl _).alloc _).trans x5); replace rdm := rdm.ext (((Ext.refl _).alloc _).trans x5); replace rt := rt.ext (((Ext.refl _).alloc _).trans x5); clear f0 f1 f2 f3 f4 f5 f6 f7; obtain ⟨f0, f1, f2, f3, f4, f5, f6, f7⟩ := cells8 KX)
                obtain ⟨y0, y1, y2, y3, y4, y5, y6, y7⟩ := cells8 KW
                go_wp2
                go_ret
                exact ⟨by first | (simp; done) | (simp; omega), xc⟩
              · try (obtain ⟨ha0, ha1⟩ := hadd)
                go_upto_region 11 with (go_at_call 12; (with_reducible refine (take_len _ _ _ _ _ _ _ _ _ _ _ _ hx HM.out hml hmk).mono ?_); rintro e w3 ⟨rfl, x3⟩; replace KX := (x3.block _ (blk_lt KX)).trans KX; replace xc := xc.trans x3; replace rdm := rdm.ext x3; replace rt := rt.ext x3; clear f0 f1 f2 f3 f4 f5 f6 f7; obtain ⟨f0, f1, f2, f3, f4, f5, f6, f7⟩ := cells8 KX)
                go_upto_region 12 with (fail)
                obtain ⟨k0, k1, k2, k3, k4, k5, k6, k7⟩ := cells8 ((((Ext.refl w3).alloc (.cells #[.string x, .int .u8 ar, .int .u32 aa, .int .i64 q, .bool bg, .bool sg, .int .i32 mu, .int .i32 ad] 24)).block _ (blk_lt KX)).trans KX)
                go_upto_region 14 with (go_at_call 12; (with_reducible refine (take_len _ _ _ _ _ _ _ _ _ _ _ _ hx HM.out hml hmk).mono ?_); rintro e w4 ⟨rfl, x4⟩; replace KX := ((((Ext.refl _).alloc _).trans x4).block _ (blk_lt KX)).trans KX; replace xc := xc.trans (((Ext.refl _).alloc _).trans x4); replace rdm := rdm.ext (((Ext.refl _).alloc _).trans x4); replace rt := rt.ext (((Ext.refl _).alloc _).trans x4); clear f0 f1 f2 f3 f4 f5 f6 f7; obtain ⟨f0, f1, f2, f3, f4, f5, f6, f7⟩ := cells8 KX)
                clear k0 k1 k2 k3 k4 k5 k6 k7
                go_upto_region 15 with (fail)
                obtain ⟨k0, k1, k2, k3, k4, k5, k6, k7⟩ := cells8 ((((Ext.refl w4).alloc (.cells #[.string x, .int .u8 ar, .int .u32 aa, .int .i64 q, .bool bg, .bool sg, .int .i32 mu, .int .i32 ad] 24)).block _ (blk_lt KX)).trans KX)
                go_upto_region 17 with (go_at_call 12; (with_reducible refine (take_len _ _ _ _ _ _ _ _ _ _ _ _ hx HM.out hml hmk).mono ?_); rintro e w5 ⟨rfl, x5⟩; have KW := blk_of x5; replace KX := ((((Ext.refl _).alloc _).trans x5).block _ (blk_lt KX)).trans KX; replace xc := xc.trans (((Ext.refl _).alloc _).trans x5); replace rdm := rdm.ext (((Ext.refl _).alloc _).trans x5); replace rt := rt.ext (((Ext.refl _).alloc _).trans x5); clear f0 f1 f2 f3 f4 f5 f6 f7; obtain ⟨f0, f1, f2, f3, f4, f5, f6, f7⟩ := cells8 KX)
                obtain ⟨y0, y1, y2, y3, y4, y5, y6, y7⟩ := cells8 KW
                go_wp2
                go_ret
                exact ⟨by first | (simp; done) | (simp; omega), xc⟩
end Go.Proofs.Ytpjficfmmfdbjaa
