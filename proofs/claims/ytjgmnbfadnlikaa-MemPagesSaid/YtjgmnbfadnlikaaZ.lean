import Derived.Test.YtjgmnbfadnlikaaY
set_option linter.unusedVariables false
set_option linter.unusedSimpArgs false
namespace Go.Proofs.Ytjgmnbfadnlikaa
open Go.RowKit
set_option maxRecDepth 100000 in
set_option maxHeartbeats 8000000 in
theorem MemPages_law (w : World) (m : MP) (sA fA : Option Addr) (sc fc : Nat) (sg fr tt wh : Nat) (bA : Option Addr) (bn bc : Nat) (bs : List Int) (h : MpR w m sA fA sc fc) (hsg : sg < 256) (hfr : fr < 256) (hto : tt < 256) (hwh : wh < 256) (hb : Rd w bA bn bs) (hbc : bn ≤ bc) (hbm : bc ≤ maxLen) :
    Calls Try.prog 6 #[.agg #[.int .i64 m.ram, .slice sA m.segs.length sc, .slice fA m.flash.length fc], .int .u8 (sg : Int), .int .u8 (fr : Int), .int .u8 (tt : Int), .int .u8 (wh : Int), .slice bA bn bc] w fun e w' => e = .returned (.bool true) ∧ Ext w w' := by
  obtain ⟨w1, hw1⟩ : ∃ V, V = w.alloc (.cells #[.int .i64 m.ram, .slice sA m.segs.length sc, .slice fA m.flash.length fc] 25) := ⟨_, rfl⟩
  have K1 : w1.heap[w.heap.size]? = some (.cells #[.int .i64 m.ram, .slice sA m.segs.length sc, .slice fA m.flash.length fc] 25 (0, 0)) := by rw [hw1]; exact heap_alloc_new _ _
  have x1 : Ext w w1 := by rw [hw1]; exact (Ext.refl _).alloc _
  have HG := Lib.hid (fun W (x : Ext w W) => good_any (h.ext x))
  have HB := Lib.hid hb
  have HBM := Lib.hid hbm
  clear h hb hbm
  go_enter Try.func6, Try.ntmps6
  go_upto_region 1 with (fail)
  rw [← hw1]
  clear hw1
  go_upto_region 2 with (go_at_call 9; (refine (shown_any _).mono ?_); rintro e w2 ⟨rfl, x2⟩)
  have K2 := (x2.block _ (blk_lt K1)).trans K1
  go_upto_region 3 with (first | refine wpList_ldrow rfl 25 (.tmp 6) rfl K2 rfl Try.underlying25 rfl (by kernel_rfl) ?_ | (go_at_call 20; (refine (HG.out _ (x1.trans x2)).mono ?_); rintro e w3 ⟨sA3, sc3, rfl, x3, H3⟩))
  obtain ⟨rm, hrm⟩ : ∃ r, r = (m.good m.segs.length).ram := ⟨_, rfl⟩
  obtain ⟨gn, hgn⟩ : ∃ r, r = (m.good m.segs.length).segs.length := ⟨_, rfl⟩
  rw [← hrm, ← hgn]
  obtain ⟨w4, hw4⟩ : ∃ V, V = w3.alloc (.cells #[.int .i64 rm, .slice sA3 gn sc3, .slice none 0 0] 25) := ⟨_, rfl⟩
  have K4 : w4.heap[w3.heap.size]? = some (.cells #[.int .i64 rm, .slice sA3 gn sc3, .slice none 0 0] 25 (0, 0)) := by rw [hw4]; exact heap_alloc_new _ _
  have x4 : Ext w3 w4 := by rw [hw4]; exact (Ext.refl _).alloc _
  rw [← hw4]
  clear hw4
  have H4 := H3.ext x4
  have HRG := Lib.hid (show rm = (m.good m.segs.length).ram ∧ gn = (m.good m.segs.length).segs.length from ⟨hrm, hgn⟩)
  have x04 := x1.trans (x2.trans (x3.trans x4))
  have H4H := Lib.hid H4
  have gn4 : gn ≤ 4 := by rw [hgn]; exact good_len _ _
  clear hrm hgn H3 H4 x3 x4 K2 x2 K1 x1
  obtain ⟨f0, f1, f2⟩ := cells3 K4
  by_cases h0 : gn = 0
  · subst h0
    go_wp2
    go_ret
    exact ⟨rfl, x04⟩
  · have h0' : ((gn : Int) == 0) = false := by simp; omega
    go_upto_region 5 with (fail)
    clear f0 f1 f2
    go_upto_region 6 with (first | refine wpList_ldrow rfl 25 (.tmp 14) rfl K4 rfl Try.underlying25 rfl (by kernel_rfl) ?_ | (go_at_call 10; (refine (new_any H4H.out (good_may _ _) (by rw [HRG.out.1]) (by rw [HRG.out.2]) rfl).mono ?_); rintro e w5 ⟨g, va, T, rfl, x5, M5, hT⟩))
    have M5 : MemC w5 g m.g0 va T := M5
    have K5 := (x5.block _ (blk_lt K4)).trans K4
    obtain ⟨f0, f1, f2⟩ := cells3 K5
    have NM5 := Lib.hid M5
    have HT := Lib.hid hT
    clear M5 hT
    have hgnS := HRG.out.2
    obtain ⟨k, hk, hkT, hkN, hkg⟩ : ∃ k : Nat, (sg : Int) % gn = (k : Int) ∧ (sg : Int).tmod gn = (k : Int) ∧ sg % gn = k ∧ k < gn := ⟨sg % gn, by omega, by rw [Int.tmod_eq_emod_of_nonneg (by omega)]; omega, rfl, Nat.mod_lt _ (by omega)⟩
    obtain ⟨s, ln, np, hs, hln, hnp, l1, l16, n2, n4, hseg⟩ := g0_seg (m := m) (i := k) (by rw [← hgnS]; exact hkg)
    have hkg' : (k : Int) < gn := by omega
    obtain ⟨b, o, hA, hbl, hr⟩ := Shows.row sm_len (by omega) (H4H.out.segs.ext x5) rfl hs
    have HSG := Lib.hid hseg
    have HS := Lib.hid hs
    clear hseg hs hgnS
    subst hA
    go_upto_region 9 with (fail)
    clear hk hkT hkN
    go_upto_region 10 with (first | refine wpList_load_mid rfl 54 _ rfl _ _ rfl s.vals _ hr Try.underlying54 rfl size54 ?_ | refine wpList_stnew rfl 54 _ _ rfl rfl s.vals rfl rfl size54 rfl (sm_one s) ?_)
    obtain ⟨w6, hw6⟩ : ∃ V, V = w5.alloc (.cells s.vals.toArray 54) := ⟨_, rfl⟩
    have k6 : w6.heap[w5.heap.size]? = some (.cells #[.int .i64 s.len, .int .i64 s.pages] 54 (0, 0)) := by rw [hw6]; exact heap_alloc_new _ _
    have x6 : Ext w5 w6 := by rw [hw6]; exact (Ext.refl _).alloc _
    rw [← hw6]
    clear hw6 hr f0 f1 f2
    rw [hln, hnp] at k6
    clear hln hnp
    obtain ⟨m0, m1⟩ := cells2 k6
    obtain ⟨n1, hn1⟩ : ∃ n1, n1 = np - 1 := ⟨_, rfl⟩
    obtain ⟨p0, hp0, hp0T, hp0N, hp0l⟩ : ∃ p0 : Nat, (fr : Int) % n1 = (p0 : Int) ∧ (fr : Int).tmod n1 = (p0 : Int) ∧ fr % n1 = p0 ∧ p0 < n1 := ⟨fr % n1, by omega, by rw [Int.tmod_eq_emod_of_nonneg (by omega)]; omega, rfl, Nat.mod_lt _ (by omega)⟩
    obtain ⟨q0, hq0, hq0T, hq0N, hq0l⟩ : ∃ q0 : Nat, (tt : Int) % n1 = (q0 : Int) ∧ (tt : Int).tmod n1 = (q0 : Int) ∧ tt % n1 = q0 ∧ q0 < n1 := ⟨tt % n1, by omega, by rw [Int.tmod_eq_emod_of_nonneg (by omega)]; omega, rfl, Nat.mod_lt _ (by omega)⟩
    obtain ⟨p, hp⟩ : ∃ p, p = 1 + p0 := ⟨_, rfl⟩
    obtain ⟨q, hq⟩ : ∃ q, q = 1 + q0 := ⟨_, rfl⟩
    have e1 : (np : Int) - 1 = (n1 : Int) := by omega
    have e2 : (1 : Int) + p0 = (p : Int) := by omega
    have e3 : (1 : Int) + q0 = (q : Int) := by omega
    have e4 : ((n1 : Int) == 0) = false := by simp; omega
    have e5 : n1 ≠ 0 := by omega
    have hpb : 1 ≤ p ∧ p < np := by omega
    have hqb : 1 ≤ q ∧ q < np := by omega
    obtain ⟨ar, har⟩ : ∃ ar, ar = k + 1 := ⟨_, rfl⟩
    have e6 : (k : Int) + 1 = (ar : Int) := by omega
    have ar5 : ar < 256 := by omega
    obtain ⟨cn, hcn⟩ : ∃ cn, cn = min bn ln := ⟨_, rfl⟩
    have hmin : (if (ln : Int) < bn then (ln : Int) else bn) = cn := by split <;> omega
    have hminN : (if ln < bn then (ln : Int) else bn) = cn := by split <;> omega
    have c1 : cn ≤ bc := by omega
    have c2 : (cn : Int) ≤ bc := by omega
    have c3 : cn ≤ ln := by omega
    have c4 : cn ≤ bn := by omega
    have hcr := HB.out.take (k := cn) c4
    have HP := Lib.hid (And.intro hpb hqb)
    have HAR := Lib.hid har
    have HC := Lib.hid hcr
    have HC3 := Lib.hid c3
    have w0' : wh % 3 = 0 ∨ wh % 3 = 1 ∨ wh % 3 = 2 := by omega
    have v1 : fr < 9223372036854775808 := by omega
    have v2 : tt < 9223372036854775808 := by omega
    have v3 : n1 < 9223372036854775808 := by omega
    have v4 : p < 9223372036854775808 := by omega
    have v5 : q < 9223372036854775808 := by omega
    have v6 : ar < 9223372036854775808 := by omega
    have hcn1 : cn ≤ 100000 := by omega
    have HCI := Lib.hid (show (cn : Int) < 9223372036854775808 by omega)
    have u1 := wri fr v1
    have u2 := wri tt v2
    have u3 := wri n1 v3
    have u4 := wri p v4
    have u5 := wri q v5
    have HU := Lib.hid (And.intro (wri ar v6) (wr8 ar5))
    clear hp hq hn1 hpb hqb har hcn hcr v1 v2 v3 v4 v5 v6
    go_quiet (fail)
    obtain ⟨w7, hWq⟩ : ∃ z : World, z = World.drewN w6 nq := ⟨_, rfl⟩
    rw [← hWq]
    have xw7 : Ext w6 w7 := by rw [hWq]; exact (Ext.refl _).drewN _
    clear hWq
    clear e1 e2 e3 e4 e5 u1 u2 u3 u4 u5 hp0 hp0T hp0N hq0 hq0T hq0N hp0l hq0l
    have k7 := (xw7.block _ (blk_lt k6)).trans k6
    have NM7 := Lib.hid (NM5.out.ext (x6.trans xw7))
    have X7 : Ext w w7 := x04.trans (x5.trans (x6.trans xw7))
    have HT2 := Lib.hid (fun b t (h : T b = some t) => Nat.le_trans x04.size (HT.out b t h))
    have HTn : Hid (T w5.heap.size = none) := Lib.hid (by
      rcases e : T w5.heap.size with _ | t
      · rfl
      · have := NM5.out.O.lt _ _ e; omega)
    obtain ⟨m0, m1⟩ := cells2 k7
    rcases w0' with e0 | e0 | e0
    · have e0i : (wh : Int) % 3 = 0 := by omega
      have e0t : (wh : Int).tmod 3 = 0 := by rw [Int.tmod_eq_emod_of_nonneg (by omega)]; omega
      obtain ⟨s1, s2, s3, s4, PR⟩ := pages_pure (w := 1) (c := bs.take cn) HSG.out HP.out.1 HP.out.2 (by omega) (by rw [HC.out.len]; exact HC3.out)
      have PA := PR.A
      have PB : s1.wre 2 ar 0 cn = 0 := by rw [HAR.out]; have := PR.B; rwa [HC.out.len] at this
      have PB2 : s1.wr 2 ar 0 (bs.take cn) = s2 := by rw [HAR.out]; exact PR.B2
      have PC := PR.C
      have PD : s3.st 1 k q = (s4, 0) := PR.D
      have PE1 : s4.pg 1 k = (((q : Nat) : Int), 0) := by have := PR.E1; simpa using this
      have PE2 : s4.pg 2 k = (((p : Nat) : Int), 0) := by have := PR.E2; simpa using this
      have PF1 : s4.err 2 ar 0 cn = 0 := by rw [HAR.out]; have := PR.F1; rwa [HC.out.len] at this
      have PF2 : s4.rd 2 ar 0 cn = bs.take cn := by rw [HAR.out]; have := PR.F2; rwa [HC.out.len] at this
      have PG1 : s4.cp k p 0 = (s4, 81) := PR.G1
      have PG2 := PR.G2
      have HPR := Lib.hid (And.intro PA (And.intro PB (And.intro PB2 (And.intro PC (And.intro PD (And.intro PE1 (And.intro PE2 (And.intro PF1 (And.intro PF2 (And.intro PG1 PG2))))))))))
      clear PA PB PB2 PC PD PE1 PE2 PF1 PF2 PG1 PG2 PR
      go_upto_region 13 with (fail)
      clear m0 m1 hmin hminN
      obtain ⟨u6, u7⟩ := HU.out
      go_upto_region 15 with (first | (go_at_call 25; (refine (set_any N10.out 1 k q).mono ?_); rw [HPR.out.2.2.2.2.1]; rintro e w11 ⟨rfl, M11, k11⟩; have N11 := Lib.hid M11; clear M11) | (go_at_call 26; (refine (copy_any N9.out k p q).mono ?_); rw [HPR.out.2.2.2.1]; rintro e w10 ⟨rfl, M10, k10⟩; have N10 := Lib.hid M10; clear M10) | (go_at_call 22; (refine (write_any N8.out 2 ar 0 _ (HC.out.ext X8) ar5 (by decide) hcn1).mono ?_); rw [HPR.out.2.1, HPR.out.2.2.1]; rintro e w9 ⟨rfl, M9, k9⟩; have N9 := Lib.hid M9; clear M9) | (go_at_call 25; (refine (set_any NM7.out 2 k p).mono ?_); rw [HPR.out.1]; rintro e w8 ⟨rfl, M8, k8⟩; have N8 := Lib.hid M8; have X8 := ext_kept X7 k8 HT2.out; clear M8))
      clear u6 u7
      have X11 := ext_kept X8 (k9.trans' (k10.trans' k11)) HT2.out
      have kk := k8.trans' (k9.trans' (k10.trans' k11))
      have r11 := kk.blk k7 (fun h => h HTn.out)
      clear k8 k9 k10 k11 kk X8
      go_upto_region 16 with (go_at_call 24; (refine (page_any N11.out 1 k).mono ?_); rw [HPR.out.2.2.2.2.2.1]; rintro e w12 ⟨rfl, rfl⟩)
      go_upto_region 17 with (go_at_call 24; (refine (page_any N11.out 2 k).mono ?_); rw [HPR.out.2.2.2.2.2.2.1]; rintro e w12 ⟨rfl, rfl⟩)
      go_upto_region 18 with (fail)
      have hb1 : bits .and .u8 1 1 = 1 := by kernel_rfl
      have hb2 : bits .and .u8 1 2 = 0 := by kernel_rfl
      obtain ⟨v0, hv0⟩ : ∃ V, V = w11.alloc (.cells #[.int .i64 0, .int .i64 (p : Int)] 56) := ⟨_, rfl⟩
      have y0 : Ext w11 v0 := by rw [hv0]; exact (Ext.refl _).alloc _
      have j0 : v0.heap[w11.heap.size]? = some (.cells #[.int .i64 0, .int .i64 (p : Int)] 56 (0, 0)) := by rw [hv0]; exact heap_alloc_new _ _
      rw [← hv0]
      clear hv0
      obtain ⟨i0, i1⟩ := cells2 j0
      have z0 := blk_free (i := 0) j0
      go_upto_region 20 with (fail)
      obtain ⟨v1, hv1, j1, g1⟩ := set_new 0 (.int .i64 (q : Int)) j0
      rw [← hv1]
      clear hv1 i0 i1 z0
      replace y0 := Ext.of_grown y0 g1 (fun b e => by injection e with e; omega)
      go_upto_region 22 with (fail)
      have N12 := Lib.hid (N11.out.ext y0)
      obtain ⟨u6, u7⟩ := HU.out
      go_upto_region 23 with (go_at_call 23; (refine (read_any N12.out 2 ar 0 cn ar5 (by decide) HCI.out).mono ?_); rw [HPR.out.2.2.2.2.2.2.2.1, HPR.out.2.2.2.2.2.2.2.2.1]; rintro e w13 ⟨x13, v13, rfl, o13⟩)
      clear u6 u7
      rw [HC.out.len] at o13
      obtain ⟨A13, c13, rfl, _, r13⟩ := rd_own o13 HC.out.byts
      have N13 := Lib.hid (N12.out.ext x13)
      have X13 := X11.trans (y0.trans x13)
      have q1 := str (c := c13) r13
      have q2 := str (c := bc) (HC.out.ext X13)
      have r13b := ((y0.trans x13).block _ (blk_lt r11)).trans r11
      have j13 := (x13.block _ (blk_lt j1)).trans j1
      obtain ⟨i0, i1⟩ := cells2 j13
      obtain ⟨m0, m1⟩ := cells2 r13b
      have q3 := fun W => run_eq2 W (q : Int) (p : Int)
      go_upto_region 99 with (first
        | (go_at_call 26; (refine (copy_any N14.out k p np).mono ?_); rw [HPR.out.2.2.2.2.2.2.2.2.2.2]; rintro e w15 ⟨rfl, M15, k15⟩)
        | (go_at_call 26; (refine (copy_any N13.out k p 0).mono ?_); rw [HPR.out.2.2.2.2.2.2.2.2.2.1]; rintro e w14 ⟨rfl, M14, k14⟩; have N14 := Lib.hid M14; clear M14; obtain ⟨m0, m1⟩ := cells2 (k14.blk r13b (fun h => h HTn.out))))
      go_ret
      exact ⟨by simp, ext_kept (ext_kept X13 k14 HT2.out) k15 HT2.out⟩
    · have e0i : (wh : Int) % 3 = 1 := by omega
      have e0t : (wh : Int).tmod 3 = 1 := by rw [Int.tmod_eq_emod_of_nonneg (by omega)]; omega
      obtain ⟨s1, s2, s3, s4, PR⟩ := pages_pure (w := 2) (c := bs.take cn) HSG.out HP.out.1 HP.out.2 (by omega) (by rw [HC.out.len]; exact HC3.out)
      have PA := PR.A
      have PB : s1.wre 2 ar 0 cn = 0 := by rw [HAR.out]; have := PR.B; rwa [HC.out.len] at this
      have PB2 : s1.wr 2 ar 0 (bs.take cn) = s2 := by rw [HAR.out]; exact PR.B2
      have PC := PR.C
      have PD : s3.st 2 k q = (s4, 0) := PR.D
      have PE1 : s4.pg 1 k = (((0 : Nat) : Int), 0) := by have := PR.E1; simpa using this
      have PE2 : s4.pg 2 k = (((q : Nat) : Int), 0) := by have := PR.E2; simpa using this
      have PF1 : s4.err 2 ar 0 cn = 0 := by rw [HAR.out]; have := PR.F1; rwa [HC.out.len] at this
      have PF2 : s4.rd 2 ar 0 cn = bs.take cn := by rw [HAR.out]; have := PR.F2; rwa [HC.out.len] at this
      have PG1 : s4.cp k p 0 = (s4, 81) := PR.G1
      have PG2 := PR.G2
      have HPR := Lib.hid (And.intro PA (And.intro PB (And.intro PB2 (And.intro PC (And.intro PD (And.intro PE1 (And.intro PE2 (And.intro PF1 (And.intro PF2 (And.intro PG1 PG2))))))))))
      clear PA PB PB2 PC PD PE1 PE2 PF1 PF2 PG1 PG2 PR
      go_upto_region 13 with (fail)
      clear m0 m1 hmin hminN
      obtain ⟨u6, u7⟩ := HU.out
      go_upto_region 15 with (first | (go_at_call 25; (refine (set_any N10.out 2 k q).mono ?_); rw [HPR.out.2.2.2.2.1]; rintro e w11 ⟨rfl, M11, k11⟩; have N11 := Lib.hid M11; clear M11) | (go_at_call 26; (refine (copy_any N9.out k p q).mono ?_); rw [HPR.out.2.2.2.1]; rintro e w10 ⟨rfl, M10, k10⟩; have N10 := Lib.hid M10; clear M10) | (go_at_call 22; (refine (write_any N8.out 2 ar 0 _ (HC.out.ext X8) ar5 (by decide) hcn1).mono ?_); rw [HPR.out.2.1, HPR.out.2.2.1]; rintro e w9 ⟨rfl, M9, k9⟩; have N9 := Lib.hid M9; clear M9) | (go_at_call 25; (refine (set_any NM7.out 2 k p).mono ?_); rw [HPR.out.1]; rintro e w8 ⟨rfl, M8, k8⟩; have N8 := Lib.hid M8; have X8 := ext_kept X7 k8 HT2.out; clear M8))
      clear u6 u7
      have X11 := ext_kept X8 (k9.trans' (k10.trans' k11)) HT2.out
      have kk := k8.trans' (k9.trans' (k10.trans' k11))
      have r11 := kk.blk k7 (fun h => h HTn.out)
      clear k8 k9 k10 k11 kk X8
      go_upto_region 16 with (go_at_call 24; (refine (page_any N11.out 1 k).mono ?_); rw [HPR.out.2.2.2.2.2.1]; rintro e w12 ⟨rfl, rfl⟩)
      go_upto_region 17 with (go_at_call 24; (refine (page_any N11.out 2 k).mono ?_); rw [HPR.out.2.2.2.2.2.2.1]; rintro e w12 ⟨rfl, rfl⟩)
      go_upto_region 18 with (fail)
      have hb1 : bits .and .u8 2 1 = 0 := by kernel_rfl
      have hb2 : bits .and .u8 2 2 = 2 := by kernel_rfl
      obtain ⟨v0, hv0⟩ : ∃ V, V = w11.alloc (.cells #[.int .i64 0, .int .i64 (p : Int)] 56) := ⟨_, rfl⟩
      have y0 : Ext w11 v0 := by rw [hv0]; exact (Ext.refl _).alloc _
      have j0 : v0.heap[w11.heap.size]? = some (.cells #[.int .i64 0, .int .i64 (p : Int)] 56 (0, 0)) := by rw [hv0]; exact heap_alloc_new _ _
      rw [← hv0]
      clear hv0
      obtain ⟨i0, i1⟩ := cells2 j0
      have z1 := blk_free (i := 1) j0
      go_upto_region 22 with (fail)
      obtain ⟨v2, hv2, j2, g2⟩ := set_new 1 (.int .i64 (q : Int)) j0
      rw [← hv2]
      clear hv2 i0 i1 z1
      replace y0 := Ext.of_grown y0 g2 (fun b e => by injection e with e; omega)
      go_upto_region 22 with (fail)
      have N12 := Lib.hid (N11.out.ext y0)
      obtain ⟨u6, u7⟩ := HU.out
      go_upto_region 23 with (go_at_call 23; (refine (read_any N12.out 2 ar 0 cn ar5 (by decide) HCI.out).mono ?_); rw [HPR.out.2.2.2.2.2.2.2.1, HPR.out.2.2.2.2.2.2.2.2.1]; rintro e w13 ⟨x13, v13, rfl, o13⟩)
      clear u6 u7
      rw [HC.out.len] at o13
      obtain ⟨A13, c13, rfl, _, r13⟩ := rd_own o13 HC.out.byts
      have N13 := Lib.hid (N12.out.ext x13)
      have X13 := X11.trans (y0.trans x13)
      have q1 := str (c := c13) r13
      have q2 := str (c := bc) (HC.out.ext X13)
      have r13b := ((y0.trans x13).block _ (blk_lt r11)).trans r11
      have j13 := (x13.block _ (blk_lt j2)).trans j2
      obtain ⟨i0, i1⟩ := cells2 j13
      obtain ⟨m0, m1⟩ := cells2 r13b
      have q3 := fun W => run_eq2 W 0 (q : Int)
      go_upto_region 99 with (first
        | (go_at_call 26; (refine (copy_any N14.out k p np).mono ?_); rw [HPR.out.2.2.2.2.2.2.2.2.2.2]; rintro e w15 ⟨rfl, M15, k15⟩)
        | (go_at_call 26; (refine (copy_any N13.out k p 0).mono ?_); rw [HPR.out.2.2.2.2.2.2.2.2.2.1]; rintro e w14 ⟨rfl, M14, k14⟩; have N14 := Lib.hid M14; clear M14; obtain ⟨m0, m1⟩ := cells2 (k14.blk r13b (fun h => h HTn.out))))
      go_ret
      exact ⟨by simp, ext_kept (ext_kept X13 k14 HT2.out) k15 HT2.out⟩
    · have e0i : (wh : Int) % 3 = 2 := by omega
      have e0t : (wh : Int).tmod 3 = 2 := by rw [Int.tmod_eq_emod_of_nonneg (by omega)]; omega
      obtain ⟨s1, s2, s3, s4, PR⟩ := pages_pure (w := 3) (c := bs.take cn) HSG.out HP.out.1 HP.out.2 (by omega) (by rw [HC.out.len]; exact HC3.out)
      have PA := PR.A
      have PB : s1.wre 2 ar 0 cn = 0 := by rw [HAR.out]; have := PR.B; rwa [HC.out.len] at this
      have PB2 : s1.wr 2 ar 0 (bs.take cn) = s2 := by rw [HAR.out]; exact PR.B2
      have PC := PR.C
      have PD : s3.st 3 k q = (s4, 0) := PR.D
      have PE1 : s4.pg 1 k = (((q : Nat) : Int), 0) := by have := PR.E1; simpa using this
      have PE2 : s4.pg 2 k = (((q : Nat) : Int), 0) := by have := PR.E2; simpa using this
      have PF1 : s4.err 2 ar 0 cn = 0 := by rw [HAR.out]; have := PR.F1; rwa [HC.out.len] at this
      have PF2 : s4.rd 2 ar 0 cn = bs.take cn := by rw [HAR.out]; have := PR.F2; rwa [HC.out.len] at this
      have PG1 : s4.cp k p 0 = (s4, 81) := PR.G1
      have PG2 := PR.G2
      have HPR := Lib.hid (And.intro PA (And.intro PB (And.intro PB2 (And.intro PC (And.intro PD (And.intro PE1 (And.intro PE2 (And.intro PF1 (And.intro PF2 (And.intro PG1 PG2))))))))))
      clear PA PB PB2 PC PD PE1 PE2 PF1 PF2 PG1 PG2 PR
      go_upto_region 13 with (fail)
      clear m0 m1 hmin hminN
      obtain ⟨u6, u7⟩ := HU.out
      go_upto_region 15 with (first | (go_at_call 25; (refine (set_any N10.out 3 k q).mono ?_); rw [HPR.out.2.2.2.2.1]; rintro e w11 ⟨rfl, M11, k11⟩; have N11 := Lib.hid M11; clear M11) | (go_at_call 26; (refine (copy_any N9.out k p q).mono ?_); rw [HPR.out.2.2.2.1]; rintro e w10 ⟨rfl, M10, k10⟩; have N10 := Lib.hid M10; clear M10) | (go_at_call 22; (refine (write_any N8.out 2 ar 0 _ (HC.out.ext X8) ar5 (by decide) hcn1).mono ?_); rw [HPR.out.2.1, HPR.out.2.2.1]; rintro e w9 ⟨rfl, M9, k9⟩; have N9 := Lib.hid M9; clear M9) | (go_at_call 25; (refine (set_any NM7.out 2 k p).mono ?_); rw [HPR.out.1]; rintro e w8 ⟨rfl, M8, k8⟩; have N8 := Lib.hid M8; have X8 := ext_kept X7 k8 HT2.out; clear M8))
      clear u6 u7
      have X11 := ext_kept X8 (k9.trans' (k10.trans' k11)) HT2.out
      have kk := k8.trans' (k9.trans' (k10.trans' k11))
      have r11 := kk.blk k7 (fun h => h HTn.out)
      clear k8 k9 k10 k11 kk X8
      go_upto_region 16 with (go_at_call 24; (refine (page_any N11.out 1 k).mono ?_); rw [HPR.out.2.2.2.2.2.1]; rintro e w12 ⟨rfl, rfl⟩)
      go_upto_region 17 with (go_at_call 24; (refine (page_any N11.out 2 k).mono ?_); rw [HPR.out.2.2.2.2.2.2.1]; rintro e w12 ⟨rfl, rfl⟩)
      go_upto_region 18 with (fail)
      have hb1 : bits .and .u8 3 1 = 1 := by kernel_rfl
      have hb2 : bits .and .u8 3 2 = 2 := by kernel_rfl
      obtain ⟨v0, hv0⟩ : ∃ V, V = w11.alloc (.cells #[.int .i64 0, .int .i64 (p : Int)] 56) := ⟨_, rfl⟩
      have y0 : Ext w11 v0 := by rw [hv0]; exact (Ext.refl _).alloc _
      have j0 : v0.heap[w11.heap.size]? = some (.cells #[.int .i64 0, .int .i64 (p : Int)] 56 (0, 0)) := by rw [hv0]; exact heap_alloc_new _ _
      rw [← hv0]
      clear hv0
      obtain ⟨i0, i1⟩ := cells2 j0
      have z0 := blk_free (i := 0) j0
      go_upto_region 20 with (fail)
      obtain ⟨v1, hv1, j1, g1⟩ := set_new 0 (.int .i64 (q : Int)) j0
      rw [← hv1]
      clear hv1 i0 i1 z0
      replace y0 := Ext.of_grown y0 g1 (fun b e => by injection e with e; omega)
      obtain ⟨i0, i1⟩ := cells2 j1
      have z1 := blk_free (i := 1) j1
      go_upto_region 22 with (fail)
      obtain ⟨v2, hv2, j2, g2⟩ := set_new 1 (.int .i64 (q : Int)) j1
      rw [← hv2]
      clear hv2 i0 i1 z1
      replace y0 := Ext.of_grown y0 g2 (fun b e => by injection e with e; omega)
      go_upto_region 22 with (fail)
      have N12 := Lib.hid (N11.out.ext y0)
      obtain ⟨u6, u7⟩ := HU.out
      go_upto_region 23 with (go_at_call 23; (refine (read_any N12.out 2 ar 0 cn ar5 (by decide) HCI.out).mono ?_); rw [HPR.out.2.2.2.2.2.2.2.1, HPR.out.2.2.2.2.2.2.2.2.1]; rintro e w13 ⟨x13, v13, rfl, o13⟩)
      clear u6 u7
      rw [HC.out.len] at o13
      obtain ⟨A13, c13, rfl, _, r13⟩ := rd_own o13 HC.out.byts
      have N13 := Lib.hid (N12.out.ext x13)
      have X13 := X11.trans (y0.trans x13)
      have q1 := str (c := c13) r13
      have q2 := str (c := bc) (HC.out.ext X13)
      have r13b := ((y0.trans x13).block _ (blk_lt r11)).trans r11
      have j13 := (x13.block _ (blk_lt j2)).trans j2
      obtain ⟨i0, i1⟩ := cells2 j13
      obtain ⟨m0, m1⟩ := cells2 r13b
      have q3 := fun W => run_eq2 W (q : Int) (q : Int)
      go_upto_region 99 with (first
        | (go_at_call 26; (refine (copy_any N14.out k p np).mono ?_); rw [HPR.out.2.2.2.2.2.2.2.2.2.2]; rintro e w15 ⟨rfl, M15, k15⟩)
        | (go_at_call 26; (refine (copy_any N13.out k p 0).mono ?_); rw [HPR.out.2.2.2.2.2.2.2.2.2.1]; rintro e w14 ⟨rfl, M14, k14⟩; have N14 := Lib.hid M14; clear M14; obtain ⟨m0, m1⟩ := cells2 (k14.blk r13b (fun h => h HTn.out))))
      go_ret
      exact ⟨by simp, ext_kept (ext_kept X13 k14 HT2.out) k15 HT2.out⟩
end Go.Proofs.Ytjgmnbfadnlikaa
