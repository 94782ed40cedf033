import Derived.Test.YtjgmnbfadnlikaaZH
import Derived.Test.YtjgmnbfadnlikaaReg
set_option linter.unusedVariables false
set_option linter.unusedSimpArgs false
namespace Go.Proofs.Ytjgmnbfadnlikaa
open Go.RowKit
theorem rd_blk {W : World} {g : Nat} {cs : List Int} {t : TypeId} {fr : Nat × Nat} (K : W.heap[g]? = some (.cells (u8s cs).toArray t fr)) (h : Byts cs) : Rd W (some ⟨g, 0, none⟩) cs.length cs :=
  ⟨⟨by simp [u8s], fun _ => ⟨_, rfl, blk_lt K, fun j u hu => by have := cells_of_blk (off := 0) K j u (by simpa using hu); exact this⟩⟩, h⟩
set_option maxRecDepth 100000 in
set_option maxHeartbeats 8000000 in
theorem MemFixed_law (w : World) (m : MP) (sA fA : Option Addr) (sc fc : Nat) (aA : Option Addr) (aN aC : Nat) (l : List Ac) (h : MpR w m sA fA sc fc) (hnc : aN ≤ aC) (hcm : aC ≤ maxLen) (hl : aN = l.length) (hs : Shows w 7 aA aN (l.flatMap Ac.vals)) (hok : ∀ a ∈ l, a.ok w) :
    Calls Try.prog 5 #[.agg #[.int .i64 m.ram, .slice sA m.segs.length sc, .slice fA m.flash.length fc], .slice aA aN aC] w fun e w' => e = .returned (.bool true) ∧ Ext w w' := by
  obtain ⟨w1, hw1⟩ : ∃ V, V = w.alloc (.cells #[.int .i64 m.ram, .slice sA m.segs.length sc, .slice fA m.flash.length fc] 25) := ⟨_, rfl⟩
  have K1 : w1.heap[w.heap.size]? = some (.cells #[.int .i64 m.ram, .slice sA m.segs.length sc, .slice fA m.flash.length fc] 25 (0, 0)) := by rw [hw1]; exact heap_alloc_new _ _
  have x1 : Ext w w1 := by rw [hw1]; exact (Ext.refl _).alloc _
  have HG := Lib.hid (fun W (x : Ext w W) => good_any (h.ext x))
  have HA := Lib.hid (And.intro hs hok)
  have HF := Lib.hid (fun W => few_any (w := W) aA aN aC hnc hcm)
  obtain ⟨an, han⟩ : ∃ an, an = min aN 60 := ⟨_, rfl⟩
  rw [← han] at HF
  have an60 : an ≤ 60 := by omega
  have HAN := Lib.hid (And.intro han hl)
  clear h hs hok hnc hcm han hl
  go_enter Try.func5, Try.ntmps5
  go_upto_region 1 with (fail)
  rw [← hw1]
  clear hw1
  go_upto_region 2 with (go_at_call 9; (refine (shown_any _).mono ?_); rintro e w2 ⟨rfl, x2⟩)
  have K2 := (x2.block _ (blk_lt K1)).trans K1
  go_upto_region 3 with (first | refine wpList_ldrow rfl 25 (.tmp 2) rfl K2 rfl Try.underlying25 rfl (by kernel_rfl) ?_ | (go_at_call 20; (refine (HG.out _ (x1.trans x2)).mono ?_); rintro e w3 ⟨sA3, sc3, rfl, x3, H3⟩))
  obtain ⟨rm, hrm⟩ : ∃ r, r = (m.good m.segs.length).ram := ⟨_, rfl⟩
  obtain ⟨gn, hgn⟩ : ∃ r, r = (m.good m.segs.length).segs.length := ⟨_, rfl⟩
  rw [← hrm, ← hgn]
  obtain ⟨w4, hw4⟩ : ∃ V, V = w3.alloc (.cells #[.int .i64 rm, .slice sA3 gn sc3, .slice none 0 0] 25) := ⟨_, rfl⟩
  have K4 : w4.heap[w3.heap.size]? = some (.cells #[.int .i64 rm, .slice sA3 gn sc3, .slice none 0 0] 25 (0, 0)) := by rw [hw4]; exact heap_alloc_new _ _
  have x4 : Ext w3 w4 := by rw [hw4]; exact (Ext.refl _).alloc _
  rw [← hw4]
  clear hw4
  have H4 := H3.ext x4
  have HRG := Lib.hid (show rm = (m.good m.segs.length).ram ∧ gn = (m.good m.segs.length).segs.length from ⟨hrm, hgn⟩)
  have x04 := x1.trans (x2.trans (x3.trans x4))
  have H4H := Lib.hid H4
  have H3H := Lib.hid H3
  have x03 := x1.trans (x2.trans x3)
  have x34x := x4
  have gn4 : gn ≤ 4 := by rw [hgn]; exact good_len _ _
  clear hrm hgn H3 H4 x3 x4 K2 x2 K1 x1
  obtain ⟨rN, rfl⟩ : ∃ rN : Nat, rm = rN := ⟨rm.toNat, by have := good_ram m m.segs.length; rw [HRG.out.1]; omega⟩
  have x34 := blk_lt K4
  have HX := Lib.hid (And.intro x03 x04)
  obtain ⟨f0, f1, f2⟩ := cells3 K4
  go_upto_region 4 with (fail)
  clear f0 f1 f2
  have x33 : Ext w3 w4 := x34x
  go_loopw [26] (fun v wr => ∃ (i : Nat) (fv : Value) (fl : List FB), v = .int .i64 i ∧ i ≤ gn ∧ fl.length = i ∧ FlR wr w4.heap.size (m.good m.segs.length).segs fv fl ∧ wr.heap[w3.heap.size]? = some (.cells #[.int .i64 (rN : Int), .slice sA3 gn sc3, fv] 25 (0, 0)) ∧ Ext w3 wr ∧ w4.heap.size ≤ wr.heap.size) (fun v _ => gn - (intOf v).toNat)
  case atStart => exact ⟨0, _, [], rfl, Nat.zero_le _, rfl, FlR.nil _ _ _, K4, x33, Nat.le_refl _⟩
  case round =>
    obtain ⟨i, fv, fl, rfl, hi, hfl, F, K, xr, hlo4⟩ := hrel
    obtain ⟨wo, rfl⟩ : ∃ z : World, z = wr := ⟨_, rfl⟩
    obtain ⟨vA, vc, rfl, hvc, hvm, _⟩ := own_form F.own
    rw [hfl] at K F
    by_cases hlt : i < gn
    · have hin : (i : Int) < gn := by omega
      obtain ⟨s0, ln, np, hs0, hln, hnp, l1, l16, n2, n4, hseg⟩ := g0_seg (m := m) (i := i) (by rw [← HRG.out.2]; exact hlt)
      obtain ⟨b, o, hA, _, hr⟩ := Shows.row sm_len (by omega) (H3H.out.segs.ext xr) rfl hs0
      have HF2 := Lib.hid F
      have HK := Lib.hid K
      have HS := Lib.hid (And.intro hs0 hln)
      clear F K hs0 hseg hnp
      subst hA
      go_upto_region 6 with (first | refine wpList_load_mid rfl 54 _ rfl _ _ rfl s0.vals _ hr Try.underlying54 rfl size54 ?_ | refine wpList_stnew rfl 54 _ _ rfl rfl s0.vals rfl rfl size54 rfl (sm_one s0) ?_)
      obtain ⟨w5, hw5⟩ : ∃ V, V = wo.alloc (.cells s0.vals.toArray 54) := ⟨_, rfl⟩
      have k5 : w5.heap[wo.heap.size]? = some (.cells #[.int .i64 s0.len, .int .i64 s0.pages] 54 (0, 0)) := by rw [hw5]; exact heap_alloc_new _ _
      have x5 : Ext wo w5 := by rw [hw5]; exact (Ext.refl _).alloc _
      rw [← hw5]
      clear hw5 hr
      rw [hln] at k5
      obtain ⟨m0, m1⟩ := cells2 k5
      have l0 : (0 : Int) ≤ ln := by omega
      clear hln
      go_upto_region 8 with (at_make; refine wpList_make1 el37 rfl rfl _ _ rfl rfl rfl l0 (by omega) (by omega) ?_; intro w6 hg6 x6 hs6)
      have hg6' : w6.heap[w5.heap.size]? = some (.cells (u8s (zeros ln)).toArray 5 (0, 0)) := by rw [u8s_zeros]; have := hg6.out; simpa using this
      have HG6 := Lib.hid hg6'
      clear hg6 hg6' m0 m1
      obtain ⟨B, hB⟩ : ∃ B, B = w5.heap.size := ⟨_, rfl⟩
      rw [← hB] at HG6 ⊢
      have HB := Lib.hid hB
      clear hB
      go_loopw [36] (fun v wq => ∃ (j : Nat) (bs : List Int), v = .int .i64 j ∧ j ≤ ln ∧ bs.length = ln ∧ Byts bs ∧ wq.heap[B]? = some (.cells (u8s bs).toArray 5 (0, 0)) ∧ Ext w5 wq) (fun v _ => ln - (intOf v).toNat)
      case atStart => exact ⟨0, _, rfl, Nat.zero_le _, zeros_len _, zeros_byts _, HG6.out, x6⟩
      case round =>
        clear HG6
        obtain ⟨j, bs, rfl, hj, hbl, hbb, KB, xq⟩ := hrel
        obtain ⟨wi, rfl⟩ : ∃ z : World, z = wr := ⟨_, rfl⟩
        by_cases hjl : j < ln
        · have hjn : (j : Int) < ln := by omega
          have hu : (u8s bs).toArray[j]? = some (.int .u8 (bs.getD j 0)) := by simp [u8s, List.getElem?_map, List.getD_eq_getElem?_getD, List.getElem?_eq_getElem (show j < bs.length by omega)]
          have c0 := blk_cell (i := j) KB hu
          have z0 := blk_free (i := j) KB
          obtain ⟨y, hy⟩ : ∃ y, y = 17 * i := ⟨_, rfl⟩
          obtain ⟨z, hz⟩ : ∃ z, z = y + j := ⟨_, rfl⟩
          have e1 : (17 : Int) * i = (y : Int) := by omega
          have e2 : (y : Int) + j = (z : Int) := by omega
          have y1 : y < 9223372036854775808 := by omega
          have z1 : z < 9223372036854775808 := by omega
          have hbX := wrap8_byts (z : Int)
          obtain ⟨X, hX⟩ : ∃ X, IntKind.u8.wrap (z : Int) = X := ⟨_, rfl⟩
          rw [hX] at hbX
          have HBX := Lib.hid hbX
          have HKB := Lib.hid KB
          have HBB := Lib.hid hbb
          have HBL := Lib.hid hbl
          clear hy hz KB hu hbX hbb hbl
          have u1 := wri y y1
          have u2 := wri z z1
          clear y1 z1
          go_upto_region 11 with (fail)
          obtain ⟨W, hW, KW, xW⟩ := set_new j (.int .u8 X) HKB.out
          rw [← hW]
          clear hW e1 e2 u1 u2 hX c0 z0
          go_wp2
          go_roundw
          case rel =>
            refine ⟨j + 1, bs.set j X, by go_num, by omega, by rw [List.length_set]; exact HBL.out, ?_, ?_, Ext.of_grown xq xW (fun k e => by injection e with e; rw [← e, HB.out]; exact Nat.le_refl _)⟩
            · intro x hx
              rcases List.mem_or_eq_of_mem_set hx with hx | rfl
              · exact HBB.out x hx
              · exact HBX.out
            · rw [KW]
              congr 2
              simp [u8s, List.map_set]
          case measure => simp [intOf]; omega
        · obtain rfl : j = ln := by omega
          have x05 : Ext wo wi := x5.trans xq
          have K7 := (x05.block _ (blk_lt HK.out)).trans HK.out
          obtain ⟨t0, t1, t2⟩ := cells3 K7
          have HBB := Lib.hid hbb
          have HBL := Lib.hid hbl
          have HKB := Lib.hid KB
          clear hbb hbl KB
          obtain ⟨w7, hw7⟩ : ∃ V, V = wi.alloc (.cells #[.slice (some ⟨B, 0, none⟩) j j] 37) := ⟨_, rfl⟩
          have x7 : Ext wi w7 := by rw [hw7]; exact (Ext.refl _).alloc _
          have sh7 : Shows w7 1 (some ⟨wi.heap.size, 0, none⟩) 1 [.slice (some ⟨B, 0, none⟩) j j] := by rw [hw7]; exact Shows.new1 _ _ _
          have F7 := HF2.out.ext (x05.trans x7)
          have own7 := F7.own
          rw [hfl] at own7
          have oneS : ∀ u ∈ ([.slice (some ⟨B, 0, none⟩) j j] : List Value), u.oneCell' = true := by
            intro u hu
            simp at hu
            subst hu; rfl
          have K8 := (x7.block _ (blk_lt K7)).trans K7
          have HK8 := Lib.hid K8
          have HF7 := Lib.hid F7
          have hlo : w4.heap.size ≤ w7.heap.size := by
            rcases Nat.eq_zero_or_pos i with h0 | h0
            · have := hlo4; have := x05.size; have := x7.size; omega
            · have := hlo4; have := x05.size; have := x7.size; omega
          clear K7 K8 F7
          go_upto_region 13 with (at_builtin; rw [← hw7]; refine wpList_appB el23 rfl _ _ rfl own7 rfl sh7 rfl oneS (le_max (by omega)) (by omega) hlo ?_; intro v9 w9 own9 gr9 at9; obtain ⟨B9, c9, rfl, _, _⟩ := own9.form (by omega); have hne : ∀ q, Value.ownBlock (.slice vA i vc) = some q → w3.heap.size ≠ q := (fun q e => by have := (own7.lt q e).1; omega); have K9 : w9.heap[w3.heap.size]? = _ := (grown_lt HK8.out gr9 (fun e => hne _ e.symm rfl)); obtain ⟨c91, c92, c93⟩ := cells3 K9; have z9 := blk_free (i := 2) K9; have HK9 := Lib.hid K9; clear K9)
          obtain ⟨W, hW, KW, xW⟩ := set_new 2 (.slice (some ⟨B9, 0, none⟩) (i + 1) c9) HK9.out
          rw [← hW]
          clear hW c91 c92 c93 z9
          go_wp2
          go_roundw
          case rel =>
            have hBw : B < wi.heap.size := blk_lt HKB.out
            have r7 : Rd w7 (some ⟨B, 0, none⟩) j bs := by
              have := rd_blk (HKB.out) HBB.out
              rw [HBL.out] at this
              exact this.ext x7
            have F9 := HF7.out.app (B := B) (ln := j) (s := s0) hlo r7 (by rw [HB.out]; have := x5.size; omega) (by have := x7.size; omega) (fun b e h => by have h1 := own_lt HF2.out.own e; rw [← h, HB.out] at h1; have := x5.size; omega) (le_max (by omega)) (by rw [hfl]; exact HS.out.1) HS.out.2.symm (by rw [hfl]; exact own9) gr9 at9
            have F10 := F9.grown xW x34
            refine ⟨i + 1, _, _, by go_num, by omega, by rw [List.length_append, hfl]; rfl, F10, KW, Ext.of_grown (Ext.of_grown (xr.trans (x05.trans x7)) gr9 (fun q e => by have := (own7.lt q e).1; omega)) xW (fun q e => by injection e with e; omega), by have := gr9.size; have := xW.size; omega⟩
          case measure => simp [intOf]; omega
    · obtain rfl : i = gn := by omega
      have sF : Shows wo 1 vA fl.length (fl.flatMap FB.vals) := by
        have h := F.own
        rw [hfl] at h ⊢
        exact Shows.of_own h
      have SF := Lib.hid sF
      have HMP : MpR wo (m.m2 fl) sA3 vA sc3 vc := ⟨H3H.out.segs.ext xr, sF, F.rd, H3H.out.sm, ⟨hvc, hvm⟩⟩
      clear sF
      have hmay := m2_may (m := m) (fl := fl) (by rw [hfl]; exact HRG.out.2) F.len
      have HMPH := Lib.hid HMP
      have HMY := Lib.hid hmay
      have HF2 := Lib.hid F
      have HK := Lib.hid K
      have X3 := HX.out.1.trans xr
      have HX3 := Lib.hid X3
      clear HMP hmay F X3
      go_upto_region 15 with (first | refine wpList_ldrow rfl 25 (.tmp 6) rfl K rfl Try.underlying25 rfl (by kernel_rfl) ?_ | (go_at_call 10; (refine (new_any HMPH.out HMY.out (by rw [HRG.out.1]; rfl) (by rw [HRG.out.2]; rfl) (by rw [← hfl]; rfl)).mono ?_); rintro e w5 ⟨g, va, T, rfl, x5, M5, hT⟩))
      clear K
      obtain ⟨S0, hS0⟩ : ∃ S, S = (m.m2 fl).ms (m.m2 fl).segs.length := ⟨_, rfl⟩
      have M5 : MemC w5 g S0 va T := by rw [hS0]; exact M5
      have NM5 := Lib.hid M5
      have X5 : Ext w w5 := HX3.out.trans x5
      have HT2 := Lib.hid (fun b t (h : T b = some t) => Nat.le_trans HX3.out.size (hT b t h))
      have HTO := Lib.hid hT
      have HS0 := Lib.hid hS0
      clear M5 hT hS0
      go_upto_region 18 with (go_at_call 12; (refine (HF.out _).mono ?_); rintro e w6 ⟨rfl, rfl⟩)
      go_loopw [69] (fun v wr => ∃ (k : Nat) (s : MS), v = .int .i64 k ∧ k ≤ an ∧ MemC wr g s va T ∧ Like S0 s ∧ Kept (fun b => T b ≠ none) w5 wr) (fun v _ => an - (intOf v).toNat)
      case atStart => exact ⟨0, _, rfl, Nat.zero_le _, NM5.out, Like.refl _, Kept.refl _ _⟩
      case round =>
        obtain ⟨k, s, rfl, hk, M, L, kp⟩ := hrel
        obtain ⟨wi, rfl⟩ : ∃ z : World, z = wr := ⟨_, rfl⟩
        by_cases hlt2 : k < an
        · have hkn : (k : Int) < an := by omega
          obtain ⟨y, hy⟩ : ∃ y, l[k]? = some y := ⟨_, List.getElem?_eq_getElem (by have := HAN.out; omega)⟩
          have xw := ext_kept X5 kp HT2.out
          obtain ⟨b, o, hA, hb, hr⟩ := Shows.row ac_len (by omega) (HA.out.1.ext xw) HAN.out.2 hy
          have hyo := Lib.hid (HA.out.2 y (List.mem_of_getElem? hy))
          have HM := Lib.hid M
          have HL := Lib.hid L
          clear M L hy
          subst hA
          go_upto_region 20 with (first | refine wpList_load_mid rfl 39 _ rfl _ _ rfl y.vals _ hr Try.underlying39 rfl size39 ?_ | refine wpList_stnew rfl 39 _ _ rfl rfl y.vals rfl rfl size39 rfl (ac_one y) ?_)
          obtain ⟨w6, hw6⟩ : ∃ V, V = wi.alloc (.cells y.vals.toArray 39) := ⟨_, rfl⟩
          have k6 : w6.heap[wi.heap.size]? = some (.cells y.vals.toArray 39 (0, 0)) := by rw [hw6]; exact heap_alloc_new _ _
          have x6 : Ext wi w6 := by rw [hw6]; exact (Ext.refl _).alloc _
          rw [← hw6]
          clear hw6 hr
          go_wp2_with (first | refine wpList_ldrow rfl 39 (.tmp 14) rfl k6 rfl Try.underlying39 rfl (by kernel_rfl) ?_ | (go_at_call 13; (refine (does_any (HM.out.ext x6) y (hyo.out.ext (xw.trans x6))).mono ?_); rintro e w7 ⟨v, rfl, M7, k7, _⟩; have HM7 := Lib.hid M7; clear M7))
          go_roundw
          case rel => exact ⟨k + 1, _, by go_num, by omega, HM7.out, HL.out.trans (like_act HM.out.ok y), (kp.then x6).trans' k7⟩
          case measure => simp [intOf]; omega
        · obtain rfl : k = an := by omega
          have HM := Lib.hid M
          have HL := Lib.hid L
          have HKP := Lib.hid kp
          have x3i : ∀ W : World, Kept (fun b => T b ≠ none) w5 W → Ext wo W := fun W kk => ext_kept x5 kk HTO.out
          have HXI := Lib.hid x3i
          obtain ⟨f0, f1, f2⟩ := cells3 (((x3i _ kp).block _ (blk_lt HK.out)).trans HK.out)
          clear M L kp x3i
          go_upto_region 23 with (fail)
          clear f0 f1 f2
          go_loopw [80] (fun v wr => ∃ (j : Nat) (s : MS), v = .int .i64 j ∧ j ≤ i ∧ MemC wr g s va T ∧ Like S0 s ∧ Kept (fun b => T b ≠ none) w5 wr) (fun v _ => i - (intOf v).toNat)
          case atStart => exact ⟨0, _, rfl, Nat.zero_le _, HM.out, HL.out, HKP.out⟩
          case round =>
            clear HM HL HKP
            obtain ⟨j, s2, rfl, hj, M2, L2, kp2⟩ := hrel
            obtain ⟨wj, rfl⟩ : ∃ z : World, z = wr := ⟨_, rfl⟩
            have HM := Lib.hid M2
            have HL := Lib.hid L2
            have HKP := Lib.hid kp2
            clear M2 L2 kp2
            by_cases hlt3 : j < i
            · have hjn : (j : Int) < i := by omega
              obtain ⟨sg, hsg⟩ : ∃ sg, (m.good m.segs.length).segs[j]? = some sg := ⟨_, List.getElem?_eq_getElem (by rw [← HRG.out.2]; exact hlt3)⟩
              obtain ⟨f, hf⟩ : ∃ f, fl[j]? = some f := ⟨_, List.getElem?_eq_getElem (by omega)⟩
              have hfn := HF2.out.len j f sg hf hsg
              have hrf := (HF2.out.rd f (List.mem_of_getElem? hf)).1
              obtain ⟨q0, hq0, hp0, hql, _⟩ := m2_seg hsg hf hfn hrf.len
              have hq0' : S0.segs[j]? = some q0 := by rw [HS0.out]; exact hq0
              obtain ⟨s3, e1, e2, e3, e4⟩ := fixed_pure HM.out.ok HL.out hq0' hp0 hrf.len
              have xj := HXI.out _ HKP.out
              obtain ⟨b, o, hA, _, hr⟩ := Shows.row sm_len (by omega) (H3H.out.segs.ext (xr.trans xj)) rfl hsg
              obtain ⟨b2, o2, hA2, _, hr2⟩ := Shows.row fb_len (by omega) SF.out rfl hf
              have q2 := hr2 0 _ rfl
              simp only [Nat.mul_one, Nat.add_zero] at q2
              obtain ⟨fn, hfnE⟩ : ∃ fn, fn = f.n := ⟨_, rfl⟩
              rw [← hfnE] at hfn e2 e3 hrf
              have hq2 : wo.cell? ⟨b2, o2 + j, none⟩ = some (.slice f.A fn f.c) := by rw [hfnE]; exact q2
              have HE := Lib.hid (And.intro e1 (And.intro e2 (And.intro e3 e4)))
              have HRF := Lib.hid hrf
              have hfb : fn ≤ 16 := by have := good_seg hsg; omega
              obtain ⟨ar, har⟩ : ∃ ar, ar = j + 1 := ⟨_, rfl⟩
              have eA : (j : Int) + 1 = (ar : Int) := by omega
              have ar5 : ar < 256 := by have := gn4; omega
              have v1 : ar < 9223372036854775808 := by omega
              have HAR := Lib.hid har
              have hfI : (fn : Int) < 9223372036854775808 := by omega
              have HFI := Lib.hid hfI
              have HFN := Lib.hid hfn
              clear q2 e1 e2 e3 e4 hrf hfnE hr2 hq0 hq0' hp0 hql hsg hf har hfI
              subst hA hA2
              go_upto_region 25 with (first | refine wpList_load_mid rfl 54 _ rfl _ _ rfl sg.vals _ hr Try.underlying54 rfl size54 ?_ | refine wpList_stnew rfl 54 _ _ rfl rfl sg.vals rfl rfl size54 rfl (sm_one sg) ?_)
              obtain ⟨w6, hw6⟩ : ∃ V, V = wj.alloc (.cells sg.vals.toArray 54) := ⟨_, rfl⟩
              have k6 : w6.heap[wj.heap.size]? = some (.cells #[.int .i64 sg.len, .int .i64 sg.pages] 54 (0, 0)) := by rw [hw6]; exact heap_alloc_new _ _
              have x6 : Ext wj w6 := by rw [hw6]; exact (Ext.refl _).alloc _
              rw [← hw6]
              clear hw6 hr
              rw [← hfn] at k6
              clear hfn
              have hT6 : T wj.heap.size = none := by
                rcases e : T wj.heap.size with _ | t
                · rfl
                · have := HM.out.O.lt _ _ e; omega
              have HT6 := Lib.hid hT6
              clear hT6
              go_upto_region 26 with (go_at_call 25; (refine (set_any (HM.out.ext x6) 1 j 0).mono ?_); rw [HE.out.1]; rintro e w7 ⟨rfl, M7, k7⟩; have HM7 := Lib.hid M7; clear M7)
              have k7b := k7.blk k6 (fun h => h HT6.out)
              obtain ⟨m0, m1⟩ := cells2 k7b
              have u1 := wri ar v1
              have u2 := wr8 ar5
              clear v1
              go_upto_region 27 with (go_at_call 23; (refine (read_any HM7.out 1 ar 0 fn ar5 (by decide) HFI.out).mono ?_); rw [HAR.out, HE.out.2.1, HE.out.2.2.1]; rintro e w8 ⟨x8, v8, rfl, o8⟩)
              clear u1 u2 m0 m1
              rw [HRF.out.len] at o8
              obtain ⟨A8, c8, rfl, _, r8⟩ := rd_own o8 HRF.out.byts
              have K58 := ((HKP.out.then x6).trans' k7).then x8
              have xo8 := HXI.out _ K58
              have HM8 := Lib.hid (HM7.out.ext x8)
              have HK8 := Lib.hid K58
              have HL8 := Lib.hid HE.out.2.2.2
              clear K58
              refine wp_region_held_drew (S := Ext w8) (by kernel_rfl) ((Ext.refl _).drew) (fun hHeld => ?_)
              obtain ⟨wD1, hwD⟩ : ∃ V, V = World.drew w8 := ⟨_, rfl⟩
              rw [← hwD]
              clear hHeld
              have zz0 : Ext w8 wD1 := by rw [hwD]; exact (Ext.refl _).drew
              clear hwD
              refine wpAnyH_imp (S' := Ext wD1) (fun W h => Ext.trans zz0 h) _ _ _ _ ?_
              have hHeld := Ext.refl wD1
              refine wpAnyH_take (i := 0) (oi := { dst := some 98, op := Op.move (Operand.tmp 17), type := 29, pos := "law.go:181", after := #[], guard := none }) (v := ?vv2_27_0) rfl (by kernel_rfl) (by kernel_rfl) (by kernel_rfl) (fun _ _ _ h => h) (Or.inl ⟨by rfl, ?yy2_27_0⟩) hHeld ?_
              case yy2_27_0 => (intro W hx; go_simp; try with_reducible rfl)
              simp only [Act.put, List.setIfInBounds_toArray, List.set_cons_zero, List.set_cons_succ]
              refine wpAnyH_take (i := 1) (oi := { dst := some 99, op := Op.binOp BinOp.neq 29 (Operand.tmp 98) (Operand.const (Value.int IntKind.i64 0)) 29, type := 4, pos := "law.go:181", after := #[{ on := 0, ground := Ground.data }], guard := none }) (v := ?vv3_27_1) rfl (by kernel_rfl) (by kernel_rfl) (by kernel_rfl) (fun _ _ _ h => h) (Or.inl ⟨by rfl, ?yy3_27_1⟩) hHeld ?_
              case yy3_27_1 => (intro W hx; go_simp; try with_reducible rfl)
              simp only [Act.put, List.setIfInBounds_toArray, List.set_cons_zero, List.set_cons_succ]
              refine wpAnyH_take (i := 2) (oi := { dst := some 100, op := Op.move (Operand.tmp 99), type := 4, pos := "law.go:181", after := #[{ on := 1, ground := Ground.data }], guard := none }) (v := ?vv4_27_2) rfl (by kernel_rfl) (by kernel_rfl) (by kernel_rfl) (fun _ _ _ h => h) (Or.inl ⟨by rfl, ?yy4_27_2⟩) hHeld ?_
              case yy4_27_2 => (intro W hx; go_simp; try with_reducible rfl)
              simp only [Act.put, List.setIfInBounds_toArray, List.set_cons_zero, List.set_cons_succ]
              refine wpAnyH_take (i := 3) (oi := { dst := some 101, op := Op.move (Operand.tmp 19), type := 29, pos := "law.go:181", after := #[{ on := 2, ground := Ground.guard }], guard := some (2, false) }) (v := ?vv5_27_3) rfl (by kernel_rfl) (by kernel_rfl) (by kernel_rfl) (fun _ _ _ h => h) (Or.inl ⟨by rfl, ?yy5_27_3⟩) hHeld ?_
              case yy5_27_3 => (intro W hx; go_simp; try with_reducible rfl)
              simp only [Act.put, List.setIfInBounds_toArray, List.set_cons_zero, List.set_cons_succ]
              refine wpAnyH_take (i := 4) (oi := { dst := some 102, op := Op.binOp BinOp.neq 29 (Operand.tmp 101) (Operand.const (Value.int IntKind.i64 0)) 29, type := 4, pos := "law.go:181", after := #[{ on := 3, ground := Ground.data }, { on := 2, ground := Ground.guard }], guard := some (2, false) }) (v := ?vv6_27_4) rfl (by kernel_rfl) (by kernel_rfl) (by kernel_rfl) (fun _ _ _ h => h) (Or.inl ⟨by rfl, ?yy6_27_4⟩) hHeld ?_
              case yy6_27_4 => (intro W hx; go_simp; try with_reducible rfl)
              simp only [Act.put, List.setIfInBounds_toArray, List.set_cons_zero, List.set_cons_succ]
              refine wpAnyH_take (i := 5) (oi := { dst := some 103, op := Op.pick (Operand.tmp 100) (Operand.const (Value.bool true)) (Operand.tmp 102), type := 4, pos := "law.go:181", after := #[{ on := 2, ground := Ground.data }, { on := 4, ground := Ground.data }], guard := none }) (v := ?vv7_27_5) rfl (by kernel_rfl) (by kernel_rfl) (by kernel_rfl) (fun _ _ _ h => h) (Or.inl ⟨by rfl, ?yy7_27_5⟩) hHeld ?_
              case yy7_27_5 => (intro W hx; go_simp; try with_reducible rfl)
              simp only [Act.put, List.setIfInBounds_toArray, List.set_cons_zero, List.set_cons_succ]
              refine wpAnyH_take (i := 6) (oi := { dst := some 104, op := Op.move (Operand.tmp 103), type := 4, pos := "law.go:181", after := #[{ on := 5, ground := Ground.data }, { on := 2, ground := Ground.chain }], guard := none }) (v := ?vv8_27_6) rfl (by kernel_rfl) (by kernel_rfl) (by kernel_rfl) (fun _ _ _ h => h) (Or.inl ⟨by rfl, ?yy8_27_6⟩) hHeld ?_
              case yy8_27_6 => (intro W hx; go_simp; try with_reducible rfl)
              simp only [Act.put, List.setIfInBounds_toArray, List.set_cons_zero, List.set_cons_succ]
              refine wpAnyH_take (i := 7) (oi := { dst := some 105, op := Op.move (Operand.tmp 18), type := 37, pos := "law.go:181", after := #[{ on := 6, ground := Ground.guard }], guard := some (6, false) }) (v := ?vv9_27_7) rfl (by kernel_rfl) (by kernel_rfl) (by kernel_rfl) (fun _ _ _ h => h) (Or.inl ⟨by rfl, ?yy9_27_7⟩) hHeld ?_
              case yy9_27_7 => (intro W hx; go_simp; try with_reducible rfl)
              simp only [Act.put, List.setIfInBounds_toArray, List.set_cons_zero, List.set_cons_succ]
              refine wpAnyH_take (i := 8) (oi := { dst := some 106, op := Op.convert 37 9 (Operand.tmp 105), type := 9, pos := "law.go:181", after := #[{ on := 7, ground := Ground.data }, { on := 6, ground := Ground.guard }], guard := some (6, false) }) (v := ?vv10_27_8) rfl (by kernel_rfl) (by kernel_rfl) (by kernel_rfl) (fun _ _ _ h => h) (Or.inl ⟨by rfl, ?yy10_27_8⟩) hHeld ?_
              case yy10_27_8 => (intro W hx; have hz := zz0.trans hx; have s1 := str (c := c8) (r8.ext hz); go_simp; try with_reducible rfl)
              simp only [Act.put, List.setIfInBounds_toArray, List.set_cons_zero, List.set_cons_succ]
              refine wpAnyH_take (i := 9) (oi := { dst := some 107, op := Op.fieldAddr 25 (Operand.tmp 6) 2, type := 0, pos := "law.go:181", after := #[{ on := 6, ground := Ground.guard }], guard := some (6, false) }) (v := ?vv11_27_9) rfl (by kernel_rfl) (by kernel_rfl) (by kernel_rfl) (fun _ _ _ h => h) (Or.inl ⟨by rfl, ?yy11_27_9⟩) hHeld ?_
              case yy11_27_9 => (intro W hx; go_simp; try with_reducible rfl)
              simp only [Act.put, List.setIfInBounds_toArray, List.set_cons_zero, List.set_cons_succ]
              refine wpAnyH_take (i := 10) (oi := { dst := some 108, op := Op.load 23 (Operand.tmp 107), type := 23, pos := "law.go:181", after := #[{ on := 9, ground := Ground.data }, { on := 6, ground := Ground.guard }], guard := some (6, false) }) (v := ?vv12_27_10) rfl (by kernel_rfl) (by kernel_rfl) (by kernel_rfl) (fun _ _ _ h => h) (Or.inl ⟨by rfl, ?yy12_27_10⟩) hHeld ?_
              case yy12_27_10 => (intro W hx; have hz := zz0.trans hx; obtain ⟨f0, f1, f2⟩ := cells3 (((xo8.trans hz).block _ (blk_lt HK.out)).trans HK.out); go_simp; try with_reducible rfl)
              simp only [Act.put, List.setIfInBounds_toArray, List.set_cons_zero, List.set_cons_succ]
              refine wpAnyH_take (i := 11) (oi := { dst := some 109, op := Op.move (Operand.tmp 15), type := 3, pos := "law.go:181", after := #[{ on := 6, ground := Ground.guard }], guard := some (6, false) }) (v := ?vv13_27_11) rfl (by kernel_rfl) (by kernel_rfl) (by kernel_rfl) (fun _ _ _ h => h) (Or.inl ⟨by rfl, ?yy13_27_11⟩) hHeld ?_
              case yy13_27_11 => (intro W hx; go_simp; try with_reducible rfl)
              simp only [Act.put, List.setIfInBounds_toArray, List.set_cons_zero, List.set_cons_succ]
              refine wpAnyH_take (i := 12) (oi := { dst := some 110, op := Op.indexAddr 23 (Operand.tmp 108) (Operand.tmp 109), type := 0, pos := "law.go:181", after := #[{ on := 10, ground := Ground.data }, { on := 11, ground := Ground.data }, { on := 6, ground := Ground.guard }], guard := some (6, false) }) (v := ?vv14_27_12) rfl (by kernel_rfl) (by kernel_rfl) (by kernel_rfl) (fun _ _ _ h => h) (Or.inl ⟨by rfl, ?yy14_27_12⟩) hHeld ?_
              case yy14_27_12 => (intro W hx; go_simp; try with_reducible rfl)
              simp only [Act.put, List.setIfInBounds_toArray, List.set_cons_zero, List.set_cons_succ]
              refine wpAnyH_take (i := 13) (oi := { dst := some 111, op := Op.load 37 (Operand.tmp 110), type := 37, pos := "law.go:181", after := #[{ on := 12, ground := Ground.data }, { on := 6, ground := Ground.guard }], guard := some (6, false) }) (v := ?vv15_27_13) rfl (by kernel_rfl) (by kernel_rfl) (by kernel_rfl) (fun _ _ _ h => h) (Or.inl ⟨by rfl, ?yy15_27_13⟩) hHeld ?_
              case yy15_27_13 => (intro W hx; have hz := zz0.trans hx; have q2 := cell_ext (xo8.trans hz) hq2; go_simp; try with_reducible rfl)
              simp only [Act.put, List.setIfInBounds_toArray, List.set_cons_zero, List.set_cons_succ]
              refine wpAnyH_take (i := 14) (oi := { dst := some 112, op := Op.convert 37 9 (Operand.tmp 111), type := 9, pos := "law.go:181", after := #[{ on := 13, ground := Ground.data }, { on := 6, ground := Ground.guard }], guard := some (6, false) }) (v := ?vv16_27_14) rfl (by kernel_rfl) (by kernel_rfl) (by kernel_rfl) (fun _ _ _ h => h) (Or.inl ⟨by rfl, ?yy16_27_14⟩) hHeld ?_
              case yy16_27_14 => (intro W hx; have hz := zz0.trans hx; have s2 := str (c := f.c) (HRF.out.ext (xo8.trans hz)); go_simp; try with_reducible rfl)
              simp only [Act.put, List.setIfInBounds_toArray, List.set_cons_zero, List.set_cons_succ]
              refine wpAnyH_take (i := 15) (oi := { dst := some 113, op := Op.binOp BinOp.neq 9 (Operand.tmp 106) (Operand.tmp 112) 9, type := 4, pos := "law.go:181", after := #[{ on := 8, ground := Ground.data }, { on := 14, ground := Ground.data }, { on := 6, ground := Ground.guard }], guard := some (6, false) }) (v := ?vv17_27_15) rfl (by kernel_rfl) (by kernel_rfl) (by kernel_rfl) (fun _ _ _ h => h) (Or.inl ⟨by rfl, ?yy17_27_15⟩) hHeld ?_
              case yy17_27_15 => (intro W hx; go_simp; try with_reducible rfl)
              simp only [Act.put, List.setIfInBounds_toArray, List.set_cons_zero, List.set_cons_succ]
              refine wpAnyH_take (i := 16) (oi := { dst := some 114, op := Op.pick (Operand.tmp 104) (Operand.const (Value.bool true)) (Operand.tmp 113), type := 4, pos := "law.go:181", after := #[{ on := 6, ground := Ground.data }, { on := 15, ground := Ground.data }], guard := none }) (v := ?vv18_27_16) rfl (by kernel_rfl) (by kernel_rfl) (by kernel_rfl) (fun _ _ _ h => h) (Or.inl ⟨by rfl, ?yy18_27_16⟩) hHeld ?_
              case yy18_27_16 => (intro W hx; go_simp; try with_reducible rfl)
              simp only [Act.put, List.setIfInBounds_toArray, List.set_cons_zero, List.set_cons_succ]
              refine wpAnyH_done (by kernel_rfl) ?_ _
              have zend := zz0.trans hHeld
              go_wp2
              go_roundw
              case rel => exact ⟨j + 1, _, by go_num, by omega, HM8.out.ext zend, HL8.out, HK8.out.then zend⟩
              case measure => simp [intOf]; omega
            · obtain rfl : j = i := by omega
              go_wp2
              go_ret
              exact ⟨rfl, ext_kept X5 HKP.out HT2.out⟩
end Go.Proofs.Ytjgmnbfadnlikaa
