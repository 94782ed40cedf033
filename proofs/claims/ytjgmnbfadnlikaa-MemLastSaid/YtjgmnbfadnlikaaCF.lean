import Derived.Test.YtjgmnbfadnlikaaCE
set_option linter.unusedVariables false
set_option linter.unusedSimpArgs false
namespace Go.Proofs.Ytjgmnbfadnlikaa
open Go.RowKit
/-- what a read of all tells: bytes P behind was, Q behind m. -/
structure LastA (s s' : MS) (who : Int) (k n : Nat) (P Q : List Int) : Prop where
  E1 : s.err who k 0 n = 0
  R1 : s.rd who k 0 n = P
  E2 : s'.err who k 0 n = 0
  R2 : s'.rd who k 0 n = Q
  p : P.length = n
  q : Q.length = n
  bp : Byts P
  bq : Byts Q
theorem last_area {s : MS} {wh : Int} {area at_ : Nat} {b : List Int} (h : s.ok) (h' : (s.wr wh area at_ b).ok) {who : Int} (hw : who = 1 ∨ who = 2) {k n : Nat} (hk : k ≤ s.segs.length) (hn : (s.vb who k).length = n) (hl : (s.wr wh area at_ b).segs.length = s.segs.length) :
    ∃ P Q, LastA s (s.wr wh area at_ b) who k n P Q ∧ (¬ (s.wre wh area at_ b.length = 0 ∧ k = area ∧ s.vt who k = s.vt wh k) → Q = P) ∧ (s.wre wh area at_ b.length = 0 → k = area → s.vt who k = s.vt wh k → Q = splice P at_ b ∧ at_ + b.length ≤ n) := by
  have hn' : ((s.wr wh area at_ b).vb who k).length = n := by
    by_cases hc : s.wre wh area at_ b.length = 0 ∧ k = area ∧ s.vt who k = s.vt wh k
    · obtain ⟨h0, rfl, hv⟩ := hc
      obtain ⟨e, hf⟩ := wr_yes h h0 hv
      rw [e, length_splice _ _ _ hf, hn]
    · rw [wr_same h hc, hn]
  obtain ⟨a1, a2⟩ := rd_all hw hk hn
  obtain ⟨b1, b2⟩ := rd_all hw (s := s.wr wh area at_ b) (by rw [hl]; exact hk) hn'
  refine ⟨_, _, ⟨a1, a2, b1, b2, hn, hn', vb_byts h who k, vb_byts h' who k⟩, fun hc => wr_same h hc, ?_⟩
  rintro h0 rfl hv
  obtain ⟨e, hf⟩ := wr_yes h h0 hv
  exact ⟨e, by rw [← hn]; exact hf⟩
theorem wr_ok {w : World} {g : Nat} {s : MS} {va : Tg → Value} {T : Nat → Option Tg} (h : MemC w g s va T) : s.ok := h.ok
set_option maxRecDepth 100000 in
set_option maxHeartbeats 8000000 in
theorem MemLast_law (w : World) (m : MP) (sA fA : Option Addr) (sc fc : Nat) (aA : Option Addr) (aN aC : Nat) (l : List Ac) (a : Ac) (h : MpR w m sA fA sc fc) (hnc : aN ≤ aC) (hcm : aC ≤ maxLen) (hl : aN = l.length) (hs : Shows w 7 aA aN (l.flatMap Ac.vals)) (hok : ∀ a ∈ l, a.ok w) (ha : a.ok w) :
    Calls Try.prog 4 #[.agg #[.int .i64 m.ram, .slice sA m.segs.length sc, .slice fA m.flash.length fc], .slice aA aN aC, .agg a.vals.toArray] w fun e w' => e = .returned (.bool true) ∧ Ext w w' := by
  obtain ⟨wa, hwa⟩ : ∃ V, V = w.alloc (.cells #[.int .i64 m.ram, .slice sA m.segs.length sc, .slice fA m.flash.length fc] 25) := ⟨_, rfl⟩
  have xa : Ext w wa := by rw [hwa]; exact (Ext.refl _).alloc _
  have Ka : wa.heap[w.heap.size]? = some (.cells #[.int .i64 m.ram, .slice sA m.segs.length sc, .slice fA m.flash.length fc] 25 (0, 0)) := by rw [hwa]; exact heap_alloc_new _ _
  obtain ⟨w1, hw1⟩ : ∃ V, V = wa.alloc (.cells a.vals.toArray 39) := ⟨_, rfl⟩
  have xa1 : Ext wa w1 := by rw [hw1]; exact (Ext.refl _).alloc _
  have K1 := (xa1.block _ (blk_lt Ka)).trans Ka
  have hsz : wa.heap.size = w.heap.size + 1 := by rw [hwa]; exact Array.size_push _
  have B1 : w1.heap[w.heap.size + 1]? = some (.cells #[.int .u8 a.k, .int .u8 a.who, .int .u8 (a.area : Int), .int .u32 (a.at_ : Int), .int .i64 a.n, .int .i64 a.m, .slice a.A a.bn a.c] 39 (0, 0)) := by rw [← hsz, hw1]; exact heap_alloc_new _ _
  have x1 : Ext w w1 := xa.trans xa1
  have HG := Lib.hid (fun W (x : Ext w W) => good_any (h.ext x))
  have HA := Lib.hid (And.intro hs hok)
  have HB := Lib.hid ha
  have HB1 := Lib.hid B1
  have HF := Lib.hid (fun W => few_any (w := W) aA aN aC hnc hcm)
  obtain ⟨an, han⟩ : ∃ an, an = min aN 60 := ⟨_, rfl⟩
  rw [← han] at HF
  have an60 : an ≤ 60 := by omega
  have HAN := Lib.hid (And.intro han hl)
  have szab := blk_lt Ka
  clear h hs hok hnc hcm han hl ha B1 Ka xa1 hsz szab
  go_enter Try.func4, Try.ntmps4
  go_upto_region 1 with (fail)
  rw [← hwa]
  rw [← hw1]
  clear hw1 hwa
  have hx1 := Lib.hid x1
  go_upto_region 2 with (go_at_call 9; (refine (shown_any _).mono ?_); rintro e w2 ⟨rfl, x2⟩)
  have K2 := (x2.block _ (blk_lt K1)).trans K1
  go_upto_region 3 with (first | refine wpList_ldrow rfl 25 (.tmp 3) rfl K2 rfl Try.underlying25 rfl (by kernel_rfl) ?_ | (go_at_call 20; (refine (HG.out _ (x1.trans x2)).mono ?_); rintro e w3 ⟨sA3, sc3, rfl, x3, H3⟩))
  obtain ⟨rm, hrm⟩ : ∃ r, r = (m.good m.segs.length).ram := ⟨_, rfl⟩
  obtain ⟨gn, hgn⟩ : ∃ r, r = (m.good m.segs.length).segs.length := ⟨_, rfl⟩
  rw [← hrm, ← hgn]
  obtain ⟨w4, hw4⟩ : ∃ V, V = w3.alloc (.cells #[.int .i64 rm, .slice sA3 gn sc3, .slice none 0 0] 25) := ⟨_, rfl⟩
  have K4 : w4.heap[w3.heap.size]? = some (.cells #[.int .i64 rm, .slice sA3 gn sc3, .slice none 0 0] 25 (0, 0)) := by rw [hw4]; exact heap_alloc_new _ _
  have x4 : Ext w3 w4 := by rw [hw4]; exact (Ext.refl _).alloc _
  rw [← hw4]
  clear hw4
  have H4 := H3.ext x4
  have HRG := Lib.hid (show rm = (m.good m.segs.length).ram ∧ gn = (m.good m.segs.length).segs.length from ⟨hrm, hgn⟩)
  have x04 := x1.trans (x2.trans (x3.trans x4))
  have H4H := Lib.hid H4
  have gn4 : gn ≤ 4 := by rw [hgn]; exact good_len _ _
  have HB4 := Lib.hid (((x2.trans (x3.trans x4)).block _ (blk_lt HB1.out)).trans HB1.out)
  have HK4 := Lib.hid K4
  have sz14 : w.heap.size + 1 < w4.heap.size := by have := blk_lt HB4.out; exact this
  clear hrm hgn H3 H4 x3 x4 K2 x2 K1 x1 HB1
  obtain ⟨rN, rfl⟩ : ∃ rN : Nat, rm = rN := ⟨rm.toNat, by have := good_ram m m.segs.length; rw [HRG.out.1]; omega⟩
  go_upto_region 4 with (first | refine wpList_ldrow rfl 25 (.tmp 8) rfl K4 rfl Try.underlying25 rfl (by kernel_rfl) ?_ | (go_at_call 10; (refine (new_any H4H.out (good_may _ _) (by rw [HRG.out.1]) (by rw [HRG.out.2]) rfl).mono ?_); rintro e w5 ⟨g, va, T, rfl, x5, M5, hT⟩))
  have M5 : MemC w5 g m.g0 va T := M5
  have K5 := (x5.block _ (blk_lt K4)).trans K4
  have B5 := (x5.block _ (blk_lt HB4.out)).trans HB4.out
  have NM5 := Lib.hid M5
  have HT := Lib.hid hT
  have X5 : Ext w w5 := x04.trans x5
  have HT2 := Lib.hid (fun b t (h : T b = some t) => Nat.le_trans x04.size (HT.out b t h))
  have hT4 : ∀ b, T b ≠ none → w4.heap.size ≤ b := fun b hb => by obtain ⟨t, ht⟩ := Option.ne_none_iff_exists'.1 hb; exact HT.out b t ht
  have HT4 := Lib.hid hT4
  have HK5 := Lib.hid (And.intro K5 B5)
  have x34 := blk_lt K4
  clear M5 hT K4 hT4 K5 B5
  go_upto_region 7 with (go_at_call 12; (refine (HF.out _).mono ?_); rintro e w6 ⟨rfl, rfl⟩)
  go_loopw [46] (fun v wr => ∃ (k : Nat) (s : MS), v = .int .i64 k ∧ k ≤ an ∧ MemC wr g s va T ∧ Like m.g0 s ∧ Kept (fun b => T b ≠ none) w5 wr) (fun v _ => an - (intOf v).toNat)
  case atStart => exact ⟨0, _, rfl, Nat.zero_le _, NM5.out, Like.refl _, Kept.refl _ _⟩
  case round =>
    obtain ⟨k, s, rfl, hk, M, L, kp⟩ := hrel
    by_cases hlt : k < an
    · have hkn : (k : Int) < an := by omega
      obtain ⟨y, hy⟩ : ∃ y, l[k]? = some y := ⟨_, List.getElem?_eq_getElem (by have := HAN.out; omega)⟩
      have xw := ext_kept X5 kp HT2.out
      obtain ⟨b, o, hA, hb, hr⟩ := Shows.row ac_len (by omega) (HA.out.1.ext xw) HAN.out.2 hy
      have hyo := Lib.hid (HA.out.2 y (List.mem_of_getElem? hy))
      have HM := Lib.hid M
      have HL := Lib.hid L
      clear M L hy
      subst hA
      go_upto_region 9 with (first | refine wpList_load_mid rfl 39 _ rfl _ _ rfl y.vals _ hr Try.underlying39 rfl size39 ?_ | refine wpList_stnew rfl 39 _ _ rfl rfl y.vals rfl rfl size39 rfl (ac_one y) ?_)
      obtain ⟨w6, hw6⟩ : ∃ V, V = wr.alloc (.cells y.vals.toArray 39) := ⟨_, rfl⟩
      have k6 : w6.heap[wr.heap.size]? = some (.cells y.vals.toArray 39 (0, 0)) := by rw [hw6]; exact heap_alloc_new _ _
      have x6 : Ext wr w6 := by rw [hw6]; exact (Ext.refl _).alloc _
      rw [← hw6]
      clear hw6 hr
      go_wp2_with (first | refine wpList_ldrow rfl 39 (.tmp 12) rfl k6 rfl Try.underlying39 rfl (by kernel_rfl) ?_ | (go_at_call 13; (refine (does_any (HM.out.ext x6) y (hyo.out.ext (xw.trans x6))).mono ?_); rintro e w7 ⟨v, rfl, M7, k7, _⟩; have HM7 := Lib.hid M7; clear M7))
      go_roundw
      case rel => exact ⟨k + 1, _, by go_num, by omega, HM7.out, HL.out.trans (like_act HM.out.ok y), (kp.then x6).trans' k7⟩
      case measure => simp [intOf]; omega
    · obtain rfl : k = an := by omega
      have HM := Lib.hid M
      have HL := Lib.hid L
      obtain ⟨wo, rfl⟩ : ∃ z : World, z = wr := ⟨_, rfl⟩
      have Xo := ext_kept X5 kp HT2.out
      have HKP := Lib.hid kp
      have Ko : wo.heap[w3.heap.size]? = some (.cells #[.int .i64 (rN : Int), .slice sA3 gn sc3, .slice none 0 0] 25 (0, 0)) := kp.blk HK5.out.1 (fun h => by have := HT4.out _ h; have := x34; omega)
      have Bo := kp.blk HK5.out.2 (fun h => by have := HT4.out _ h; omega)
      have HKo := Lib.hid (And.intro Ko Bo)
      clear M L kp Ko Bo
      go_upto_region 12 with (go_at_call 21; (refine (clone_any HM.out).mono ?_); rintro e w7 ⟨g2, va2, T2, rfl, x7, M7, hT7⟩)
      have X7 := Xo.trans x7
      have HM7 := Lib.hid (HM.out.ext x7)
      have HC7 := Lib.hid M7
      have K7 := (x7.block _ (blk_lt HKo.out.1)).trans HKo.out.1
      have B7 := (x7.block _ (blk_lt HKo.out.2)).trans HKo.out.2
      have HK7 := Lib.hid (And.intro K7 B7)
      have hdis : ∀ b t, T2 b = some t → ¬ T b ≠ none := fun b t ht hb => by
        obtain ⟨t', ht'⟩ := Option.ne_none_iff_exists'.1 hb
        have h1 := HM.out.O.lt _ _ ht'
        have h2 := hT7 _ _ ht
        omega
      have HDI := Lib.hid hdis
      obtain ⟨kb, hkb⟩ : ∃ kb, kb = min a.bn 20 := ⟨_, rfl⟩
      have hle := HB.out.le
      have hcm := HB.out.cm
      have hlen := HB.out.rd.len
      unfold maxLen at hcm
      have hmin : (if (20 : Int) < a.bn then (20 : Int) else a.bn) = kb := by split <;> omega
      have hkc : kb ≤ a.c := by omega
      have hkc' : (kb : Int) ≤ a.c := by omega
      have hrd := Lib.hid (HB.out.rd.take (k := kb) (by omega))
      have hk300 : kb ≤ 20 := by omega
      clear hle hcm hlen hkb M7 K7 hT7 hdis
      obtain ⟨f0, f1, f2, f3, f4, f5, f6⟩ := cells7 B7
      go_upto_region 13 with (fail)
      clear f0 f4 f5 f6 hkc hkc' hmin B7
      obtain ⟨bs, hbs⟩ : ∃ bs, bs = a.bs.take kb := ⟨_, rfl⟩
      rw [← hbs] at hrd
      clear hbs
      have X47 := Lib.hid ((ext_kept x5 HKP.out HT.out).trans x7)
      have zz0 := Ext.refl w7
      go_upto_region 14 with (go_at_call 22; (refine (write_any HM7.out a.who a.area a.at_ _ (hrd.out.ext X7) HB.out.area HB.out.at_ (by omega)).mono ?_); rintro e w8 ⟨rfl, M2, k2⟩)
      clear f1 f2 f3
      have HKP8 := Lib.hid k2
      have M8 := Lib.hid M2
      have kk := (Kept.of_ext (F := fun b => T b ≠ none) zz0).trans' k2
      have C8 := Lib.hid (HC7.out.kept kk HDI.out)
      have x48 : Ext w4 w8 := ext_kept X47.out kk HT.out
      have hK8 := And.intro ((x48.block _ (blk_lt HK4.out)).trans HK4.out) ((x48.block _ (blk_lt HB4.out)).trans HB4.out)
      have HK8 := Lib.hid hK8
      have X8 : Ext w w8 := ext_kept X7 kk HT2.out
      obtain ⟨f0, f1, f2⟩ := cells3 hK8.1
      have HX48 := Lib.hid x48
      have HS1 := Lib.hid (show s.ok ∧ s.segs.length = gn from ⟨HM.out.ok, by rw [HL.out.n, HRG.out.2]; exact g0_len m⟩)
      have HS2 := Lib.hid (show (s.wr a.who a.area a.at_ bs).segs.length = s.segs.length from (like_wr HM.out.ok a.who a.area a.at_ bs).n)
      obtain ⟨fI, hfI⟩ : ∃ fI, fI = s.wre a.who a.area a.at_ kb := ⟨_, rfl⟩
      rw [← hfI]
      have HFI := Lib.hid hfI
      obtain ⟨g1, hg1⟩ : ∃ g1, g1 = gn + 1 := ⟨_, rfl⟩
      have e1 : (gn : Int) + 1 = (g1 : Int) := by omega
      have hg5 : g1 ≤ 5 := by omega
      have HG1 := Lib.hid hg1
      clear hfI kk M2 k2 x48 hK8 hg1
      go_upto_region 15 with (fail)
      clear f0 f1 f2
      go_loopw [76] (fun v wr => ∃ (k : Nat), v = .int .i64 k ∧ k ≤ g1 ∧ Ext w8 wr) (fun v _ => g1 - (intOf v).toNat)
      case atStart => exact ⟨0, rfl, Nat.zero_le _, Ext.refl _⟩
      case round =>
        obtain ⟨k, rfl, hk, xk⟩ := hrel
        obtain ⟨wk, rfl⟩ : ∃ z : World, z = wr := ⟨_, rfl⟩
        by_cases hltk : k < g1
        · have hkn : (k : Int) < g1 := by omega
          have hkg : k ≤ gn := by have := HG1.out; omega
          have hks : k ≤ s.segs.length := by rw [HS1.out.2]; exact hkg
          go_upto_region 18 with (fail)
          obtain ⟨w9, hw9⟩ : ∃ V, V = wk.alloc (.cells #[.int .u8 1, .int .u8 2] 5) := ⟨_, rfl⟩
          have K9 : w9.heap[wk.heap.size]? = some (.cells #[.int .u8 1, .int .u8 2] 5 (0, 0)) := by rw [hw9]; exact heap_alloc_new _ _
          have x9 : Ext wk w9 := by rw [hw9]; exact (Ext.refl _).alloc _
          rw [← hw9]
          clear hw9 hkn
          have x89 := xk.trans x9
          have HK9 := Lib.hid K9
          clear K9
          go_loopw [81] (fun v wq => ∃ (j : Nat), v = .int .i64 j ∧ j ≤ 2 ∧ Ext w9 wq) (fun v _ => 2 - (intOf v).toNat)
          case atStart => exact ⟨0, rfl, Nat.zero_le _, Ext.refl _⟩
          case round =>
            obtain ⟨j, rfl, hj, xj⟩ := hrel
            obtain ⟨wi, rfl⟩ : ∃ z : World, z = wr := ⟨_, rfl⟩
            by_cases hltj : j < 2
            · have hjn : (j : Int) < 2 := by omega
              obtain ⟨who, hwho, hw⟩ : ∃ who : Int, wi.cell? ⟨wk.heap.size, j, none⟩ = some (.int .u8 who) ∧ (who = 1 ∨ who = 2) := by
                have K9i := (xj.block _ (blk_lt HK9.out)).trans HK9.out
                rcases (show j = 0 ∨ j = 1 by omega) with rfl | rfl
                · exact ⟨1, blk_cell K9i rfl, .inl rfl⟩
                · exact ⟨2, blk_cell K9i rfl, .inr rfl⟩
              go_upto_region 20 with (fail)
              clear hwho hjn
              obtain ⟨f0, f1, f2⟩ := cells3 (((x89.trans xj).block _ (blk_lt HK8.out.1)).trans HK8.out.1)
              by_cases h0 : k = 0
              · have hk0 : ¬ (0 : Int) < k := by omega
                have hk0' : ¬ 0 < k := by omega
                have H0 := Lib.hid h0
                clear h0
                go_upto_region 23 with (fail)
                have h0 := H0.out
                clear f0 f1 f2
                obtain ⟨kz, hkz⟩ : ∃ kz, ((k : Int) == 0) = kz := ⟨_, rfl⟩
                have hkz2 : decide ((k : Int) = 0) = kz := hkz
                have HKZ := Lib.hid (show kz = true by rw [← hkz, h0]; rfl)
                have hrN : rN ≤ 64 := by have := good_ram m m.segs.length; have h2 := HRG.out.1; omega
                have hvl : (s.vb who k).length = rN := by
                  unfold MS.vb
                  rw [if_pos h0, HL.out.ram]
                  show (zeros _).length = rN
                  rw [zeros_len, ← HRG.out.1]; rfl
                obtain ⟨nn, rfl⟩ : ∃ nn, nn = rN := ⟨_, rfl⟩
                have hnb : nn ≤ 1024 := by omega
                have HSM := Lib.hid (show fI = 0 → s.vt who k = s.vt a.who k from fun _ => by rw [h0]; exact vt_zero _ _ _)
                clear h0 hrN
                obtain ⟨P, Q, hL, hno, hyes⟩ := last_area (wh := a.who) (area := a.area) (at_ := a.at_) (b := bs) HS1.out.1 M8.out.ok hw (k := k) (n := nn) hks hvl HS2.out
                have hlb := hrd.out.len
                rw [hlb, ← HFI.out] at hno hyes
                have LA := Lib.hid hL
                have LN := Lib.hid hno
                have LY := Lib.hid hyes
                have hkb : k < 256 := by omega
                have HKB := Lib.hid hkb
                have HNN := Lib.hid (show (nn : Int) < 9223372036854775808 by omega)
                clear hL hno hyes hlb
                have u3 := wr8 hkb
                clear hkb
                go_upto_region 24 with (go_at_call 23; (refine (read_any (C8.out.ext (x89.trans xj)) who k 0 nn HKB.out (by decide) HNN.out).mono ?_); rw [LA.out.E1, LA.out.R1]; rintro e w10 ⟨x10, v10, rfl, o10⟩)
                rw [LA.out.p] at o10
                obtain ⟨A10, c10, rfl, hc10, r10⟩ := rd_own o10 LA.out.bp
                go_upto_region 25 with (go_at_call 23; (refine (read_any (M8.out.ext (x89.trans (xj.trans x10))) who k 0 nn HKB.out (by decide) HNN.out).mono ?_); rw [LA.out.E2, LA.out.R2]; rintro e w11 ⟨x11, v11, rfl, o11⟩)
                clear u3
                rw [LA.out.q] at o11
                obtain ⟨A11, c11, rfl, hc11, r11⟩ := rd_own o11 LA.out.bq
                go_upto_region 27 with (fail)
                go_upto_region 32 with (fail)
                clear hkz hkz2 hk0 hk0'
                obtain rfl := HKZ.out
                have X8j := x89.trans xj
                have B11 := ((X8j.trans (x10.trans x11)).block _ (blk_lt HK8.out.2)).trans HK8.out.2
                obtain ⟨e0, e1, e2, e3, e4, e5, e6⟩ := cells7 B11
                by_cases hf0 : fI = 0
                · subst hf0
                  have HFZ := Lib.hid (show (0 : Int) = 0 from rfl)
                  by_cases hka : k = a.area
                  · obtain rfl : k = a.area := hka
                    have HKA := Lib.hid (show a.area = a.area from rfl)
                    have hfz := HFZ.out
                    have hka := HKA.out
                    have hvs := HSM.out hfz
                    have HV := Lib.hid (And.intro hfz (And.intro hka hvs))
                    have uar : IntKind.i64.wrap (a.area : Int) = a.area := wri a.area (by have := HB.out.area; omega)
                    go_upto_region 33 with (fail)
                    clear uar hfz hka hvs e0 e1 e2 e4 e5 e6
                    have hfz := HV.out.1
                    have hka := HV.out.2.1
                    have hvs := HV.out.2.2
                    obtain ⟨hQ, hfit⟩ := LY.out hfz hka hvs
                    have hcc := hc10
                    have hlb := hrd.out.len
                    obtain ⟨z, hz⟩ : ∃ z, z = a.at_ + kb := ⟨_, rfl⟩
                    have hzI : (a.at_ : Int) + kb = (z : Int) := by omega
                    have hzn : ¬ ((nn : Int) < z) := by omega
                    have z63 : z < 9223372036854775808 := by omega
                    have a63 : a.at_ < 9223372036854775808 := by omega
                    have an1 : a.at_ ≤ nn := by omega
                    have an2 : (a.at_ : Int) ≤ nn := by omega
                    have an3 : a.at_ ≤ c10 := by omega
                    have an4 : (a.at_ : Int) ≤ c10 := by omega
                    have an5 : nn ≤ c10 := hc10
                    have an6 : (nn : Int) ≤ c10 := by omega
                    have HFT := Lib.hid (And.intro hfit (And.intro hz hQ))
                    clear hfit hz hcc hQ hlb hfz hka hvs
                    have u5 := wri z z63
                    have u6 := wri a.at_ a63
                    clear z63 a63
                    go_upto_region 35 with (fail)
                    clear hzI hzn u5 u6
                    have hmin36 := Lib.hid (show kb = min kb (nn - a.at_) by have := HFT.out.1; omega)
                    have B11 := ((X8j.trans (x10.trans x11)).block _ (blk_lt HK8.out.2)).trans HK8.out.2
                    obtain ⟨e0, e1, e2, e3, e4, e5, e6⟩ := cells7 B11
                    have hdp : 0 < kb → ∀ g c', Value.slice A10 nn c10 = .slice (some ⟨g, 0, none⟩) nn c' → (if c10 = a.at_ then A10 else Option.map (fun x => x.add a.at_) A10) = some ⟨g, a.at_, none⟩ := by
                      intro h0 g c' e
                      injection e with e1' e2' e3'
                      rw [e1']
                      exact at_off (by have := HFT.out.1; omega)
                    have HDP := Lib.hid hdp
                    have HO10 := Lib.hid (own_ext o10 x11)
                    clear e0 e1 e2 e4 e5 e6 hdp B11
                    have xE := Ext.refl w11
                    go_upto_region 36 with (refine wpList_copyO rfl _ _ _ _ rfl 5 Try.underlying37 size5 rfl rfl (off := a.at_) (m := kb) hmin36.out (own_ext HO10.out xE) (by exact HFT.out.1) HDP.out (hrd.out.ext ((X8.trans (x89.trans xj)).trans (x10.trans (x11.trans xE)))).shows (u8s_one _) ?_; intro w12 own12 x12)
                    clear e3
                    have e1 : splice (u8s P) a.at_ ((u8s bs).take kb) = u8s Q := by rw [List.take_of_length_le (by simp [u8s, hrd.out.len]), u8s_splice, ← HFT.out.2.2]
                    rw [e1] at own12
                    have xg : Ext w9 w12 := Ext.of_grown ((xj.trans (x10.trans x11)).trans xE) x12 (fun b e => Nat.le_trans xj.size (o10.lt b e).1)
                    have o11' := own_keptF (own_ext o11 xE) (Kept.of_grown (F := fun b => Value.ownBlock (.slice A10 nn c10) = some b) x12 (fun b e => e)) (fun b hb hF => by have h1 := (o10.lt b hF).2; have h2 := (o11.lt b hb).1; omega)
                    have s1 := str (c := c10) (⟨Shows.of_own own12, r11.byts⟩ : Rd w12 A10 nn Q)
                    have s2 := str (c := c11) (⟨Shows.of_own o11', r11.byts⟩ : Rd w12 A11 nn Q)
                    go_wp2
                    go_roundw
                    case rel => exact ⟨j + 1, by go_num, by omega, xg⟩
                    case measure => simp [intOf]; omega
                  · have hb2 : ((k : Int) == (a.area : Int)) = false := by simp; omega
                    have hb3 : decide ((k : Int) = (a.area : Int)) = false := by simp; omega
                    have hb4 : ¬ ((k : Int) = (a.area : Int)) := by omega
                    have HPQ := Lib.hid (LN.out (fun h => hka h.2.1))
                    clear e0 e1 e3 e4 e5 e6
                    have uar : IntKind.i64.wrap (a.area : Int) = a.area := wri a.area (by have := HB.out.area; omega)
                    go_upto_region 36 with (fail)
                    clear uar e2
                    have s1 := str (c := c10) (r10.ext x11)
                    have s2 := str (c := c11) r11
                    rw [HPQ.out] at s2
                    go_wp2
                    go_roundw
                    case rel => exact ⟨j + 1, by go_num, by omega, xj.trans (x10.trans x11)⟩
                    case measure => simp [intOf]; omega
                · have hb1 : (fI == 0) = false := by simpa using hf0
                  have HPQ := Lib.hid (LN.out (fun h => hf0 h.1))
                  clear e0 e1 e3 e4 e5 e6
                  go_upto_region 36 with (fail)
                  clear e2
                  have s1 := str (c := c10) (r10.ext x11)
                  have s2 := str (c := c11) r11
                  rw [HPQ.out] at s2
                  go_wp2
                  go_roundw
                  case rel => exact ⟨j + 1, by go_num, by omega, xj.trans (x10.trans x11)⟩
                  case measure => simp [intOf]; omega
              · obtain ⟨i, hi⟩ : ∃ i, k = i + 1 := ⟨k - 1, by omega⟩
                have hig : i < gn := by omega
                obtain ⟨s0, ln, np, hs0, hln, hnp, l1, l16, n2, n4, hseg⟩ := g0_seg (m := m) (i := i) (by rw [← HRG.out.2]; exact hig)
                obtain ⟨q, hq, hql, hqn, _⟩ := HL.out.sg i _ hseg
                obtain ⟨b, o, hA3, _, hr3⟩ := Shows.row sm_len (by omega) (H4H.out.segs.ext (HX48.out.trans (x89.trans xj))) rfl hs0
                have m0 := hr3 0 _ rfl
                simp only [Nat.add_zero] at m0
                rw [hln] at m0
                have hk0 : (0 : Int) < k := by omega
                have hk0N : 0 < k := by omega
                have hki : (k : Int) - 1 = (i : Int) := by omega
                have hiI : (i : Int) < gn := by omega
                have i5 : i < 9223372036854775808 := by omega
                have hkq := HS1.out.1.g q (List.mem_of_getElem? hq)
                obtain ⟨nn, hnn⟩ : ∃ nn, nn = ln := ⟨_, rfl⟩
                have hvl : (s.vb who k).length = nn := by
                  rw [hi, vb_seg hq]
                  have hs := hkq.see who
                  have hp : q.pages[q.see who]? = some (q.pages.getD (q.see who) []) := by rw [List.getD_eq_getElem?_getD, List.getElem?_eq_getElem hs]; rfl
                  rw [hkq.pl _ (List.mem_of_getElem? hp), hql, hnn]
                have hnb : nn ≤ 1024 := by omega
                obtain ⟨q', hq', qa, qx⟩ := wr_see a.who a.area a.at_ bs hq
                have hsee : ∀ w, q'.see w = q.see w := fun w => by unfold Sg.see; rw [qa, qx]
                have P1 := pg_seg hq' who hw
                have P2 : fI = 0 → (s.wr a.who a.area a.at_ bs).pg a.who i = ((q'.see a.who : Int), 0) := fun h => pg_seg hq' a.who (wr_fit (b := bs) (by rw [hrd.out.len, ← HFI.out]; exact h)).1
                obtain ⟨pw, hpw⟩ : ∃ pw, pw = ((s.wr a.who a.area a.at_ bs).pg a.who i).1 := ⟨_, rfl⟩
                obtain ⟨pe, hpe⟩ : ∃ pe, pe = ((s.wr a.who a.area a.at_ bs).pg a.who i).2 := ⟨_, rfl⟩
                obtain ⟨px, hpx⟩ : ∃ px : Int, px = (q'.see who : Int) := ⟨_, rfl⟩
                rw [← hpx] at P1
                obtain ⟨sm, hd1⟩ : ∃ sm, decide (px = pw) = sm := ⟨_, rfl⟩
                have hd2 : (px == pw) = sm := by rw [← hd1]; rfl
                have hsm : fI = 0 → (sm = true ↔ s.vt who k = s.vt a.who k) := fun h => by
                  rw [← hd1, hi, vt_see hq, hpx, hpw, P2 h, ← hsee, ← hsee]
                  simp
                  omega
                have HSM2 := Lib.hid hsm
                have HPP := Lib.hid (And.intro P1 (And.intro hpw hpe))
                have HI := Lib.hid hi
                have ui := wri i i5
                subst hA3
                clear i5 hr3 hs0 hseg hq hql hqn P1 P2 hi hkq hln hnp hq' qa qx hsee hpw hpe hpx hsm hkg
                go_upto_region 23 with (fail)
                rw [← hnn]
                clear f0 f1 f2 m0 hnn
                have hkz : ((k : Int) == 0) = false := by simp; omega
                have hkz2 : decide ((k : Int) = 0) = false := by simp; omega
                obtain ⟨P, Q, hL, hno, hyes⟩ := last_area (wh := a.who) (area := a.area) (at_ := a.at_) (b := bs) HS1.out.1 M8.out.ok hw (k := k) (n := nn) hks hvl HS2.out
                have hlb := hrd.out.len
                rw [hlb, ← HFI.out] at hno hyes
                have LA := Lib.hid hL
                have LN := Lib.hid hno
                have LY := Lib.hid hyes
                have hkb : k < 256 := by omega
                have HKB := Lib.hid hkb
                have HNN := Lib.hid (show (nn : Int) < 9223372036854775808 by omega)
                clear hL hno hyes hlb
                have u3 := wr8 hkb
                clear hkb
                go_upto_region 24 with (go_at_call 23; (refine (read_any (C8.out.ext (x89.trans xj)) who k 0 nn HKB.out (by decide) HNN.out).mono ?_); rw [LA.out.E1, LA.out.R1]; rintro e w10 ⟨x10, v10, rfl, o10⟩)
                rw [LA.out.p] at o10
                obtain ⟨A10, c10, rfl, hc10, r10⟩ := rd_own o10 LA.out.bp
                go_upto_region 25 with (go_at_call 23; (refine (read_any (M8.out.ext (x89.trans (xj.trans x10))) who k 0 nn HKB.out (by decide) HNN.out).mono ?_); rw [LA.out.E2, LA.out.R2]; rintro e w11 ⟨x11, v11, rfl, o11⟩)
                clear u3
                rw [LA.out.q] at o11
                obtain ⟨A11, c11, rfl, hc11, r11⟩ := rd_own o11 LA.out.bq
                go_upto_region 27 with (fail)
                go_upto_region 30 with (go_at_call 24; (refine (page_any (M8.out.ext ((x89.trans xj).trans (x10.trans x11))) who i).mono ?_); rw [HPP.out.1]; rintro e wx ⟨rfl, rfl⟩)
                have B11 := (((x89.trans xj).trans (x10.trans x11)).block _ (blk_lt HK8.out.2)).trans HK8.out.2
                obtain ⟨e0, e1, e2, e3, e4, e5, e6⟩ := cells7 B11
                go_upto_region 31 with (go_at_call 24; (refine (page_any (M8.out.ext ((x89.trans xj).trans (x10.trans x11))) a.who i).mono ?_); rw [← HPP.out.2.1, ← HPP.out.2.2]; rintro e wx ⟨rfl, rfl⟩)
                clear e0 e1 e2 e3 e4 e5 e6 B11
                go_upto_region 32 with (fail)
                clear hkz hkz2 hk0 hk0N hki hiI ui hd1 hd2
                have HSM := HSM2
                clear HSM2
                have X8j := x89.trans xj
                have B11 := ((X8j.trans (x10.trans x11)).block _ (blk_lt HK8.out.2)).trans HK8.out.2
                obtain ⟨e0, e1, e2, e3, e4, e5, e6⟩ := cells7 B11
                by_cases hf0 : fI = 0
                · subst hf0
                  have HFZ := Lib.hid (show (0 : Int) = 0 from rfl)
                  by_cases hka : k = a.area
                  · obtain rfl : k = a.area := hka
                    have HKA := Lib.hid (show a.area = a.area from rfl)
                    rcases sm with _ | _
                    · have HPQ := Lib.hid (LN.out (fun h => by have := (HSM.out HFZ.out).2 h.2.2; cases this))
                      clear e0 e1 e3 e4 e5 e6
                      have uar : IntKind.i64.wrap (a.area : Int) = a.area := wri a.area (by have := HB.out.area; omega)
                      go_upto_region 36 with (fail)
                      clear uar e2
                      have s1 := str (c := c10) (r10.ext x11)
                      have s2 := str (c := c11) r11
                      rw [HPQ.out] at s2
                      go_wp2
                      go_roundw
                      case rel => exact ⟨j + 1, by go_num, by omega, xj.trans (x10.trans x11)⟩
                      case measure => simp [intOf]; omega
                    · have hfz := HFZ.out
                      have hka := HKA.out
                      have hvs := (HSM.out hfz).1 rfl
                      have HV := Lib.hid (And.intro hfz (And.intro hka hvs))
                      have uar : IntKind.i64.wrap (a.area : Int) = a.area := wri a.area (by have := HB.out.area; omega)
                      go_upto_region 33 with (fail)
                      clear uar hfz hka hvs e0 e1 e2 e4 e5 e6
                      have hfz := HV.out.1
                      have hka := HV.out.2.1
                      have hvs := HV.out.2.2
                      obtain ⟨hQ, hfit⟩ := LY.out hfz hka hvs
                      have hcc := hc10
                      have hlb := hrd.out.len
                      obtain ⟨z, hz⟩ : ∃ z, z = a.at_ + kb := ⟨_, rfl⟩
                      have hzI : (a.at_ : Int) + kb = (z : Int) := by omega
                      have hzn : ¬ ((nn : Int) < z) := by omega
                      have z63 : z < 9223372036854775808 := by omega
                      have a63 : a.at_ < 9223372036854775808 := by omega
                      have an1 : a.at_ ≤ nn := by omega
                      have an2 : (a.at_ : Int) ≤ nn := by omega
                      have an3 : a.at_ ≤ c10 := by omega
                      have an4 : (a.at_ : Int) ≤ c10 := by omega
                      have an5 : nn ≤ c10 := hc10
                      have an6 : (nn : Int) ≤ c10 := by omega
                      have HFT := Lib.hid (And.intro hfit (And.intro hz hQ))
                      clear hfit hz hcc hQ hlb hfz hka hvs
                      have u5 := wri z z63
                      have u6 := wri a.at_ a63
                      clear z63 a63
                      go_upto_region 35 with (fail)
                      clear hzI hzn u5 u6
                      have hmin36 := Lib.hid (show kb = min kb (nn - a.at_) by have := HFT.out.1; omega)
                      have B11 := ((X8j.trans (x10.trans x11)).block _ (blk_lt HK8.out.2)).trans HK8.out.2
                      obtain ⟨e0, e1, e2, e3, e4, e5, e6⟩ := cells7 B11
                      have hdp : 0 < kb → ∀ g c', Value.slice A10 nn c10 = .slice (some ⟨g, 0, none⟩) nn c' → (if c10 = a.at_ then A10 else Option.map (fun x => x.add a.at_) A10) = some ⟨g, a.at_, none⟩ := by
                        intro h0 g c' e
                        injection e with e1' e2' e3'
                        rw [e1']
                        exact at_off (by have := HFT.out.1; omega)
                      have HDP := Lib.hid hdp
                      have HO10 := Lib.hid (own_ext o10 x11)
                      clear e0 e1 e2 e4 e5 e6 hdp B11
                      have xE := Ext.refl w11
                      go_upto_region 36 with (refine wpList_copyO rfl _ _ _ _ rfl 5 Try.underlying37 size5 rfl rfl (off := a.at_) (m := kb) hmin36.out (own_ext HO10.out xE) (by exact HFT.out.1) HDP.out (hrd.out.ext ((X8.trans (x89.trans xj)).trans (x10.trans (x11.trans xE)))).shows (u8s_one _) ?_; intro w12 own12 x12)
                      clear e3
                      have e1 : splice (u8s P) a.at_ ((u8s bs).take kb) = u8s Q := by rw [List.take_of_length_le (by simp [u8s, hrd.out.len]), u8s_splice, ← HFT.out.2.2]
                      rw [e1] at own12
                      have xg : Ext w9 w12 := Ext.of_grown ((xj.trans (x10.trans x11)).trans xE) x12 (fun b e => Nat.le_trans xj.size (o10.lt b e).1)
                      have o11' := own_keptF (own_ext o11 xE) (Kept.of_grown (F := fun b => Value.ownBlock (.slice A10 nn c10) = some b) x12 (fun b e => e)) (fun b hb hF => by have h1 := (o10.lt b hF).2; have h2 := (o11.lt b hb).1; omega)
                      have s1 := str (c := c10) (⟨Shows.of_own own12, r11.byts⟩ : Rd w12 A10 nn Q)
                      have s2 := str (c := c11) (⟨Shows.of_own o11', r11.byts⟩ : Rd w12 A11 nn Q)
                      go_wp2
                      go_roundw
                      case rel => exact ⟨j + 1, by go_num, by omega, xg⟩
                      case measure => simp [intOf]; omega
                  · have hb2 : ((k : Int) == (a.area : Int)) = false := by simp; omega
                    have hb3 : decide ((k : Int) = (a.area : Int)) = false := by simp; omega
                    have hb4 : ¬ ((k : Int) = (a.area : Int)) := by omega
                    have HPQ := Lib.hid (LN.out (fun h => hka h.2.1))
                    clear e0 e1 e3 e4 e5 e6
                    have uar : IntKind.i64.wrap (a.area : Int) = a.area := wri a.area (by have := HB.out.area; omega)
                    go_upto_region 36 with (fail)
                    clear uar e2
                    have s1 := str (c := c10) (r10.ext x11)
                    have s2 := str (c := c11) r11
                    rw [HPQ.out] at s2
                    go_wp2
                    go_roundw
                    case rel => exact ⟨j + 1, by go_num, by omega, xj.trans (x10.trans x11)⟩
                    case measure => simp [intOf]; omega
                · have hb1 : (fI == 0) = false := by simpa using hf0
                  have HPQ := Lib.hid (LN.out (fun h => hf0 h.1))
                  clear e0 e1 e3 e4 e5 e6
                  go_upto_region 36 with (fail)
                  clear e2
                  have s1 := str (c := c10) (r10.ext x11)
                  have s2 := str (c := c11) r11
                  rw [HPQ.out] at s2
                  go_wp2
                  go_roundw
                  case rel => exact ⟨j + 1, by go_num, by omega, xj.trans (x10.trans x11)⟩
                  case measure => simp [intOf]; omega
            · obtain rfl : j = 2 := by omega
              go_wp2
              go_roundw
              case rel => exact ⟨k + 1, by go_num, by omega, x89.trans xj⟩
              case measure => simp [intOf]; omega
        · obtain rfl : k = g1 := by omega
          go_wp2
          go_ret
          exact ⟨rfl, X8.trans xk⟩
end Go.Proofs.Ytjgmnbfadnlikaa
