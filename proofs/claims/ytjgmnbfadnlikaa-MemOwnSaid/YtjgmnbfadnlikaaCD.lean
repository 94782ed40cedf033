import Derived.Test.YtjgmnbfadnlikaaCC
import Derived.Test.YtjgmnbfadnlikaaZC
set_option linter.unusedVariables false
set_option linter.unusedSimpArgs false
namespace Go.Proofs.Ytjgmnbfadnlikaa
open Go.RowKit
theorem wrap8_byts2 (n : Int) : 0 ≤ IntKind.u8.wrap n ∧ IntKind.u8.wrap n < 256 := by simp [IntKind.wrap, IntKind.bits, IntKind.signed]; omega
set_option maxRecDepth 100000 in
set_option maxHeartbeats 8000000 in
theorem MemOwn_law (w : World) (m : MP) (sA fA : Option Addr) (sc fc : Nat) (aA : Option Addr) (aN aC : Nat) (l : List Ac) (h : MpR w m sA fA sc fc) (hnc : aN ≤ aC) (hcm : aC ≤ maxLen) (hl : aN = l.length) (hs : Shows w 7 aA aN (l.flatMap Ac.vals)) (hok : ∀ a ∈ l, a.ok w) :
    Calls Try.prog 7 #[.agg #[.int .i64 m.ram, .slice sA m.segs.length sc, .slice fA m.flash.length fc], .slice aA aN aC] w fun e w' => e = .returned (.bool true) ∧ Ext w w' := by
  obtain ⟨w1, hw1⟩ : ∃ V, V = w.alloc (.cells #[.int .i64 m.ram, .slice sA m.segs.length sc, .slice fA m.flash.length fc] 25) := ⟨_, rfl⟩
  have K1 : w1.heap[w.heap.size]? = some (.cells #[.int .i64 m.ram, .slice sA m.segs.length sc, .slice fA m.flash.length fc] 25 (0, 0)) := by rw [hw1]; exact heap_alloc_new _ _
  have x1 : Ext w w1 := by rw [hw1]; exact (Ext.refl _).alloc _
  have HG := Lib.hid (fun W (x : Ext w W) => good_any (h.ext x))
  have HA := Lib.hid (And.intro hs hok)
  have HF := Lib.hid (fun W => few_any (w := W) aA aN aC hnc hcm)
  obtain ⟨an, han⟩ : ∃ an, an = min aN 60 := ⟨_, rfl⟩
  rw [← han] at HF
  have an60 : an ≤ 60 := by omega
  have HAN := Lib.hid (And.intro han hl)
  clear h hs hok hnc hcm han hl
  go_enter Try.func7, Try.ntmps7
  go_upto_region 1 with (fail)
  rw [← hw1]
  clear hw1
  go_upto_region 2 with (go_at_call 9; (refine (shown_any _).mono ?_); rintro e w2 ⟨rfl, x2⟩)
  have K2 := (x2.block _ (blk_lt K1)).trans K1
  go_upto_region 3 with (first | refine wpList_ldrow rfl 25 (.tmp 2) rfl K2 rfl Try.underlying25 rfl (by kernel_rfl) ?_ | (go_at_call 20; (refine (HG.out _ (x1.trans x2)).mono ?_); rintro e w3 ⟨sA3, sc3, rfl, x3, H3⟩))
  obtain ⟨rm, hrm⟩ : ∃ r, r = (m.good m.segs.length).ram := ⟨_, rfl⟩
  obtain ⟨gn, hgn⟩ : ∃ r, r = (m.good m.segs.length).segs.length := ⟨_, rfl⟩
  rw [← hrm, ← hgn]
  obtain ⟨w4, hw4⟩ : ∃ V, V = w3.alloc (.cells #[.int .i64 rm, .slice sA3 gn sc3, .slice none 0 0] 25) := ⟨_, rfl⟩
  have K4 : w4.heap[w3.heap.size]? = some (.cells #[.int .i64 rm, .slice sA3 gn sc3, .slice none 0 0] 25 (0, 0)) := by rw [hw4]; exact heap_alloc_new _ _
  have x4 : Ext w3 w4 := by rw [hw4]; exact (Ext.refl _).alloc _
  rw [← hw4]
  clear hw4
  have H4 := H3.ext x4
  have HRG := Lib.hid (show rm = (m.good m.segs.length).ram ∧ gn = (m.good m.segs.length).segs.length from ⟨hrm, hgn⟩)
  have x04 := x1.trans (x2.trans (x3.trans x4))
  have H4H := Lib.hid H4
  have gn4 : gn ≤ 4 := by rw [hgn]; exact good_len _ _
  clear hrm hgn H3 H4 x3 x4 K2 x2 K1 x1
  obtain ⟨rN, rfl⟩ : ∃ rN : Nat, rm = rN := ⟨rm.toNat, by have := good_ram m m.segs.length; rw [HRG.out.1]; omega⟩
  have hrN : rN ≤ 64 := by have := good_ram m m.segs.length; have h2 := HRG.out.1; omega
  go_upto_region 4 with (first | refine wpList_ldrow rfl 25 (.tmp 6) rfl K4 rfl Try.underlying25 rfl (by kernel_rfl) ?_ | (go_at_call 10; (refine (new_any H4H.out (good_may _ _) (by rw [HRG.out.1]) (by rw [HRG.out.2]) rfl).mono ?_); rintro e w5 ⟨g, va, T, rfl, x5, M5, hT⟩))
  have M5 : MemC w5 g m.g0 va T := M5
  have K5 := (x5.block _ (blk_lt K4)).trans K4
  have NM5 := Lib.hid M5
  have X5 : Ext w w5 := x04.trans x5
  have HK5 := Lib.hid K5
  have hvb : m.g0.vb 1 0 = zeros rN := by
    unfold MS.vb
    rw [if_pos rfl]
    show zeros _ = zeros rN
    rw [← HRG.out.1]; rfl
  have E1 : m.g0.err 1 0 0 rN = 0 := err_zero (.inl rfl) (by omega) (by rw [hvb, zeros_len]; omega)
  have E2 : m.g0.rd 1 0 0 rN = zeros rN := by rw [rd_seg E1, hvb, List.drop_zero, List.take_of_length_le (by rw [zeros_len]; omega)]
  have HE := Lib.hid (And.intro E1 E2)
  have HrI := Lib.hid (show (rN : Int) < 9223372036854775808 by omega)
  obtain ⟨f0, f1, f2⟩ := cells3 K5
  clear M5 hT K4 K5 hvb E1 E2
  go_upto_region 7 with (go_at_call 23; (refine (read_any NM5.out 1 0 0 rN (by decide) (by decide) HrI.out).mono ?_); rw [HE.out.1, HE.out.2]; rintro e w6 ⟨x6, v6, rfl, o6⟩)
  rw [zeros_len] at o6
  obtain ⟨A6, c6, rfl, _, r6⟩ := rd_own o6 (zeros_byts _)
  have NM6 := Lib.hid (NM5.out.ext x6)
  clear f0 f1 f2
  go_upto_region 8 with (go_at_call 21; (refine (clone_any NM6.out).mono ?_); rintro e w7 ⟨g2, va2, T2, rfl, x7, M7, hT2⟩)
  have NM7 := Lib.hid M7
  have HT2 := Lib.hid hT2
  have X7 := X5.trans (x6.trans x7)
  have HTW := Lib.hid (fun b t (h : T2 b = some t) => Nat.le_trans (X5.trans x6).size (hT2 b t h))
  clear M7 hT2
  go_upto_region 9 with (go_at_call 12; (refine (HF.out _).mono ?_); rintro e wz ⟨rfl, rfl⟩)
  go_loopw [50] (fun v wr => ∃ (k : Nat) (s : MS), v = .int .i64 k ∧ k ≤ an ∧ MemC wr g2 s va2 T2 ∧ Kept (fun b => T2 b ≠ none) w7 wr) (fun v _ => an - (intOf v).toNat)
  case atStart => exact ⟨0, _, rfl, Nat.zero_le _, NM7.out, Kept.refl _ _⟩
  case round =>
    obtain ⟨k, s, rfl, hk, M, kp⟩ := hrel
    by_cases hlt : k < an
    · have hkn : (k : Int) < an := by omega
      obtain ⟨y, hy⟩ : ∃ y, l[k]? = some y := ⟨_, List.getElem?_eq_getElem (by have := HAN.out; omega)⟩
      have xw := ext_kept X7 kp HTW.out
      obtain ⟨b, o, hA, hb, hr⟩ := Shows.row ac_len (by omega) (HA.out.1.ext xw) HAN.out.2 hy
      have hyo := Lib.hid (HA.out.2 y (List.mem_of_getElem? hy))
      have HM := Lib.hid M
      clear M hy
      subst hA
      go_upto_region 11 with (first | refine wpList_load_mid rfl 39 _ rfl _ _ rfl y.vals _ hr Try.underlying39 rfl size39 ?_ | refine wpList_stnew rfl 39 _ _ rfl rfl y.vals rfl rfl size39 rfl (ac_one y) ?_)
      obtain ⟨w8, hw8⟩ : ∃ V, V = wr.alloc (.cells y.vals.toArray 39) := ⟨_, rfl⟩
      have k8 : w8.heap[wr.heap.size]? = some (.cells y.vals.toArray 39 (0, 0)) := by rw [hw8]; exact heap_alloc_new _ _
      have x8 : Ext wr w8 := by rw [hw8]; exact (Ext.refl _).alloc _
      rw [← hw8]
      clear hw8 hr
      go_wp2_with (first | refine wpList_ldrow rfl 39 (.tmp 13) rfl k8 rfl Try.underlying39 rfl (by kernel_rfl) ?_ | (go_at_call 13; (refine (does_any (HM.out.ext x8) y (hyo.out.ext (xw.trans x8))).mono ?_); rintro e w9 ⟨v, rfl, M9, k9, _⟩; have HM9 := Lib.hid M9; clear M9))
      go_roundw
      case rel => exact ⟨k + 1, _, by go_num, by omega, HM9.out, (kp.then x8).trans' k9⟩
      case measure => simp [intOf]; omega
    · obtain rfl : k = an := by omega
      obtain ⟨wo, rfl⟩ : ∃ z : World, z = wr := ⟨_, rfl⟩
      have x6o : Ext w6 wo := ext_kept x7 kp HT2.out
      have NMo := Lib.hid (NM6.out.ext x6o)
      have Ko := ((x6.trans x6o).block _ (blk_lt HK5.out)).trans HK5.out
      obtain ⟨f0, f1, f2⟩ := cells3 Ko
      have HKo := Lib.hid Ko
      clear M kp Ko
      go_upto_region 14 with (go_at_call 23; (refine (read_any NMo.out 1 0 0 rN (by decide) (by decide) HrI.out).mono ?_); rw [HE.out.1, HE.out.2]; rintro e w10 ⟨x10, v10, rfl, o10⟩)
      rw [zeros_len] at o10
      obtain ⟨A10, c10, rfl, hc10, r10⟩ := rd_own o10 (zeros_byts _)
      have s1 := str (c := c6) (r6.ext (x6o.trans x10))
      have s2 := str (c := c10) r10
      clear f0 f1 f2
      obtain ⟨f0, f1, f2⟩ := cells3 ((x10.block _ (blk_lt HKo.out)).trans HKo.out)
      go_upto_region 17 with (fail)
      clear f0 f1 f2 s1 s2
      go_loopw [87] (fun v wq => ∃ (i : Nat) (bs : List Int), v = .int .i64 i ∧ i ≤ rN ∧ wq.ownsRow wo.heap.size 5 1 (.slice A10 rN c10) rN (u8s bs) ∧ Byts bs ∧ Ext wo wq) (fun v _ => rN - (intOf v).toNat)
      case atStart => exact ⟨0, _, rfl, Nat.zero_le _, o10, zeros_byts _, x10⟩
      case round =>
        obtain ⟨i, bs, rfl, hi, own, hbb, xq⟩ := hrel
        obtain ⟨wi, rfl⟩ : ∃ z : World, z = wr := ⟨_, rfl⟩
        by_cases hlt2 : i < rN
        · have hin : (i : Int) < rN := by omega
          have hbl : bs.length = rN := by have := own.1; simpa [u8s] using this
          obtain ⟨B, cc, e, own2, gr2, hfz, hcell, hBl⟩ := own_set own (i := i) (by omega) (.int .u8 (IntKind.u8.wrap (bs.getD i 0 + 1)))
          injection e with e1 e2 e3
          have hB : wo.heap.size ≤ B := (own.lt B (by rw [e1]; rfl)).1
          have hc : wi.cell? ⟨B, i, none⟩ = some (.int .u8 (bs.getD i 0)) := by
            rw [hcell]; simp [u8s, List.getElem?_map, List.getD_eq_getElem?_getD, List.getElem?_eq_getElem (show i < bs.length by omega)]
          obtain ⟨x, hx⟩ : ∃ x, x = bs.getD i 0 := ⟨_, rfl⟩
          rw [← hx] at hc own2
          have hX := wrap8_byts2 (x + 1)
          obtain ⟨X, hXE⟩ : ∃ X, IntKind.u8.wrap (x + 1) = X := ⟨_, rfl⟩
          rw [hXE] at hX own2
          subst e1
          have HO := Lib.hid own2
          have HX2 := Lib.hid hX
          have HBB := Lib.hid hbb
          clear own own2 gr2 hcell hx e2 e3 hX hbb hbl
          go_upto_region 20 with (fail)
          clear hc hfz hXE
          go_wp2
          go_roundw
          case rel =>
            refine ⟨i + 1, bs.set i X, by go_num, by omega, ?_, ?_, xq.setCell hB _⟩
            · have h := HO.out
              simpa [u8s, List.map_set] using h
            · intro z hz
              rcases List.mem_or_eq_of_mem_set hz with hz | rfl
              · exact HBB.out z hz
              · exact HX2.out
          case measure => simp [intOf]; omega
        · obtain rfl : i = rN := by omega
          have NMi := Lib.hid (NMo.out.ext xq)
          have r6i := r6.ext (x6o.trans xq)
          obtain ⟨f0, f1, f2⟩ := cells3 ((xq.block _ (blk_lt HKo.out)).trans HKo.out)
          clear own hbb
          go_upto_region 22 with (go_at_call 23; (refine (read_any NMi.out 1 0 0 i (by decide) (by decide) HrI.out).mono ?_); rw [HE.out.1, HE.out.2]; rintro e w11 ⟨x11, v11, rfl, o11⟩)
          rw [zeros_len] at o11
          obtain ⟨A11, c11, rfl, hc11, r11⟩ := rd_own o11 (zeros_byts _)
          have s1 := str (c := c6) (r6i.ext x11)
          have s2 := str (c := c11) r11
          clear f0 f1 f2
          go_upto_region 24 with (go_at_call 23; (refine (read_nil 1 0 0 0 _).mono ?_); rintro e wa ⟨rfl, rfl⟩)
          go_upto_region 25 with (go_at_call 24; (refine (page_nil 1 0 _).mono ?_); rintro e wa ⟨rfl, rfl⟩)
          go_upto_region 99 with (first | (go_at_call 22; (refine (write_nil 1 0 0 none 0 0 _).mono ?_); rintro e wa ⟨rfl, rfl⟩) | (go_at_call 25; (refine (set_nil 1 0 0 _).mono ?_); rintro e wa ⟨rfl, rfl⟩) | (go_at_call 26; (refine (copy_nil 0 0 0 _).mono ?_); rintro e wa ⟨rfl, rfl⟩) | (go_at_call 21; (refine (clone_nil _).mono ?_); rintro e wa ⟨rfl, rfl⟩))
          go_ret
          exact ⟨by simp, X5.trans (x6.trans (x6o.trans (xq.trans x11)))⟩
end Go.Proofs.Ytjgmnbfadnlikaa
