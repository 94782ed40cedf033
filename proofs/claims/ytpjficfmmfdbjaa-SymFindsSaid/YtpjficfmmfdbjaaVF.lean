import Derived.Test.YtpjficfmmfdbjaaVE
set_option linter.unusedVariables false
set_option linter.unusedSimpArgs false
namespace Go.Proofs.Ytpjficfmmfdbjaa
open Go.RowKit
set_option maxRecDepth 100000 in
set_option maxHeartbeats 8000000 in
theorem SymFinds_law (w : World) (A : Option Addr) (n c : Nat) (l : List Sy) (name : ByteArray) (hs : Shows w 8 A n (sys l)) (hn : n = l.length) (hnc : n ≤ c) (hcm : c ≤ maxLen) (hok : ∀ y ∈ l, y.ok) (hname : name.size ≤ maxLen) :
    Calls Try.prog 4 #[.slice A n c, .string name] w fun e w' => e = .returned (.bool true) ∧ Ext w w' := by
  have HF := Lib.hid (fun W (x : Ext w W) => few_any (hs.ext x) hn hnc hcm hok)
  have HO := Lib.hid (cuts_ok hok)
  have HNM := Lib.hid hname
  obtain ⟨L, hL⟩ : ∃ L, L = cuts l := ⟨_, rfl⟩
  have hL70 : L.length ≤ 70 := by rw [hL, cuts_len]; omega
  rw [← hL] at HF HO
  have HL70 := Lib.hid hL70
  clear hs hn hnc hcm hok hL hname hL70
  obtain ⟨ln, hln⟩ : ∃ z, z = L.length := ⟨_, rfl⟩
  have HLN := Lib.hid hln
  clear hln
  by_cases hE : newE L = 0
  · have HE := Lib.hid hE
    go_enter Try.func4, Try.ntmps4
    go_upto_region 2 with (go_at_call 14; (refine (shown_any _).mono ?_); rintro e w1 ⟨rfl, x1⟩)
    go_upto_region 3 with (first
      | (go_at_call 17; (refine (new_any (Shows.of_own own2) rfl HO.out).mono ?_); rw [HE.out]; rintro e w3 ⟨p, rfl, x3, hT3, -⟩)
      | (go_at_call 9; (refine (HF.out _ x1).mono ?_); rintro e w2 ⟨v2, rfl, x2, own2⟩; obtain ⟨A2, c2, rfl, hc2, hm2, _⟩ := own_form own2))
    obtain ⟨g, rfl, T3⟩ := hT3 trivial
    have HT3 := Lib.hid T3
    have HX3 := Lib.hid (x1.trans (x2.trans x3))
    clear hT3 T3 own2
    go_upto_region 4 with (first
      | (go_at_call 18; (refine (rnew_any (Shows.of_own own4) rfl HO.out).mono ?_); unfold rnewV; rw [HE.out]; rintro e w5 ⟨rfl, x5⟩)
      | (go_at_call 9; (refine (HF.out _ HX3.out).mono ?_); rintro e w4 ⟨v4, rfl, x4, own4⟩; obtain ⟨A4, c4, rfl, hc4, hm4, _⟩ := own_form own4))
    have HT5 := Lib.hid (HT3.out.ext (x4.trans x5))
    have HS5 := Lib.hid (Shows.of_own (own_ext own4 x5))
    have HX5 := Lib.hid (HX3.out.trans (x4.trans x5))
    clear own4 hm2 hm4
    obtain ⟨ya, ba, hf⟩ : ∃ ya ba, findS L name = (ya, ba) := ⟨_, _, rfl⟩
    have HFN := Lib.hid hf
    clear hf
    go_upto_region 7 with (first
      | (go_at_call 19; (refine (find_any HT5.out HNM.out).mono ?_); rw [HFN.out]; rintro e w6 ⟨rfl, x6⟩)
      | refine wpList_stnew rfl 24 _ _ rfl rfl ya.vals rfl rfl size24 rfl (sy_one ya) ?_)
    obtain ⟨w7, hw7⟩ : ∃ V, V = w6.alloc (.cells ya.vals.toArray 24) := ⟨_, rfl⟩
    have k7 : w7.heap[w6.heap.size]? = some (.cells ya.vals.toArray 24 (0, 0)) := by rw [hw7]; exact heap_alloc_new _ _
    have x7 : Ext w6 w7 := by rw [hw7]; exact (Ext.refl _).alloc _
    rw [← hw7]
    clear hw7
    go_upto_region 8 with (first
      | (go_at_call 20; (refine (rfind_any (HS5.out.ext (x6.trans x7)) rfl (by have := HL70.out; omega) name).mono ?_); rw [HFN.out]; rintro e w8 ⟨rfl, x8⟩)
      | refine wpList_stnew rfl 24 _ _ rfl rfl ya.vals rfl rfl size24 rfl (sy_one ya) ?_)
    obtain ⟨w9, hw9⟩ : ∃ V, V = w8.alloc (.cells ya.vals.toArray 24) := ⟨_, rfl⟩
    have k9 : w9.heap[w8.heap.size]? = some (.cells ya.vals.toArray 24 (0, 0)) := by rw [hw9]; exact heap_alloc_new _ _
    have x9 : Ext w8 w9 := by rw [hw9]; exact (Ext.refl _).alloc _
    rw [← hw9]
    clear hw9
    have k79 := ((x8.trans x9).block _ (blk_lt k7)).trans k7
    have hne := run_neY ya
    have X9 := x6.trans (x7.trans (x8.trans x9))
    have HT9 := Lib.hid (HT5.out.ext X9)
    have HS9 := Lib.hid (HS5.out.ext X9)
    have HX9 := Lib.hid (HX5.out.trans X9)
    clear k7 x6 x7 x8 x9 X9
    go_upto_region 10 with (first
      | refine wpList_ldrow rfl 24 (.tmp 12) rfl k9 rfl Try.underlying24 rfl size24 ?_
      | refine wpList_ldrow rfl 24 (.tmp 10) rfl k79 rfl Try.underlying24 rfl size24 ?_)
    clear k9 k79 hne
    rw [← HLN.out]
    go_upto_region 11 with (fail)
    have hl70 : ln ≤ 70 := by have := HL70.out; have := HLN.out; omega
    go_loopw [63] (fun v wr => ∃ k : Nat, v = .int .i64 k ∧ k ≤ ln ∧ Ext w9 wr) (fun v _ => ln - (intOf v).toNat)
    case atStart => exact ⟨0, rfl, Nat.zero_le _, Ext.refl _⟩
    case round =>
      obtain ⟨k, rfl, hk, xr⟩ := hrel
      obtain ⟨wo, rfl⟩ : ∃ z : World, z = wr := ⟨_, rfl⟩
      have hnd := (newE_0 HE.out).2.2
      by_cases hlt : k < ln
      · have hkn : (k : Int) < ln := by omega
        obtain ⟨y, hy⟩ : ∃ y, L[k]? = some y := ⟨_, List.getElem?_eq_getElem (by have := HLN.out; omega)⟩
        have hfy := findS_yes hnd (List.mem_of_getElem? hy)
        have HFY := Lib.hid (And.intro hfy (HO.out y (List.mem_of_getElem? hy)).s)
        have hso := HS9.out.ext xr
        rw [← HLN.out] at hso
        obtain ⟨b5, o5, hA', hb5, hr⟩ := Shows.row sy_len (by omega) hso HLN.out hy
        subst hA'
        clear hy hfy hnd hso
        go_upto_region 13 with (first | refine wpList_load_mid rfl 24 _ rfl _ _ rfl y.vals _ hr Try.underlying24 rfl size24 ?_ | refine wpList_stnew rfl 24 _ _ rfl rfl y.vals rfl rfl size24 rfl (sy_one y) ?_)
        obtain ⟨wa, hwa⟩ : ∃ V, V = wo.alloc (.cells y.vals.toArray 24) := ⟨_, rfl⟩
        have ka : wa.heap[wo.heap.size]? = some (.cells y.vals.toArray 24 (0, 0)) := by rw [hwa]; exact heap_alloc_new _ _
        have xa : Ext wo wa := by rw [hwa]; exact (Ext.refl _).alloc _
        rw [← hwa]
        clear hwa hr
        have m0 : wa.cell? ⟨wo.heap.size, 0, none⟩ = some (.string y.s) := blk_cell ka rfl
        have HKA := Lib.hid ka
        clear ka
        go_upto_region 14 with (first
          | (go_at_call 19; (refine (find_any (HT9.out.ext (xr.trans xa)) HFY.out.2).mono ?_); rw [HFY.out.1]; rintro e wb ⟨rfl, xb⟩)
          | refine wpList_stnew rfl 24 _ _ rfl rfl y.vals rfl rfl size24 rfl (sy_one y) ?_)
        obtain ⟨wc, hwc⟩ : ∃ V, V = wb.alloc (.cells y.vals.toArray 24) := ⟨_, rfl⟩
        have kc : wc.heap[wb.heap.size]? = some (.cells y.vals.toArray 24 (0, 0)) := by rw [hwc]; exact heap_alloc_new _ _
        have xc : Ext wb wc := by rw [hwc]; exact (Ext.refl _).alloc _
        rw [← hwc]
        clear hwc m0
        have kac := ((xb.trans xc).block _ (blk_lt HKA.out)).trans HKA.out
        have hne := run_neY y
        go_wp2_with (first
          | refine wpList_ldrow rfl 24 (.tmp 16) rfl kc rfl Try.underlying24 rfl size24 ?_
          | refine wpList_ldrow rfl 24 (.tmp 15) rfl kac rfl Try.underlying24 rfl size24 ?_)
        go_roundw
        case rel => exact ⟨k + 1, by go_num, by omega, xr.trans (xa.trans (xb.trans xc))⟩
        case measure => simp [intOf]; omega
      · obtain rfl : k = ln := by omega
        clear hnd
        go_wp2
        go_ret
        exact ⟨rfl, HX9.out.trans xr⟩
  · have HE := Lib.hid hE
    obtain ⟨ev, hev⟩ : ∃ e, e = newE L := ⟨_, rfl⟩
    have hev0 : (ev == 0) = false := by rw [hev]; simpa using hE
    have hev1 : ¬ ev = 0 := by rw [hev]; exact hE
    have hev2 : (ev != 0) = true := by simpa using hev1
    have HEV := Lib.hid hev
    clear hev hE
    go_enter Try.func4, Try.ntmps4
    go_upto_region 2 with (go_at_call 14; (refine (shown_any _).mono ?_); rintro e w1 ⟨rfl, x1⟩)
    go_upto_region 3 with (first
      | (go_at_call 17; (refine (new_any (Shows.of_own own2) rfl HO.out).mono ?_); rw [← HEV.out]; rintro e w3 ⟨p, rfl, x3, -, hT3⟩)
      | (go_at_call 9; (refine (HF.out _ x1).mono ?_); rintro e w2 ⟨v2, rfl, x2, own2⟩; obtain ⟨A2, c2, rfl, hc2, hm2, _⟩ := own_form own2))
    obtain rfl := hT3 hev1
    have HX3 := Lib.hid (x1.trans (x2.trans x3))
    clear hT3 own2
    go_upto_region 4 with (first
      | (go_at_call 18; (refine (rnew_any (Shows.of_own own4) rfl HO.out).mono ?_); unfold rnewV; rw [if_neg HE.out, ← HEV.out]; rintro e w5 ⟨rfl, x5⟩)
      | (go_at_call 9; (refine (HF.out _ HX3.out).mono ?_); rintro e w4 ⟨v4, rfl, x4, own4⟩; obtain ⟨A4, c4, rfl, hc4, hm4, _⟩ := own_form own4))
    have HX5 := Lib.hid (HX3.out.trans (x4.trans x5))
    clear own4 hm2 hm4
    go_upto_region 7 with (first
      | (go_at_call 19; (refine (find_nil name _).mono ?_); rintro e w6 ⟨rfl, x6⟩)
      | refine wpList_stnew rfl 24 _ _ rfl rfl zsy.vals rfl rfl size24 rfl (sy_one zsy) ?_)
    obtain ⟨w7, hw7⟩ : ∃ V, V = w6.alloc (.cells zsy.vals.toArray 24) := ⟨_, rfl⟩
    have k7 : w7.heap[w6.heap.size]? = some (.cells zsy.vals.toArray 24 (0, 0)) := by rw [hw7]; exact heap_alloc_new _ _
    have x7 : Ext w6 w7 := by rw [hw7]; exact (Ext.refl _).alloc _
    rw [← hw7]
    clear hw7
    have hfz : findS [] name = (zsy, false) := rfl
    have HFZ := Lib.hid hfz
    clear hfz
    go_upto_region 8 with (first
      | (go_at_call 20; (refine (rfind_any (l := []) (A := none) (n := 0) (c := 0) Shows.nil rfl (by omega) name).mono ?_); rw [HFZ.out]; rintro e w8 ⟨rfl, x8⟩)
      | refine wpList_stnew rfl 24 _ _ rfl rfl zsy.vals rfl rfl size24 rfl (sy_one zsy) ?_)
    obtain ⟨w9, hw9⟩ : ∃ V, V = w8.alloc (.cells zsy.vals.toArray 24) := ⟨_, rfl⟩
    have k9 : w9.heap[w8.heap.size]? = some (.cells zsy.vals.toArray 24 (0, 0)) := by rw [hw9]; exact heap_alloc_new _ _
    have x9 : Ext w8 w9 := by rw [hw9]; exact (Ext.refl _).alloc _
    rw [← hw9]
    clear hw9
    have k79 := ((x8.trans x9).block _ (blk_lt k7)).trans k7
    have hne := run_neY zsy
    have HX9 := Lib.hid (HX5.out.trans (x6.trans (x7.trans (x8.trans x9))))
    clear k7
    go_upto_region 11 with (first
      | refine wpList_ldrow rfl 24 (.tmp 12) rfl k9 rfl Try.underlying24 rfl size24 ?_
      | refine wpList_ldrow rfl 24 (.tmp 10) rfl k79 rfl Try.underlying24 rfl size24 ?_)
    go_loopw [63] (fun v wr => v = .int .i64 0 ∧ wr = w9) (fun v _ => 0)
    case atStart => exact ⟨rfl, rfl⟩
    case round =>
      obtain ⟨rfl, rfl⟩ := hrel
      go_wp2
      go_ret
      exact ⟨rfl, HX9.out⟩
end Go.Proofs.Ytpjficfmmfdbjaa
