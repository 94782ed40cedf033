import Derived.Test.YtjgmnbfadnlikaaRF
set_option linter.unusedVariables false
set_option linter.unusedSimpArgs false
namespace Go.Proofs.Ytjgmnbfadnlikaa
open Go.RowKit
set_option maxRecDepth 100000 in
set_option maxHeartbeats 4000000 in
theorem r_right {w : World} {m : MP} {sA fA : Option Addr} {sc fc : Nat} (h : MpR w m sA fA sc fc) : Calls Try.prog 28 #[.agg #[.int .i64 m.ram, .slice sA m.segs.length sc, .slice fA m.flash.length fc]] w fun e w' => e = .returned (.bool m.may) ∧ Ext w w' := by
  obtain ⟨w1, hw1⟩ : ∃ V, V = w.alloc (.cells #[.int .i64 m.ram, .slice sA m.segs.length sc, .slice fA m.flash.length fc] 25) := ⟨_, rfl⟩
  have K1 : w1.heap[w.heap.size]? = some (.cells #[.int .i64 m.ram, .slice sA m.segs.length sc, .slice fA m.flash.length fc] 25 (0, 0)) := by rw [hw1]; exact heap_alloc_new _ _
  have x1 : Ext w w1 := by rw [hw1]; exact (Ext.refl _).alloc _
  obtain ⟨f0, f1, f2⟩ := cells3 K1
  have hms := h.sm
  have hmf := h.fm
  unfold maxLen at hms hmf
  by_cases hh : m.head = true
  · have hh' := hh
    simp only [MP.head, Bool.and_eq_true, decide_eq_true_eq] at hh'
    obtain ⟨⟨⟨h1, h2⟩, h3⟩, h4⟩ := hh'
    have g1 : ¬ m.ram < 0 := by omega
    have g2 : ¬ 1024 < m.ram := by omega
    have g3 : ¬ (4 : Int) < m.segs.length := by omega
    have g4 : ¬ (m.segs.length : Int) < m.flash.length := by omega
    have HH := Lib.hid (h.ext x1)
    have HX := Lib.hid x1
    have HK := Lib.hid K1
    have HN := Lib.hid (show m.segs.length ≤ 4 ∧ m.flash.length ≤ m.segs.length from ⟨h3, h4⟩)
    have Hh := Lib.hid hh
    clear h h1 h2 h3 h4 hh x1 K1
    go_enter Try.func28, Try.ntmps28
    go_upto_region 1 with (fail)
    rw [← hw1]
    clear hw1
    go_wp2
    clear g1 g2 g3 g4 f0 f1 f2
    go_loopw [3] (fun v wr => ∃ k : Nat, v = .int .i64 k ∧ k ≤ m.segs.length ∧ Ext w1 wr ∧ (m.segs.take k).all SM.may = true ∧ (List.range (min k m.flash.length)).all m.fit = true) (fun v _ => m.segs.length - (intOf v).toNat)
    case atStart => exact ⟨0, rfl, Nat.zero_le _, Ext.refl _, rfl, by simp⟩
    case round =>
      obtain ⟨k, rfl, hk, xr, hall, hal2⟩ := hrel
      obtain ⟨f0, f1, f2⟩ := cells3 ((xr.block _ (blk_lt HK.out)).trans HK.out)
      by_cases hlt : k < m.segs.length
      · have hkn : (k : Int) < m.segs.length := by omega
        obtain ⟨s, hs⟩ : ∃ s, m.segs[k]? = some s := ⟨_, List.getElem?_eq_getElem hlt⟩
        obtain ⟨b, o, hA, hb, hr⟩ := Shows.row sm_len (by omega) (HH.out.segs.ext xr) rfl hs
        have HS := Lib.hid hs
        have HA := Lib.hid hall
        have HA2 := Lib.hid hal2
        clear hs hall hal2
        subst hA
        go_upto_region 7 with (first | refine wpList_load_mid rfl 54 _ rfl _ _ rfl s.vals _ hr Try.underlying54 rfl size54 ?_ | refine wpList_stnew rfl 54 _ _ rfl rfl s.vals rfl rfl size54 rfl (sm_one s) ?_)
        obtain ⟨w4, hw4⟩ : ∃ V, V = wr.alloc (.cells s.vals.toArray 54) := ⟨_, rfl⟩
        have k4 : w4.heap[wr.heap.size]? = some (.cells #[.int .i64 s.len, .int .i64 s.pages] 54 (0, 0)) := by rw [hw4]; exact heap_alloc_new _ _
        have x4 : Ext wr w4 := by rw [hw4]; exact (Ext.refl _).alloc _
        rw [← hw4]
        clear hw4 hr f0 f1 f2
        obtain ⟨m0, m1⟩ := cells2 k4
        by_cases d1 : s.len < 1
        · go_wp2
          go_ret
          exact ⟨by rw [may_bad HS.out (by simp [SM.may]; omega)]; rfl, HX.out.trans (xr.trans x4)⟩
        · by_cases d2 : 256 < s.len
          · go_wp2
            go_ret
            exact ⟨by rw [may_bad HS.out (by simp [SM.may]; omega)]; rfl, HX.out.trans (xr.trans x4)⟩
          · by_cases d3 : s.pages < 1
            · go_wp2
              go_ret
              exact ⟨by rw [may_bad HS.out (by simp [SM.may]; omega)]; rfl, HX.out.trans (xr.trans x4)⟩
            · by_cases d4 : 4 < s.pages
              · go_wp2
                go_ret
                exact ⟨by rw [may_bad HS.out (by simp [SM.may]; omega)]; rfl, HX.out.trans (xr.trans x4)⟩
              · have hsm : s.may = true := by simp [SM.may]; omega
                have HSM := Lib.hid hsm
                clear hsm
                go_upto_region 9 with (fail)
                clear d1 d2 d3 d4 m0 m1
                obtain ⟨f0, f1, f2⟩ := cells3 (((xr.trans x4).block _ (blk_lt HK.out)).trans HK.out)
                obtain ⟨m0, m1⟩ := cells2 k4
                by_cases hlf : k < m.flash.length
                · have hkf : (k : Int) < m.flash.length := by omega
                  obtain ⟨f, hf⟩ : ∃ f, m.flash[k]? = some f := ⟨_, List.getElem?_eq_getElem hlf⟩
                  obtain ⟨b2, o2, hA3, _, hr2⟩ := Shows.row fb_len (by omega) (HH.out.flash.ext (xr.trans x4)) rfl hf
                  have q2 := hr2 0 _ rfl
                  simp only [Nat.mul_one, Nat.add_zero] at q2
                  have hfit := fit_at hf HS.out
                  have HF := Lib.hid hfit
                  clear hr2 hf hfit
                  subst hA3
                  by_cases d : s.len < f.n
                  · go_quiet (fail)
                    obtain ⟨w5, hWq⟩ : ∃ z : World, z = World.drewN w4 nq := ⟨_, rfl⟩
                    rw [← hWq]
                    have xw5 : Ext w4 w5 := by rw [hWq]; exact (Ext.refl _).drewN _
                    clear hWq
                    go_wp2
                    go_ret
                    exact ⟨by rw [may_unfit hlf (by rw [HF.out]; simpa using d)]; rfl, HX.out.trans (xr.trans (x4.trans xw5))⟩
                  · go_quiet (fail)
                    obtain ⟨w5, hWq⟩ : ∃ z : World, z = World.drewN w4 nq := ⟨_, rfl⟩
                    rw [← hWq]
                    have xw5 : Ext w4 w5 := by rw [hWq]; exact (Ext.refl _).drewN _
                    clear hWq
                    go_wp2
                    go_roundw
                    case rel => exact ⟨k + 1, by go_num, by omega, xr.trans (x4.trans xw5), all_take HA.out HS.out HSM.out, by rw [show min (k + 1) m.flash.length = min k m.flash.length + 1 by omega]; exact all_range HA2.out (by rw [show min k m.flash.length = k by omega, HF.out]; simpa using d)⟩
                    case measure => simp [intOf]; omega
                · have hkf : ¬ (k : Int) < m.flash.length := by omega
                  go_quiet (fail)
                  obtain ⟨w5, hWq⟩ : ∃ z : World, z = World.drewN w4 nq := ⟨_, rfl⟩
                  rw [← hWq]
                  have xw5 : Ext w4 w5 := by rw [hWq]; exact (Ext.refl _).drewN _
                  clear hWq
                  go_wp2
                  go_roundw
                  case rel => exact ⟨k + 1, by go_num, by omega, xr.trans (x4.trans xw5), all_take HA.out HS.out HSM.out, by rw [show min (k + 1) m.flash.length = min k m.flash.length by omega]; exact HA2.out⟩
                  case measure => simp [intOf]; omega
      · obtain rfl : k = m.segs.length := by omega
        rw [List.take_length] at hall
        rw [Nat.min_eq_right HN.out.2] at hal2
        have HA := Lib.hid hall
        have HA2 := Lib.hid hal2
        clear hall hal2
        go_wp2
        go_ret
        exact ⟨by simp [MP.may, Hh.out, HA.out, HA2.out], HX.out.trans xr⟩
  · have hm : m.may = false := by
      have : m.head = false := by simpa using hh
      simp [MP.may, this]
    rw [hm]
    have hh' : ¬ (0 ≤ m.ram ∧ m.ram ≤ 1024 ∧ m.segs.length ≤ 4 ∧ m.flash.length ≤ m.segs.length) := fun ⟨a, b, c, d⟩ => hh (by simp [MP.head, a, b, c, d])
    have HH := Lib.hid hh'
    have HX := Lib.hid x1
    clear hh hh' h K1 hm x1 hms hmf
    by_cases d1 : m.ram < 0
    · go_enter Try.func28, Try.ntmps28
      go_upto_region 1 with (fail)
      rw [← hw1]; clear hw1
      go_wp2
      go_ret
      exact ⟨rfl, HX.out⟩
    · by_cases d2 : 1024 < m.ram
      · go_enter Try.func28, Try.ntmps28
        go_upto_region 1 with (fail)
        rw [← hw1]; clear hw1
        go_wp2
        go_ret
        exact ⟨rfl, HX.out⟩
      · by_cases d3 : (4 : Int) < m.segs.length
        · go_enter Try.func28, Try.ntmps28
          go_upto_region 1 with (fail)
          rw [← hw1]; clear hw1
          go_wp2
          go_ret
          exact ⟨rfl, HX.out⟩
        · have d4 : (m.segs.length : Int) < m.flash.length := by have := HH.out; omega
          go_enter Try.func28, Try.ntmps28
          go_upto_region 1 with (fail)
          rw [← hw1]; clear hw1
          go_wp2
          go_ret
          exact ⟨rfl, HX.out⟩
end Go.Proofs.Ytjgmnbfadnlikaa
