import Derived.Test.YtjgmnbfadnlikaaM
set_option linter.unusedVariables false
set_option linter.unusedSimpArgs false
namespace Go.Proofs.Ytjgmnbfadnlikaa
open Go.RowKit
theorem all_take {α : Type} {p : α → Bool} {l : List α} {k : Nat} {a : α} (h : (l.take k).all p = true) (ha : l[k]? = some a) (hp : p a = true) : (l.take (k + 1)).all p = true := by
  rw [List.take_add_one, ha]
  simp [List.all_append, h, hp]
theorem all_range {p : Nat → Bool} {k : Nat} (h : (List.range k).all p = true) (hp : p k = true) : (List.range (k + 1)).all p = true := by
  rw [List.range_succ, List.all_append, h]
  simp [hp]
theorem fit_at {m : MP} {k : Nat} {f : FB} {s : SM} (hf : m.flash[k]? = some f) (hs : m.segs[k]? = some s) : m.fit k = decide ((f.n : Int) ≤ s.len) := by simp [MP.fit, hf, hs]
theorem row_cell {α : Type} {vals : α → List Value} {k : Nat} (hk : ∀ a, (vals a).length = k) (k0 : 0 < k) {w : World} {A : Option Addr} {n : Nat} {l : List α} (h : Shows w k A n (l.flatMap vals)) (hn : n = l.length) {i : Nat} {a : α} (ha : l[i]? = some a) (b o : Nat) (hA : A = some ⟨b, o, none⟩) {j : Nat} {u : Value} (hu : (vals a)[j]? = some u) :
    w.cell? ⟨b, o + i * k + j, none⟩ = some u := by
  obtain ⟨b', o', hA', _, hr⟩ := Shows.row hk k0 h hn ha
  rw [hA] at hA'
  injection hA' with e; injection e with e1 e2
  subst e1 e2
  exact hr j u hu
set_option maxHeartbeats 4000000 in
theorem may_any {w : World} {m : MP} {sA fA : Option Addr} {sc fc : Nat} (h : MpR w m sA fA sc fc) : Calls Try.prog 27 #[.agg #[.int .i64 m.ram, .slice sA m.segs.length sc, .slice fA m.flash.length fc]] w fun e w' => e = .returned (.bool m.may) ∧ Ext w w' := by
  obtain ⟨w1, hw1⟩ : ∃ V, V = w.alloc (.cells #[.int .i64 m.ram, .slice sA m.segs.length sc, .slice fA m.flash.length fc] 25) := ⟨_, rfl⟩
  have K1 : w1.heap[w.heap.size]? = some (.cells #[.int .i64 m.ram, .slice sA m.segs.length sc, .slice fA m.flash.length fc] 25 (0, 0)) := by rw [hw1]; exact heap_alloc_new _ _
  have x1 : Ext w w1 := by rw [hw1]; exact (Ext.refl _).alloc _
  obtain ⟨f0, f1, f2⟩ := cells3 K1
  have hms := h.sm
  have hmf := h.fm
  unfold maxLen at hms hmf
  by_cases hh : m.head = true
  · have hh' := hh
    simp only [MP.head, Bool.and_eq_true, decide_eq_true_eq] at hh'
    obtain ⟨⟨⟨h1, h2⟩, h3⟩, h4⟩ := hh'
    have g1 : ¬ m.ram < 0 := by omega
    have g2 : ¬ 1024 < m.ram := by omega
    have g3 : ¬ (4 : Int) < m.segs.length := by omega
    have g4 : ¬ (m.segs.length : Int) < m.flash.length := by omega
    have HH := Lib.hid (h.ext x1)
    have HX := Lib.hid x1
    have HK := Lib.hid K1
    have HN := Lib.hid (show m.segs.length ≤ 4 ∧ m.flash.length ≤ m.segs.length from ⟨h3, h4⟩)
    have Hh := Lib.hid hh
    clear h h1 h2 h3 h4 hh x1 K1
    go_enter Try.func27, Try.ntmps27
    go_upto_region 1 with (fail)
    rw [← hw1]
    clear hw1
    go_upto_region 4 with (fail)
    clear g1 g2 g3 g4
    go_loopw [33] (fun v wr => ∃ k : Nat, v = .int .i64 k ∧ k ≤ m.segs.length ∧ Ext w1 wr ∧ (m.segs.take k).all SM.may = true) (fun v _ => m.segs.length - (intOf v).toNat)
    case atStart => exact ⟨0, rfl, Nat.zero_le _, Ext.refl _, rfl⟩
    case round =>
      obtain ⟨k, rfl, hk, xr, hall⟩ := hrel
      clear f0 f1 f2
      by_cases hlt : k < m.segs.length
      · have hkn : (k : Int) < m.segs.length := by omega
        obtain ⟨s, hs⟩ : ∃ s, m.segs[k]? = some s := ⟨_, List.getElem?_eq_getElem hlt⟩
        obtain ⟨b, o, hA, hb, hr⟩ := Shows.row sm_len (by omega) (HH.out.segs.ext xr) rfl hs
        have HS := Lib.hid hs
        have HA := Lib.hid hall
        clear hs hall
        subst hA
        go_upto_region 6 with (first | refine wpList_load_mid rfl 54 _ rfl _ _ rfl s.vals _ hr Try.underlying54 rfl size54 ?_ | refine wpList_stnew rfl 54 _ _ rfl rfl s.vals rfl rfl size54 rfl (sm_one s) ?_)
        obtain ⟨w4, hw4⟩ : ∃ V, V = wr.alloc (.cells s.vals.toArray 54) := ⟨_, rfl⟩
        have k4 : w4.heap[wr.heap.size]? = some (.cells #[.int .i64 s.len, .int .i64 s.pages] 54 (0, 0)) := by rw [hw4]; exact heap_alloc_new _ _
        have x4 : Ext wr w4 := by rw [hw4]; exact (Ext.refl _).alloc _
        rw [← hw4]
        clear hw4 hr
        obtain ⟨m0, m1⟩ := cells2 k4
        clear k4
        by_cases d1 : s.len < 1
        · go_wp2
          go_ret
          exact ⟨by rw [may_bad HS.out (by simp [SM.may]; omega)]; rfl, HX.out.trans (xr.trans x4)⟩
        · by_cases d2 : 256 < s.len
          · go_wp2
            go_ret
            exact ⟨by rw [may_bad HS.out (by simp [SM.may]; omega)]; rfl, HX.out.trans (xr.trans x4)⟩
          · by_cases d3 : s.pages < 1
            · go_wp2
              go_ret
              exact ⟨by rw [may_bad HS.out (by simp [SM.may]; omega)]; rfl, HX.out.trans (xr.trans x4)⟩
            · by_cases d4 : 4 < s.pages
              · go_wp2
                go_ret
                exact ⟨by rw [may_bad HS.out (by simp [SM.may]; omega)]; rfl, HX.out.trans (xr.trans x4)⟩
              · go_wp2
                go_roundw
                case rel => exact ⟨k + 1, by go_num, by omega, xr.trans x4, all_take HA.out HS.out (by simp [SM.may]; omega)⟩
                case measure => simp [intOf]; omega
      · obtain rfl : k = m.segs.length := by omega
        rw [List.take_length] at hall
        have HA := Lib.hid hall
        obtain ⟨f0, f1, f2⟩ := cells3 ((xr.block _ (blk_lt HK.out)).trans HK.out)
        clear hall
        go_upto_region 10 with (fail)
        go_loopw [59] (fun v wq => ∃ k : Nat, v = .int .i64 k ∧ k ≤ m.flash.length ∧ Ext wr wq ∧ (List.range k).all m.fit = true) (fun v _ => m.flash.length - (intOf v).toNat)
        case atStart => exact ⟨0, rfl, Nat.zero_le _, Ext.refl _, rfl⟩
        case round =>
          obtain ⟨k, rfl, hk, xq, hall⟩ := hrel
          by_cases hlt : k < m.flash.length
          · have hkn : (k : Int) < m.flash.length := by omega
            have hks : k < m.segs.length := by have := HN.out.2; omega
            have hks' : (k : Int) < m.segs.length := by omega
            obtain ⟨s, hs⟩ : ∃ s, m.segs[k]? = some s := ⟨_, List.getElem?_eq_getElem hks⟩
            obtain ⟨f, hf⟩ : ∃ f, m.flash[k]? = some f := ⟨_, List.getElem?_eq_getElem hlt⟩
            obtain ⟨b, o, hA, _, hr⟩ := Shows.row sm_len (by omega) (HH.out.segs.ext (xr.trans xq)) rfl hs
            obtain ⟨b2, o2, hA2, _, hr2⟩ := Shows.row fb_len (by omega) (HH.out.flash.ext (xr.trans xq)) rfl hf
            have q0 := hr 0 _ rfl
            have q2 := hr2 0 _ rfl
            simp only [Nat.mul_one, Nat.add_zero] at q0 q2
            have hfit := fit_at hf hs
            have HF := Lib.hid hfit
            have HA2 := Lib.hid hall
            clear hr hr2 hs hf hall hfit
            subst hA hA2
            obtain ⟨f0, f1, f2⟩ := cells3 (((xr.trans xq).block _ (blk_lt HK.out)).trans HK.out)
            by_cases d : s.len < f.n
            · go_wp2
              go_ret
              exact ⟨by rw [may_unfit hlt (by rw [HF.out]; simpa using d)]; rfl, HX.out.trans (xr.trans xq)⟩
            · go_wp2
              go_roundw
              case rel => exact ⟨k + 1, by go_num, by omega, xq, all_range HA2.out (by rw [HF.out]; simpa using d)⟩
              case measure => simp [intOf]; omega
          · obtain rfl : k = m.flash.length := by omega
            clear f0 f1 f2
            have HA2 := Lib.hid hall
            clear hall
            go_wp2
            go_ret
            exact ⟨by simp [MP.may, Hh.out, HA.out, HA2.out], HX.out.trans (xr.trans xq)⟩
  · have hm : m.may = false := by
      have : m.head = false := by simpa using hh
      simp [MP.may, this]
    rw [hm]
    have hh' : ¬ (0 ≤ m.ram ∧ m.ram ≤ 1024 ∧ m.segs.length ≤ 4 ∧ m.flash.length ≤ m.segs.length) := fun ⟨a, b, c, d⟩ => hh (by simp [MP.head, a, b, c, d])
    have HH := Lib.hid hh'
    have HX := Lib.hid x1
    clear hh hh' h K1 hm x1 hms hmf
    by_cases d1 : m.ram < 0
    · go_enter Try.func27, Try.ntmps27
      go_upto_region 1 with (fail)
      rw [← hw1]; clear hw1
      go_wp2
      go_ret
      exact ⟨rfl, HX.out⟩
    · by_cases d2 : 1024 < m.ram
      · go_enter Try.func27, Try.ntmps27
        go_upto_region 1 with (fail)
        rw [← hw1]; clear hw1
        go_wp2
        go_ret
        exact ⟨rfl, HX.out⟩
      · by_cases d3 : (4 : Int) < m.segs.length
        · go_enter Try.func27, Try.ntmps27
          go_upto_region 1 with (fail)
          rw [← hw1]; clear hw1
          go_wp2
          go_ret
          exact ⟨rfl, HX.out⟩
        · have d4 : (m.segs.length : Int) < m.flash.length := by have := HH.out; omega
          go_enter Try.func27, Try.ntmps27
          go_upto_region 1 with (fail)
          rw [← hw1]; clear hw1
          go_wp2
          go_ret
          exact ⟨rfl, HX.out⟩
end Go.Proofs.Ytjgmnbfadnlikaa
