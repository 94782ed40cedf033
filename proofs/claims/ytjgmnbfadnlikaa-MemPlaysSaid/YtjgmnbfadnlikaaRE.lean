import Derived.Test.YtjgmnbfadnlikaaRD
set_option linter.unusedVariables false
set_option linter.unusedSimpArgs false
namespace Go.Proofs.Ytjgmnbfadnlikaa
open Go.RowKit
theorem mspec_pages {s : MS} {va : Tg → Value} {i : Nat} {q q' : Sg} (hq : s.segs[i]? = some q) (hp : q'.pages = q.pages) (t : Tg) (ht : t.1 = 1 ∨ t.1 = 3 ∨ t.1 = 4) : mspec (s.seg i q') va t = mspec s va t := by
  have hil := (List.getElem?_eq_some_iff.1 hq).1
  obtain ⟨a, b, c⟩ := t
  rcases ht with rfl | rfl | rfl
  · rfl
  · simp only [mspec, MS.seg, List.getElem?_set]
    by_cases e : i = b
    · subst e; rw [if_pos rfl, if_pos hil, hq]; simp [hp]
    · simp [e]
  · simp only [mspec, MS.seg, List.getElem?_set]
    by_cases e : i = b
    · subst e; rw [if_pos rfl, if_pos hil, hq]; simp [hp]
    · simp [e]
section
variable {w : World} {g : Nat} {s : MS} {va : Tg → Value} {T : Nat → Option Tg}
/-- which page is seen, written. -/
theorem r_see_set (h : MemR w g s va T) {i c : Nat} {q q' : Sg} {u : Value} (hq : s.segs[i]? = some q) (hp : q'.pages = q.pages) (hok : q'.ok) (hc : c < 2)
    (hu : ([.int .i64 (q.a : Int), .int .i64 (q.x : Int)] : List Value).set c u = [.int .i64 (q'.a : Int), .int .i64 (q'.x : Int)]) {eg n ec : Nat} (he : va (5, 0, 0) = .slice (some ⟨eg, 0, none⟩) n ec) :
    MemR (w.setCell ⟨eg, i * 2 + c, none⟩ u) g (s.seg i q') va T ∧ Kept (fun b => T b ≠ none) w (w.setCell ⟨eg, i * 2 + c, none⟩ u) := by
  have hil := (List.getElem?_eq_some_iff.1 hq).1
  obtain ⟨g', c', e, O, hf, hcell, hT⟩ := Own.cell h.O (t0 := (5, 0, 0)) (p0 := ⟨56, 2, s.segs.length, seeRow s.segs⟩) rfl (i := i * 2 + c) (by simp only; omega) u (sp' := rspec (s.seg i q') va) (by
    intro t ht p hpp
    rw [← hpp]
    obtain ⟨a, b, d⟩ := t
    match a with
    | 0 => rfl
    | 1 => rfl
    | 2 => simp [rspec, MS.seg]
    | 3 => exact (mspec_pages (va := va) hq hp (3, b, d) (by simp)).symm
    | 4 => exact (mspec_pages (va := va) hq hp (4, b, d) (by simp)).symm
    | 5 =>
      simp only [rspec] at hpp ⊢
      split at hpp
      · rename_i e; exact absurd (by rw [e]) ht
      · cases hpp
    | n + 6 => rfl) (by
    intro p hpp
    simp only [rspec, if_true] at hpp
    injection hpp with hpp
    rw [← hpp]
    simp only [MS.seg, List.length_set, seeRow_set s.segs i q q' c u hq hu hc])
  rw [he] at e
  injection e with e1 e2 e3
  injection e1 with e1
  injection e1 with e1
  subst e1
  exact ⟨⟨O, h.g0, seg_ok h.ok hok⟩, Kept.of_set u (by simp [hT])⟩
set_option maxHeartbeats 1000000 in
theorem r_set_arg (who seg page : Int) (hn : ¬ (1 ≤ who ∧ who ≤ 3)) : Calls Try.prog 16 #[.pointer (some ⟨g, 0, none⟩), .int .u8 who, .int .i64 seg, .int .i64 page] w fun e w' => e = .returned (.int .i64 1) ∧ w = w' := by
  by_cases hw1 : who < 1
  · clear hn
    go_enter Try.func16, Try.ntmps16
    go_wp2
    go_ret
    exact ⟨rfl, rfl⟩
  · have hw2 : 3 < who := by omega
    clear hn
    go_enter Try.func16, Try.ntmps16
    go_wp2
    go_ret
    exact ⟨rfl, rfl⟩
theorem r_set_no (h : MemR w g s va T) (who seg page : Int) (hw : 1 ≤ who ∧ who ≤ 3) (hn : ¬ s.has seg page) : Calls Try.prog 16 #[.pointer (some ⟨g, 0, none⟩), .int .u8 who, .int .i64 seg, .int .i64 page] w fun e w' => e = .returned (.int .i64 82) ∧ w = w' := by
  have HH := Lib.hid (r_has_no h seg page hn)
  have hw1 : ¬ who < 1 := by omega
  have hw2 : ¬ 3 < who := by omega
  clear h hn hw
  go_enter Try.func16, Try.ntmps16
  go_wp2_with (go_at_call 30; (refine HH.out.mono ?_); rintro e w1 ⟨rfl, rfl⟩)
  go_ret
  exact ⟨rfl, rfl⟩
set_option maxHeartbeats 1000000 in
theorem r_set_yes1 (h : MemR w g s va T) {i page : Nat} {q : Sg} (hq : s.segs[i]? = some q) (hp : page < q.pages.length) : Calls Try.prog 16 #[.pointer (some ⟨g, 0, none⟩), .int .u8 1, .int .i64 (i : Int), .int .i64 (page : Int)] w fun e w' => e = .returned (.int .i64 0) ∧ MemR w' g (s.seg i (stp 1 2 q page)) va T ∧ Kept (fun b => T b ≠ none) w w' := by
  have HY := Lib.hid (r_has_yes h i page hq hp)
  obtain ⟨rA, rc, sA, sc, eA, ec, hr, hs, he, _, _, _, K⟩ := h.row3
  obtain ⟨k0, k1, k2⟩ := cells3 K
  have hil : i < s.segs.length := (List.getElem?_eq_some_iff.1 hq).1
  have hkq := h.ok.g q (List.mem_of_getElem? hq)
  obtain ⟨sg, eg, rfl, rfl, m0, m1, m2, z1, z2⟩ := h.at_ hq hs he
  have hres := r_see_set h (q' := stp 1 2 q page) (c := 0) (u := .int .i64 (page : Int)) hq rfl (stp_ok hkq 1 2 hp) (by omega) (by simp [stp]) he
  have HRS := Lib.hid hres
  have h1 : (i : Int) < s.segs.length := by omega
  generalize s.segs.length = sn at *
  clear hq hr hs he h K k0 k1 m0 hkq hres hp
  go_enter Try.func16, Try.ntmps16
  go_wp2_with (go_at_call 30; (refine HY.out.mono ?_); rintro e w1 ⟨rfl, rfl⟩)
  go_ret
  exact ⟨rfl, HRS.out⟩
set_option maxHeartbeats 1000000 in
theorem r_set_yes2 (h : MemR w g s va T) {i page : Nat} {q : Sg} (hq : s.segs[i]? = some q) (hp : page < q.pages.length) : Calls Try.prog 16 #[.pointer (some ⟨g, 0, none⟩), .int .u8 2, .int .i64 (i : Int), .int .i64 (page : Int)] w fun e w' => e = .returned (.int .i64 0) ∧ MemR w' g (s.seg i (stp 2 2 q page)) va T ∧ Kept (fun b => T b ≠ none) w w' := by
  have HY := Lib.hid (r_has_yes h i page hq hp)
  obtain ⟨rA, rc, sA, sc, eA, ec, hr, hs, he, _, _, _, K⟩ := h.row3
  obtain ⟨k0, k1, k2⟩ := cells3 K
  have hil : i < s.segs.length := (List.getElem?_eq_some_iff.1 hq).1
  have hkq := h.ok.g q (List.mem_of_getElem? hq)
  obtain ⟨sg, eg, rfl, rfl, m0, m1, m2, z1, z2⟩ := h.at_ hq hs he
  have hres := r_see_set h (q' := stp 2 2 q page) (c := 1) (u := .int .i64 (page : Int)) hq rfl (stp_ok hkq 2 2 hp) (by omega) (by simp [stp]) he
  have HRS := Lib.hid hres
  have h1 : (i : Int) < s.segs.length := by omega
  generalize s.segs.length = sn at *
  clear hq hr hs he h K k0 k1 m0 hkq hres hp
  go_enter Try.func16, Try.ntmps16
  go_wp2_with (go_at_call 30; (refine HY.out.mono ?_); rintro e w1 ⟨rfl, rfl⟩)
  go_ret
  exact ⟨rfl, HRS.out⟩
set_option maxHeartbeats 1000000 in
theorem r_set_yes3 (h : MemR w g s va T) {i page : Nat} {q : Sg} (hq : s.segs[i]? = some q) (hp : page < q.pages.length) : Calls Try.prog 16 #[.pointer (some ⟨g, 0, none⟩), .int .u8 3, .int .i64 (i : Int), .int .i64 (page : Int)] w fun e w' => e = .returned (.int .i64 0) ∧ MemR w' g (s.seg i (stp 3 2 q page)) va T ∧ Kept (fun b => T b ≠ none) w w' := by
  have HY := Lib.hid (r_has_yes h i page hq hp)
  obtain ⟨rA, rc, sA, sc, eA, ec, hr, hs, he, _, _, _, K⟩ := h.row3
  obtain ⟨k0, k1, k2⟩ := cells3 K
  have hil : i < s.segs.length := (List.getElem?_eq_some_iff.1 hq).1
  have hkq := h.ok.g q (List.mem_of_getElem? hq)
  obtain ⟨sg, eg, rfl, rfl, m0, m1, m2, z1, z2⟩ := h.at_ hq hs he
  have hr1 := r_see_set h (q' := stp 1 2 q page) (c := 0) (u := .int .i64 (page : Int)) hq rfl (stp_ok hkq 1 2 hp) (by omega) (by simp [stp]) he
  have hr2 := r_see_set hr1.1 (q' := stp 3 2 q page) (c := 1) (u := .int .i64 (page : Int)) (seg_get hq) rfl (stp_ok hkq 3 2 hp) (by omega) (by simp [stp]) he
  rw [seg_seg] at hr2
  obtain ⟨w1, hw1⟩ : ∃ V, V = w.setCell ⟨eg, i * 2 + 0, none⟩ (.int .i64 (page : Int)) := ⟨_, rfl⟩
  rw [← hw1] at hr1 hr2
  have hk2 : w1.cell? ⟨g, 2, none⟩ = some (.slice (some ⟨eg, 0, none⟩) s.segs.length ec) := by
    obtain ⟨rA', rc', sA', sc', eA', ec', e1', e2', e3', _, _, _, K'⟩ := hr1.1.row3
    rw [he] at e3'
    injection e3' with a1 a2 a3
    obtain ⟨_, _, q2⟩ := cells3 K'
    rw [q2, ← a1, ← a3]
    simp [MS.seg]
  obtain ⟨sg', eg', es, ee, _, _, n2, _, y2⟩ := hr1.1.at_ (n := s.segs.length) (seg_get hq) hs he
  injection ee with ee
  injection ee with ee
  subst ee
  clear es
  have HRS := Lib.hid (And.intro hr2.1 (hr1.2.trans' hr2.2))
  have HW1 := Lib.hid (show w.setCell ⟨eg, i * 2, none⟩ (.int .i64 (page : Int)) = w1 from hw1.symm)
  have h1 : (i : Int) < s.segs.length := by omega
  generalize s.segs.length = sn at *
  clear hq hr hs he h K k0 k1 m0 hkq hr1 hr2 hp hw1
  go_enter Try.func16, Try.ntmps16
  go_upto_region 7 with (go_at_call 30; (refine HY.out.mono ?_); rintro e w1 ⟨rfl, rfl⟩)
  rw [HW1.out]
  clear k2 m1 m2 z1 z2
  go_wp2
  go_ret
  exact ⟨rfl, HRS.out⟩
theorem r_set_any (h : MemR w g s va T) (who seg page : Int) : Calls Try.prog 16 #[.pointer (some ⟨g, 0, none⟩), .int .u8 who, .int .i64 seg, .int .i64 page] w fun e w' => e = .returned (.int .i64 (s.st who seg page).2) ∧ MemR w' g (s.st who seg page).1 va T ∧ Kept (fun b => T b ≠ none) w w' := by
  by_cases h1 : 1 ≤ who ∧ who ≤ 3
  · by_cases hn : s.has seg page
    · obtain ⟨i, k, q, rfl, rfl, hq, hk⟩ := has_nat hn
      rw [st_seg hq hk who h1]
      have hw : who = 1 ∨ who = 2 ∨ who = 3 := by omega
      rcases hw with rfl | rfl | rfl
      · exact r_set_yes1 h hq hk
      · exact r_set_yes2 h hq hk
      · exact r_set_yes3 h hq hk
    · have e : s.st who seg page = (s, 82) := by
        unfold MS.st
        rw [if_neg (fun h => h h1)]
        rcases hq : s.segs[seg.toNat]? with _ | q
        · rfl
        · simp only
          rw [if_neg (fun h => hn ⟨h.1, h.2.1, q, hq, h.2.2⟩)]
      rw [e]
      refine (r_set_no h who seg page h1 hn).mono ?_
      rintro e w' ⟨rfl, rfl⟩
      exact ⟨rfl, h, Kept.refl _ _⟩
  · have e : s.st who seg page = (s, 1) := by unfold MS.st; rw [if_pos h1]
    rw [e]
    refine (r_set_arg who seg page h1).mono ?_
    rintro e w' ⟨rfl, rfl⟩
    exact ⟨rfl, h, Kept.refl _ _⟩
end
end Go.Proofs.Ytjgmnbfadnlikaa
