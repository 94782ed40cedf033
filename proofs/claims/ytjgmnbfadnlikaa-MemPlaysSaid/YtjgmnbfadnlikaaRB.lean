import Derived.Test.YtjgmnbfadnlikaaRA
set_option linter.unusedVariables false
set_option linter.unusedSimpArgs false
namespace Go.Proofs.Ytjgmnbfadnlikaa
open Go.RowKit
section
variable {w w' : World} {g : Nat} {s : MS} {va : Tg → Value} {T : Nat → Option Tg}
theorem r_area0 (h : MemR w g s va T) (who : Int) : Calls Try.prog 29 #[.pointer (some ⟨g, 0, none⟩), .int .u8 who, .int .u8 0] w fun e w' => e = .returned (.tuple #[va (1, 0, 0), .bool false, .bool true]) ∧ w = w' := by
  obtain ⟨rA, rc, sA, sc, eA, ec, hr, hs, he, h1, h2, h3, K⟩ := h.row3
  obtain ⟨k0, k1, k2⟩ := cells3 K
  rw [hr]
  clear h hr hs he K k1 k2
  go_enter Try.func29, Try.ntmps29
  go_wp2
  go_ret3
  exact ⟨rfl, rfl⟩
theorem r_area_no (h : MemR w g s va T) (who : Int) {area : Nat} (ha : s.segs.length < area) (h4 : area < 256) : Calls Try.prog 29 #[.pointer (some ⟨g, 0, none⟩), .int .u8 who, .int .u8 (area : Int)] w fun e w' => e = .returned (.tuple #[.slice none 0 0, .bool false, .bool false]) ∧ w = w' := by
  obtain ⟨rA, rc, sA, sc, eA, ec, hr, hs, he, h1, h2, h3, K⟩ := h.row3
  obtain ⟨k0, k1, k2⟩ := cells3 K
  obtain ⟨i, hi⟩ : ∃ i, area = i + 1 := ⟨area - 1, by omega⟩
  have hki : (area : Int) - 1 = (i : Int) := by omega
  have hz : ((area : Int) == 0) = false := by simp; omega
  have hz2 : ¬ ((area : Int) = 0) := by omega
  have hge : ¬ ((i : Int) < s.segs.length) := by omega
  have hge2 : (s.segs.length : Int) ≤ i := by omega
  generalize s.segs.length = sn at *
  have a63 : area < 9223372036854775808 := by omega
  have i63 : i < 9223372036854775808 := by omega
  clear h hr hs he K k0 k2 ha h4 hi
  have ua := wri area a63
  have ui := wri i i63
  clear a63 i63
  go_enter Try.func29, Try.ntmps29
  go_wp2
  go_ret3
  exact ⟨rfl, rfl⟩
set_option maxHeartbeats 1000000 in
theorem r_area_1 (h : MemR w g s va T) {i : Nat} {q : Sg} (hq : s.segs[i]? = some q) : Calls Try.prog 29 #[.pointer (some ⟨g, 0, none⟩), .int .u8 1, .int .u8 ((i + 1 : Nat) : Int)] w fun e w' => e = .returned (.tuple #[va (4, i, q.a), .bool (q.a == 0), .bool true]) ∧ w = w' := by
  obtain ⟨rA, rc, sA, sc, eA, ec, hr, hs, he, h1, h2, h3, K⟩ := h.row3
  obtain ⟨k0, k1, k2⟩ := cells3 K
  obtain ⟨sg, eg, rfl, rfl, m0, m1, m2, _, _⟩ := h.at_ hq hs he
  have hkq := h.ok.g q (List.mem_of_getElem? hq)
  have hil := (List.getElem?_eq_some_iff.1 hq).1
  have hn4 := h.ok.n
  obtain ⟨P, pc, u, hpv, hpc, _, hu, hcell⟩ := own_at (h.pg hq) hkq.a
  rw [pgRow_get va _ _ hkq.a] at hu
  injection hu with hu
  subst hu
  obtain ⟨A, c, hv, hc1, hc2⟩ := own_form (h.by_ hq (List.getElem?_eq_getElem hkq.a))
  rw [hv] at hcell ⊢
  obtain ⟨L, hL⟩ : ∃ L, L = (q.pages[q.a]'hkq.a).length := ⟨_, rfl⟩
  rw [← hL] at hcell ⊢
  rw [hpv] at m0
  have hlt := hkq.a
  obtain ⟨see, hsee⟩ : ∃ see, see = q.a := ⟨_, rfl⟩
  obtain ⟨pn, hpn⟩ : ∃ pn, pn = q.pages.length := ⟨_, rfl⟩
  obtain ⟨sn, hsn⟩ : ∃ sn, sn = s.segs.length := ⟨_, rfl⟩
  rw [← hsee, ← hpn] at hlt
  try rw [← hsee] at m1
  try rw [← hsee] at m2
  rw [← hsee] at hcell ⊢
  rw [← hpn] at m0
  rw [← hsn] at k1 k2 hil
  obtain ⟨area, ha⟩ : ∃ area, area = i + 1 := ⟨_, rfl⟩
  rw [← ha]
  have hki : (area : Int) - 1 = (i : Int) := by omega
  have hz : ((area : Int) == 0) = false := by simp; omega
  have hz2 : ¬ ((area : Int) = 0) := by omega
  have hge : ¬ (sn ≤ i) := by omega
  have hge2 : ¬ ((sn : Int) ≤ i) := by omega
  have hlt2 : (i : Int) < sn := by omega
  have hs2 : (see : Int) < pn := by omega
  have a63 : area < 9223372036854775808 := by omega
  have i63 : i < 9223372036854775808 := by omega
  have hse : ((see : Int) == 0) = (see == 0) := by rw [Bool.eq_iff_iff]; simp
  clear hL hv hc1 hc2
  clear h hr hs he K hkq hpv hq hsee hpn hsn hn4 ha h1 h2 h3 hpc
  have ua := wri area a63
  have ui := wri i i63
  clear a63 i63
  go_enter Try.func29, Try.ntmps29
  go_wp2
  go_ret3
  exact ⟨by simp [hse], rfl⟩
set_option maxHeartbeats 1000000 in
theorem r_area_2 (h : MemR w g s va T) {i : Nat} {q : Sg} (hq : s.segs[i]? = some q) : Calls Try.prog 29 #[.pointer (some ⟨g, 0, none⟩), .int .u8 2, .int .u8 ((i + 1 : Nat) : Int)] w fun e w' => e = .returned (.tuple #[va (4, i, q.x), .bool (q.x == 0), .bool true]) ∧ w = w' := by
  obtain ⟨rA, rc, sA, sc, eA, ec, hr, hs, he, h1, h2, h3, K⟩ := h.row3
  obtain ⟨k0, k1, k2⟩ := cells3 K
  obtain ⟨sg, eg, rfl, rfl, m0, m1, m2, _, _⟩ := h.at_ hq hs he
  have hkq := h.ok.g q (List.mem_of_getElem? hq)
  have hil := (List.getElem?_eq_some_iff.1 hq).1
  have hn4 := h.ok.n
  obtain ⟨P, pc, u, hpv, hpc, _, hu, hcell⟩ := own_at (h.pg hq) hkq.x
  rw [pgRow_get va _ _ hkq.x] at hu
  injection hu with hu
  subst hu
  obtain ⟨A, c, hv, hc1, hc2⟩ := own_form (h.by_ hq (List.getElem?_eq_getElem hkq.x))
  rw [hv] at hcell ⊢
  obtain ⟨L, hL⟩ : ∃ L, L = (q.pages[q.x]'hkq.x).length := ⟨_, rfl⟩
  rw [← hL] at hcell ⊢
  rw [hpv] at m0
  have hlt := hkq.x
  obtain ⟨see, hsee⟩ : ∃ see, see = q.x := ⟨_, rfl⟩
  obtain ⟨pn, hpn⟩ : ∃ pn, pn = q.pages.length := ⟨_, rfl⟩
  obtain ⟨sn, hsn⟩ : ∃ sn, sn = s.segs.length := ⟨_, rfl⟩
  rw [← hsee, ← hpn] at hlt
  try rw [← hsee] at m1
  try rw [← hsee] at m2
  rw [← hsee] at hcell ⊢
  rw [← hpn] at m0
  rw [← hsn] at k1 k2 hil
  obtain ⟨area, ha⟩ : ∃ area, area = i + 1 := ⟨_, rfl⟩
  rw [← ha]
  have hki : (area : Int) - 1 = (i : Int) := by omega
  have hz : ((area : Int) == 0) = false := by simp; omega
  have hz2 : ¬ ((area : Int) = 0) := by omega
  have hge : ¬ (sn ≤ i) := by omega
  have hge2 : ¬ ((sn : Int) ≤ i) := by omega
  have hlt2 : (i : Int) < sn := by omega
  have hs2 : (see : Int) < pn := by omega
  have a63 : area < 9223372036854775808 := by omega
  have i63 : i < 9223372036854775808 := by omega
  have hse : ((see : Int) == 0) = (see == 0) := by rw [Bool.eq_iff_iff]; simp
  clear hL hv hc1 hc2
  clear h hr hs he K hkq hpv hq hsee hpn hsn hn4 ha h1 h2 h3 hpc
  have ua := wri area a63
  have ui := wri i i63
  clear a63 i63
  go_enter Try.func29, Try.ntmps29
  go_wp2
  go_ret3
  exact ⟨by simp [hse], rfl⟩
/-- who sees an area. -/
theorem r_area_any (h : MemR w g s va T) {who : Int} (hw : who = 1 ∨ who = 2) {area : Nat} (h4 : area < 256) : Calls Try.prog 29 #[.pointer (some ⟨g, 0, none⟩), .int .u8 who, .int .u8 (area : Int)] w fun e w' =>
    e = .returned (if s.segs.length < area then .tuple #[.slice none 0 0, .bool false, .bool false] else .tuple #[va (s.vt who area), .bool (!s.may who area), .bool true]) ∧ w = w' := by
  by_cases h0 : s.segs.length < area
  · rw [if_pos h0]; exact r_area_no h who h0 h4
  · rw [if_neg h0]
    by_cases hz : area = 0
    · subst hz
      have e1 : s.vt who 0 = (1, 0, 0) := by unfold MS.vt; rw [if_pos rfl]
      have e2 : s.may who 0 = true := by unfold MS.may; rw [if_pos rfl]
      rw [e1, e2]
      exact r_area0 h who
    · obtain ⟨i, rfl⟩ : ∃ i, area = i + 1 := ⟨area - 1, by omega⟩
      obtain ⟨q, hq⟩ : ∃ q, s.segs[i]? = some q := ⟨_, List.getElem?_eq_getElem (by omega)⟩
      have e1 : s.vt who (i + 1) = (4, i, q.see who) := by unfold MS.vt; rw [if_neg (by omega), Nat.add_sub_cancel, hq]
      rw [e1, may_sg hq]
      have e3 : (!(q.see who != 0)) = (q.see who == 0) := by simp [bne]
      rw [e3]
      rcases hw with rfl | rfl
      · exact r_area_1 h hq
      · exact r_area_2 h hq
set_option maxHeartbeats 1000000 in
theorem r_has_no (h : MemR w g s va T) (seg page : Int) (hn : ¬ s.has seg page) : Calls Try.prog 30 #[.pointer (some ⟨g, 0, none⟩), .int .i64 seg, .int .i64 page] w fun e w' => e = .returned (.bool false) ∧ w = w' := by
  obtain ⟨rA, rc, sA, sc, eA, ec, hr, hs, he, _, _, _, K⟩ := h.row3
  obtain ⟨k0, k1, k2⟩ := cells3 K
  by_cases h1 : 0 ≤ seg
  · by_cases h2 : seg < s.segs.length
    · by_cases h3 : 0 ≤ page
      · obtain ⟨i, rfl⟩ : ∃ i : Nat, seg = i := ⟨seg.toNat, by omega⟩
        obtain ⟨q, hq⟩ : ∃ q, s.segs[i]? = some q := ⟨_, List.getElem?_eq_getElem (by omega)⟩
        have h4 : ¬ page < q.pages.length := fun h4 => hn ⟨h1, h3, q, by simpa using hq, h4⟩
        obtain ⟨sg, eg, rfl, rfl, m0, m1, m2, _, _⟩ := h.at_ hq hs he
        obtain ⟨P, pc, hpv, _, _⟩ := own_form (h.pg hq)
        rw [hpv] at m0
        have h2' : i < s.segs.length := by omega
        generalize s.segs.length = sn at *
        generalize q.pages.length = pn at *
        clear hq hn hr hs he h K hpv m1 m2 k0 k2
        go_enter Try.func30, Try.ntmps30
        go_wp2
        go_ret
        exact ⟨rfl, rfl⟩
      · generalize s.segs.length = sn at *
        clear hn hr hs he h K k0 k2
        go_enter Try.func30, Try.ntmps30
        go_wp2
        go_ret
        exact ⟨rfl, rfl⟩
    · generalize s.segs.length = sn at *
      clear hn hr hs he h K k0 k2
      go_enter Try.func30, Try.ntmps30
      go_wp2
      go_ret
      exact ⟨rfl, rfl⟩
  · clear hn hr hs he h K k0 k1 k2
    go_enter Try.func30, Try.ntmps30
    go_wp2
    go_ret
    exact ⟨rfl, rfl⟩
set_option maxHeartbeats 1000000 in
theorem r_has_yes (h : MemR w g s va T) (i k : Nat) {q : Sg} (hq : s.segs[i]? = some q) (hk : k < q.pages.length) : Calls Try.prog 30 #[.pointer (some ⟨g, 0, none⟩), .int .i64 (i : Int), .int .i64 (k : Int)] w fun e w' => e = .returned (.bool true) ∧ w = w' := by
  obtain ⟨rA, rc, sA, sc, eA, ec, hr, hs, he, _, _, _, K⟩ := h.row3
  obtain ⟨k0, k1, k2⟩ := cells3 K
  have hil : i < s.segs.length := (List.getElem?_eq_some_iff.1 hq).1
  obtain ⟨sg, eg, rfl, rfl, m0, m1, m2, _, _⟩ := h.at_ hq hs he
  obtain ⟨P, pc, hpv, _, _⟩ := own_form (h.pg hq)
  rw [hpv] at m0
  have h1 : (i : Int) < s.segs.length := by omega
  have h2 : (k : Int) < q.pages.length := by omega
  generalize s.segs.length = sn at *
  generalize q.pages.length = pn at *
  clear hq hr hs he h K hpv m1 m2 k0 k2
  go_enter Try.func30, Try.ntmps30
  go_wp2
  go_ret
  exact ⟨rfl, rfl⟩
theorem r_has_fn (h : MemR w g s va T) (seg : Int) : ∃ f : Int → Bool, (∀ p, (f p = true ↔ s.has seg p)) ∧ ∀ p, Calls Try.prog 30 #[.pointer (some ⟨g, 0, none⟩), .int .i64 seg, .int .i64 p] w fun e w' => e = .returned (.bool (f p)) ∧ w = w' := by
  classical
  refine ⟨fun p => decide (s.has seg p), fun p => by simp, fun p => ?_⟩
  by_cases hp : s.has seg p
  · show Calls Try.prog 30 _ w fun e w' => e = .returned (.bool (decide (s.has seg p))) ∧ w = w'
    rw [decide_eq_true hp]
    obtain ⟨i, k, q, rfl, rfl, hq, hk⟩ := has_nat hp
    exact r_has_yes h i k hq hk
  · show Calls Try.prog 30 _ w fun e w' => e = .returned (.bool (decide (s.has seg p))) ∧ w = w'
    rw [decide_eq_false hp]
    exact r_has_no h seg p hp
end
end Go.Proofs.Ytjgmnbfadnlikaa
