import Derived.Test.YtjgmnbfadnlikaaG
set_option linter.unusedVariables false
set_option linter.unusedSimpArgs false
namespace Go.Proofs.Ytjgmnbfadnlikaa
open Go.RowKit
theorem not_has {s : MS} (h : s.ok) {seg : Int} (hn : ¬ (0 ≤ seg ∧ seg < s.segs.length)) (k : Int) : ¬ s.has seg k := by
  rintro ⟨h1, _, q, hq, _⟩
  have := (List.getElem?_eq_some_iff.1 hq).1
  exact hn ⟨h1, by omega⟩
section
variable {w : World} {g : Nat} {s : MS} {va : Tg → Value} {T : Nat → Option Tg}
theorem page_arg (who seg : Int) (h1 : who ≠ 1) (h2 : who ≠ 2) : Calls Try.prog 24 #[.pointer (some ⟨g, 0, none⟩), .int .u8 who, .int .i64 seg] w fun e w' => e = .returned (.tuple #[.int .i64 0, .int .i64 1]) ∧ w = w' := by
  go_enter Try.func24, Try.ntmps24
  go_wp2_with (go_at_call 33; (refine (place_0 who h1 h2 _).mono ?_); rintro e w1 ⟨rfl, rfl⟩)
  go_ret2
  exact ⟨rfl, rfl⟩
set_option maxHeartbeats 1000000 in
theorem page_no1 (h : MemC w g s va T) (seg : Int) (hn : ¬ s.has seg 0) : Calls Try.prog 24 #[.pointer (some ⟨g, 0, none⟩), .int .u8 1, .int .i64 seg] w fun e w' => e = .returned (.tuple #[.int .i64 0, .int .i64 82]) ∧ w = w' := by
  have HH := Lib.hid h
  have HN := Lib.hid hn
  clear h hn
  go_enter Try.func24, Try.ntmps24
  go_wp2_with (first | (go_at_call 33; (refine (place_1 _).mono ?_); rintro e w1 ⟨rfl, rfl⟩) | (go_at_call 34; (refine (has_no HH.out seg 0 HN.out).mono ?_); rintro e w1 ⟨rfl, rfl⟩))
  go_ret2
  exact ⟨rfl, rfl⟩
theorem page_yes1 (h : MemC w g s va T) (i : Nat) {q : Sg} (hq : s.segs[i]? = some q) : Calls Try.prog 24 #[.pointer (some ⟨g, 0, none⟩), .int .u8 1, .int .i64 (i : Int)] w fun e w' => e = .returned (.tuple #[.int .i64 (q.a : Int), .int .i64 0]) ∧ w = w' := by
  obtain ⟨rA, rc, sA, sc, hr, hs, K⟩ := h.row2
  obtain ⟨k0, k1⟩ := cells2 K
  have hil : i < s.segs.length := (List.getElem?_eq_some_iff.1 hq).1
  obtain ⟨sg, sc', P, pc, e, _, _, m0, m1, m2, _, _⟩ := h.at_ hq
  rw [hs] at e
  injection e with e1 e2 e3
  subst e1 e3
  have h1 : (i : Int) < s.segs.length := by omega
  have hy := has_yes h i 0 hq (by have := (h.ok.g q (List.mem_of_getElem? hq)).p1; omega)
  have HY := Lib.hid hy
  generalize s.segs.length = sn at *
  generalize q.pages.length = pn at *
  clear hq hr hs h hy
  go_enter Try.func24, Try.ntmps24
  go_wp2_with (first | (go_at_call 33; (refine (place_1 _).mono ?_); rintro e w1 ⟨rfl, rfl⟩) | (go_at_call 34; (refine HY.out.mono ?_); rintro e w1 ⟨rfl, rfl⟩))
  go_ret2
  exact ⟨rfl, rfl⟩
set_option maxHeartbeats 1000000 in
theorem page_no2 (h : MemC w g s va T) (seg : Int) (hn : ¬ s.has seg 0) : Calls Try.prog 24 #[.pointer (some ⟨g, 0, none⟩), .int .u8 2, .int .i64 seg] w fun e w' => e = .returned (.tuple #[.int .i64 0, .int .i64 82]) ∧ w = w' := by
  have HH := Lib.hid h
  have HN := Lib.hid hn
  clear h hn
  go_enter Try.func24, Try.ntmps24
  go_wp2_with (first | (go_at_call 33; (refine (place_2 _).mono ?_); rintro e w1 ⟨rfl, rfl⟩) | (go_at_call 34; (refine (has_no HH.out seg 0 HN.out).mono ?_); rintro e w1 ⟨rfl, rfl⟩))
  go_ret2
  exact ⟨rfl, rfl⟩
theorem page_yes2 (h : MemC w g s va T) (i : Nat) {q : Sg} (hq : s.segs[i]? = some q) : Calls Try.prog 24 #[.pointer (some ⟨g, 0, none⟩), .int .u8 2, .int .i64 (i : Int)] w fun e w' => e = .returned (.tuple #[.int .i64 (q.x : Int), .int .i64 0]) ∧ w = w' := by
  obtain ⟨rA, rc, sA, sc, hr, hs, K⟩ := h.row2
  obtain ⟨k0, k1⟩ := cells2 K
  have hil : i < s.segs.length := (List.getElem?_eq_some_iff.1 hq).1
  obtain ⟨sg, sc', P, pc, e, _, _, m0, m1, m2, _, _⟩ := h.at_ hq
  rw [hs] at e
  injection e with e1 e2 e3
  subst e1 e3
  have h1 : (i : Int) < s.segs.length := by omega
  have hy := has_yes h i 0 hq (by have := (h.ok.g q (List.mem_of_getElem? hq)).p1; omega)
  have HY := Lib.hid hy
  generalize s.segs.length = sn at *
  generalize q.pages.length = pn at *
  clear hq hr hs h hy
  go_enter Try.func24, Try.ntmps24
  go_wp2_with (first | (go_at_call 33; (refine (place_2 _).mono ?_); rintro e w1 ⟨rfl, rfl⟩) | (go_at_call 34; (refine HY.out.mono ?_); rintro e w1 ⟨rfl, rfl⟩))
  go_ret2
  exact ⟨rfl, rfl⟩
end
def MS.pg (s : MS) (who seg : Int) : Int × Int := if ¬ (who = 1 ∨ who = 2) then (0, 1) else if ¬ (0 ≤ seg ∧ seg < s.segs.length) then (0, 82) else match s.segs[seg.toNat]? with
  | none => (0, 82)
  | some q => (q.see who, 0)
theorem page_any {w : World} {g : Nat} {s : MS} {va : Tg → Value} {T : Nat → Option Tg} (h : MemC w g s va T) (who seg : Int) : Calls Try.prog 24 #[.pointer (some ⟨g, 0, none⟩), .int .u8 who, .int .i64 seg] w fun e w' => e = .returned (.tuple #[.int .i64 (s.pg who seg).1, .int .i64 (s.pg who seg).2]) ∧ w = w' := by
  unfold MS.pg
  by_cases h1 : who = 1 ∨ who = 2
  · rw [if_neg (fun h => h h1)]
    by_cases h2 : 0 ≤ seg ∧ seg < s.segs.length
    · rw [if_neg (fun h => h h2)]
      obtain ⟨i, rfl⟩ : ∃ i : Nat, seg = i := ⟨seg.toNat, by omega⟩
      obtain ⟨q, hq⟩ : ∃ q, s.segs[i]? = some q := ⟨_, List.getElem?_eq_getElem (by omega)⟩
      simp only [Int.toNat_natCast, hq]
      rcases h1 with rfl | rfl
      · exact page_yes1 h i hq
      · exact page_yes2 h i hq
    · rw [if_pos h2]
      have hn := not_has h.ok h2 0
      rcases h1 with rfl | rfl
      · exact page_no1 h seg hn
      · exact page_no2 h seg hn
  · rw [if_pos h1]
    exact page_arg who seg (fun e => h1 (.inl e)) (fun e => h1 (.inr e))
end Go.Proofs.Ytjgmnbfadnlikaa
