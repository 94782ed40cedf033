import Derived.Test.YtjgmnbfadnlikaaF
set_option linter.unusedVariables false
set_option linter.unusedSimpArgs false
namespace Go.Proofs.Ytjgmnbfadnlikaa
open Go.RowKit
def MS.has (s : MS) (seg page : Int) : Prop := 0 ≤ seg ∧ 0 ≤ page ∧ ∃ q, s.segs[seg.toNat]? = some q ∧ page < q.pages.length
section
variable {w : World} {g : Nat} {s : MS} {va : Tg → Value} {T : Nat → Option Tg}
theorem MemC.row2 (h : MemC w g s va T) : ∃ rA rc sA sc, va (1, 0, 0) = .slice rA s.ram.length rc ∧ va (2, 0, 0) = .slice sA s.segs.length sc ∧ w.heap[g]? = some (.cells #[.slice rA s.ram.length rc, .slice sA s.segs.length sc] 62 (0, 0)) := by
  obtain ⟨rA, rc, h1, _, _⟩ := own_form h.ram
  obtain ⟨sA, sc, h2, _, _⟩ := own_form h.seg
  have K := h.row
  rw [h1, h2] at K
  exact ⟨rA, rc, sA, sc, h1, h2, K⟩
/-- a segment's cells. -/
theorem MemC.at_ (h : MemC w g s va T) {i : Nat} {q : Sg} (hq : s.segs[i]? = some q) : ∃ sg sc P pc, va (2, 0, 0) = .slice (some ⟨sg, 0, none⟩) s.segs.length sc ∧ va (3, i, 0) = .slice P q.pages.length pc ∧ q.pages.length ≤ pc ∧
    w.cell? ⟨sg, i * 3, none⟩ = some (.slice P q.pages.length pc) ∧ w.cell? ⟨sg, i * 3 + 1, none⟩ = some (.int .i64 (q.a : Int)) ∧ w.cell? ⟨sg, i * 3 + 2, none⟩ = some (.int .i64 (q.x : Int)) ∧ w.frozen? ⟨sg, i * 3 + 1, none⟩ = false ∧ w.frozen? ⟨sg, i * 3 + 2, none⟩ = false := by
  have hil : i < s.segs.length := (List.getElem?_eq_some_iff.1 hq).1
  obtain ⟨P, pc, hP, hpc, _⟩ := own_form (h.pg hq)
  obtain ⟨sg, sc, hsg, _, _, _, hr⟩ := own_mid (vals := [va (3, i, 0), .int .i64 (q.a : Int), .int .i64 (q.x : Int)]) h.seg (i := i) hil (by simp) (by simp) (fun j u hj => segRow_get va 0 s.segs i q j u hq (by simpa using hj))
  obtain ⟨sg', _, e1, _, _, f1, _, _⟩ := own_set h.seg (i := i * 3 + 1) (by omega) undef
  obtain ⟨sg'', _, e2, _, _, f2, _, _⟩ := own_set h.seg (i := i * 3 + 2) (by omega) undef
  rw [hsg] at e1 e2
  injection e1 with e1; injection e1 with e1; injection e1 with e1
  injection e2 with e2; injection e2 with e2; injection e2 with e2
  subst e1 e2
  refine ⟨sg, sc, P, pc, hsg, hP, hpc, ?_, hr 1 _ rfl, hr 2 _ rfl, f1, f2⟩
  have := hr 0 _ rfl
  rw [hP] at this
  exact this
set_option maxHeartbeats 1000000 in
theorem has_no (h : MemC w g s va T) (seg page : Int) (hn : ¬ s.has seg page) : Calls Try.prog 34 #[.pointer (some ⟨g, 0, none⟩), .int .i64 seg, .int .i64 page] w fun e w' => e = .returned (.bool false) ∧ w = w' := by
  obtain ⟨rA, rc, sA, sc, hr, hs, K⟩ := h.row2
  obtain ⟨k0, k1⟩ := cells2 K
  by_cases h1 : 0 ≤ seg
  · by_cases h2 : seg < s.segs.length
    · by_cases h3 : 0 ≤ page
      · obtain ⟨i, rfl⟩ : ∃ i : Nat, seg = i := ⟨seg.toNat, by omega⟩
        obtain ⟨q, hq⟩ : ∃ q, s.segs[i]? = some q := ⟨_, List.getElem?_eq_getElem (by omega)⟩
        have h4 : ¬ page < q.pages.length := fun h4 => hn ⟨h1, h3, q, by simpa using hq, h4⟩
        obtain ⟨sg, sc', P, pc, e, _, _, m0, m1, m2, _, _⟩ := h.at_ hq
        rw [hs] at e
        injection e with e1 e2 e3
        subst e1 e3
        have h2' : i < s.segs.length := by omega
        generalize s.segs.length = sn at *
        generalize q.pages.length = pn at *
        clear hq hn hr hs h
        go_enter Try.func34, Try.ntmps34
        go_wp2
        go_ret
        exact ⟨rfl, rfl⟩
      · clear hn hr hs h
        go_enter Try.func34, Try.ntmps34
        go_wp2
        go_ret
        exact ⟨rfl, rfl⟩
    · clear hn hr hs h
      go_enter Try.func34, Try.ntmps34
      go_wp2
      go_ret
      exact ⟨rfl, rfl⟩
  · clear hn hr hs h
    go_enter Try.func34, Try.ntmps34
    go_wp2
    go_ret
    exact ⟨rfl, rfl⟩
set_option maxHeartbeats 1000000 in
theorem has_yes (h : MemC w g s va T) (i k : Nat) {q : Sg} (hq : s.segs[i]? = some q) (hk : k < q.pages.length) : Calls Try.prog 34 #[.pointer (some ⟨g, 0, none⟩), .int .i64 (i : Int), .int .i64 (k : Int)] w fun e w' => e = .returned (.bool true) ∧ w = w' := by
  obtain ⟨rA, rc, sA, sc, hr, hs, K⟩ := h.row2
  obtain ⟨k0, k1⟩ := cells2 K
  have hil : i < s.segs.length := (List.getElem?_eq_some_iff.1 hq).1
  obtain ⟨sg, sc', P, pc, e, _, _, m0, m1, m2, _, _⟩ := h.at_ hq
  rw [hs] at e
  injection e with e1 e2 e3
  subst e1 e3
  have h1 : (i : Int) < s.segs.length := by omega
  have h2 : (k : Int) < q.pages.length := by omega
  generalize s.segs.length = sn at *
  generalize q.pages.length = pn at *
  clear hq hr hs h
  go_enter Try.func34, Try.ntmps34
  go_wp2
  go_ret
  exact ⟨rfl, rfl⟩
end
end Go.Proofs.Ytjgmnbfadnlikaa
