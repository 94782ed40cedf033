import Derived.Test.YtjgmnbfadnlikaaH
set_option linter.unusedVariables false
set_option linter.unusedSimpArgs false
namespace Go.Proofs.Ytjgmnbfadnlikaa
open Go.RowKit
def Sg.set (q : Sg) (who : Int) (k : Nat) : Sg := { q with a := if who = 1 ∨ who = 3 then k else q.a, x := if who = 2 ∨ who = 3 then k else q.x }
def MS.ste (s : MS) (who seg page : Int) : Int := if ¬ (1 ≤ who ∧ who ≤ 3) then 1 else if ¬ (0 ≤ seg ∧ seg < s.segs.length ∧ 0 ≤ page ∧ ∃ q, s.segs[seg.toNat]? = some q ∧ page < q.pages.length) then 82 else 0
/-- App's and Xcp's page of a segment, newly. -/
def MS.sees (s : MS) (i a x : Nat) : MS := match s.segs[i]? with
  | none => s
  | some q => s.seg i { q with a := a, x := x }
section
variable {w w' : World} {g : Nat} {s : MS} {va : Tg → Value} {T : Nat → Option Tg}
theorem segRow_upd (va : Tg → Value) (l : List Sg) {i : Nat} {q q' : Sg} (hq : l[i]? = some q) (c : Nat) (u : Value) (hc : c < 3) (hu : ([va (3, i, 0), .int .i64 (q.a : Int), .int .i64 (q.x : Int)] : List Value).set c u = [va (3, i, 0), .int .i64 (q'.a : Int), .int .i64 (q'.x : Int)]) :
    (segRow va 0 l).set (i * 3 + c) u = segRow va 0 (l.set i q') := segRow_set va 0 l i q q' c u hq (by simpa using hu) hc
theorem sees_mem (h : MemC w g s va T) {i : Nat} {q q' : Sg} (hq : s.segs[i]? = some q) (hp : q'.pages = q.pages) (hok : q'.ok) (c : Nat) (u : Value) (hc : c < 3) (hu : ([va (3, i, 0), .int .i64 (q.a : Int), .int .i64 (q.x : Int)] : List Value).set c u = [va (3, i, 0), .int .i64 (q'.a : Int), .int .i64 (q'.x : Int)])
    {sg n sc : Nat} (hv : va (2, 0, 0) = .slice (some ⟨sg, 0, none⟩) n sc) : MemC (w.setCell ⟨sg, i * 3 + c, none⟩ u) g (s.seg i q') va T ∧ Kept (fun b => T b ≠ none) w (w.setCell ⟨sg, i * 3 + c, none⟩ u) := by
  have hil : i < s.segs.length := (List.getElem?_eq_some_iff.1 hq).1
  have hge : s.segs[i] = q := (List.getElem?_eq_some_iff.1 hq).2
  obtain ⟨sg', sc', e, own, gr, _, _, _⟩ := own_set h.seg (i := i * 3 + c) (by omega) u
  rw [hv] at e
  injection e with e1 e2 e3
  injection e1 with e1; injection e1 with e1
  subst e1
  rw [segRow_upd va s.segs hq c u hc hu] at own
  have htag := h.O.tag (2, 0, 0) _ rfl
  have hT : T sg = some (2, 0, 0) := htag sg (by rw [hv]; rfl)
  refine ⟨⟨h.O.set (t0 := (2, 0, 0)) (p0 := ⟨64, 3, s.segs.length, segRow va 0 (s.segs.set i q')⟩) (.of_grown gr (fun b e => by injection e with e; subst e; exact hT)) own htag ?_ ?_, h.g0, seg_ok h.ok hok⟩, .of_grown gr (fun b e => by injection e with e; subst e; rw [hT]; simp)⟩
  · rintro ⟨a, b, c⟩ ht p hx
    match a with
    | 0 => exact hx
    | 1 => exact hx
    | 2 =>
      simp only [mspec] at hx
      split at hx
      · rename_i e; exact absurd (by rw [e]) ht
      · cases hx
    | 3 =>
      rw [← hx]
      simp only [mspec, MS.seg, List.getElem?_set]
      by_cases e : i = b
      · subst e; simp [hil, hge, hp]
      · simp [e]
    | 4 =>
      rw [← hx]
      simp only [mspec, MS.seg, List.getElem?_set]
      by_cases e : i = b
      · subst e; simp [hil, hge, hp]
      · simp [e]
    | n + 5 => exact hx
  · intro p hx
    simp only [mspec, if_true, MS.seg, List.length_set] at hx
    injection hx with hx
    exact hx.symm
theorem set_arg (who seg page : Int) (hn : ¬ (1 ≤ who ∧ who ≤ 3)) : Calls Try.prog 25 #[.pointer (some ⟨g, 0, none⟩), .int .u8 who, .int .i64 seg, .int .i64 page] w fun e w' => e = .returned (.int .i64 1) ∧ w = w' := by
  by_cases h1 : 1 ≤ who
  · have h2 : 3 < who := by omega
    have h3 : ¬ who < 1 := by omega
    clear hn
    go_enter Try.func25, Try.ntmps25
    go_wp2
    go_ret
    exact ⟨rfl, rfl⟩
  · have h3 : who < 1 := by omega
    clear hn h1
    go_enter Try.func25, Try.ntmps25
    go_wp2
    go_ret
    exact ⟨rfl, rfl⟩
theorem set_no (h : MemC w g s va T) (who seg page : Int) (hw : 1 ≤ who ∧ who ≤ 3) (hn : ¬ s.has seg page) : Calls Try.prog 25 #[.pointer (some ⟨g, 0, none⟩), .int .u8 who, .int .i64 seg, .int .i64 page] w fun e w' => e = .returned (.int .i64 82) ∧ w = w' := by
  have HH := Lib.hid h
  have HN := Lib.hid hn
  have h1 : ¬ who < 1 := by omega
  have h2 : ¬ 3 < who := by omega
  clear h hn hw
  go_enter Try.func25, Try.ntmps25
  go_wp2_with (go_at_call 34; (refine (has_no HH.out seg page HN.out).mono ?_); rintro e w1 ⟨rfl, rfl⟩)
  go_ret
  exact ⟨rfl, rfl⟩
end
end Go.Proofs.Ytjgmnbfadnlikaa
