import Derived.Test.YtjgmnbfadnlikaaJ
set_option linter.unusedVariables false
set_option linter.unusedSimpArgs false
namespace Go.Proofs.Ytjgmnbfadnlikaa
open Go.RowKit
section
variable {w : World} {g : Nat} {s : MS} {va : Tg → Value} {T : Nat → Option Tg}
theorem has_nat {seg page : Int} (h : s.has seg page) : ∃ (i k : Nat) (q : Sg), seg = i ∧ page = k ∧ s.segs[i]? = some q ∧ k < q.pages.length := by
  obtain ⟨h1, h2, q, hq, hk⟩ := h
  exact ⟨seg.toNat, page.toNat, q, by omega, by omega, hq, by omega⟩
theorem has_any (h : MemC w g s va T) (seg page : Int) : ∃ b : Bool, (b = true ↔ s.has seg page) ∧ Calls Try.prog 34 #[.pointer (some ⟨g, 0, none⟩), .int .i64 seg, .int .i64 page] w fun e w' => e = .returned (.bool b) ∧ w = w' := by
  by_cases hn : s.has seg page
  · obtain ⟨i, k, q, rfl, rfl, hq, hk⟩ := has_nat hn
    exact ⟨true, by simpa using hn, has_yes h i k hq hk⟩
  · exact ⟨false, by simpa using hn, has_no h seg page hn⟩
/-- Set: what is told, and memory then. -/
def MS.st (s : MS) (who seg page : Int) : MS × Int := if ¬ (1 ≤ who ∧ who ≤ 3) then (s, 1) else match s.segs[seg.toNat]? with
  | none => (s, 82)
  | some q => if 0 ≤ seg ∧ 0 ≤ page ∧ page < q.pages.length then (s.seg seg.toNat (stp who.toNat 2 q page.toNat), 0) else (s, 82)
theorem set_any (h : MemC w g s va T) (who seg page : Int) : Calls Try.prog 25 #[.pointer (some ⟨g, 0, none⟩), .int .u8 who, .int .i64 seg, .int .i64 page] w fun e w' => e = .returned (.int .i64 (s.st who seg page).2) ∧ MemC w' g (s.st who seg page).1 va T ∧ Kept (fun b => T b ≠ none) w w' := by
  by_cases h1 : 1 ≤ who ∧ who ≤ 3
  · by_cases hn : s.has seg page
    · obtain ⟨i, k, q, rfl, rfl, hq, hk⟩ := has_nat hn
      have e : s.st who i k = (s.seg i (stp who.toNat 2 q k), 0) := by
        unfold MS.st
        rw [if_neg (fun h => h h1)]
        simp only [Int.toNat_natCast, hq]
        rw [if_pos (by omega)]
      rw [e]
      have hw : who = 1 ∨ who = 2 ∨ who = 3 := by omega
      rcases hw with rfl | rfl | rfl
      · exact set_yes1 h hq hk
      · exact set_yes2 h hq hk
      · exact set_yes3 h hq hk
    · have e : s.st who seg page = (s, 82) := by
        unfold MS.st
        rw [if_neg (fun h => h h1)]
        rcases hq : s.segs[seg.toNat]? with _ | q
        · rfl
        · simp only
          rw [if_neg (fun h => hn ⟨h.1, h.2.1, q, hq, h.2.2⟩)]
      rw [e]
      refine (set_no h who seg page h1 hn).mono ?_
      rintro e w' ⟨rfl, rfl⟩
      exact ⟨rfl, h, Kept.refl _ _⟩
  · have e : s.st who seg page = (s, 1) := by unfold MS.st; rw [if_pos h1]
    rw [e]
    refine (set_arg who seg page h1).mono ?_
    rintro e w' ⟨rfl, rfl⟩
    exact ⟨rfl, h, Kept.refl _ _⟩
/-- Copy: what is told, and memory then. -/
def Sg.cp (q : Sg) (a b : Nat) : Sg := { q with pages := q.pages.set b (q.pages.getD a []) }
def MS.cp (s : MS) (seg a b : Int) : MS × Int := match s.segs[seg.toNat]? with
  | none => (s, 82)
  | some q => if 0 ≤ seg ∧ 0 ≤ a ∧ a < q.pages.length ∧ 0 ≤ b ∧ b < q.pages.length then (if b = 0 then (s, 81) else (s.seg seg.toNat (q.cp a.toNat b.toNat), 0)) else (s, 82)
theorem cp_ok {q : Sg} (h : q.ok) {a : Nat} (ha : a < q.pages.length) (b : Nat) : (q.cp a b).ok := by
  have hp : q.pages[a]? = some (q.pages.getD a []) := by rw [List.getD_eq_getElem?_getD, List.getElem?_eq_getElem ha]; rfl
  exact page_set_ok h (h.pl _ (List.mem_of_getElem? hp)) (h.pb _ (List.mem_of_getElem? hp))
theorem cp_mem {w' : World} (h : MemC w g s va T) {i a b : Nat} {q : Sg} {p : List Int} (hq : s.segs[i]? = some q) (ha : q.pages[a]? = some p) (hb : b < q.pages.length) (hv : w'.ownsRow 0 5 1 (va (4, i, b)) p.length (u8s p)) (hg : w.grownBy w' (va (4, i, b)).ownBlock) :
    MemC w' g (s.seg i (q.cp a b)) va T ∧ Kept (fun x => T x ≠ none) w w' := by
  have hk := h.ok.g q (List.mem_of_getElem? hq)
  have hp : q.pages.getD a [] = p := by rw [List.getD_eq_getElem?_getD, ha]; rfl
  have htag := h.O.tag (4, i, b) ⟨5, 1, q.pages[b].length, u8s q.pages[b]⟩ (by simp [mspec, hq, hb])
  refine ⟨⟨h.O.set (t0 := (4, i, b)) (p0 := ⟨5, 1, p.length, u8s p⟩) (.of_grown hg (fun b e => htag b e)) hv htag ?_ ?_, h.g0, seg_ok h.ok (cp_ok hk (List.getElem?_eq_some_iff.1 ha).1 b)⟩, .of_grown hg (fun b e => by rw [htag b e]; simp)⟩
  · intro t ht x hx
    rw [← hx]
    refine (seg_off (q' := q.cp a b) hq (by simp [Sg.cp]) rfl rfl t (fun k e => ?_)).symm
    have hne : b ≠ k := fun e2 => ht (by rw [e, e2])
    simp [Sg.cp, List.getElem?_set, hne]
  · intro x hx
    rw [seg_on hq (q' := q.cp a b) (k := b) (p := p) (by simp only [Sg.cp, hp]; simp [hb])] at hx
    injection hx with hx
    exact hx.symm
end
end Go.Proofs.Ytjgmnbfadnlikaa
