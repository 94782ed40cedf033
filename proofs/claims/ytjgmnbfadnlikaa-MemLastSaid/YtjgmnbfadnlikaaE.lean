import Derived.Test.YtjgmnbfadnlikaaD
set_option linter.unusedVariables false
set_option linter.unusedSimpArgs false
namespace Go.Proofs.Ytjgmnbfadnlikaa
open Go.RowKit
/-- a segment is another one, of as many pages. -/
def MS.seg (s : MS) (i : Nat) (q : Sg) : MS := { s with segs := s.segs.set i q }
theorem seg_off {s : MS} {va : Tg → Value} {i : Nat} {q q' : Sg} (hq : s.segs[i]? = some q) (hl : q'.pages.length = q.pages.length) (ha : q'.a = q.a) (hx : q'.x = q.x) (t : Tg) (ht : ∀ k, t = (4, i, k) → q'.pages[k]? = q.pages[k]?) :
    mspec (s.seg i q') va t = mspec s va t := by
  obtain ⟨a, b, c⟩ := t
  have hil : i < s.segs.length := (List.getElem?_eq_some_iff.1 hq).1
  have hge : s.segs[i] = q := (List.getElem?_eq_some_iff.1 hq).2
  match a with
  | 0 => rfl
  | 1 => rfl
  | 2 => simp only [mspec, MS.seg, List.length_set, segRow_same va 0 s.segs i q q' hq ha hx]
  | 3 =>
    simp only [mspec, MS.seg, List.getElem?_set]
    by_cases e : i = b
    · subst e; simp [hil, hge, hl]
    · simp [e]
  | 4 =>
    simp only [mspec, MS.seg, List.getElem?_set]
    by_cases e : i = b
    · subst e; simp [hil, hge, ht c rfl]
    · simp [e]
  | n + 5 => rfl
theorem seg_on {s : MS} {va : Tg → Value} {i k : Nat} {q q' : Sg} {p : List Int} (hq : s.segs[i]? = some q) (hp : q'.pages[k]? = some p) : mspec (s.seg i q') va (4, i, k) = some ⟨5, 1, p.length, u8s p⟩ := by
  have hil : i < s.segs.length := (List.getElem?_eq_some_iff.1 hq).1
  simp [mspec, MS.seg, List.getElem?_set, hil, hp]
theorem seg_ok {s : MS} {i : Nat} {q' : Sg} (h : s.ok) (hq : q'.ok) : (s.seg i q').ok :=
  ⟨h.r, h.rb, by simp only [MS.seg, List.length_set]; exact h.n, fun g hg => by
    rcases List.mem_or_eq_of_mem_set hg with hg | rfl
    · exact h.g g hg
    · exact hq⟩
/-- bytes are laid over what somebody sees. -/
def MS.put (s : MS) (who : Int) (area at_ : Nat) (bs : List Int) : MS := if area = 0 then { s with ram := splice s.ram at_ bs } else match s.segs[area - 1]? with
  | none => s
  | some q => s.seg (area - 1) { q with pages := q.pages.set (q.see who) (splice (q.pages.getD (q.see who) []) at_ bs) }
theorem splice_byts {a b : List Int} (ha : Byts a) (hb : Byts b) (n : Nat) : Byts (splice a n b) := by
  intro x hx
  simp only [splice, List.mem_append] at hx
  rcases hx with hx | hx | hx
  · exact ha x (List.mem_of_mem_take hx)
  · exact hb x hx
  · exact ha x (List.mem_of_mem_drop hx)
theorem u8s_splice (a b : List Int) (n : Nat) : splice (u8s a) n (u8s b) = u8s (splice a n b) := by simp [splice, u8s]
theorem page_set_ok {q : Sg} (h : q.ok) {k : Nat} {p : List Int} (hp : p.length = q.len) (hb : Byts p) : ({ q with pages := q.pages.set k p } : Sg).ok :=
  ⟨h.l1, h.l2, by simpa using h.p1, by simpa using h.p2, by simpa using h.a, by simpa using h.x, fun y hy => by
    rcases List.mem_or_eq_of_mem_set hy with hy | rfl
    · exact h.pl y hy
    · exact hp, fun y hy => by
    rcases List.mem_or_eq_of_mem_set hy with hy | rfl
    · exact h.pb y hy
    · exact hb⟩
theorem put_mem {w w' : World} {g : Nat} {s : MS} {va : Tg → Value} {T : Nat → Option Tg} (h : MemC w g s va T) (who : Int) {area at_ : Nat} {bs : List Int} (ha : area ≤ s.segs.length) (hb : Byts bs) (hfit : at_ + bs.length ≤ (s.vb who area).length)
    (hv : w'.ownsRow 0 5 1 (va (s.vt who area)) (s.vb who area).length (splice (u8s (s.vb who area)) at_ (u8s bs))) (hg : w.grownBy w' (va (s.vt who area)).ownBlock) :
    MemC w' g (s.put who area at_ bs) va T ∧ Kept (fun b => T b ≠ none) w w' := by
  rw [u8s_splice] at hv
  have hsl : (splice (s.vb who area) at_ bs).length = (s.vb who area).length := length_splice _ _ _ hfit
  by_cases h0 : area = 0
  · subst h0
    have ev : s.vt who 0 = (1, 0, 0) := by unfold MS.vt; rw [if_pos rfl]
    have eb : s.vb who 0 = s.ram := by unfold MS.vb; rw [if_pos rfl]
    have ep : s.put who 0 at_ bs = { s with ram := splice s.ram at_ bs } := by unfold MS.put; rw [if_pos rfl]
    rw [ev] at hg
    rw [ev, eb] at hv
    rw [eb] at hsl
    rw [ep]
    have htag := h.O.tag (1, 0, 0) _ rfl
    refine ⟨⟨h.O.set (t0 := (1, 0, 0)) (p0 := ⟨5, 1, s.ram.length, u8s (splice s.ram at_ bs)⟩) (.of_grown hg (fun b e => htag b e)) hv htag ?_ ?_, h.g0, ⟨by rw [hsl]; exact h.ok.r, splice_byts h.ok.rb hb _, h.ok.n, h.ok.g⟩⟩, .of_grown hg (fun b e => by rw [htag b e]; simp)⟩
    · rintro ⟨a, b, c⟩ ht p hp
      match a with
      | 0 => exact hp
      | 1 =>
        simp only [mspec] at hp
        split at hp
        · rename_i e; exact absurd (by rw [e]) ht
        · cases hp
      | 2 => exact hp
      | 3 => exact hp
      | 4 => exact hp
      | n + 5 => exact hp
    · intro p hp
      simp only [mspec, if_true] at hp
      injection hp with hp
      rw [← hp, hsl]
  · obtain ⟨q, hq⟩ : ∃ q, s.segs[area - 1]? = some q := ⟨_, List.getElem?_eq_getElem (by omega)⟩
    have hk := h.ok.g q (List.mem_of_getElem? hq)
    have hsee := hk.see who
    have hpg : q.pages[q.see who]? = some (q.pages.getD (q.see who) []) := by rw [List.getD_eq_getElem?_getD, List.getElem?_eq_getElem hsee]; rfl
    have ev : s.vt who area = (4, area - 1, q.see who) := by unfold MS.vt; rw [if_neg h0, hq]
    have eb : s.vb who area = q.pages.getD (q.see who) [] := by unfold MS.vb; rw [if_neg h0, hq]
    have ep : s.put who area at_ bs = s.seg (area - 1) { q with pages := q.pages.set (q.see who) (splice (q.pages.getD (q.see who) []) at_ bs) } := by unfold MS.put; rw [if_neg h0, hq]
    rw [ev] at hg
    rw [ev, eb] at hv
    rw [eb] at hsl
    rw [ep]
    obtain ⟨pg, hpgE⟩ : ∃ pg, pg = q.pages.getD (q.see who) [] := ⟨_, rfl⟩
    rw [← hpgE] at hv hsl hpg ⊢
    have hpl := hk.pl _ (List.mem_of_getElem? hpg)
    have hpb := hk.pb _ (List.mem_of_getElem? hpg)
    have htag := h.O.tag (4, area - 1, q.see who) ⟨5, 1, pg.length, u8s pg⟩ (by simp [mspec, hq, hpg])
    refine ⟨⟨h.O.set (t0 := (4, area - 1, q.see who)) (p0 := ⟨5, 1, pg.length, u8s (splice pg at_ bs)⟩) (.of_grown hg (fun b e => htag b e)) hv htag ?_ ?_, h.g0, seg_ok h.ok (page_set_ok hk (by rw [hsl, hpl]) (splice_byts hpb hb _))⟩, .of_grown hg (fun b e => by rw [htag b e]; simp)⟩
    · intro t ht p hp
      rw [← hp]
      refine (seg_off (q' := { q with pages := q.pages.set (q.see who) (splice pg at_ bs) }) hq (by simp) rfl rfl t (fun k e => ?_)).symm
      have hne : q.see who ≠ k := fun e2 => ht (by rw [e, e2])
      simp [List.getElem?_set, hne]
    · intro p hp
      rw [seg_on hq (p := splice pg at_ bs) (by simp [List.getElem?_set, hsee])] at hp
      injection hp with hp
      rw [← hp, hsl]
end Go.Proofs.Ytjgmnbfadnlikaa
