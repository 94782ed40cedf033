import Derived.Test.YtjgmnbfadnlikaaZB
set_option linter.unusedVariables false
set_option linter.unusedSimpArgs false
namespace Go.Proofs.Ytjgmnbfadnlikaa
open Go.RowKit
theorem put_vb {s : MS} (h : s.ok) {k tt : Nat} (b : Int) (who : Int) (ha : k ≤ s.segs.length) : (s.put 2 k tt [b]).vb who k = if s.vt who k = s.vt 2 k then splice (s.vb 2 k) tt [b] else s.vb who k := by
  by_cases h0 : k = 0
  · subst h0
    have e : ∀ w, s.vt w 0 = (1, 0, 0) := fun w => by unfold MS.vt; rw [if_pos rfl]
    have e2 : ∀ (s : MS) w, s.vb w 0 = s.ram := fun s w => by unfold MS.vb; rw [if_pos rfl]
    rw [e, e, if_pos rfl, e2, e2]
    unfold MS.put
    rw [if_pos rfl]
  · obtain ⟨i, rfl⟩ : ∃ i, k = i + 1 := ⟨k - 1, by omega⟩
    obtain ⟨q, hq⟩ : ∃ q, s.segs[i]? = some q := ⟨_, List.getElem?_eq_getElem (by omega)⟩
    have e : ∀ w, s.vt w (i + 1) = (4, i, q.see w) := fun w => by unfold MS.vt; rw [if_neg (by omega), Nat.add_sub_cancel, hq]
    rw [e, e, put_seg hq, vb_seg (seg_get hq), vb_seg hq, vb_seg hq]
    have hs := (h.g q (List.mem_of_getElem? hq)).see 2
    have hsee : ({ q with pages := q.pages.set (q.see 2) (splice (q.pages.getD (q.see 2) []) tt [b]) } : Sg).see who = q.see who := rfl
    rw [hsee]
    simp only [List.getD_eq_getElem?_getD, List.getElem?_set]
    by_cases hc : q.see who = q.see 2
    · rw [hc, if_pos rfl, if_pos rfl, if_pos hs]
      rfl
    · rw [if_neg (fun e => hc e.symm), if_neg (by simpa using hc)]
theorem put_err {s : MS} {k tt : Nat} (b : Int) {who : Int} (hw : who = 1 ∨ who = 2) (ha : k ≤ s.segs.length) (h : tt < ((s.put 2 k tt [b]).vb who k).length) : (s.put 2 k tt [b]).err who k tt 1 = 0 := by
  have hn : (s.put 2 k tt [b]).segs.length = s.segs.length := by
    unfold MS.put
    split
    · rfl
    · split
      · rfl
      · simp [MS.seg]
  exact err_zero (n := 1) hw (by omega) (by omega)
theorem rd_one {s : MS} {who : Int} {k tt : Nat} (he : s.err who k tt 1 = 0) (h : tt < (s.vb who k).length) : s.rd who k tt 1 = [(s.vb who k).getD tt 0] := by
  have e1 : s.rd who k tt 1 = ((s.vb who k).drop tt).take 1 := rd_seg (n := 1) he
  have e2 : (s.vb who k).drop tt = (s.vb who k)[tt] :: (s.vb who k).drop (tt + 1) := List.drop_eq_getElem_cons h
  rw [e1, e2, List.getD_eq_getElem?_getD, List.getElem?_eq_getElem h]
  rfl
theorem splice_one {l : List Int} {tt : Nat} (b : Int) (h : tt < l.length) : (splice l tt [b]).getD tt 0 = b ∧ (splice l tt [b]).length = l.length := by
  refine ⟨?_, length_splice _ _ _ (by simp; omega)⟩
  unfold splice
  rw [List.getD_eq_getElem?_getD, List.getElem?_append_right (by simp; omega), List.length_take]
  simp [show tt - min tt l.length = 0 by omega]
theorem rd_byts {s : MS} (h : s.ok) (who : Int) (area at_ : Nat) (n : Int) : Byts (s.rd who area at_ n) := by
  unfold MS.rd
  split
  · intro b hb
    exact vb_byts h who area b (List.mem_of_mem_drop (List.mem_of_mem_take hb))
  · exact Byts.nil
theorem wr32 (n : Nat) (h : n < 4294967296) : IntKind.u32.wrap (n : Int) = n := by simp [IntKind.wrap, IntKind.bits, IntKind.signed]; omega
/-- what MemSees sees. -/
theorem sees_pure {s : MS} (h : s.ok) {k tt : Nat} {b : Int} (ha : k ≤ s.segs.length) (h1 : tt < (s.vb 1 k).length) (h2 : tt < (s.vb 2 k).length) {sm : Bool} (hsm : sm = true ↔ s.vt 1 k = s.vt 2 k) :
    ∃ w0 nw ow g : Int, s.err 1 k tt 1 = 0 ∧ s.rd 1 k tt 1 = [w0] ∧ s.wre 2 k tt 1 = g ∧ (s.wr 2 k tt [b]).err 1 k tt 1 = 0 ∧ (s.wr 2 k tt [b]).rd 1 k tt 1 = [nw] ∧ (s.wr 2 k tt [b]).err 2 k tt 1 = 0 ∧ (s.wr 2 k tt [b]).rd 2 k tt 1 = [ow] ∧
      ((g = 0 ∧ ow = b ∧ nw = (if sm then b else w0)) ∨ (g = 81 ∧ nw = w0)) := by
  have r1 : s.err 1 k tt 1 = 0 := err_zero (n := 1) (.inl rfl) ha (by omega)
  have r2 : s.err 2 k tt 1 = 0 := err_zero (n := 1) (.inr rfl) ha (by omega)
  by_cases hm : s.may 2 k = false
  · have g1 : s.wre 2 k tt 1 = 81 := by unfold MS.wre; rw [if_neg (fun h => h r2), if_pos ⟨hm, by omega⟩]
    have e1 : s.wr 2 k tt [b] = s := by unfold MS.wr; rw [if_neg (by rw [show [b].length = 1 from rfl, g1]; omega)]
    refine ⟨_, _, _, 81, r1, rd_one r1 h1, g1, by rw [e1]; exact r1, by rw [e1]; exact rd_one r1 h1, by rw [e1]; exact r2, by rw [e1]; exact rd_one r2 h2, .inr ⟨rfl, rfl⟩⟩
  · have g1 : s.wre 2 k tt 1 = 0 := by unfold MS.wre; rw [if_neg (fun h => h r2), if_neg (fun h => hm h.1)]
    have e1 : s.wr 2 k tt [b] = s.put 2 k tt [b] := by unfold MS.wr; rw [if_pos (by rw [show [b].length = 1 from rfl]; exact g1)]
    have s2 := splice_one b h2
    have v1 := put_vb h (tt := tt) b 1 ha
    have v2 := put_vb h (tt := tt) b 2 ha
    rw [if_pos rfl] at v2
    have l1 : tt < ((s.put 2 k tt [b]).vb 1 k).length := by
      rw [v1]; split
      · rw [s2.2]; exact h2
      · exact h1
    have l2 : tt < ((s.put 2 k tt [b]).vb 2 k).length := by rw [v2, s2.2]; exact h2
    have p1 := put_err b (.inl rfl) ha l1
    have p2 := put_err b (.inr rfl) ha l2
    refine ⟨_, _, _, 0, r1, rd_one r1 h1, g1, by rw [e1]; exact p1, by rw [e1]; exact rd_one p1 l1, by rw [e1]; exact p2, by rw [e1]; exact rd_one p2 l2, .inl ⟨rfl, ?_, ?_⟩⟩
    · rw [v2]; exact s2.1
    · rw [v1]
      by_cases hc : s.vt 1 k = s.vt 2 k
      · rw [if_pos hc, if_pos (hsm.2 hc)]; exact s2.1
      · rw [if_neg hc, if_neg (fun e => hc (hsm.1 e))]
end Go.Proofs.Ytjgmnbfadnlikaa
