import Derived.Test.YtjgmnbfadnlikaaZF
set_option linter.unusedVariables false
set_option linter.unusedSimpArgs false
namespace Go.Proofs.Ytjgmnbfadnlikaa
open Go.RowKit
def MP.m2 (m : MP) (fl : List FB) : MP := ⟨(m.good m.segs.length).ram, (m.good m.segs.length).segs, fl⟩
theorem m2_may {m : MP} {fl : List FB} (h1 : fl.length = (m.good m.segs.length).segs.length) (h2 : ∀ (i : Nat) (f : FB) (s : SM), fl[i]? = some f → (m.good m.segs.length).segs[i]? = some s → (f.n : Int) = s.len) : (m.m2 fl).may = true := by
  have g := good_may m m.segs.length
  simp only [MP.may, Bool.and_eq_true] at g
  have hh : (m.m2 fl).head = true := by
    have := good_ram m m.segs.length
    have := good_len m m.segs.length
    have r1 : 0 ≤ (m.m2 fl).ram := by show 0 ≤ (m.good m.segs.length).ram; omega
    have r2 : (m.m2 fl).ram ≤ 1024 := by show (m.good m.segs.length).ram ≤ 1024; omega
    have r3 : (m.m2 fl).segs.length ≤ 4 := good_len m m.segs.length
    have r4 : (m.m2 fl).flash.length ≤ (m.m2 fl).segs.length := Nat.le_of_eq h1
    simp only [MP.head, Bool.and_eq_true]
    exact ⟨⟨⟨decide_eq_true r1, decide_eq_true r2⟩, decide_eq_true r3⟩, decide_eq_true r4⟩
  have hf : (List.range (m.m2 fl).flash.length).all (m.m2 fl).fit = true := by
    rw [List.all_eq_true]
    intro i hi
    have hi' : i < fl.length := by simpa [MP.m2] using hi
    obtain ⟨f, hf⟩ : ∃ f, fl[i]? = some f := ⟨_, List.getElem?_eq_getElem hi'⟩
    obtain ⟨s, hs⟩ : ∃ s, (m.good m.segs.length).segs[i]? = some s := ⟨_, List.getElem?_eq_getElem (by omega)⟩
    have := h2 i f s hf hs
    simp only [MP.fit, MP.m2, hf, hs, decide_eq_true_eq]
    omega
  have hs : (m.m2 fl).segs.all SM.may = true := g.1.2
  simp [MP.may, hh, hs, hf]
theorem splice_all {l c : List Int} (h : c.length = l.length) : splice l 0 c = c := by simp [splice, h]
theorem m2_seg {m : MP} {fl : List FB} {i : Nat} {f : FB} {s : SM} (hs : (m.good m.segs.length).segs[i]? = some s) (hf : fl[i]? = some f) (hl : (f.n : Int) = s.len) (hb : f.bs.length = f.n) :
    ∃ q, ((m.m2 fl).ms (m.good m.segs.length).segs.length).segs[i]? = some q ∧ q.pages[0]? = some f.bs ∧ q.len = f.n ∧ 1 ≤ q.pages.length := by
  obtain ⟨a, b, c, d⟩ := good_seg hs
  have hi := (List.getElem?_eq_some_iff.1 hs).1
  have h1 := sgs_get (m := m.m2 fl) (k := (m.good m.segs.length).segs.length) (i := i) (s := s) (Nat.le_refl _) hi hs
  refine ⟨_, h1, ?_, ?_, ?_⟩
  · have hfl : (m.m2 fl).fl i = f.bs := by simp [MP.fl, MP.m2, hf]
    have hz : f.bs.length = (zeros s.len.toNat).length := by rw [zeros_len]; omega
    unfold MP.sg
    rw [hfl, splice_all hz]
    simp only [List.getElem?_set, List.length_replicate, if_true]
    rw [if_pos (by omega)]
  · show s.len.toNat = f.n
    omega
  · simp only [MP.sg, List.length_set, List.length_replicate]; omega
/-- what MemFixed reads. -/
theorem fixed_pure {S0 s : MS} (h : s.ok) (hL : Like S0 s) {i n : Nat} {q0 : Sg} {bs : List Int} (hq : S0.segs[i]? = some q0) (hp : q0.pages[0]? = some bs) (hb : bs.length = n) :
    ∃ s1, s.st 1 i 0 = (s1, 0) ∧ s1.err 1 (i + 1) 0 n = 0 ∧ s1.rd 1 (i + 1) 0 n = bs ∧ Like S0 s1 := by
  obtain ⟨q, h1, h2, h3, h4⟩ := hL.sg i q0 hq
  have hil := (List.getElem?_eq_some_iff.1 h1).1
  have hq1 := (h.g q (List.mem_of_getElem? h1)).p1
  have e1 := st_seg h1 (p := 0) (by omega) 1 (by omega)
  have L1 := like_st s 1 i 0
  have g1 := seg_get (q' := stp (1 : Int).toNat 2 q 0) h1
  have hvb : (s.seg i (stp (1 : Int).toNat 2 q 0)).vb 1 (i + 1) = bs := by
    rw [vb_seg g1]
    have e2 : (stp (1 : Int).toNat 2 q 0).see 1 = 0 := rfl
    have e3 : (stp (1 : Int).toNat 2 q 0).pages = q.pages := rfl
    rw [e2, e3, List.getD_eq_getElem?_getD, h4, hp]
    rfl
  have he : (s.seg i (stp (1 : Int).toNat 2 q 0)).err 1 (i + 1) 0 n = 0 := err_zero (.inl rfl) (by simp [MS.seg]; omega) (by rw [hvb, hb]; omega)
  have e0 : s.st 1 i 0 = (s.seg i (stp (1 : Int).toNat 2 q 0), 0) := e1
  rw [e0] at L1
  exact ⟨_, e0, he, by rw [rd_seg he, hvb, List.drop_zero, List.take_of_length_le (by omega)], hL.trans L1⟩
end Go.Proofs.Ytjgmnbfadnlikaa
