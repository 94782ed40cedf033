import Derived.Test.YtjgmnbfadnlikaaX
set_option linter.unusedVariables false
set_option linter.unusedSimpArgs false
namespace Go.Proofs.Ytjgmnbfadnlikaa
open Go.RowKit
section
variable {s : MS} {k : Nat} {q : Sg}
theorem st_seg (hq : s.segs[k]? = some q) {p : Nat} (hp : p < q.pages.length) (who : Int) (hw : 1 ≤ who ∧ who ≤ 3) : s.st who k p = (s.seg k (stp who.toNat 2 q p), 0) := by
  unfold MS.st
  rw [if_neg (fun h => h hw)]
  simp only [Int.toNat_natCast, hq]
  rw [if_pos (by omega)]
theorem cp_seg (hq : s.segs[k]? = some q) {a b : Nat} (ha : a < q.pages.length) (hb : b < q.pages.length) (h0 : b ≠ 0) : s.cp k a b = (s.seg k (q.cp a b), 0) := by
  unfold MS.cp
  simp only [Int.toNat_natCast, hq]
  rw [if_pos (by omega), if_neg (by omega)]
theorem cp_seg0 (hq : s.segs[k]? = some q) {a : Nat} (ha : a < q.pages.length) : s.cp k a 0 = (s, 81) := by
  unfold MS.cp
  simp only [Int.toNat_natCast, hq]
  rw [if_pos (by omega), if_pos trivial]
theorem cp_segE (hq : s.segs[k]? = some q) {a b : Nat} (hb : ¬ b < q.pages.length) : s.cp k a b = (s, 82) := by
  unfold MS.cp
  simp only [Int.toNat_natCast, hq]
  rw [if_neg (by omega)]
theorem pg_seg (hq : s.segs[k]? = some q) (who : Int) (hw : who = 1 ∨ who = 2) : s.pg who k = ((q.see who : Int), 0) := by
  have hil := (List.getElem?_eq_some_iff.1 hq).1
  unfold MS.pg
  rw [if_neg (fun h => h hw), if_neg (fun h => h (by omega))]
  simp only [Int.toNat_natCast, hq]
theorem vb_seg (hq : s.segs[k]? = some q) (who : Int) : s.vb who (k + 1) = q.pages.getD (q.see who) [] := by
  unfold MS.vb
  rw [if_neg (by omega), Nat.add_sub_cancel, hq]
theorem may_sg (hq : s.segs[k]? = some q) (who : Int) : s.may who (k + 1) = (q.see who != 0) := by
  unfold MS.may
  rw [if_neg (by omega), Nat.add_sub_cancel, hq]
theorem put_seg (hq : s.segs[k]? = some q) (who : Int) (at_ : Nat) (bs : List Int) : s.put who (k + 1) at_ bs = s.seg k { q with pages := q.pages.set (q.see who) (splice (q.pages.getD (q.see who) []) at_ bs) } := by
  unfold MS.put
  rw [if_neg (by omega), Nat.add_sub_cancel, hq]
theorem err_zero {who : Int} (hw : who = 1 ∨ who = 2) {area at_ n : Nat} (ha : area ≤ s.segs.length) (hn : at_ + n ≤ (s.vb who area).length) : s.err who area at_ n = 0 := by
  unfold MS.err
  rw [if_neg (by omega), if_neg (by omega), if_neg (by omega)]
theorem rd_seg {who : Int} {area at_ n : Nat} (h : s.err who area at_ n = 0) : s.rd who area at_ n = ((s.vb who area).drop at_).take n := by
  unfold MS.rd
  rw [if_pos h, Int.toNat_natCast]
end
theorem splice_take (l c : List Int) : (splice l 0 c).take c.length = c := by simp [splice]
/-- what MemPages does. -/
structure PagesR (s : MS) (k np p q w : Nat) (c : List Int) (s1 s2 s3 s4 : MS) (a x : Nat) : Prop where
  A : s.st 2 k p = (s1, 0)
  B : s1.wre 2 (k + 1) 0 c.length = 0
  B2 : s1.wr 2 (k + 1) 0 c = s2
  C : s2.cp k p q = (s3, 0)
  D : s3.st w k q = (s4, 0)
  E1 : s4.pg 1 k = ((a : Int), 0)
  E2 : s4.pg 2 k = ((x : Int), 0)
  F1 : s4.err 2 (k + 1) 0 c.length = 0
  F2 : s4.rd 2 (k + 1) 0 c.length = c
  G1 : s4.cp k p 0 = (s4, 81)
  G2 : s4.cp k p np = (s4, 82)
theorem pages_pure {s : MS} {k ln np p q w : Nat} {c : List Int} (hq : s.segs[k]? = some ⟨ln, List.replicate np (zeros ln), 0, 0⟩) (hp : 1 ≤ p ∧ p < np) (hq1 : 1 ≤ q ∧ q < np) (hw : 1 ≤ w ∧ w ≤ 3) (hc : c.length ≤ ln) :
    ∃ s1 s2 s3 s4, PagesR s k np p q w c s1 s2 s3 s4 (if w = 2 then 0 else q) (if w = 1 then p else q) := by
  have hil := (List.getElem?_eq_some_iff.1 hq).1
  have h1 := st_seg hq (p := p) (by simpa using hp.2) 2 (by omega)
  obtain ⟨q1, hq1E⟩ : ∃ q1, q1 = stp (2 : Int).toNat 2 ⟨ln, List.replicate np (zeros ln), 0, 0⟩ p := ⟨_, rfl⟩
  rw [← hq1E] at h1
  have g1 := seg_get (q' := q1) hq
  have l1 : (s.seg k q1).segs.length = s.segs.length := by simp [MS.seg]
  have p1 : q1.pages = List.replicate np (zeros ln) := by rw [hq1E]; rfl
  have e1 : q1.see 2 = p := by rw [hq1E]; rfl
  have a1 : q1.a = 0 := by rw [hq1E]; rfl
  have vb1 : (s.seg k q1).vb 2 (k + 1) = zeros ln := by rw [vb_seg g1, e1, p1]; simp [hp.2]
  have m1 : (s.seg k q1).may 2 (k + 1) = true := by rw [may_sg g1, e1]; simp; omega
  have r1 : (s.seg k q1).err 2 (k + 1) 0 c.length = 0 := err_zero (.inr rfl) (by rw [l1]; omega) (by rw [vb1, zeros_len]; omega)
  have w1 : (s.seg k q1).wre 2 (k + 1) 0 c.length = 0 := by unfold MS.wre; rw [if_neg (fun h => h r1), if_neg (by rw [m1]; simp)]
  obtain ⟨q2, hq2E⟩ : ∃ q2 : Sg, q2 = { q1 with pages := (List.replicate np (zeros ln)).set p (splice (zeros ln) 0 c) } := ⟨_, rfl⟩
  have w2 : (s.seg k q1).wr 2 (k + 1) 0 c = s.seg k q2 := by
    unfold MS.wr
    rw [if_pos w1, put_seg g1, e1, p1, seg_seg, hq2E]
    congr 3
    simp [hp.2]
  have g2 := seg_get (q' := q2) hq
  have n2 : q2.pages.length = np := by rw [hq2E]; simp
  have pp : q2.pages[p]? = some (splice (zeros ln) 0 c) := by rw [hq2E]; simp [hp.2]
  have c2 := cp_seg g2 (a := p) (b := q) (by omega) (by omega) (by omega)
  rw [seg_seg] at c2
  obtain ⟨q3, hq3E⟩ : ∃ q3, q3 = q2.cp p q := ⟨_, rfl⟩
  rw [← hq3E] at c2
  have g3 := seg_get (q' := q3) hq
  have n3 : q3.pages.length = np := by rw [hq3E]; simp [Sg.cp, n2]
  have pq : ∀ j, (j = p ∨ j = q) → q3.pages[j]? = some (splice (zeros ln) 0 c) := by
    intro j hj
    rw [hq3E]
    unfold Sg.cp
    simp only [List.getElem?_set]
    have hgd : q2.pages.getD p [] = splice (zeros ln) 0 c := by rw [List.getD_eq_getElem?_getD, pp]; rfl
    by_cases e : q = j
    · rw [if_pos e, if_pos (by omega), hgd]
    · rw [if_neg e]
      rcases hj with rfl | rfl
      · exact pp
      · exact absurd rfl e
  have d3 := st_seg g3 (p := q) (by omega) w (by omega)
  rw [seg_seg, Int.toNat_natCast] at d3
  obtain ⟨q4, hq4E⟩ : ∃ q4, q4 = stp w 2 q3 q := ⟨_, rfl⟩
  rw [← hq4E] at d3
  have g4 := seg_get (q' := q4) hq
  have l4 : (s.seg k q4).segs.length = s.segs.length := by simp [MS.seg]
  have n4 : q4.pages.length = np := by rw [hq4E]; exact n3
  have x3 : q3.x = p ∧ q3.a = 0 := by rw [hq3E]; unfold Sg.cp; simp only; rw [hq2E]; exact ⟨e1, a1⟩
  have a4 : q4.see 1 = if w = 2 then 0 else q := by
    rw [hq4E]; unfold Sg.see stp; simp only [if_true]
    by_cases e : w = 2
    · simp [e, x3.2]
    · simp [e]
  have x4 : q4.see 2 = if w = 1 then p else q := by
    rw [hq4E]; unfold Sg.see stp; simp only [show ¬ ((2 : Int) = 1) by omega, if_false]
    by_cases e : w = 1
    · simp [e, x3.1]
    · simp [e]
  have vb4 : (s.seg k q4).vb 2 (k + 1) = splice (zeros ln) 0 c := by
    rw [vb_seg g4, x4, List.getD_eq_getElem?_getD]
    have : q4.pages = q3.pages := by rw [hq4E]; rfl
    rw [this, pq _ (by split <;> simp)]
    rfl
  have hsl : (splice (zeros ln) 0 c).length = ln := by rw [length_splice _ _ _ (by rw [zeros_len]; omega), zeros_len]
  have r4 : (s.seg k q4).err 2 (k + 1) 0 c.length = 0 := err_zero (.inr rfl) (by rw [l4]; omega) (by rw [vb4, hsl]; omega)
  exact ⟨s.seg k q1, s.seg k q2, s.seg k q3, s.seg k q4, h1, w1, w2, c2, d3, by rw [pg_seg g4 1 (.inl rfl), a4], by rw [pg_seg g4 2 (.inr rfl), x4], r4,
    by rw [rd_seg r4, vb4, List.drop_zero, splice_take], cp_seg0 g4 (by omega), cp_segE g4 (by omega)⟩
theorem size3 (w : World) : (sizeOf 3).run Try.prog w = .ok 1 w := by
  obtain ⟨i, h, h1⟩ : ∃ i, Try.prog.info? 3 = some i ∧ i.size = 1 := by
    have : (Try.prog.info? 3).map (·.size) = some 1 := by kernel_rfl
    cases hh : Try.prog.info? 3 with
    | none => rw [hh] at this; cases this
    | some i => exact ⟨i, rfl, by rw [hh] at this; simpa using this⟩
  simp [sizeOf, typeInfo, h, h1]
theorem run_eq2 (w : World) (x y : Int) : (Op.equalIn 10000 56 (.agg #[.int .i64 x, .int .i64 y]) (.agg #[.int .i64 x, .int .i64 y])).run Try.prog w = .ok true w := by
  rw [Op.equalIn]
  simp only [Sem.run_bind, run_underlying Try.underlying56, Result.andThen_ok, size3]
  simp [List.range', List.forIn_cons, go_sem]
  repeat' split
  all_goals simp_all
end Go.Proofs.Ytjgmnbfadnlikaa
