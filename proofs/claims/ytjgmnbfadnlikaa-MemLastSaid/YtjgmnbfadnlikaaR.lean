import Derived.Test.YtjgmnbfadnlikaaQ
set_option linter.unusedVariables false
set_option linter.unusedSimpArgs false
namespace Go.Proofs.Ytjgmnbfadnlikaa
open Go.RowKit
def MP.fl (m : MP) (i : Nat) : List Int := match m.flash[i]? with
  | none => []
  | some f => f.bs
def zeros (n : Nat) : List Int := List.replicate n 0
def MP.sg (m : MP) (i : Nat) (s : SM) : Sg := { len := s.len.toNat, pages := (List.replicate s.pages.toNat (zeros s.len.toNat)).set 0 (splice (zeros s.len.toNat) 0 (m.fl i)), a := 0, x := 0 }
def MP.sgs (m : MP) (k : Nat) : List Sg := (List.range k).filterMap fun i => (m.segs[i]?).map (m.sg i)
def MP.ms (m : MP) (k : Nat) : MS := ⟨zeros m.ram.toNat, m.sgs k⟩
theorem sgs_succ {m : MP} {k : Nat} {s : SM} (hs : m.segs[k]? = some s) : m.sgs (k + 1) = m.sgs k ++ [m.sg k s] := by
  unfold MP.sgs
  rw [List.range_succ, List.filterMap_append]
  simp [hs]
theorem sgs_len (m : MP) : ∀ k, k ≤ m.segs.length → (m.sgs k).length = k
  | 0, _ => rfl
  | k + 1, h => by
    obtain ⟨s, hs⟩ : ∃ s, m.segs[k]? = some s := ⟨_, List.getElem?_eq_getElem (by omega)⟩
    rw [sgs_succ hs, List.length_append, sgs_len m k (by omega)]
    rfl
theorem zeros_byts (n : Nat) : Byts (zeros n) := fun b hb => by
  have := List.eq_of_mem_replicate hb
  omega
theorem zeros_len (n : Nat) : (zeros n).length = n := List.length_replicate
theorem may_seg {m : MP} (h : m.may = true) {k : Nat} {s : SM} (hs : m.segs[k]? = some s) : 1 ≤ s.len ∧ s.len ≤ 256 ∧ 1 ≤ s.pages ∧ s.pages ≤ 4 := by
  simp only [MP.may, Bool.and_eq_true, List.all_eq_true] at h
  have := h.1.2 s (List.mem_of_getElem? hs)
  simp only [SM.may, Bool.and_eq_true, decide_eq_true_eq] at this
  omega
theorem may_head {m : MP} (h : m.may = true) : 0 ≤ m.ram ∧ m.ram ≤ 1024 ∧ m.segs.length ≤ 4 ∧ m.flash.length ≤ m.segs.length := by
  simp only [MP.may, Bool.and_eq_true] at h
  have := h.1.1
  simp only [MP.head, Bool.and_eq_true, decide_eq_true_eq] at this
  omega
theorem may_fit {m : MP} (h : m.may = true) {k : Nat} {s : SM} {f : FB} (hs : m.segs[k]? = some s) (hf : m.flash[k]? = some f) : (f.n : Int) ≤ s.len := by
  simp only [MP.may, Bool.and_eq_true, List.all_eq_true] at h
  have := h.2 k (by simpa using (List.getElem?_eq_some_iff.1 hf).1)
  simpa [MP.fit, hs, hf] using this
section
variable {w : World} {m : MP} {sA fA : Option Addr} {sc fc : Nat}
theorem fl_ok (h : MpR w m sA fA sc fc) (hm : m.may = true) {k : Nat} {s : SM} (hs : m.segs[k]? = some s) : (m.fl k).length ≤ s.len.toNat ∧ Byts (m.fl k) := by
  unfold MP.fl
  rcases hf : m.flash[k]? with _ | f
  · exact ⟨by simp, Byts.nil⟩
  · have h1 := may_fit hm hs hf
    have h2 := (h.rd f (List.mem_of_getElem? hf)).1
    exact ⟨by have := h2.len; simp only; omega, h2.byts⟩
theorem sg_ok (h : MpR w m sA fA sc fc) (hm : m.may = true) {k : Nat} {s : SM} (hs : m.segs[k]? = some s) : (m.sg k s).ok := by
  obtain ⟨a, b, c, d⟩ := may_seg hm hs
  obtain ⟨e, f⟩ := fl_ok h hm hs
  have hl : (splice (zeros s.len.toNat) 0 (m.fl k)).length = s.len.toNat := by rw [length_splice _ _ _ (by rw [zeros_len]; omega), zeros_len]
  refine ⟨by simp only [MP.sg]; omega, by simp only [MP.sg]; omega, by simp only [MP.sg, List.length_set, List.length_replicate]; omega, by simp only [MP.sg, List.length_set, List.length_replicate]; omega, by simp only [MP.sg, List.length_set, List.length_replicate]; omega, by simp only [MP.sg, List.length_set, List.length_replicate]; omega, ?_, ?_⟩
  · intro p hp
    rcases List.mem_or_eq_of_mem_set hp with hp | rfl
    · rw [List.eq_of_mem_replicate hp]; exact zeros_len _
    · exact hl
  · intro p hp
    rcases List.mem_or_eq_of_mem_set hp with hp | rfl
    · rw [List.eq_of_mem_replicate hp]; exact zeros_byts _
    · exact splice_byts (zeros_byts _) f 0
theorem ms_ok (h : MpR w m sA fA sc fc) (hm : m.may = true) {k : Nat} (hk : k ≤ m.segs.length) : (m.ms k).ok := by
  obtain ⟨a, b, c, d⟩ := may_head hm
  refine ⟨by simp only [MP.ms, zeros_len]; omega, zeros_byts _, by simp only [MP.ms, sgs_len m k hk]; omega, ?_⟩
  intro q hq
  simp only [MP.ms, MP.sgs, List.mem_filterMap, List.mem_range] at hq
  obtain ⟨i, hi, e⟩ := hq
  rcases hs : m.segs[i]? with _ | s
  · rw [hs] at e; cases e
  · rw [hs] at e
    injection e with e
    subst e
    exact sg_ok h hm hs
end
theorem el23 : Elem Try.prog 23 37 1 24 (.slice none 0 0) := Elem.mk' Try.underlying23 (by kernel_rfl) rfl (by omega)
theorem el60 : Elem Try.prog 60 64 3 40 (.agg #[.slice none 0 0, .int .i64 0, .int .i64 0]) := Elem.mk' Try.underlying60 (by kernel_rfl) rfl (by omega)
theorem size25 : (Try.prog.info? 25).map (·.size) = some 3 := by kernel_rfl
set_option maxHeartbeats 4000000 in
theorem new_no {w : World} {m : MP} {sA fA : Option Addr} {sc fc : Nat} (h : MpR w m sA fA sc fc) (hm : m.may = false) : Calls Try.prog 10 #[.agg #[.int .i64 m.ram, .slice sA m.segs.length sc, .slice fA m.flash.length fc]] w fun e w' => e = .returned (.tuple #[.pointer none, .int .i64 1]) ∧ Ext w w' := by
  obtain ⟨w1, hw1⟩ : ∃ V, V = w.alloc (.cells #[.int .i64 m.ram, .slice sA m.segs.length sc, .slice fA m.flash.length fc] 25) := ⟨_, rfl⟩
  have K1 : w1.heap[w.heap.size]? = some (.cells ([.int .i64 m.ram, .slice sA m.segs.length sc, .slice fA m.flash.length fc] : List Value).toArray 25 (0, 0)) := by rw [hw1]; exact heap_alloc_new _ _
  have x1 : Ext w w1 := by rw [hw1]; exact (Ext.refl _).alloc _
  have hc := may_any (h.ext x1)
  rw [hm] at hc
  have HC := Lib.hid hc
  have HX := Lib.hid x1
  clear h hc x1 hm
  go_enter Try.func10, Try.ntmps10
  go_upto_region 1 with (fail)
  rw [← hw1]
  clear hw1
  go_wp2_with (first | refine wpList_ldrow rfl 25 _ rfl K1 rfl Try.underlying25 rfl size25 ?_ | (go_at_call 27; (refine HC.out.mono ?_); rintro e w2 ⟨rfl, x2⟩))
  go_ret2
  exact ⟨rfl, HX.out.trans x2⟩
end Go.Proofs.Ytjgmnbfadnlikaa
