import Derived.Test.YtnfipfgbckbaeaaK
set_option linter.unusedVariables false
namespace Go.Proofs.Ytnfipfgbckbaeaa
open Go.RowKit
theorem info5 : ∃ i, Try.prog.info? 5 = some i ∧ i.zero = some (.int .u8 0) ∧ i.size = 1 ∧ i.bytes = 1 := by
  obtain ⟨i, h, a, b, c⟩ := info_parts (show (Try.prog.info? 5).map (fun i => (i.zero, i.size, i.bytes)) = some (some (.int .u8 0), 1, 1) by kernel_rfl)
  exact ⟨i, h, a, b, c⟩
theorem run_app_zeros {w : World} {A : Option Addr} {k : Nat} {ys : List Int} (ty : TypeId) (hr : Rd w A k ys) (hk : k ≤ 7) :
    ∃ c' w', (Builtin.append_ #[24, 3] ty #[.slice A k k, .int .i64 7]).run Try.prog w = .ok (.slice (some ⟨w.heap.size, 0, none⟩) (k + 7) c') w' ∧ Ext w w' ∧ k + 7 ≤ c' ∧ c' ≤ maxLen ∧ Rd w' (some ⟨w.heap.size, 0, none⟩) (k + 7) (ys ++ List.replicate 7 0) := by
  obtain ⟨i, hi, hz, hsize, hby⟩ := info5
  have hfirst : ∀ W, Ext w W → (Builtin.firstCells 1 k (.slice A k k)).run Try.prog W = .ok (u8s ys).toArray W := by
    intro W hW
    rcases A with _ | ad
    · have h0 : k = 0 := by
        rcases Nat.eq_zero_or_pos k with h | h
        · exact h
        · obtain ⟨_, h, _⟩ := hr.shows.2 h; cases h
      subst h0
      have : ys = [] := List.eq_nil_of_length_eq_zero hr.len
      subst this
      simp [Builtin.firstCells, u8s]
    · exact run_firstCells_some (P := Try.prog) W 1 k ad k k (u8s ys) (by simp [u8s, hr.len]) (fun j v hj => by
        rcases Nat.eq_zero_or_pos k with h | h
        · subst h; have : ys = [] := List.eq_nil_of_length_eq_zero hr.len; subst this; simp [u8s] at hj
        · obtain ⟨ad', e, _, hc⟩ := (hr.ext hW).shows.2 h
          injection e with e; subst e; exact hc j v hj)
  have hw7 : IntKind.i64.wrap 7 = 7 := by decide
  have hn : ¬ (k + 7 ≤ k) := by omega
  have hcap : ∀ k : Nat, k ≤ 7 → ¬ (281474976710656 < Builtin.nextslicecap (k + 7) k) := by decide
  have h48' := hcap k hk
  have hge := grownCap_ge w (k + 7) k 5
  have hle := grownCap_le_maxLen w (k + 7) k 5 (by simp only [maxLen]; omega)
  have hf := hfirst w.drew (Ext.refl _).drew
  refine ⟨grownCap w (k + 7) k 5, w.drew.alloc (.cells ((u8s ys).toArray ++ Builtin.zeroCells (Value.int .u8 0).cells 7 ++ Builtin.zeroCells (Value.int .u8 0).cells (grownCap w (k + 7) k 5 - (k + 7))) 5), ?_, (Ext.refl _).drew.alloc _, hge, hle, ?_⟩
  · simp [Builtin.append_, run_underlying Try.underlying24, run_underlying Try.underlying3, sizeOf, typeInfo, zeroValue, hi, hz, hsize, hby, hn, h48', Question.forced, hf, newRow, grownCap, asInt, asIntOf, hw7]
    intro h
    omega
  · have e0 : Builtin.zeroCells (Value.int .u8 0).cells 7 = (u8s (List.replicate 7 0)).toArray := by first | kernel_rfl | (simp [Builtin.zeroCells, Value.cells, u8s]; done)
    rw [e0]
    have hK : (w.drew.alloc (.cells ((u8s ys).toArray ++ (u8s (List.replicate 7 0)).toArray ++ Builtin.zeroCells (Value.int .u8 0).cells (grownCap w (k + 7) k 5 - (k + 7))) 5)).heap[w.heap.size]? = _ := heap_alloc_new w.drew _
    have hl := hr.len
    refine ⟨⟨by simp [u8s, hl], fun _ => ⟨_, rfl, by simp, fun j u hu => ?_⟩⟩, hr.byts.append (by intro b hb; have := List.eq_of_mem_replicate hb; omega)⟩
    refine cells_of_blk (off := 0) hK j u ?_
    have hj : j < (u8s (ys ++ List.replicate 7 0)).length := by
      rcases Nat.lt_or_ge j (u8s (ys ++ List.replicate 7 0)).length with h | h
      · exact h
      · rw [List.getElem?_eq_none h] at hu; cases hu
    rw [List.drop_zero]
    simp only [Array.toList_append]
    rw [← u8s_append, List.getElem?_append_left hj]
    exact hu
end Go.Proofs.Ytnfipfgbckbaeaa
