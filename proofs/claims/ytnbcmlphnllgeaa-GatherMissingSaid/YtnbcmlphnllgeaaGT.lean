import Derived.Test.YtnbcmlphnllgeaaGR
import Derived.Maps.Keyed
set_option linter.unusedVariables false
set_option linter.unusedSimpArgs false
namespace Go.Proofs.Ytnbcmlphnllgeaa
open Go.RowKit
/-- a map from int to bool, whatever it holds. -/
def MapI (w : World) (b : Nat) : Prop := ∃ es clock, w.heap[b]? = some (.map es clock) ∧ ∀ e ∈ es.toList, (∃ a : Int, e.key = .int .i64 a ∧ (Lit.int .i64 a).wf = true) ∧ ∃ v, e.val = .bool v
theorem keyI {a : Int} (hw : (Lit.int .i64 a).wf = true) : keyOf Try.prog 3 (.int .i64 a) = some (.int .i64 a) := Maps.keyOf_int_mk Try.underlying3 hw
theorem keyedI : Maps.Keyed Try.prog 3 := Maps.int_keyed Try.underlying3
theorem MapI.kept {w w' : World} {b : Nat} {F : Nat → Prop} (h : MapI w b) (k : Kept F w w') (hb : ¬ F b) : MapI w' b := by
  obtain ⟨es, cl, h1, h2⟩ := h
  exact ⟨es, cl, k.blk h1 hb, h2⟩
theorem MapI.ext {w w' : World} {b : Nat} (h : MapI w b) (x : Ext w w') : MapI w' b := h.kept (F := fun _ => False) (.of_ext x) (fun h => h)
theorem MapI.lt {w : World} {b : Nat} (h : MapI w b) : b < w.heap.size := by
  obtain ⟨es, cl, h1, h2⟩ := h
  exact blk_lt h1
theorem mapi_keys {es : Array MapEntry} (h : ∀ e ∈ es.toList, (∃ a : Int, e.key = .int .i64 a ∧ (Lit.int .i64 a).wf = true) ∧ ∃ v, e.val = .bool v) : ∀ e ∈ es.toList, ∃ l, keyOf Try.prog 3 e.key = some l := by
  intro e he
  obtain ⟨⟨a, h1, h2⟩, _⟩ := h e he
  exact ⟨_, by rw [h1]; exact keyI h2⟩
theorem mapi_put {w : World} {b : Nat} (h : MapI w b) {a : Int} (ha : (Lit.int .i64 a).wf = true) (v : Bool) : ∃ w', (Instr.mapUpdate 60 (.map (some b)) (.int .i64 a) (.bool v)).run Try.prog w = .ok () w' ∧ w.grownBy w' (some b) ∧ MapI w' b := by
  obtain ⟨es, cl, hb, hL⟩ := h
  have gr : ∀ o, w.grownBy { w with heap := w.heap.setIfInBounds b o } (some b) := fun o => ⟨rfl, rfl, rfl, by simp, fun k hk hn => by
    have : b ≠ k := fun e => hn (by rw [e])
    simp [Array.getElem?_setIfInBounds, this]⟩
  have at_ : ∀ o, ({ w with heap := w.heap.setIfInBounds b o } : World).heap[b]? = some o := fun o => by
    have := blk_lt hb
    simp [Array.getElem?_setIfInBounds, this]
  rcases keyedI.find w (keyI ha) es.toList (mapi_keys hL) with ⟨h1, h2⟩ | ⟨j, e0, h1, h2, h3⟩
  · refine ⟨_, by simp [Instr.mapUpdate, run_underlying Try.underlying60, MapKept.run_getObj_map hb, keyedI.check w false (keyI ha), h1, MapKept.run_setObj_map _ hb, Result.andThen]; rfl, gr _, _, _, at_ _, ?_⟩
    intro e he
    simp at he
    rcases he with he | he
    · exact hL e (by simpa using he)
    · subst he; exact ⟨⟨a, rfl, ha⟩, v, rfl⟩
  · have hj : es[j]? = some e0 := by simpa using h2
    refine ⟨_, by simp [Instr.mapUpdate, run_underlying Try.underlying60, MapKept.run_getObj_map hb, keyedI.check w false (keyI ha), h1, hj, h3, keyedI.stays w (keyI ha), MapKept.run_setObj_map _ hb, Result.andThen]; rfl, gr _, _, _, at_ _, ?_⟩
    intro e he
    obtain ⟨i, hi⟩ := List.getElem?_of_mem he
    simp only [Array.getElem?_toList, Array.getElem?_modify] at hi
    by_cases hji : j = i
    · subst hji
      simp [hj] at hi
      subst hi
      exact ⟨⟨a, rfl, ha⟩, v, rfl⟩
    · simp [hji] at hi
      exact hL e (by rw [← Array.getElem?_toList] at hi; exact List.mem_of_getElem? hi)
theorem zero4 (w : World) : (zeroValue 4).run Try.prog w = .ok (.bool false) w := by kernel_rfl
theorem mapi_get {w : World} {b : Nat} (h : MapI w b) {a : Int} (ha : (Lit.int .i64 a).wf = true) : ∃ v, (Instr.lookup 60 (.map (some b)) (.int .i64 a) false).run Try.prog w = .ok (.bool v) w := by
  obtain ⟨es, cl, hb, hL⟩ := h
  rcases keyedI.find w (keyI ha) es.toList (mapi_keys hL) with ⟨h1, h2⟩ | ⟨j, e0, h1, h2, h3⟩
  · exact ⟨false, by simp [Instr.lookup, run_underlying Try.underlying60, MapKept.run_getObj_map hb, keyedI.check w _ (keyI ha), h1, zero4 w, Result.andThen]⟩
  · obtain ⟨_, v, hv⟩ := hL e0 (List.mem_of_getElem? h2)
    exact ⟨v, by simp [Instr.lookup, run_underlying Try.underlying60, MapKept.run_getObj_map hb, keyedI.check w _ (keyI ha), h1, hv, Result.andThen]⟩
end Go.Proofs.Ytnbcmlphnllgeaa
