import Derived.Test.YtnbcmlphnllgeaaB
import Derived.Test.YtnbcmlphnllgeaaReg
set_option linter.unusedVariables false
set_option linter.unusedSimpArgs false
namespace Go.Proofs.Ytnbcmlphnllgeaa
open Go.RowKit
section
variable {P : Program} {w : World}
/-- append in place: there is room. -/
theorem wp_room {o : Oper} {a : Act} {K : Act → World → Prop} {Q : Exit → Act → World → Prop} {t e : TypeId} {size bytes : Nat} {z : Value} (E : Elem P t e size bytes z) (s x : Operand)
    (ho : o.op = .call { callee := .builtin .append, args := #[s, x], argTypes := #[t, t] })
    {g i cap : Nat} {cur : Array Value} (hg : w.heap[g]? = some (.cells cur e (0, 0))) (hs : a.eval s = .slice (some ⟨g, 0, none⟩) i cap)
    {ad : Addr} {m c : Nat} {news : List Value} (hr : Shows w size (some ad) m news) (hx : a.eval x = .slice (some ad) m c) (h1 : ∀ u ∈ news, u.oneCell' = true)
    (hroom : i + m ≤ cap) (hcs : cur.size = cap * size)
    (h : ∀ w', w'.heap[g]? = some (.cells (cur.toList.take (i * size) ++ news ++ cur.toList.drop (i * size + news.length)).toArray e (0, 0)) → w.grownBy w' (some g) → K (a.put o.dst (.slice (some ⟨g, 0, none⟩) (i + m) cap)) w') : o.wp P a w K Q := by
  obtain ⟨inf, hi, hz, hsize, hby⟩ := E.info
  have hcells : ∀ j u, news[j]? = some u → w.cell? (ad.add j) = some u := by
    intro j u hu
    rcases Nat.eq_zero_or_pos m with h0 | h0
    · subst h0; have := hr.zero; subst this; simp at hu
    · obtain ⟨ad', h, _, hc⟩ := hr.2 h0
      injection h with h
      subst h
      exact hc j u hu
  subst hsize
  have hfit : i * inf.size + news.length ≤ cur.size := by rw [hr.1, hcs, ← Nat.add_mul]; exact Nat.mul_le_mul_right _ hroom
  have hrun := run_append_room (P := P) w t o.type e inf E.under hi g i cap cur hg ad m c news hr.1 hcells h1 hroom hfit
  unfold Oper.wp execOp
  simp only [ho, resolve, invoke, builtin, Sem.run_bind, Sem.run_pure, Result.andThen_ok, List.map_toArray, List.map_cons, List.map_nil, hs, hx, hrun]
  exact h _ (setRow_heap w g cur _ e _ hg) (setRow_grown w g _)
/-- clear of a part of a row. -/
theorem wpList_clear {ops : Array Oper} {rest : List Oper} {o : Oper} {a : Act} {Q : Exit → Act → World → Prop} {t e : TypeId} {size bytes : Nat} {z : Value} (E : Elem P t e size bytes z) (hgd : o.guard = none) (x : Operand)
    (ho : o.op = .call { callee := .builtin .clear, args := #[x], argTypes := #[t] }) {g : Nat} {cur : Array Value} (hg : w.heap[g]? = some (.cells cur e (0, 0)))
    {off m c : Nat} (hx : a.eval x = .slice (some ⟨g, off, none⟩) m c) (hm : m ≠ 0) (hfit : off + m * size ≤ cur.size) (h1 : ∀ u ∈ z.cells.toList, u.oneCell' = true)
    (h : ∀ w' cur', w'.heap[g]? = some (.cells cur' e (0, 0)) → cur'.size = cur.size → cur'.toList.take off = cur.toList.take off → w.grownBy w' (some g) → wpList P ops Q rest (a.put o.dst (.tuple #[])) w') : wpList P ops Q (o :: rest) a w := by
  refine wpList_plain hgd fun _ hK => ?_
  obtain ⟨inf, hi, hz, hsize, hby⟩ := E.info
  have hzl : (Builtin.zeroCells z.cells m).toList.length = m * size := by
    rw [Array.length_toList, size_zeroCells, E.cells]
  have hst := run_storeCells_at P g off e (Builtin.zeroCells z.cells m).toList 0 cur w hg (by rw [hzl]; simpa using hfit) (fun v hv => by
    simp only [Builtin.zeroCells, Array.toList_map, Array.toList_range, List.mem_map, List.mem_range] at hv
    obtain ⟨j, hj, rfl⟩ := hv
    refine h1 _ ?_
    have hp := E.pos
    have hlt : j % z.cells.size < z.cells.size := Nat.mod_lt _ (by rw [E.cells]; exact hp)
    rw [getElem!_pos z.cells _ hlt]
    exact Array.getElem_mem_toList hlt)
  obtain ⟨m', rfl⟩ : ∃ m', m = m' + 1 := ⟨m - 1, by omega⟩
  simp only [Nat.add_zero] at hst
  unfold Oper.wp execOp
  simp only [ho, resolve, invoke, builtin, Sem.run_bind, Sem.run_pure, Result.andThen_ok, List.map_toArray, List.map_cons, List.map_nil, hx]
  simp [Builtin.clear_, run_underlying E.under, zeroValue, typeInfo, hi, hz, hst]
  refine hK _ _ (h _ _ (setRow_heap w g cur _ e _ hg) ?_ ?_ (setRow_grown w g _))
  · have hz2 : (Builtin.zeroCells z.cells (m' + 1)).size = (m' + 1) * size := by rw [size_zeroCells, E.cells]
    generalize (m' + 1) * size = q at *
    simp [hz2]
    omega
  · simp
    rw [List.take_append_of_le_length (by simp; omega), List.take_take]
    simp
end
theorem grown_trans' {a b c : World} {row : Option Nat} (x : Ext a b) (k : b.grownBy c row) : a.grownBy c row := ext_grown x k
theorem zc_one : ∀ u ∈ (Value.agg #[.int .u8 0, .int .u8 0, .slice none 0 0]).cells.toList, u.oneCell' = true := by
  intro u hu
  have hu : u ∈ Rp.vals ⟨0, 0, none, 0, 0, []⟩ := hu
  exact rp_one _ u hu
theorem erase_eq (l : List Rp) (i : Nat) : l.eraseIdx i = l.take i ++ l.drop (i + 1) := List.eraseIdx_eq_take_drop_succ ..
end Go.Proofs.Ytnbcmlphnllgeaa
