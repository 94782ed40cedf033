import Derived.Test.YtdhdkjiphapliaaB
import Derived.Test.YtdhdkjiphapliaaReg
set_option linter.unusedVariables false
set_option linter.unusedSimpArgs false
namespace Go.Proofs.Ytdhdkjiphapliaa
open Go.RowKit
section
variable {P : Program} {w : World}
/-- append in place: there is room. -/
theorem wp_room {o : Oper} {a : Act} {K : Act → World → Prop} {Q : Exit → Act → World → Prop} {t e : TypeId} {size bytes : Nat} {z : Value} (E : Elem P t e size bytes z) (s x : Operand)
    (ho : o.op = .call { callee := .builtin .append, args := #[s, x], argTypes := #[t, t] })
    {g i cap : Nat} {cur : Array Value} (hg : w.heap[g]? = some (.cells cur e (0, 0))) (hs : a.eval s = .slice (some ⟨g, 0, none⟩) i cap)
    {ad : Addr} {m c : Nat} {news : List Value} (hr : Shows w size (some ad) m news) (hx : a.eval x = .slice (some ad) m c) (h1 : ∀ u ∈ news, u.oneCell' = true)
    (hroom : i + m ≤ cap) (hcs : cur.size = cap * size)
    (h : ∀ w', w'.heap[g]? = some (.cells (cur.toList.take (i * size) ++ news ++ cur.toList.drop (i * size + news.length)).toArray e (0, 0)) → w.grownBy w' (some g) → K (a.put o.dst (.slice (some ⟨g, 0, none⟩) (i + m) cap)) w') : o.wp P a w K Q := by
  obtain ⟨inf, hi, hz, hsize, hby⟩ := E.info
  have hcells : ∀ j u, news[j]? = some u → w.cell? (ad.add j) = some u := by
    intro j u hu
    rcases Nat.eq_zero_or_pos m with h0 | h0
    · subst h0; have := hr.zero; subst this; simp at hu
    · obtain ⟨ad', h, _, hc⟩ := hr.2 h0
      injection h with h
      subst h
      exact hc j u hu
  subst hsize
  have hfit : i * inf.size + news.length ≤ cur.size := by rw [hr.1, hcs, ← Nat.add_mul]; exact Nat.mul_le_mul_right _ hroom
  have hrun := run_append_room (P := P) w t o.type e inf E.under hi g i cap cur hg ad m c news hr.1 hcells h1 hroom hfit
  unfold Oper.wp execOp
  simp only [ho, resolve, invoke, builtin, Sem.run_bind, Sem.run_pure, Result.andThen_ok, List.map_toArray, List.map_cons, List.map_nil, hs, hx, hrun]
  exact h _ (setRow_heap w g cur _ e _ hg) (setRow_grown w g _)
/-- clear of a part of a row. -/
theorem wpList_clear {ops : Array Oper} {rest : List Oper} {o : Oper} {a : Act} {Q : Exit → Act → World → Prop} {t e : TypeId} {size bytes : Nat} {z : Value} (E : Elem P t e size bytes z) (hgd : o.guard = none) (x : Operand)
    (ho : o.op = .call { callee := .builtin .clear, args := #[x], argTypes := #[t] }) {g : Nat} {cur : Array Value} (hg : w.heap[g]? = some (.cells cur e (0, 0)))
    {off m c : Nat} (hx : a.eval x = .slice (some ⟨g, off, none⟩) m c) (hm : m ≠ 0) (hfit : off + m * size ≤ cur.size) (h1 : ∀ u ∈ z.cells.toList, u.oneCell' = true)
    (h : ∀ w' cur', w'.heap[g]? = some (.cells cur' e (0, 0)) → cur'.size = cur.size → cur'.toList.take off = cur.toList.take off → w.grownBy w' (some g) → wpList P ops Q rest (a.put o.dst (.tuple #[])) w') : wpList P ops Q (o :: rest) a w := by
  refine wpList_plain hgd fun _ hK => ?_
  obtain ⟨inf, hi, hz, hsize, hby⟩ := E.info
  have hzl : (Builtin.zeroCells z.cells m).toList.length = m * size := by
    rw [Array.length_toList, size_zeroCells, E.cells]
  have hst := run_storeCells_at P g off e (Builtin.zeroCells z.cells m).toList 0 cur w hg (by rw [hzl]; simpa using hfit) (fun v hv => by
    simp only [Builtin.zeroCells, Array.toList_map, Array.toList_range, List.mem_map, List.mem_range] at hv
    obtain ⟨j, hj, rfl⟩ := hv
    refine h1 _ ?_
    have hp := E.pos
    have hlt : j % z.cells.size < z.cells.size := Nat.mod_lt _ (by rw [E.cells]; exact hp)
    rw [getElem!_pos z.cells _ hlt]
    exact Array.getElem_mem_toList hlt)
  obtain ⟨m', rfl⟩ : ∃ m', m = m' + 1 := ⟨m - 1, by omega⟩
  simp only [Nat.add_zero] at hst
  unfold Oper.wp execOp
  simp only [ho, resolve, invoke, builtin, Sem.run_bind, Sem.run_pure, Result.andThen_ok, List.map_toArray, List.map_cons, List.map_nil, hx]
  simp [Builtin.clear_, run_underlying E.under, zeroValue, typeInfo, hi, hz, hst]
  refine hK _ _ (h _ _ (setRow_heap w g cur _ e _ hg) ?_ ?_ (setRow_grown w g _))
  · have hz2 : (Builtin.zeroCells z.cells (m' + 1)).size = (m' + 1) * size := by rw [size_zeroCells, E.cells]
    generalize (m' + 1) * size = q at *
    simp [hz2]
    omega
  · simp
    rw [List.take_append_of_le_length (by simp; omega), List.take_take]
    simp
end
theorem grown_trans' {a b c : World} {row : Option Nat} (x : Ext a b) (k : b.grownBy c row) : a.grownBy c row := ext_grown x k
theorem zc_one : ∀ u ∈ (Value.agg #[.int .u8 0, .int .u8 0, .slice none 0 0]).cells.toList, u.oneCell' = true := by
  intro u hu
  have hu : u ∈ Rp.vals ⟨0, 0, none, 0, 0, []⟩ := hu
  exact rp_one _ u hu
theorem erase_eq (l : List Rp) (i : Nat) : l.eraseIdx i = l.take i ++ l.drop (i + 1) := List.eraseIdx_eq_take_drop_succ ..
set_option maxHeartbeats 2000000 in
theorem del_any {w : World} {g n cap i : Nat} {cur : Array Value} {l : List Rp} (hg : w.heap[g]? = some (.cells cur 38 (0, 0))) (hn : n ≤ cap) (hc : cap ≤ maxLen) (hcs : cur.size = cap * 3) (ht : cur.toList.take (n * 3) = rps l) (hl : l.length = n) (hi : i < n) :
    Calls Try.prog 22 #[.slice (some ⟨g, 0, none⟩) n cap, .int .i64 (i : Int), .int .i64 ((i + 1 : Nat) : Int)] w fun e w' => e = .returned (.slice (some ⟨g, 0, none⟩) (n - 1) cap) ∧ w'.ownsRow 0 38 3 (.slice (some ⟨g, 0, none⟩) (n - 1) cap) (n - 1) (rps (l.eraseIdx i)) ∧ w.grownBy w' (some g) := by
  unfold maxLen at hc
  have hne : ((i : Int) == ((i + 1 : Nat) : Int)) = false := by simp; omega
  go_enter Try.func22, Try.ntmps22
  have hic : i ≤ cap := by omega
  have hin : i + 1 ≤ n := by omega
  have hicc : i + 1 ≤ cap := by omega
  have hi0 : (0 : Int) ≤ i + 1 := by omega
  have hi1 : (i : Int) + 1 ≤ n := by omega
  obtain ⟨pA, hpA⟩ : ∃ pA, (if cap = i + 1 then some (⟨g, 0, none⟩ : Addr) else some ⟨g, (i + 1) * 3, none⟩) = some pA := by split <;> exact ⟨_, rfl⟩
  have own : w.ownsRow 0 38 3 (.slice (some ⟨g, 0, none⟩) n cap) n (rps l) := ⟨by rw [rps_len, hl], .inr ⟨g, cap, cur, rfl, Nat.zero_le _, hg, hn, by simpa [maxLen] using hc, hcs, ht⟩⟩
  have sh : Shows w 3 (some pA) (n - (i + 1)) (rps (l.drop (i + 1))) := by
    have := (Shows.of_own own).drop hin hn
    rw [rps_drop] at this
    rw [← hpA]
    simpa [Addr.add_mid] using this
  have SH := Lib.hid sh
  clear sh own
  have hs1 : i + (n - (i + 1)) = n - 1 := by omega
  have hs2 : ((n - 1 : Nat) : Int) ≤ n := by omega
  have hs3 : n - 1 ≤ n := by omega
  have hs4 : n - (n - 1) = 1 := by omega
  have hs5 : cap ≠ n - 1 := by omega
  have hle : ((rps l).take (i * 3)).length = i * 3 := by rw [List.length_take, rps_len]; omega
  have hft : cur.toList.take (i * 3) = (rps l).take (i * 3) := by rw [← ht, List.take_take]; congr 1; omega
  have LE := Lib.hid hle
  have FT := Lib.hid hft
  have HT := Lib.hid ht
  clear hle hft ht
  go_upto_region 5 with (fail)
  refine wp_regionL (Kept (· = g) w) (Ext w) 6 (by kernel_rfl) (Kept.of_ext (Ext.refl _).drew) ((Ext.refl _).drew) (fun hL => ?_)
  have hP := hL.1
  have hE : Ext w (World.drew w) := (Ext.refl _).drew
  obtain ⟨wD1, hwD⟩ : ∃ V, V = World.drew w := ⟨_, rfl⟩
  rw [← hwD] at hL hP hE ⊢
  clear hwD
  refine wpAnyL_takeP (i := 0) (oi := { dst := some 20, op := Op.move (Operand.tmp 0), type := 32, pos := "slices.go:232", after := #[], guard := none }) (v := ?vv2_5_0) rfl (by kernel_rfl) (by kernel_rfl) (by kernel_rfl) (by kernel_rfl) (fun _ _ _ h => h) (Or.inl ⟨by rfl, ?yy2_5_0⟩) hL (fun hL => ?_)
  case yy2_5_0 => (intro W hx; go_simp; try with_reducible rfl)
  simp only [Act.put, List.setIfInBounds_toArray, List.set_cons_zero, List.set_cons_succ]
  refine wpAnyL_takeP (i := 1) (oi := { dst := some 21, op := Op.move (Operand.tmp 1), type := 3, pos := "slices.go:232", after := #[], guard := none }) (v := ?vv3_5_1) rfl (by kernel_rfl) (by kernel_rfl) (by kernel_rfl) (by kernel_rfl) (fun _ _ _ h => h) (Or.inl ⟨by rfl, ?yy3_5_1⟩) hL (fun hL => ?_)
  case yy3_5_1 => (intro W hx; go_simp; try with_reducible rfl)
  simp only [Act.put, List.setIfInBounds_toArray, List.set_cons_zero, List.set_cons_succ]
  refine wpAnyL_takeP (i := 2) (oi := { dst := some 22, op := Op.slice 32 (Operand.tmp 20) none (some (Operand.tmp 21)) none, type := 32, pos := "slices.go:232", after := #[{ on := 0, ground := Ground.data }, { on := 1, ground := Ground.data }], guard := none }) (v := ?vv4_5_2) rfl (by kernel_rfl) (by kernel_rfl) (by kernel_rfl) (by kernel_rfl) (fun _ _ _ h => h) (Or.inl ⟨by rfl, ?yy4_5_2⟩) hL (fun hL => ?_)
  case yy4_5_2 => (intro W hx; go_simp; try with_reducible rfl)
  simp only [Act.put, List.setIfInBounds_toArray, List.set_cons_zero, List.set_cons_succ]
  refine wpAnyL_takeP (i := 3) (oi := { dst := some 23, op := Op.move (Operand.tmp 0), type := 32, pos := "slices.go:232", after := #[], guard := none }) (v := ?vv5_5_3) rfl (by kernel_rfl) (by kernel_rfl) (by kernel_rfl) (by kernel_rfl) (fun _ _ _ h => h) (Or.inl ⟨by rfl, ?yy5_5_3⟩) hL (fun hL => ?_)
  case yy5_5_3 => (intro W hx; go_simp; try with_reducible rfl)
  simp only [Act.put, List.setIfInBounds_toArray, List.set_cons_zero, List.set_cons_succ]
  refine wpAnyL_takeP (i := 4) (oi := { dst := some 24, op := Op.move (Operand.tmp 2), type := 3, pos := "slices.go:232", after := #[], guard := none }) (v := ?vv6_5_4) rfl (by kernel_rfl) (by kernel_rfl) (by kernel_rfl) (by kernel_rfl) (fun _ _ _ h => h) (Or.inl ⟨by rfl, ?yy6_5_4⟩) hL (fun hL => ?_)
  case yy6_5_4 => (intro W hx; go_simp; try with_reducible rfl)
  simp only [Act.put, List.setIfInBounds_toArray, List.set_cons_zero, List.set_cons_succ]
  refine wpAnyL_takeP (i := 5) (oi := { dst := some 25, op := Op.slice 32 (Operand.tmp 23) (some (Operand.tmp 24)) none none, type := 32, pos := "slices.go:232", after := #[{ on := 3, ground := Ground.data }, { on := 4, ground := Ground.data }], guard := none }) (v := ?vv7_5_5) rfl (by kernel_rfl) (by kernel_rfl) (by kernel_rfl) (by kernel_rfl) (fun _ _ _ h => h) (Or.inl ⟨by rfl, ?yy7_5_5⟩) hL (fun hL => ?_)
  case yy7_5_5 => (intro W hx; go_simp; try with_reducible rfl)
  simp only [Act.put, List.setIfInBounds_toArray, List.set_cons_zero, List.set_cons_succ]
  refine wpAnyL_ready (rs := [6]) (by kernel_rfl) (by simp) (AllReadyL.cons rfl (fun K hK => ?_) AllReadyL.nil)
  rw [if_pos (by rfl)]
  refine wp_room (o := { dst := some 26, op := Op.call { callee := Callee.builtin Builtin.append, args := #[Operand.tmp 22, Operand.tmp 25], argTypes := #[32, 32] }, type := 32, pos := "slices.go:232", after := #[{ on := 2, ground := Ground.data }, { on := 5, ground := Ground.data }], guard := none }) el32 _ _ rfl (hE.block _ (blk_lt hg) |>.trans hg) rfl (SH.out.ext hE) rfl (rps_one _) (by omega) hcs ?_; intro w3 k3 x3; rw [hs1]
  simp only [Act.put, List.setIfInBounds_toArray, List.set_cons_zero, List.set_cons_succ]
  replace hP := hP.trans' (Kept.of_grown x3 (fun b e => by injection e with e; exact e.symm))
  have hE3 := hE
  clear hE
  clear hL
  refine hK.out _ _ ⟨hP, fun e => absurd e (by simp)⟩ (fun hL => ?_)
  clear hK K
  refine wpAnyL_takeP (i := 7) (oi := { dst := some 0, op := Op.assign (Operand.tmp 26), type := 32, pos := "slices.go:232", after := #[{ on := 6, ground := Ground.data }, { on := 6, ground := Ground.chain }, { on := 0, ground := Ground.phase }, { on := 1, ground := Ground.phase }, { on := 2, ground := Ground.phase }, { on := 3, ground := Ground.phase }, { on := 4, ground := Ground.phase }, { on := 5, ground := Ground.phase }, { on := 6, ground := Ground.phase }], guard := none }) (v := ?vv8_5_7) rfl (by kernel_rfl) (by kernel_rfl) (by kernel_rfl) (by kernel_rfl) (fun _ _ _ h => h) (Or.inl ⟨by rfl, ?yy8_5_7⟩) hL (fun hL => ?_)
  case yy8_5_7 => (intro W hx; go_simp; try with_reducible rfl)
  simp only [Act.put, List.setIfInBounds_toArray, List.set_cons_zero, List.set_cons_succ]
  refine wpAnyL_done (by kernel_rfl) ?_ _
  obtain ⟨cur3, hc3⟩ : ∃ c3 : Array Value, c3 = (cur.toList.take (i * 3) ++ rps (l.drop (i + 1)) ++ cur.toList.drop (i * 3 + (rps (l.drop (i + 1))).length)).toArray := ⟨_, rfl⟩
  rw [← hc3] at k3
  have h3s : cur3.size = cap * 3 := by rw [hc3]; simp [rps_len]; omega
  have h3t : cur3.toList.take ((n - 1) * 3) = rps (l.eraseIdx i) := by
    rw [hc3, erase_eq, rps_app, ← rps_take, FT.out]
    rw [List.take_left' (by rw [List.length_append, LE.out, rps_len, List.length_drop, hl]; omega)]
  have x33 : w.grownBy w3 (some g) := grown_trans' hE3 x3
  clear hc3
  have f1 : (n - 1) * 3 + 1 * 3 ≤ cur3.size := by rw [h3s]; omega
  go_wp2_with (refine wpList_clear el32 rfl _ rfl k3 (off := (n - 1) * 3) (m := 1) rfl (by omega) f1 zc_one ?_; intro w4 cur4 k4 s4 t4 x4)
  go_ret
  exact ⟨rfl, ⟨by rw [rps_len, List.length_eraseIdx, if_pos (by omega), hl], .inr ⟨g, cap, cur4, rfl, Nat.zero_le _, k4, by omega, by simpa [maxLen] using hc, by rw [s4, h3s], by rw [t4, h3t]⟩⟩, World.grownBy_trans x33 x4⟩
end Go.Proofs.Ytdhdkjiphapliaa
