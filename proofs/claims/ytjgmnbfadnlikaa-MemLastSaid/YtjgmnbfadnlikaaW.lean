import Derived.Test.YtjgmnbfadnlikaaV
set_option linter.unusedVariables false
set_option linter.unusedSimpArgs false
namespace Go.Proofs.Ytjgmnbfadnlikaa
open Go.RowKit
def MS.act (s : MS) (a : Ac) : MS := if a.k.tmod 5 = 0 then s else if a.k.tmod 5 = 1 then s.wr a.who a.area a.at_ (a.bs.take 300) else if a.k.tmod 5 = 2 then (s.st a.who a.area a.m).1 else if a.k.tmod 5 = 3 then (s.cp a.area a.n a.m).1 else s
def MS.tell (s : MS) (a : Ac) : List Int × Int × Int := if a.k.tmod 5 = 0 then (s.rd a.who a.area a.at_ a.n, 0, s.err a.who a.area a.at_ a.n) else if a.k.tmod 5 = 1 then ([], 0, s.wre a.who a.area a.at_ (min a.bn 300)) else if a.k.tmod 5 = 2 then ([], 0, (s.st a.who a.area a.m).2) else if a.k.tmod 5 = 3 then ([], 0, (s.cp a.area a.n a.m).2) else ([], (s.pg a.who a.area).1, (s.pg a.who a.area).2)
def DoesPost (w : World) (g : Nat) (s : MS) (va : Tg → Value) (T : Nat → Option Tg) (t : List Int × Int × Int) (e : Ending) (w' : World) : Prop := ∃ v, e = .returned (.tuple #[v, .int .i64 t.2.1, .int .i64 t.2.2]) ∧ MemC w' g s va T ∧ Kept (fun b => T b ≠ none) w w' ∧ w'.ownsRow w.heap.size 5 1 v t.1.length (u8s t.1)
theorem cells7 {w : World} {g : Nat} {t : TypeId} {fr : Nat × Nat} {x0 x1 x2 x3 x4 x5 x6 : Value} (h : w.heap[g]? = some (.cells #[x0, x1, x2, x3, x4, x5, x6] t fr)) :
    w.cell? ⟨g, 0, none⟩ = some x0 ∧ w.cell? ⟨g, 1, none⟩ = some x1 ∧ w.cell? ⟨g, 2, none⟩ = some x2 ∧ w.cell? ⟨g, 3, none⟩ = some x3 ∧ w.cell? ⟨g, 4, none⟩ = some x4 ∧ w.cell? ⟨g, 5, none⟩ = some x5 ∧ w.cell? ⟨g, 6, none⟩ = some x6 :=
  ⟨blk_cell h rfl, blk_cell h rfl, blk_cell h rfl, blk_cell h rfl, blk_cell h rfl, blk_cell h rfl, blk_cell h rfl⟩
theorem own_nil0 {w : World} {b : Nat} : w.ownsRow b 5 1 (.slice none 0 0) ([] : List Int).length (u8s []) := ⟨rfl, .inl ⟨rfl, rfl⟩⟩
set_option maxRecDepth 100000 in
set_option maxHeartbeats 4000000 in
theorem does_any {w : World} {g : Nat} {s : MS} {va : Tg → Value} {T : Nat → Option Tg} (h : MemC w g s va T) (a : Ac) (ha : a.ok w) : Calls Try.prog 13 #[.pointer (some ⟨g, 0, none⟩), .agg a.vals.toArray] w fun e w' => DoesPost w g (s.act a) va T (s.tell a) e w' := by
  obtain ⟨w1, hw1⟩ : ∃ V, V = w.alloc (.cells a.vals.toArray 39) := ⟨_, rfl⟩
  have K1 : w1.heap[w.heap.size]? = some (.cells #[.int .u8 a.k, .int .u8 a.who, .int .u8 (a.area : Int), .int .u32 (a.at_ : Int), .int .i64 a.n, .int .i64 a.m, .slice a.A a.bn a.c] 39 (0, 0)) := by rw [hw1]; exact heap_alloc_new _ _
  have x1 : Ext w w1 := by rw [hw1]; exact (Ext.refl _).alloc _
  obtain ⟨q, hq⟩ : ∃ q, a.k.tmod 5 = q := ⟨_, rfl⟩
  have hq5 : q = 0 ∨ q = 1 ∨ q = 2 ∨ q = 3 ∨ q = 4 := by rw [← hq, Int.tmod_eq_emod_of_nonneg ha.k.1]; omega
  unfold MS.act MS.tell
  rw [hq]
  obtain ⟨f0, f1, f2, f3, f4, f5, f6⟩ := cells7 K1
  have HA := Lib.hid ha
  have H1 := Lib.hid (h.ext x1)
  have HX := Lib.hid x1
  have HK := Lib.hid K1
  have iw := wri a.area (by have := ha.area; omega)
  have hne : ∀ b, T b ≠ none → b ≠ w.heap.size := fun b hb e => by
    obtain ⟨t, ht⟩ := Option.ne_none_iff_exists'.1 hb
    have := h.O.lt b t ht
    omega
  have HN := Lib.hid hne
  clear ha h x1 K1 hne
  rcases hq5 with rfl | rfl | rfl | rfl | rfl
  · simp only [if_true]
    go_enter Try.func13, Try.ntmps13
    go_upto_region 1 with (fail)
    rw [← hw1]
    clear hw1
    go_wp2_with (go_at_call 23; (refine (read_any H1.out a.who a.area a.at_ a.n HA.out.area HA.out.at_ HA.out.n.2).mono ?_); rintro e w2 ⟨x2, v, rfl, o2⟩)
    go_ret3
    exact ⟨v, rfl, H1.out.ext x2, .of_ext (HX.out.trans x2), own_base o2 HX.out.size⟩
  · simp only [if_true, show ¬ ((1 : Int) = 0) by omega, if_false]
    obtain ⟨k, hk⟩ : ∃ k, k = min a.bn 300 := ⟨_, rfl⟩
    have hle := HA.out.le
    have hcm := HA.out.cm
    have hlen := HA.out.rd.len
    unfold maxLen at hcm
    have hmin : (if (300 : Int) < a.bn then (300 : Int) else a.bn) = k := by split <;> omega
    have hkc : k ≤ a.c := by omega
    have hkc' : (k : Int) ≤ a.c := by omega
    have htk : a.bs.take 300 = a.bs.take k := by
      by_cases h3 : a.bn ≤ 300
      · rw [List.take_of_length_le (by omega), List.take_of_length_le (by omega)]
      · rw [show k = 300 by omega]
    have hrd := HA.out.rd.take (k := k) (by omega)
    have hk300 : k ≤ 100000 := by omega
    rw [htk, ← hk]
    clear hle hcm hlen htk hk
    go_enter Try.func13, Try.ntmps13
    go_upto_region 1 with (fail)
    rw [← hw1]
    clear hw1
    go_upto_region 6 with (fail)
    refine wp_region_held_drew (S := fun W => W.heap[w.heap.size]? = some (.cells #[.int .u8 a.k, .int .u8 a.who, .int .u8 (a.area : Int), .int .u32 (a.at_ : Int), .int .i64 a.n, .int .i64 a.m, .slice a.A a.bn a.c] 39 (0, 0))) (by kernel_rfl) (((Ext.refl w1).drew.block _ (blk_lt HK.out)).trans HK.out) (fun hHeld => ?_)
    obtain ⟨wD1, hwD⟩ : ∃ V, V = World.drew w1 := ⟨_, rfl⟩
    rw [← hwD] at hHeld ⊢
    have zz0 : Ext w1 wD1 := by rw [hwD]; exact (Ext.refl _).drew
    clear hwD
    have MD := Lib.hid (H1.out.ext zz0)
    refine wpAnyH_take (i := 0) (oi := { dst := some 33, op := Op.move (Operand.tmp 0), type := 28, pos := "law.go:42", after := #[], guard := none }) (v := ?vv2_6_0) rfl (by kernel_rfl) (by kernel_rfl) (by kernel_rfl) (fun _ _ _ h => h) (Or.inl ⟨by rfl, ?yy2_6_0⟩) hHeld ?_
    case yy2_6_0 => (intro W hx; go_simp; try with_reducible rfl)
    simp only [Act.put, List.setIfInBounds_toArray, List.set_cons_zero, List.set_cons_succ]
    refine wpAnyH_take (i := 1) (oi := { dst := some 34, op := Op.fieldAddr 39 (Operand.tmp 3) 1, type := 0, pos := "law.go:42", after := #[], guard := none }) (v := ?vv3_6_1) rfl (by kernel_rfl) (by kernel_rfl) (by kernel_rfl) (fun _ _ _ h => h) (Or.inl ⟨by rfl, ?yy3_6_1⟩) hHeld ?_
    case yy3_6_1 => (intro W hx; go_simp; try with_reducible rfl)
    simp only [Act.put, List.setIfInBounds_toArray, List.set_cons_zero, List.set_cons_succ]
    refine wpAnyH_take (i := 2) (oi := { dst := some 35, op := Op.load 5 (Operand.tmp 34), type := 5, pos := "law.go:42", after := #[{ on := 1, ground := Ground.data }], guard := none }) (v := ?vv4_6_2) rfl (by kernel_rfl) (by kernel_rfl) (by kernel_rfl) (fun _ _ _ h => h) (Or.inl ⟨by rfl, ?yy4_6_2⟩) hHeld ?_
    case yy4_6_2 => (intro W hx; obtain ⟨e0, e1, e2, e3, e4, e5, e6⟩ := cells7 hx; go_simp; try with_reducible rfl)
    simp only [Act.put, List.setIfInBounds_toArray, List.set_cons_zero, List.set_cons_succ]
    refine wpAnyH_take (i := 3) (oi := { dst := some 36, op := Op.fieldAddr 39 (Operand.tmp 3) 2, type := 0, pos := "law.go:42", after := #[], guard := none }) (v := ?vv5_6_3) rfl (by kernel_rfl) (by kernel_rfl) (by kernel_rfl) (fun _ _ _ h => h) (Or.inl ⟨by rfl, ?yy5_6_3⟩) hHeld ?_
    case yy5_6_3 => (intro W hx; go_simp; try with_reducible rfl)
    simp only [Act.put, List.setIfInBounds_toArray, List.set_cons_zero, List.set_cons_succ]
    refine wpAnyH_take (i := 4) (oi := { dst := some 37, op := Op.load 5 (Operand.tmp 36), type := 5, pos := "law.go:42", after := #[{ on := 3, ground := Ground.data }], guard := none }) (v := ?vv6_6_4) rfl (by kernel_rfl) (by kernel_rfl) (by kernel_rfl) (fun _ _ _ h => h) (Or.inl ⟨by rfl, ?yy6_6_4⟩) hHeld ?_
    case yy6_6_4 => (intro W hx; obtain ⟨e0, e1, e2, e3, e4, e5, e6⟩ := cells7 hx; go_simp; try with_reducible rfl)
    simp only [Act.put, List.setIfInBounds_toArray, List.set_cons_zero, List.set_cons_succ]
    refine wpAnyH_take (i := 5) (oi := { dst := some 38, op := Op.fieldAddr 39 (Operand.tmp 3) 3, type := 0, pos := "law.go:42", after := #[], guard := none }) (v := ?vv7_6_5) rfl (by kernel_rfl) (by kernel_rfl) (by kernel_rfl) (fun _ _ _ h => h) (Or.inl ⟨by rfl, ?yy7_6_5⟩) hHeld ?_
    case yy7_6_5 => (intro W hx; go_simp; try with_reducible rfl)
    simp only [Act.put, List.setIfInBounds_toArray, List.set_cons_zero, List.set_cons_succ]
    refine wpAnyH_take (i := 6) (oi := { dst := some 39, op := Op.load 36 (Operand.tmp 38), type := 36, pos := "law.go:42", after := #[{ on := 5, ground := Ground.data }], guard := none }) (v := ?vv8_6_6) rfl (by kernel_rfl) (by kernel_rfl) (by kernel_rfl) (fun _ _ _ h => h) (Or.inl ⟨by rfl, ?yy8_6_6⟩) hHeld ?_
    case yy8_6_6 => (intro W hx; obtain ⟨e0, e1, e2, e3, e4, e5, e6⟩ := cells7 hx; go_simp; try with_reducible rfl)
    simp only [Act.put, List.setIfInBounds_toArray, List.set_cons_zero, List.set_cons_succ]
    refine wpAnyH_take (i := 7) (oi := { dst := some 40, op := Op.fieldAddr 39 (Operand.tmp 3) 6, type := 0, pos := "law.go:42", after := #[], guard := none }) (v := ?vv9_6_7) rfl (by kernel_rfl) (by kernel_rfl) (by kernel_rfl) (fun _ _ _ h => h) (Or.inl ⟨by rfl, ?yy9_6_7⟩) hHeld ?_
    case yy9_6_7 => (intro W hx; go_simp; try with_reducible rfl)
    simp only [Act.put, List.setIfInBounds_toArray, List.set_cons_zero, List.set_cons_succ]
    refine wpAnyH_take (i := 8) (oi := { dst := some 41, op := Op.load 37 (Operand.tmp 40), type := 37, pos := "law.go:42", after := #[{ on := 7, ground := Ground.data }], guard := none }) (v := ?vv10_6_8) rfl (by kernel_rfl) (by kernel_rfl) (by kernel_rfl) (fun _ _ _ h => h) (Or.inl ⟨by rfl, ?yy10_6_8⟩) hHeld ?_
    case yy10_6_8 => (intro W hx; obtain ⟨e0, e1, e2, e3, e4, e5, e6⟩ := cells7 hx; go_simp; try with_reducible rfl)
    simp only [Act.put, List.setIfInBounds_toArray, List.set_cons_zero, List.set_cons_succ]
    refine wpAnyH_take (i := 9) (oi := { dst := some 42, op := Op.fieldAddr 39 (Operand.tmp 3) 6, type := 0, pos := "law.go:42", after := #[], guard := none }) (v := ?vv11_6_9) rfl (by kernel_rfl) (by kernel_rfl) (by kernel_rfl) (fun _ _ _ h => h) (Or.inl ⟨by rfl, ?yy11_6_9⟩) hHeld ?_
    case yy11_6_9 => (intro W hx; go_simp; try with_reducible rfl)
    simp only [Act.put, List.setIfInBounds_toArray, List.set_cons_zero, List.set_cons_succ]
    refine wpAnyH_take (i := 10) (oi := { dst := some 43, op := Op.load 37 (Operand.tmp 42), type := 37, pos := "law.go:42", after := #[{ on := 9, ground := Ground.data }], guard := none }) (v := ?vv12_6_10) rfl (by kernel_rfl) (by kernel_rfl) (by kernel_rfl) (fun _ _ _ h => h) (Or.inl ⟨by rfl, ?yy12_6_10⟩) hHeld ?_
    case yy12_6_10 => (intro W hx; obtain ⟨e0, e1, e2, e3, e4, e5, e6⟩ := cells7 hx; go_simp; try with_reducible rfl)
    simp only [Act.put, List.setIfInBounds_toArray, List.set_cons_zero, List.set_cons_succ]
    refine wpAnyH_take (i := 11) (oi := { dst := some 44, op := Op.call { callee := Callee.builtin Builtin.len, args := #[Operand.tmp 43], argTypes := #[37] }, type := 3, pos := "law.go:42", after := #[{ on := 10, ground := Ground.data }], guard := none }) (v := ?vv13_6_11) rfl (by kernel_rfl) (by kernel_rfl) (by kernel_rfl) (fun _ _ _ h => h) (Or.inl ⟨by rfl, ?yy13_6_11⟩) hHeld ?_
    case yy13_6_11 => (intro W hx; go_simp; try with_reducible rfl)
    simp only [Act.put, List.setIfInBounds_toArray, List.set_cons_zero, List.set_cons_succ]
    refine wpAnyH_take (i := 12) (oi := { dst := some 45, op := Op.call { callee := Callee.builtin Builtin.min, args := #[Operand.tmp 44, Operand.const (Value.int IntKind.i64 300)], argTypes := #[3, 3] }, type := 3, pos := "law.go:42", after := #[{ on := 11, ground := Ground.data }], guard := none }) (v := ?vv14_6_12) rfl (by kernel_rfl) (by kernel_rfl) (by kernel_rfl) (fun _ _ _ h => h) (Or.inl ⟨by rfl, ?yy14_6_12⟩) hHeld ?_
    case yy14_6_12 => (intro W hx; go_simp; try with_reducible rfl)
    simp only [Act.put, List.setIfInBounds_toArray, List.set_cons_zero, List.set_cons_succ]
    refine wpAnyH_take (i := 13) (oi := { dst := some 46, op := Op.slice 37 (Operand.tmp 41) none (some (Operand.tmp 45)) none, type := 37, pos := "law.go:42", after := #[{ on := 8, ground := Ground.data }, { on := 12, ground := Ground.data }], guard := none }) (v := ?vv15_6_13) rfl (by kernel_rfl) (by kernel_rfl) (by kernel_rfl) (fun _ _ _ h => h) (Or.inl ⟨by rfl, ?yy15_6_13⟩) hHeld ?_
    case yy15_6_13 => (intro W hx; go_simp; try with_reducible rfl)
    simp only [Act.put, List.setIfInBounds_toArray, List.set_cons_zero, List.set_cons_succ]
    refine wpAnyH_ready (rs := [14]) (by kernel_rfl) (by simp) (AllReadyH.cons rfl (fun K hK => ?_) AllReadyH.nil)
    go_simp
    go_wp2_with (go_at_call 22; (refine (write_any MD.out a.who a.area a.at_ _ (hrd.ext (HX.out.trans zz0)) HA.out.area HA.out.at_ hk300).mono ?_); rintro e w2 ⟨rfl, M2, k2⟩)
    refine hK.out _ _ (k2.blk hHeld (fun hf => HN.out _ hf rfl)) (fun hHeld => ?_)
    clear hK K
    refine wpAnyH_take (i := 15) (oi := { dst := some 4, op := Op.assign (Operand.const (Value.slice none 0 0)), type := 37, pos := "law.go:42", after := #[{ on := 14, ground := Ground.chain }, { on := 0, ground := Ground.textOnly Departure.lateStores }, { on := 1, ground := Ground.textOnly Departure.lateStores }, { on := 2, ground := Ground.textOnly Departure.lateStores }, { on := 3, ground := Ground.textOnly Departure.lateStores }, { on := 4, ground := Ground.textOnly Departure.lateStores }, { on := 5, ground := Ground.textOnly Departure.lateStores }, { on := 6, ground := Ground.textOnly Departure.lateStores }, { on := 7, ground := Ground.textOnly Departure.lateStores }, { on := 8, ground := Ground.textOnly Departure.lateStores }, { on := 9, ground := Ground.textOnly Departure.lateStores }, { on := 10, ground := Ground.textOnly Departure.lateStores }, { on := 11, ground := Ground.textOnly Departure.lateStoresUnsure }, { on := 12, ground := Ground.textOnly Departure.lateStoresUnsure }, { on := 13, ground := Ground.textOnly Departure.lateStoresUnsure }, { on := 14, ground := Ground.textOnly Departure.lateStoresUnsure }], guard := none }) (v := ?vv16_6_15) rfl (by kernel_rfl) (by kernel_rfl) (by kernel_rfl) (fun _ _ _ h => h) (Or.inl ⟨by rfl, ?yy16_6_15⟩) hHeld ?_
    case yy16_6_15 => (intro W hx; go_simp; try with_reducible rfl)
    simp only [Act.put, List.setIfInBounds_toArray, List.set_cons_zero, List.set_cons_succ]
    refine wpAnyH_take (i := 16) (oi := { dst := some 5, op := Op.assign (Operand.const (Value.int IntKind.i64 0)), type := 3, pos := "law.go:42", after := #[{ on := 15, ground := Ground.chain }, { on := 0, ground := Ground.textOnly Departure.lateStores }, { on := 1, ground := Ground.textOnly Departure.lateStores }, { on := 2, ground := Ground.textOnly Departure.lateStores }, { on := 3, ground := Ground.textOnly Departure.lateStores }, { on := 4, ground := Ground.textOnly Departure.lateStores }, { on := 5, ground := Ground.textOnly Departure.lateStores }, { on := 6, ground := Ground.textOnly Departure.lateStores }, { on := 7, ground := Ground.textOnly Departure.lateStores }, { on := 8, ground := Ground.textOnly Departure.lateStores }, { on := 9, ground := Ground.textOnly Departure.lateStores }, { on := 10, ground := Ground.textOnly Departure.lateStores }, { on := 11, ground := Ground.textOnly Departure.lateStoresUnsure }, { on := 12, ground := Ground.textOnly Departure.lateStoresUnsure }, { on := 13, ground := Ground.textOnly Departure.lateStoresUnsure }, { on := 14, ground := Ground.textOnly Departure.lateStoresUnsure }, { on := 15, ground := Ground.phase }], guard := none }) (v := ?vv17_6_16) rfl (by kernel_rfl) (by kernel_rfl) (by kernel_rfl) (fun _ _ _ h => h) (Or.inl ⟨by rfl, ?yy17_6_16⟩) hHeld ?_
    case yy17_6_16 => (intro W hx; go_simp; try with_reducible rfl)
    simp only [Act.put, List.setIfInBounds_toArray, List.set_cons_zero, List.set_cons_succ]
    refine wpAnyH_take (i := 17) (oi := { dst := some 6, op := Op.assign (Operand.tmp 47), type := 29, pos := "law.go:42", after := #[{ on := 14, ground := Ground.data }, { on := 16, ground := Ground.chain }, { on := 0, ground := Ground.phase }, { on := 1, ground := Ground.phase }, { on := 2, ground := Ground.phase }, { on := 3, ground := Ground.phase }, { on := 4, ground := Ground.phase }, { on := 5, ground := Ground.phase }, { on := 6, ground := Ground.phase }, { on := 7, ground := Ground.phase }, { on := 8, ground := Ground.phase }, { on := 9, ground := Ground.phase }, { on := 10, ground := Ground.phase }, { on := 11, ground := Ground.phase }, { on := 12, ground := Ground.phase }, { on := 13, ground := Ground.phase }, { on := 14, ground := Ground.phase }, { on := 15, ground := Ground.phase }, { on := 16, ground := Ground.phase }], guard := none }) (v := ?vv18_6_17) rfl (by kernel_rfl) (by kernel_rfl) (by kernel_rfl) (fun _ _ _ h => h) (Or.inl ⟨by rfl, ?yy18_6_17⟩) hHeld ?_
    case yy18_6_17 => (intro W hx; go_simp; try with_reducible rfl)
    simp only [Act.put, List.setIfInBounds_toArray, List.set_cons_zero, List.set_cons_succ]
    refine wpAnyH_done (by kernel_rfl) ?_ _
    go_wp2
    go_ret3
    exact ⟨_, rfl, M2, (Kept.of_ext (HX.out.trans zz0)).trans' k2, own_nil0⟩
  · simp only [if_true, show ¬ ((2 : Int) = 0) by omega, show ¬ ((2 : Int) = 1) by omega, if_false]
    go_enter Try.func13, Try.ntmps13
    go_upto_region 1 with (fail)
    rw [← hw1]
    clear hw1
    go_wp2_with (go_at_call 25; (refine (set_any H1.out a.who a.area a.m).mono ?_); rintro e w2 ⟨rfl, M2, k2⟩)
    go_ret3
    exact ⟨_, rfl, M2, (Kept.of_ext HX.out).trans' k2, own_nil0⟩
  · simp only [if_true, show ¬ ((3 : Int) = 0) by omega, show ¬ ((3 : Int) = 1) by omega, show ¬ ((3 : Int) = 2) by omega, if_false]
    go_enter Try.func13, Try.ntmps13
    go_upto_region 1 with (fail)
    rw [← hw1]
    clear hw1
    go_wp2_with (go_at_call 26; (refine (copy_any H1.out a.area a.n a.m).mono ?_); rintro e w2 ⟨rfl, M2, k2⟩)
    go_ret3
    exact ⟨_, rfl, M2, (Kept.of_ext HX.out).trans' k2, own_nil0⟩
  · simp only [show ¬ ((4 : Int) = 0) by omega, show ¬ ((4 : Int) = 1) by omega, show ¬ ((4 : Int) = 2) by omega, show ¬ ((4 : Int) = 3) by omega, if_false]
    go_enter Try.func13, Try.ntmps13
    go_upto_region 1 with (fail)
    rw [← hw1]
    clear hw1
    go_wp2_with (go_at_call 24; (refine (page_any H1.out a.who a.area).mono ?_); rintro e w2 ⟨rfl, rfl⟩)
    go_ret3
    exact ⟨_, rfl, H1.out, .of_ext HX.out, own_nil0⟩
end Go.Proofs.Ytjgmnbfadnlikaa
