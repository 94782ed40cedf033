import Derived.Test.YtnbcmlphnllgeaaGG
set_option linter.unusedVariables false
set_option linter.unusedSimpArgs false
namespace Go.Proofs.Ytnbcmlphnllgeaa
open Go.RowKit
theorem str {w : World} {A : Option Addr} {n c : Nat} {bs : List Int} (hr : Rd w A n bs) : (convert 30 9 (.slice A n c)).run Try.prog w = .ok (.string (strOfNums bs)) w := run_str Try.underlying30 Try.underlying5 Try.underlying9 hr
theorem BL.at_ {w : World} {F : Nat → Prop} {v : Value} {els : List (Value × List Int)} (h : BL w F v els) {k : Nat} {x : Value × List Int} (hk : els[k]? = some x) :
    ∃ g c, v = .slice (some ⟨g, 0, none⟩) els.length c ∧ w.cell? ⟨g, k, none⟩ = some x.1 ∧ ∃ A c', x.1 = .slice A x.2.length c' ∧ x.2.length ≤ c' ∧ c' ≤ maxLen ∧ Rd w A x.2.length x.2 := by
  have hkl := (List.getElem?_eq_some_iff.1 hk).1
  obtain ⟨g, c, u, e, _, _, hu, hc⟩ := own_at h.row hkl
  rw [List.getElem?_map, hk] at hu
  injection hu with hu
  obtain ⟨h1, h2⟩ := h.el x (List.mem_of_getElem? hk)
  obtain ⟨A, c', e1, h3, h4, h5⟩ := own_rd h1 h2
  exact ⟨g, c, e, by rw [hc, ← hu], A, c', e1, h3, h4, h5⟩
set_option maxRecDepth 100000 in
set_option maxHeartbeats 8000000 in
theorem same_true {w : World} {i n m : Nat} {lo : Bool} {A B : Option Addr} (c d : Nat) {S1 S2 : Nat → Prop} {e1 e2 : List (Value × List Int)} (h1 : BL w S1 (.slice A n c) e1) (h2 : BL w S2 (.slice B m d) e2) (hn : n = e1.length) (hm : m = e2.length) (hl : n ≤ 100000) (he : e1.map (·.2) = e2.map (·.2)) :
    Calls Try.prog 15 #[.agg #[.int .i64 (i : Int), .bool lo, .slice A n c], .agg #[.int .i64 (i : Int), .bool lo, .slice B m d]] w fun e w' => e = .returned (.bool true) ∧ Ext w w' := by
  have hmn : m = n := by have := congrArg List.length he; simp at this; omega
  subst hmn
  obtain ⟨w0, hw0⟩ : ∃ V, V = w.alloc (.cells #[.int .i64 (i : Int), .bool lo, .slice A m c] 35) := ⟨_, rfl⟩
  have k0 : w0.heap[w.heap.size]? = some (.cells #[.int .i64 (i : Int), .bool lo, .slice A m c] 35 (0, 0)) := by rw [hw0]; exact heap_alloc_new _ _
  have x0 : Ext w w0 := by rw [hw0]; exact (Ext.refl _).alloc _
  have hs0 : w0.heap.size = w.heap.size + 1 := by rw [hw0]; exact Array.size_push _
  obtain ⟨w1, hw1⟩ : ∃ V, V = w0.alloc (.cells #[.int .i64 (i : Int), .bool lo, .slice B m d] 35) := ⟨_, rfl⟩
  obtain ⟨q, hq⟩ : ∃ q, q = w.heap.size + 1 := ⟨_, rfl⟩
  have k1 : w1.heap[q]? = some (.cells #[.int .i64 (i : Int), .bool lo, .slice B m d] 35 (0, 0)) := by rw [hw1, hq, ← hs0]; exact heap_alloc_new _ _
  have x1 : Ext w0 w1 := by rw [hw1]; exact (Ext.refl _).alloc _
  have k01 := (x1.block _ (blk_lt k0)).trans k0
  have X1 := x0.trans x1
  obtain ⟨a0, a1, a2⟩ : w1.cell? ⟨w.heap.size, 0, none⟩ = some (.int .i64 (i : Int)) ∧ w1.cell? ⟨w.heap.size, 1, none⟩ = some (.bool lo) ∧ w1.cell? ⟨w.heap.size, 2, none⟩ = some (.slice A m c) := ⟨blk_cell k01 rfl, blk_cell k01 rfl, blk_cell k01 rfl⟩
  obtain ⟨b0, b1, b2⟩ : w1.cell? ⟨q, 0, none⟩ = some (.int .i64 (i : Int)) ∧ w1.cell? ⟨q, 1, none⟩ = some (.bool lo) ∧ w1.cell? ⟨q, 2, none⟩ = some (.slice B m d) := ⟨blk_cell k1 rfl, blk_cell k1 rfl, blk_cell k1 rfl⟩
  have HP := Lib.hid (And.intro h1 (And.intro h2 (And.intro hn (And.intro hm he))))
  have HK := Lib.hid (And.intro a2 b2)
  clear h1 h2 hn hm he k0 k1 k01
  go_enter Try.func15, Try.ntmps15
  go_upto_region 1 with (fail)
  rw [← hw0, ← hw1, ← hq]
  clear hw0 hw1 hs0 hq x0 x1
  go_upto_region 4 with (fail)
  clear a0 a1 a2 b0 b1 b2
  go_loopw [5] (fun v wr => ∃ k : Nat, v = .int .i64 k ∧ k ≤ m ∧ Ext w1 wr) (fun v _ => m - (intOf v).toNat)
  case atStart => exact ⟨0, rfl, Nat.zero_le _, Ext.refl _⟩
  case round =>
    obtain ⟨k, rfl, hk, xr⟩ := hrel
    obtain ⟨wo, rfl⟩ : ∃ z : World, z = wr := ⟨_, rfl⟩
    have c2 := cell_ext xr HK.out.1
    have d2 := cell_ext xr HK.out.2
    have HK2 := Lib.hid (And.intro c2 d2)
    by_cases hlt : k < m
    · have hkn : (k : Int) < m := by omega
      obtain ⟨x, hx⟩ : ∃ x, e1[k]? = some x := ⟨_, List.getElem?_eq_getElem (by have := HP.out.2.2.1; omega)⟩
      obtain ⟨y, hy⟩ : ∃ y, e2[k]? = some y := ⟨_, List.getElem?_eq_getElem (by have := HP.out.2.2.2.1; omega)⟩
      have hxy : x.2 = y.2 := by
        have := congrArg (fun l => l[k]?) HP.out.2.2.2.2
        simp only [List.getElem?_map, hx, hy, Option.map_some] at this
        injection this
      obtain ⟨ga, ca, ea, pa, Aa, ca', va, _, _, ra⟩ := (HP.out.1.ext (X1.trans xr)).at_ hx
      obtain ⟨gb, cb, eb, pb, Ab, cb', vb, _, _, rb⟩ := (HP.out.2.1.ext (X1.trans xr)).at_ hy
      injection ea with ea _ _
      injection eb with eb _ _
      subst ea eb
      rw [va] at pa
      rw [vb] at pb
      rw [← hxy] at pb rb
      have HC := Lib.hid (And.intro pa (And.intro pb (And.intro ra rb)))
      clear hx hy hxy va vb pa pb ra rb
      go_upto_region 6 with (fail)
      clear c2 d2
      refine wp_region_held_drew (S := Ext wo) (by kernel_rfl) ((Ext.refl _).drew) (fun hHeld => ?_)
      obtain ⟨wD1, hwD⟩ : ∃ V, V = World.drew wo := ⟨_, rfl⟩
      rw [← hwD]
      clear hHeld
      have zz0 : Ext wo wD1 := by rw [hwD]; exact (Ext.refl _).drew
      clear hwD
      refine wpAnyH_imp (S' := Ext wD1) (fun W h => Ext.trans zz0 h) _ _ _ _ ?_
      have hHeld := Ext.refl wD1
      refine wpAnyH_take (i := 0) (oi := { dst := some 34, op := Op.fieldAddr 35 (Operand.tmp 2) 2, type := 0, pos := "ref.go:73", after := #[], guard := none }) (v := ?vv2_6_0) rfl (by kernel_rfl) (by kernel_rfl) (by kernel_rfl) (fun _ _ _ h => h) (Or.inl ⟨by rfl, ?yy2_6_0⟩) hHeld ?_
      case yy2_6_0 => (intro W hx; go_simp; try with_reducible rfl)
      simp only [Act.put, List.setIfInBounds_toArray, List.set_cons_zero, List.set_cons_succ]
      refine wpAnyH_take (i := 1) (oi := { dst := some 35, op := Op.load 33 (Operand.tmp 34), type := 33, pos := "ref.go:73", after := #[{ on := 0, ground := Ground.data }], guard := none }) (v := ?vv3_6_1) rfl (by kernel_rfl) (by kernel_rfl) (by kernel_rfl) (fun _ _ _ h => h) (Or.inl ⟨by rfl, ?yy3_6_1⟩) hHeld ?_
      case yy3_6_1 => (intro W hx; have hz := zz0.trans hx; have q1 := cell_ext hz HK2.out.1; go_simp; try with_reducible rfl)
      simp only [Act.put, List.setIfInBounds_toArray, List.set_cons_zero, List.set_cons_succ]
      refine wpAnyH_take (i := 2) (oi := { dst := some 36, op := Op.move (Operand.tmp 5), type := 3, pos := "ref.go:73", after := #[], guard := none }) (v := ?vv4_6_2) rfl (by kernel_rfl) (by kernel_rfl) (by kernel_rfl) (fun _ _ _ h => h) (Or.inl ⟨by rfl, ?yy4_6_2⟩) hHeld ?_
      case yy4_6_2 => (intro W hx; go_simp; try with_reducible rfl)
      simp only [Act.put, List.setIfInBounds_toArray, List.set_cons_zero, List.set_cons_succ]
      refine wpAnyH_take (i := 3) (oi := { dst := some 37, op := Op.indexAddr 33 (Operand.tmp 35) (Operand.tmp 36), type := 0, pos := "ref.go:73", after := #[{ on := 1, ground := Ground.data }, { on := 2, ground := Ground.data }], guard := none }) (v := ?vv5_6_3) rfl (by kernel_rfl) (by kernel_rfl) (by kernel_rfl) (fun _ _ _ h => h) (Or.inl ⟨by rfl, ?yy5_6_3⟩) hHeld ?_
      case yy5_6_3 => (intro W hx; go_simp; try with_reducible rfl)
      simp only [Act.put, List.setIfInBounds_toArray, List.set_cons_zero, List.set_cons_succ]
      refine wpAnyH_take (i := 4) (oi := { dst := some 38, op := Op.load 30 (Operand.tmp 37), type := 30, pos := "ref.go:73", after := #[{ on := 3, ground := Ground.data }], guard := none }) (v := ?vv6_6_4) rfl (by kernel_rfl) (by kernel_rfl) (by kernel_rfl) (fun _ _ _ h => h) (Or.inl ⟨by rfl, ?yy6_6_4⟩) hHeld ?_
      case yy6_6_4 => (intro W hx; have hz := zz0.trans hx; have q1 := cell_ext hz HC.out.1; go_simp; try with_reducible rfl)
      simp only [Act.put, List.setIfInBounds_toArray, List.set_cons_zero, List.set_cons_succ]
      refine wpAnyH_take (i := 5) (oi := { dst := some 39, op := Op.convert 30 9 (Operand.tmp 38), type := 9, pos := "ref.go:73", after := #[{ on := 4, ground := Ground.data }], guard := none }) (v := ?vv7_6_5) rfl (by kernel_rfl) (by kernel_rfl) (by kernel_rfl) (fun _ _ _ h => h) (Or.inl ⟨by rfl, ?yy7_6_5⟩) hHeld ?_
      case yy7_6_5 => (intro W hx; have hz := zz0.trans hx; have q1 := str (c := ca') (HC.out.2.2.1.ext hz); go_simp; try with_reducible rfl)
      simp only [Act.put, List.setIfInBounds_toArray, List.set_cons_zero, List.set_cons_succ]
      refine wpAnyH_take (i := 6) (oi := { dst := some 40, op := Op.fieldAddr 35 (Operand.tmp 3) 2, type := 0, pos := "ref.go:73", after := #[], guard := none }) (v := ?vv8_6_6) rfl (by kernel_rfl) (by kernel_rfl) (by kernel_rfl) (fun _ _ _ h => h) (Or.inl ⟨by rfl, ?yy8_6_6⟩) hHeld ?_
      case yy8_6_6 => (intro W hx; go_simp; try with_reducible rfl)
      simp only [Act.put, List.setIfInBounds_toArray, List.set_cons_zero, List.set_cons_succ]
      refine wpAnyH_take (i := 7) (oi := { dst := some 41, op := Op.load 33 (Operand.tmp 40), type := 33, pos := "ref.go:73", after := #[{ on := 6, ground := Ground.data }], guard := none }) (v := ?vv9_6_7) rfl (by kernel_rfl) (by kernel_rfl) (by kernel_rfl) (fun _ _ _ h => h) (Or.inl ⟨by rfl, ?yy9_6_7⟩) hHeld ?_
      case yy9_6_7 => (intro W hx; have hz := zz0.trans hx; have q1 := cell_ext hz HK2.out.2; go_simp; try with_reducible rfl)
      simp only [Act.put, List.setIfInBounds_toArray, List.set_cons_zero, List.set_cons_succ]
      refine wpAnyH_take (i := 8) (oi := { dst := some 42, op := Op.move (Operand.tmp 5), type := 3, pos := "ref.go:73", after := #[], guard := none }) (v := ?vv10_6_8) rfl (by kernel_rfl) (by kernel_rfl) (by kernel_rfl) (fun _ _ _ h => h) (Or.inl ⟨by rfl, ?yy10_6_8⟩) hHeld ?_
      case yy10_6_8 => (intro W hx; go_simp; try with_reducible rfl)
      simp only [Act.put, List.setIfInBounds_toArray, List.set_cons_zero, List.set_cons_succ]
      refine wpAnyH_take (i := 9) (oi := { dst := some 43, op := Op.indexAddr 33 (Operand.tmp 41) (Operand.tmp 42), type := 0, pos := "ref.go:73", after := #[{ on := 7, ground := Ground.data }, { on := 8, ground := Ground.data }], guard := none }) (v := ?vv11_6_9) rfl (by kernel_rfl) (by kernel_rfl) (by kernel_rfl) (fun _ _ _ h => h) (Or.inl ⟨by rfl, ?yy11_6_9⟩) hHeld ?_
      case yy11_6_9 => (intro W hx; go_simp; try with_reducible rfl)
      simp only [Act.put, List.setIfInBounds_toArray, List.set_cons_zero, List.set_cons_succ]
      refine wpAnyH_take (i := 10) (oi := { dst := some 44, op := Op.load 30 (Operand.tmp 43), type := 30, pos := "ref.go:73", after := #[{ on := 9, ground := Ground.data }], guard := none }) (v := ?vv12_6_10) rfl (by kernel_rfl) (by kernel_rfl) (by kernel_rfl) (fun _ _ _ h => h) (Or.inl ⟨by rfl, ?yy12_6_10⟩) hHeld ?_
      case yy12_6_10 => (intro W hx; have hz := zz0.trans hx; have q1 := cell_ext hz HC.out.2.1; go_simp; try with_reducible rfl)
      simp only [Act.put, List.setIfInBounds_toArray, List.set_cons_zero, List.set_cons_succ]
      refine wpAnyH_take (i := 11) (oi := { dst := some 45, op := Op.convert 30 9 (Operand.tmp 44), type := 9, pos := "ref.go:73", after := #[{ on := 10, ground := Ground.data }], guard := none }) (v := ?vv13_6_11) rfl (by kernel_rfl) (by kernel_rfl) (by kernel_rfl) (fun _ _ _ h => h) (Or.inl ⟨by rfl, ?yy13_6_11⟩) hHeld ?_
      case yy13_6_11 => (intro W hx; have hz := zz0.trans hx; have q1 := str (c := cb') (HC.out.2.2.2.ext hz); go_simp; try with_reducible rfl)
      simp only [Act.put, List.setIfInBounds_toArray, List.set_cons_zero, List.set_cons_succ]
      refine wpAnyH_take (i := 12) (oi := { dst := some 46, op := Op.binOp BinOp.neq 9 (Operand.tmp 39) (Operand.tmp 45) 9, type := 4, pos := "ref.go:73", after := #[{ on := 5, ground := Ground.data }, { on := 11, ground := Ground.data }], guard := none }) (v := ?vv14_6_12) rfl (by kernel_rfl) (by kernel_rfl) (by kernel_rfl) (fun _ _ _ h => h) (Or.inl ⟨by rfl, ?yy14_6_12⟩) hHeld ?_
      case yy14_6_12 => (intro W hx; go_simp; try with_reducible rfl)
      simp only [Act.put, List.setIfInBounds_toArray, List.set_cons_zero, List.set_cons_succ]
      refine wpAnyH_done (by kernel_rfl) ?_ _
      have zend := zz0.trans hHeld
      go_wp2
      go_roundw
      case rel => exact ⟨k + 1, by go_num, by omega, xr.trans zend⟩
      case measure => simp [intOf]; omega
    · obtain rfl : k = m := by omega
      go_wp2
      go_ret
      exact ⟨rfl, X1.trans xr⟩
end Go.Proofs.Ytnbcmlphnllgeaa
