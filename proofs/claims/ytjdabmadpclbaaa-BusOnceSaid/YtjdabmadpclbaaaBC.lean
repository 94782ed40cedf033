import Derived.Test.YtjdabmadpclbaaaBB
set_option linter.unusedVariables false
set_option linter.unusedSimpArgs false
namespace Go.Proofs.Ytjdabmadpclbaaa
open Go.RowKit
def pI (p : Nat × Fr × Bool) : Int := if p.2.2 then (p.1 : Int) else -1
set_option maxRecDepth 100000 in
set_option maxHeartbeats 4000000 in
theorem brfirst_any {w : World} {A : Option Addr} {n c : Nat} {gs : List Nat} {ss : List BSt} {F : Nat → Prop} (h : Bxs w 53 gs ss F) (sh : Shows w 1 A n (ptrs gs)) (hn : n = gs.length) (hn9 : n ≤ 100) :
    Calls Try.prog 12 #[.slice A n c] w fun e w' => e = .returned (.tuple #[.int .i64 (pick ss).1, .agg (pick ss).2.1.vals.toArray, .bool (pick ss).2.2]) ∧ Ext w w' := by
  have hlen : n = ss.length := by rw [hn, h.len]
  have hokp := fun k hk => pickTo_ok h.ok k hk
  have HH := Lib.hid h
  have HL := Lib.hid hlen
  have HN := Lib.hid hn
  have e : pick ss = pickTo ss n := by rw [hlen]; rfl
  rw [e]
  clear h hn e hlen
  go_enter Try.func12, Try.ntmps12
  obtain ⟨w1, hw1⟩ : ∃ V, V = w.alloc (.cells Fr.zero.vals.toArray 34) := ⟨_, rfl⟩
  have k3 : w1.heap[w.heap.size]? = some (.cells Fr.zero.vals.toArray 34 (0, 0)) := by rw [hw1]; exact heap_alloc_new _ _
  have x1 : Ext w w1 := by rw [hw1]; exact (Ext.refl _).alloc _
  have hs1 := blk_lt k3
  go_upto_region 1 with (fail)
  change Code.wp _ _ _ _ (w.alloc (.cells Fr.zero.vals.toArray 34))
  rw [← hw1]
  clear hw1
  go_upto_region 3 with (refine wpList_stnew rfl 34 _ _ rfl rfl Fr.zero.vals rfl rfl size37 rfl (fr_one Fr.zero) ?_)
  obtain ⟨w2, hw2⟩ : ∃ V, V = w1.alloc (.cells Fr.zero.vals.toArray 34) := ⟨_, rfl⟩
  have k6 : w2.heap[w1.heap.size]? = some (.cells Fr.zero.vals.toArray 34 (0, 0)) := by rw [hw2]; exact heap_alloc_new _ _
  have x2 : Ext w1 w2 := by rw [hw2]; exact (Ext.refl _).alloc _
  rw [← hw2]
  clear hw2
  go_wp2
  go_loopg [7, 5] n (fun gk i pl wr => ∃ k : Nat, i = .int .i64 k ∧ k ≤ n ∧ gk = n - k ∧ pl = .int .i64 (pI (pickTo ss k)) ∧ Ext w1 wr ∧ wr.heap[w1.heap.size]? = some (.cells (pickTo ss k).2.1.vals.toArray 34 (0, 0)))
  case atStart => exact ⟨0, rfl, by omega, by omega, rfl, x2, k6⟩
  case round =>
    clear k6
    obtain ⟨k, rfl, hk, rfl, rfl, x, k6⟩ := hrel
    have hob := hokp k (by have := HL.out; omega)
    by_cases hlt : k < n
    · have hkn : (k : Int) < n := by omega
      obtain ⟨g, s, hg, hs, hgd⟩ := (HH.out.ext (x1.trans x)).at_ (i := k) (by have := HL.out; omega)
      obtain ⟨Fi, hB⟩ := (HH.out.ext (x1.trans x)).get hg hs
      have hso : s.ok := hB.ok
      obtain ⟨b, off, rfl, hb, hc⟩ := ptr_cell (sh.ext (x1.trans x)) HN.out hg
      obtain ⟨f, ok, hnx⟩ : ∃ f ok, s.next = (f, ok) := ⟨_, _, rfl⟩
      obtain ⟨pl, be, fd, hp⟩ : ∃ pl be fd, pickTo ss k = (pl, be, fd) := ⟨_, _, _, rfl⟩
      have hst := pickTo_step (f := f) (ok := ok) (by rw [hgd]; exact hnx) hp
      rw [hp] at k6 hob ⊢
      have hfo : f.ok := by have := next_ok hso; rw [hnx] at this; exact this
      have HB := Lib.hid hB
      have HNX := Lib.hid hnx
      have HST := Lib.hid hst
      clear hB hnx hst hp hg hs hgd hokp
      simp only at k6 hob ⊢
      have hn0 : ¬ ((pl : Int) < 0) := by omega
      have hm1 : ((-1 : Int) < 0) := by omega
      go_upto_region 7 with (first
        | (go_at_call 30; (refine (rnext_c HB.out HNX.out).mono ?_); rintro e w5 ⟨rfl, x5⟩)
        | refine wpList_stnew rfl 34 _ _ rfl rfl f.vals rfl rfl size37 rfl (fr_one f) ?_)
      obtain ⟨w6, hw6⟩ : ∃ V, V = w5.alloc (.cells f.vals.toArray 34) := ⟨_, rfl⟩
      have k10 : w6.heap[w5.heap.size]? = some (.cells f.vals.toArray 34 (0, 0)) := by rw [hw6]; exact heap_alloc_new _ _
      have x6 : Ext w5 w6 := by rw [hw6]; exact (Ext.refl _).alloc _
      rw [← hw6]
      clear hw6
      have k66 := ((x5.trans x6).block _ (blk_lt k6)).trans k6
      have x16 := x.trans (x5.trans x6)
      clear k6
      cases ok
      · have tok := True.intro
        refine wp_region_held_drew (S := Ext w6) (by kernel_rfl) ((Ext.refl _).drew) (fun hHeld => ?_)
        obtain ⟨wD1, hwD⟩ : ∃ V, V = World.drew w6 := ⟨_, rfl⟩
        rw [← hwD]
        clear hHeld
        have zz0 : Ext w6 wD1 := by rw [hwD]; exact (Ext.refl _).drew
        clear hwD
        refine wpAnyH_imp (S' := Ext wD1) (fun W h => Ext.trans zz0 h) _ _ _ _ ?_
        have hHeld := Ext.refl wD1
        refine wpAnyH_take (i := 0) (oi := { dst := some 25, op := Op.move (Operand.tmp 9), type := 4, pos := "ref.go:16", after := #[], guard := none }) (v := ?vv2_7_0) rfl (by kernel_rfl) (by kernel_rfl) (by kernel_rfl) (fun _ _ _ h => h) (Or.inl ⟨by rfl, ?yy2_7_0⟩) hHeld ?_
        case yy2_7_0 => (intro W hx; go_simp; try with_reducible rfl)
        simp only [Act.put, List.setIfInBounds_toArray, List.set_cons_zero, List.set_cons_succ]
        refine wpAnyH_take (i := 1) (oi := { dst := some 26, op := Op.move (Operand.tmp 25), type := 4, pos := "ref.go:16", after := #[{ on := 0, ground := Ground.data }], guard := none }) (v := ?vv3_7_1) rfl (by kernel_rfl) (by kernel_rfl) (by kernel_rfl) (fun _ _ _ h => h) (Or.inl ⟨by rfl, ?yy3_7_1⟩) hHeld ?_
        case yy3_7_1 => (intro W hx; go_simp; try with_reducible rfl)
        simp only [Act.put, List.setIfInBounds_toArray, List.set_cons_zero, List.set_cons_succ]
        refine wpAnyH_take (i := 2) (oi := { dst := some 27, op := Op.move (Operand.tmp 5), type := 3, pos := "ref.go:16", after := #[{ on := 1, ground := Ground.guard }], guard := some (1, true) }) (v := undef) rfl (by kernel_rfl) (by kernel_rfl) (by kernel_rfl) (fun _ _ _ h => h) (Or.inr ⟨by rfl, rfl⟩) hHeld ?_
        simp only [Act.put, List.setIfInBounds_toArray, List.set_cons_zero, List.set_cons_succ]
        refine wpAnyH_take (i := 3) (oi := { dst := some 28, op := Op.binOp BinOp.lss 3 (Operand.tmp 27) (Operand.const (Value.int IntKind.i64 0)) 3, type := 4, pos := "ref.go:16", after := #[{ on := 2, ground := Ground.data }, { on := 1, ground := Ground.guard }], guard := some (1, true) }) (v := undef) rfl (by kernel_rfl) (by kernel_rfl) (by kernel_rfl) (fun _ _ _ h => h) (Or.inr ⟨by rfl, rfl⟩) hHeld ?_
        simp only [Act.put, List.setIfInBounds_toArray, List.set_cons_zero, List.set_cons_succ]
        refine wpAnyH_take (i := 4) (oi := { dst := some 29, op := Op.move (Operand.tmp 28), type := 4, pos := "ref.go:16", after := #[{ on := 3, ground := Ground.data }, { on := 1, ground := Ground.chain }, { on := 1, ground := Ground.guard }], guard := some (1, true) }) (v := undef) rfl (by kernel_rfl) (by kernel_rfl) (by kernel_rfl) (fun _ _ _ h => h) (Or.inr ⟨by rfl, rfl⟩) hHeld ?_
        simp only [Act.put, List.setIfInBounds_toArray, List.set_cons_zero, List.set_cons_succ]
        refine wpAnyH_take (i := 5) (oi := { dst := some 30, op := Op.load 34 (Operand.tmp 8), type := 34, pos := "ref.go:16", after := #[{ on := 4, ground := Ground.guard }], guard := some (4, false) }) (v := undef) rfl (by kernel_rfl) (by kernel_rfl) (by kernel_rfl) (fun _ _ _ h => h) (Or.inr ⟨by rfl, rfl⟩) hHeld ?_
        simp only [Act.put, List.setIfInBounds_toArray, List.set_cons_zero, List.set_cons_succ]
        refine wpAnyH_take (i := 6) (oi := { dst := some 31, op := Op.call { callee := Callee.value (Operand.func 24), args := #[Operand.tmp 30], argTypes := #[34] }, type := 31, pos := "ref.go:16", after := #[{ on := 5, ground := Ground.data }, { on := 4, ground := Ground.chain }, { on := 4, ground := Ground.guard }], guard := some (4, false) }) (v := undef) rfl (by kernel_rfl) (by kernel_rfl) (by kernel_rfl) (fun _ _ _ h => h) (Or.inr ⟨by rfl, rfl⟩) hHeld ?_
        simp only [Act.put, List.setIfInBounds_toArray, List.set_cons_zero, List.set_cons_succ]
        refine wpAnyH_take (i := 7) (oi := { dst := some 32, op := Op.load 34 (Operand.tmp 6), type := 34, pos := "ref.go:16", after := #[{ on := 4, ground := Ground.guard }], guard := some (4, false) }) (v := undef) rfl (by kernel_rfl) (by kernel_rfl) (by kernel_rfl) (fun _ _ _ h => h) (Or.inr ⟨by rfl, rfl⟩) hHeld ?_
        simp only [Act.put, List.setIfInBounds_toArray, List.set_cons_zero, List.set_cons_succ]
        refine wpAnyH_take (i := 8) (oi := { dst := some 33, op := Op.call { callee := Callee.value (Operand.func 24), args := #[Operand.tmp 32], argTypes := #[34] }, type := 31, pos := "ref.go:16", after := #[{ on := 7, ground := Ground.data }, { on := 6, ground := Ground.chain }, { on := 4, ground := Ground.guard }], guard := some (4, false) }) (v := undef) rfl (by kernel_rfl) (by kernel_rfl) (by kernel_rfl) (fun _ _ _ h => h) (Or.inr ⟨by rfl, rfl⟩) hHeld ?_
        simp only [Act.put, List.setIfInBounds_toArray, List.set_cons_zero, List.set_cons_succ]
        refine wpAnyH_take (i := 9) (oi := { dst := some 34, op := Op.binOp BinOp.lss 31 (Operand.tmp 31) (Operand.tmp 33) 31, type := 4, pos := "ref.go:16", after := #[{ on := 6, ground := Ground.data }, { on := 8, ground := Ground.data }, { on := 4, ground := Ground.guard }], guard := some (4, false) }) (v := undef) rfl (by kernel_rfl) (by kernel_rfl) (by kernel_rfl) (fun _ _ _ h => h) (Or.inr ⟨by rfl, rfl⟩) hHeld ?_
        simp only [Act.put, List.setIfInBounds_toArray, List.set_cons_zero, List.set_cons_succ]
        refine wpAnyH_take (i := 10) (oi := { dst := some 35, op := Op.pick (Operand.tmp 29) (Operand.const (Value.bool true)) (Operand.tmp 34), type := 4, pos := "ref.go:16", after := #[{ on := 4, ground := Ground.data }, { on := 9, ground := Ground.data }, { on := 1, ground := Ground.guard }], guard := some (1, true) }) (v := undef) rfl (by kernel_rfl) (by kernel_rfl) (by kernel_rfl) (fun _ _ _ h => h) (Or.inr ⟨by rfl, rfl⟩) hHeld ?_
        simp only [Act.put, List.setIfInBounds_toArray, List.set_cons_zero, List.set_cons_succ]
        refine wpAnyH_take (i := 11) (oi := { dst := some 36, op := Op.pick (Operand.tmp 26) (Operand.tmp 35) (Operand.const (Value.bool false)), type := 4, pos := "ref.go:16", after := #[{ on := 1, ground := Ground.data }, { on := 10, ground := Ground.data }], guard := none }) (v := ?vv4_7_11) rfl (by kernel_rfl) (by kernel_rfl) (by kernel_rfl) (fun _ _ _ h => h) (Or.inl ⟨by rfl, ?yy4_7_11⟩) hHeld ?_
        case yy4_7_11 => (intro W hx; go_simp; try with_reducible rfl)
        simp only [Act.put, List.setIfInBounds_toArray, List.set_cons_zero, List.set_cons_succ]
        refine wpAnyH_done (by kernel_rfl) ?_ _
        have zend := zz0.trans hHeld
        go_wp2
        go_roundg (n - (k + 1))
        case measure => omega
        case rel => exact ⟨k + 1, by go_num, by omega, rfl, by rw [HST.out]; rfl, x16.trans zend, by rw [HST.out]; exact (zend.block _ (blk_lt k66)).trans k66⟩
      · cases fd
        · have e0 : pI (pl, be, false) = -1 := rfl
          rw [e0]
          clear e0
          refine wp_region_held_drew (S := Ext w6) (by kernel_rfl) ((Ext.refl _).drew) (fun hHeld => ?_)
          obtain ⟨wD5, hwD⟩ : ∃ V, V = World.drew w6 := ⟨_, rfl⟩
          rw [← hwD]
          clear hHeld
          have zz0 : Ext w6 wD5 := by rw [hwD]; exact (Ext.refl _).drew
          clear hwD
          refine wpAnyH_imp (S' := Ext wD5) (fun W h => Ext.trans zz0 h) _ _ _ _ ?_
          have hHeld := Ext.refl wD5
          refine wpAnyH_take (i := 0) (oi := { dst := some 25, op := Op.move (Operand.tmp 9), type := 4, pos := "ref.go:16", after := #[], guard := none }) (v := ?vv6_7_0) rfl (by kernel_rfl) (by kernel_rfl) (by kernel_rfl) (fun _ _ _ h => h) (Or.inl ⟨by rfl, ?yy6_7_0⟩) hHeld ?_
          case yy6_7_0 => (intro W hx; go_simp; try with_reducible rfl)
          simp only [Act.put, List.setIfInBounds_toArray, List.set_cons_zero, List.set_cons_succ]
          refine wpAnyH_take (i := 1) (oi := { dst := some 26, op := Op.move (Operand.tmp 25), type := 4, pos := "ref.go:16", after := #[{ on := 0, ground := Ground.data }], guard := none }) (v := ?vv7_7_1) rfl (by kernel_rfl) (by kernel_rfl) (by kernel_rfl) (fun _ _ _ h => h) (Or.inl ⟨by rfl, ?yy7_7_1⟩) hHeld ?_
          case yy7_7_1 => (intro W hx; go_simp; try with_reducible rfl)
          simp only [Act.put, List.setIfInBounds_toArray, List.set_cons_zero, List.set_cons_succ]
          refine wpAnyH_take (i := 2) (oi := { dst := some 27, op := Op.move (Operand.tmp 5), type := 3, pos := "ref.go:16", after := #[{ on := 1, ground := Ground.guard }], guard := some (1, true) }) (v := ?vv8_7_2) rfl (by kernel_rfl) (by kernel_rfl) (by kernel_rfl) (fun _ _ _ h => h) (Or.inl ⟨by rfl, ?yy8_7_2⟩) hHeld ?_
          case yy8_7_2 => (intro W hx; go_simp; try with_reducible rfl)
          simp only [Act.put, List.setIfInBounds_toArray, List.set_cons_zero, List.set_cons_succ]
          refine wpAnyH_take (i := 3) (oi := { dst := some 28, op := Op.binOp BinOp.lss 3 (Operand.tmp 27) (Operand.const (Value.int IntKind.i64 0)) 3, type := 4, pos := "ref.go:16", after := #[{ on := 2, ground := Ground.data }, { on := 1, ground := Ground.guard }], guard := some (1, true) }) (v := ?vv9_7_3) rfl (by kernel_rfl) (by kernel_rfl) (by kernel_rfl) (fun _ _ _ h => h) (Or.inl ⟨by rfl, ?yy9_7_3⟩) hHeld ?_
          case yy9_7_3 => (intro W hx; go_simp; try with_reducible rfl)
          simp only [Act.put, List.setIfInBounds_toArray, List.set_cons_zero, List.set_cons_succ]
          refine wpAnyH_take (i := 4) (oi := { dst := some 29, op := Op.move (Operand.tmp 28), type := 4, pos := "ref.go:16", after := #[{ on := 3, ground := Ground.data }, { on := 1, ground := Ground.chain }, { on := 1, ground := Ground.guard }], guard := some (1, true) }) (v := ?vv10_7_4) rfl (by kernel_rfl) (by kernel_rfl) (by kernel_rfl) (fun _ _ _ h => h) (Or.inl ⟨by rfl, ?yy10_7_4⟩) hHeld ?_
          case yy10_7_4 => (intro W hx; go_simp; try with_reducible rfl)
          simp only [Act.put, List.setIfInBounds_toArray, List.set_cons_zero, List.set_cons_succ]
          refine wpAnyH_take (i := 5) (oi := { dst := some 30, op := Op.load 34 (Operand.tmp 8), type := 34, pos := "ref.go:16", after := #[{ on := 4, ground := Ground.guard }], guard := some (4, false) }) (v := undef) rfl (by kernel_rfl) (by kernel_rfl) (by kernel_rfl) (fun _ _ _ h => h) (Or.inr ⟨by rfl, rfl⟩) hHeld ?_
          simp only [Act.put, List.setIfInBounds_toArray, List.set_cons_zero, List.set_cons_succ]
          refine wpAnyH_take (i := 6) (oi := { dst := some 31, op := Op.call { callee := Callee.value (Operand.func 24), args := #[Operand.tmp 30], argTypes := #[34] }, type := 31, pos := "ref.go:16", after := #[{ on := 5, ground := Ground.data }, { on := 4, ground := Ground.chain }, { on := 4, ground := Ground.guard }], guard := some (4, false) }) (v := undef) rfl (by kernel_rfl) (by kernel_rfl) (by kernel_rfl) (fun _ _ _ h => h) (Or.inr ⟨by rfl, rfl⟩) hHeld ?_
          simp only [Act.put, List.setIfInBounds_toArray, List.set_cons_zero, List.set_cons_succ]
          refine wpAnyH_take (i := 7) (oi := { dst := some 32, op := Op.load 34 (Operand.tmp 6), type := 34, pos := "ref.go:16", after := #[{ on := 4, ground := Ground.guard }], guard := some (4, false) }) (v := undef) rfl (by kernel_rfl) (by kernel_rfl) (by kernel_rfl) (fun _ _ _ h => h) (Or.inr ⟨by rfl, rfl⟩) hHeld ?_
          simp only [Act.put, List.setIfInBounds_toArray, List.set_cons_zero, List.set_cons_succ]
          refine wpAnyH_take (i := 8) (oi := { dst := some 33, op := Op.call { callee := Callee.value (Operand.func 24), args := #[Operand.tmp 32], argTypes := #[34] }, type := 31, pos := "ref.go:16", after := #[{ on := 7, ground := Ground.data }, { on := 6, ground := Ground.chain }, { on := 4, ground := Ground.guard }], guard := some (4, false) }) (v := undef) rfl (by kernel_rfl) (by kernel_rfl) (by kernel_rfl) (fun _ _ _ h => h) (Or.inr ⟨by rfl, rfl⟩) hHeld ?_
          simp only [Act.put, List.setIfInBounds_toArray, List.set_cons_zero, List.set_cons_succ]
          refine wpAnyH_take (i := 9) (oi := { dst := some 34, op := Op.binOp BinOp.lss 31 (Operand.tmp 31) (Operand.tmp 33) 31, type := 4, pos := "ref.go:16", after := #[{ on := 6, ground := Ground.data }, { on := 8, ground := Ground.data }, { on := 4, ground := Ground.guard }], guard := some (4, false) }) (v := undef) rfl (by kernel_rfl) (by kernel_rfl) (by kernel_rfl) (fun _ _ _ h => h) (Or.inr ⟨by rfl, rfl⟩) hHeld ?_
          simp only [Act.put, List.setIfInBounds_toArray, List.set_cons_zero, List.set_cons_succ]
          refine wpAnyH_take (i := 10) (oi := { dst := some 35, op := Op.pick (Operand.tmp 29) (Operand.const (Value.bool true)) (Operand.tmp 34), type := 4, pos := "ref.go:16", after := #[{ on := 4, ground := Ground.data }, { on := 9, ground := Ground.data }, { on := 1, ground := Ground.guard }], guard := some (1, true) }) (v := ?vv11_7_10) rfl (by kernel_rfl) (by kernel_rfl) (by kernel_rfl) (fun _ _ _ h => h) (Or.inl ⟨by rfl, ?yy11_7_10⟩) hHeld ?_
          case yy11_7_10 => (intro W hx; go_simp; try with_reducible rfl)
          simp only [Act.put, List.setIfInBounds_toArray, List.set_cons_zero, List.set_cons_succ]
          refine wpAnyH_take (i := 11) (oi := { dst := some 36, op := Op.pick (Operand.tmp 26) (Operand.tmp 35) (Operand.const (Value.bool false)), type := 4, pos := "ref.go:16", after := #[{ on := 1, ground := Ground.data }, { on := 10, ground := Ground.data }], guard := none }) (v := ?vv12_7_11) rfl (by kernel_rfl) (by kernel_rfl) (by kernel_rfl) (fun _ _ _ h => h) (Or.inl ⟨by rfl, ?yy12_7_11⟩) hHeld ?_
          case yy12_7_11 => (intro W hx; go_simp; try with_reducible rfl)
          simp only [Act.put, List.setIfInBounds_toArray, List.set_cons_zero, List.set_cons_succ]
          refine wpAnyH_done (by kernel_rfl) ?_ _
          have zend := zz0.trans hHeld
          have k7 := (zend.block _ (blk_lt k66)).trans k66
          have k8 := (zend.block _ (blk_lt k10)).trans k10
          go_wp2_with (first
            | refine wpList_ldrow rfl 34 _ rfl k8 rfl Try.underlying34 rfl size37 ?_
            | (refine wpList_strow rfl 34 _ _ rfl k7 rfl rfl size37 rfl (all_oneCell_toArray (fr_one f)) ?_; intro w8 k9 x8))
          go_roundg (n - (k + 1))
          case measure => omega
          case rel => exact ⟨k + 1, by go_num, by omega, rfl, by rw [HST.out]; rfl, Ext.of_grown (x16.trans zend) x8 (fun k e => by injection e with e; omega), by rw [HST.out]; exact k9.out⟩
        · have e0 : pI (pl, be, true) = pl := rfl
          rw [e0]
          have e0 := True.intro
          by_cases hrk : f.rank < be.rank
          · have hst2 : pickTo ss (k + 1) = (k, f, true) := by rw [HST.out]; simp [hrk]
            have HS2 := Lib.hid hst2
            clear hst2
            refine wp_region_held_drew (S := Ext w6) (by kernel_rfl) ((Ext.refl _).drew) (fun hHeld => ?_)
            obtain ⟨wD13, hwD⟩ : ∃ V, V = World.drew w6 := ⟨_, rfl⟩
            rw [← hwD]
            clear hHeld
            have zz0 : Ext w6 wD13 := by rw [hwD]; exact (Ext.refl _).drew
            clear hwD
            refine wpAnyH_imp (S' := Ext wD13) (fun W h => Ext.trans zz0 h) _ _ _ _ ?_
            have hHeld := Ext.refl wD13
            refine wpAnyH_take (i := 0) (oi := { dst := some 25, op := Op.move (Operand.tmp 9), type := 4, pos := "ref.go:16", after := #[], guard := none }) (v := ?vv14_7_0) rfl (by kernel_rfl) (by kernel_rfl) (by kernel_rfl) (fun _ _ _ h => h) (Or.inl ⟨by rfl, ?yy14_7_0⟩) hHeld ?_
            case yy14_7_0 => (intro W hx; go_simp; try with_reducible rfl)
            simp only [Act.put, List.setIfInBounds_toArray, List.set_cons_zero, List.set_cons_succ]
            refine wpAnyH_take (i := 1) (oi := { dst := some 26, op := Op.move (Operand.tmp 25), type := 4, pos := "ref.go:16", after := #[{ on := 0, ground := Ground.data }], guard := none }) (v := ?vv15_7_1) rfl (by kernel_rfl) (by kernel_rfl) (by kernel_rfl) (fun _ _ _ h => h) (Or.inl ⟨by rfl, ?yy15_7_1⟩) hHeld ?_
            case yy15_7_1 => (intro W hx; go_simp; try with_reducible rfl)
            simp only [Act.put, List.setIfInBounds_toArray, List.set_cons_zero, List.set_cons_succ]
            refine wpAnyH_take (i := 2) (oi := { dst := some 27, op := Op.move (Operand.tmp 5), type := 3, pos := "ref.go:16", after := #[{ on := 1, ground := Ground.guard }], guard := some (1, true) }) (v := ?vv16_7_2) rfl (by kernel_rfl) (by kernel_rfl) (by kernel_rfl) (fun _ _ _ h => h) (Or.inl ⟨by rfl, ?yy16_7_2⟩) hHeld ?_
            case yy16_7_2 => (intro W hx; go_simp; try with_reducible rfl)
            simp only [Act.put, List.setIfInBounds_toArray, List.set_cons_zero, List.set_cons_succ]
            refine wpAnyH_take (i := 3) (oi := { dst := some 28, op := Op.binOp BinOp.lss 3 (Operand.tmp 27) (Operand.const (Value.int IntKind.i64 0)) 3, type := 4, pos := "ref.go:16", after := #[{ on := 2, ground := Ground.data }, { on := 1, ground := Ground.guard }], guard := some (1, true) }) (v := ?vv17_7_3) rfl (by kernel_rfl) (by kernel_rfl) (by kernel_rfl) (fun _ _ _ h => h) (Or.inl ⟨by rfl, ?yy17_7_3⟩) hHeld ?_
            case yy17_7_3 => (intro W hx; go_simp; try with_reducible rfl)
            simp only [Act.put, List.setIfInBounds_toArray, List.set_cons_zero, List.set_cons_succ]
            refine wpAnyH_take (i := 4) (oi := { dst := some 29, op := Op.move (Operand.tmp 28), type := 4, pos := "ref.go:16", after := #[{ on := 3, ground := Ground.data }, { on := 1, ground := Ground.chain }, { on := 1, ground := Ground.guard }], guard := some (1, true) }) (v := ?vv18_7_4) rfl (by kernel_rfl) (by kernel_rfl) (by kernel_rfl) (fun _ _ _ h => h) (Or.inl ⟨by rfl, ?yy18_7_4⟩) hHeld ?_
            case yy18_7_4 => (intro W hx; go_simp; try with_reducible rfl)
            simp only [Act.put, List.setIfInBounds_toArray, List.set_cons_zero, List.set_cons_succ]
            refine wpAnyH_take (i := 5) (oi := { dst := some 30, op := Op.load 34 (Operand.tmp 8), type := 34, pos := "ref.go:16", after := #[{ on := 4, ground := Ground.guard }], guard := some (4, false) }) (v := ?vv19_7_5) rfl (by kernel_rfl) (by kernel_rfl) (by kernel_rfl) (fun _ _ _ h => h) (Or.inl ⟨by rfl, ?yy19_7_5⟩) hHeld ?_
            case yy19_7_5 => (intro W hx; have hz := zz0.trans hx; refine ld_op (rangeAt_ext (frAt k10) hz) ?_; rfl)
            simp only [Act.put, List.setIfInBounds_toArray, List.set_cons_zero, List.set_cons_succ]
            refine wpAnyH_take (i := 7) (oi := { dst := some 32, op := Op.load 34 (Operand.tmp 6), type := 34, pos := "ref.go:16", after := #[{ on := 4, ground := Ground.guard }], guard := some (4, false) }) (v := ?vv20_7_7) rfl (by kernel_rfl) (by kernel_rfl) (by kernel_rfl) (fun _ _ _ h => h) (Or.inl ⟨by rfl, ?yy20_7_7⟩) hHeld ?_
            case yy20_7_7 => (intro W hx; have hz := zz0.trans hx; refine ld_op (rangeAt_ext (frAt k66) hz) ?_; rfl)
            simp only [Act.put, List.setIfInBounds_toArray, List.set_cons_zero, List.set_cons_succ]
            refine wpAnyH_ready (rs := [6]) (by kernel_rfl) (by simp) (AllReadyH.cons rfl (fun K hK => ?_) AllReadyH.nil)
            go_simp
            go_wp2_with (go_at_call 24; (refine (rrank_fr _ _ hfo).mono ?_); rintro e wA ⟨rfl, xA⟩)
            refine hK.out _ _ xA (fun hHeld => ?_)
            clear hK K
            refine wpAnyH_imp (S' := Ext wA) (fun W h => Ext.trans xA h) _ _ _ _ ?_
            replace hHeld := Ext.refl wA
            have zz1 := zz0.trans xA
            refine wpAnyH_ready (rs := [8]) (by kernel_rfl) (by simp) (AllReadyH.cons rfl (fun K hK => ?_) AllReadyH.nil)
            go_simp
            go_wp2_with (go_at_call 24; (refine (rrank_fr _ _ hob).mono ?_); rintro e wB ⟨rfl, xB⟩)
            refine hK.out _ _ xB (fun hHeld => ?_)
            clear hK K
            refine wpAnyH_imp (S' := Ext wB) (fun W h => Ext.trans xB h) _ _ _ _ ?_
            replace hHeld := Ext.refl wB
            have zz2 := zz1.trans xB
            refine wpAnyH_take (i := 9) (oi := { dst := some 34, op := Op.binOp BinOp.lss 31 (Operand.tmp 31) (Operand.tmp 33) 31, type := 4, pos := "ref.go:16", after := #[{ on := 6, ground := Ground.data }, { on := 8, ground := Ground.data }, { on := 4, ground := Ground.guard }], guard := some (4, false) }) (v := ?vv21_7_9) rfl (by kernel_rfl) (by kernel_rfl) (by kernel_rfl) (fun _ _ _ h => h) (Or.inl ⟨by rfl, ?yy21_7_9⟩) hHeld ?_
            case yy21_7_9 => (intro W hx; go_simp; try with_reducible rfl)
            simp only [Act.put, List.setIfInBounds_toArray, List.set_cons_zero, List.set_cons_succ]
            refine wpAnyH_take (i := 10) (oi := { dst := some 35, op := Op.pick (Operand.tmp 29) (Operand.const (Value.bool true)) (Operand.tmp 34), type := 4, pos := "ref.go:16", after := #[{ on := 4, ground := Ground.data }, { on := 9, ground := Ground.data }, { on := 1, ground := Ground.guard }], guard := some (1, true) }) (v := ?vv22_7_10) rfl (by kernel_rfl) (by kernel_rfl) (by kernel_rfl) (fun _ _ _ h => h) (Or.inl ⟨by rfl, ?yy22_7_10⟩) hHeld ?_
            case yy22_7_10 => (intro W hx; go_simp; try with_reducible rfl)
            simp only [Act.put, List.setIfInBounds_toArray, List.set_cons_zero, List.set_cons_succ]
            refine wpAnyH_take (i := 11) (oi := { dst := some 36, op := Op.pick (Operand.tmp 26) (Operand.tmp 35) (Operand.const (Value.bool false)), type := 4, pos := "ref.go:16", after := #[{ on := 1, ground := Ground.data }, { on := 10, ground := Ground.data }], guard := none }) (v := ?vv23_7_11) rfl (by kernel_rfl) (by kernel_rfl) (by kernel_rfl) (fun _ _ _ h => h) (Or.inl ⟨by rfl, ?yy23_7_11⟩) hHeld ?_
            case yy23_7_11 => (intro W hx; go_simp; try with_reducible rfl)
            simp only [Act.put, List.setIfInBounds_toArray, List.set_cons_zero, List.set_cons_succ]
            refine wpAnyH_done (by kernel_rfl) ?_ _
            have zend := zz2.trans hHeld
            have k7 := (zend.block _ (blk_lt k66)).trans k66
            have k8 := (zend.block _ (blk_lt k10)).trans k10
            go_wp2_with (first
              | refine wpList_ldrow rfl 34 _ rfl k8 rfl Try.underlying34 rfl size37 ?_
              | (refine wpList_strow rfl 34 _ _ rfl k7 rfl rfl size37 rfl (all_oneCell_toArray (fr_one f)) ?_; intro w8 k9 x8))
            go_roundg (n - (k + 1))
            case measure => omega
            case rel => exact ⟨k + 1, by go_num, by omega, rfl, by rw [HS2.out]; rfl, Ext.of_grown (x16.trans zend) x8 (fun k e => by injection e with e; omega), by rw [HS2.out]; exact k9.out⟩
          · have hst2 : pickTo ss (k + 1) = (pl, be, true) := by rw [HST.out]; simp [hrk]
            have HS2 := Lib.hid hst2
            clear hst2
            refine wp_region_held_drew (S := Ext w6) (by kernel_rfl) ((Ext.refl _).drew) (fun hHeld => ?_)
            obtain ⟨wD24, hwD⟩ : ∃ V, V = World.drew w6 := ⟨_, rfl⟩
            rw [← hwD]
            clear hHeld
            have zz0 : Ext w6 wD24 := by rw [hwD]; exact (Ext.refl _).drew
            clear hwD
            refine wpAnyH_imp (S' := Ext wD24) (fun W h => Ext.trans zz0 h) _ _ _ _ ?_
            have hHeld := Ext.refl wD24
            refine wpAnyH_take (i := 0) (oi := { dst := some 25, op := Op.move (Operand.tmp 9), type := 4, pos := "ref.go:16", after := #[], guard := none }) (v := ?vv25_7_0) rfl (by kernel_rfl) (by kernel_rfl) (by kernel_rfl) (fun _ _ _ h => h) (Or.inl ⟨by rfl, ?yy25_7_0⟩) hHeld ?_
            case yy25_7_0 => (intro W hx; go_simp; try with_reducible rfl)
            simp only [Act.put, List.setIfInBounds_toArray, List.set_cons_zero, List.set_cons_succ]
            refine wpAnyH_take (i := 1) (oi := { dst := some 26, op := Op.move (Operand.tmp 25), type := 4, pos := "ref.go:16", after := #[{ on := 0, ground := Ground.data }], guard := none }) (v := ?vv26_7_1) rfl (by kernel_rfl) (by kernel_rfl) (by kernel_rfl) (fun _ _ _ h => h) (Or.inl ⟨by rfl, ?yy26_7_1⟩) hHeld ?_
            case yy26_7_1 => (intro W hx; go_simp; try with_reducible rfl)
            simp only [Act.put, List.setIfInBounds_toArray, List.set_cons_zero, List.set_cons_succ]
            refine wpAnyH_take (i := 2) (oi := { dst := some 27, op := Op.move (Operand.tmp 5), type := 3, pos := "ref.go:16", after := #[{ on := 1, ground := Ground.guard }], guard := some (1, true) }) (v := ?vv27_7_2) rfl (by kernel_rfl) (by kernel_rfl) (by kernel_rfl) (fun _ _ _ h => h) (Or.inl ⟨by rfl, ?yy27_7_2⟩) hHeld ?_
            case yy27_7_2 => (intro W hx; go_simp; try with_reducible rfl)
            simp only [Act.put, List.setIfInBounds_toArray, List.set_cons_zero, List.set_cons_succ]
            refine wpAnyH_take (i := 3) (oi := { dst := some 28, op := Op.binOp BinOp.lss 3 (Operand.tmp 27) (Operand.const (Value.int IntKind.i64 0)) 3, type := 4, pos := "ref.go:16", after := #[{ on := 2, ground := Ground.data }, { on := 1, ground := Ground.guard }], guard := some (1, true) }) (v := ?vv28_7_3) rfl (by kernel_rfl) (by kernel_rfl) (by kernel_rfl) (fun _ _ _ h => h) (Or.inl ⟨by rfl, ?yy28_7_3⟩) hHeld ?_
            case yy28_7_3 => (intro W hx; go_simp; try with_reducible rfl)
            simp only [Act.put, List.setIfInBounds_toArray, List.set_cons_zero, List.set_cons_succ]
            refine wpAnyH_take (i := 4) (oi := { dst := some 29, op := Op.move (Operand.tmp 28), type := 4, pos := "ref.go:16", after := #[{ on := 3, ground := Ground.data }, { on := 1, ground := Ground.chain }, { on := 1, ground := Ground.guard }], guard := some (1, true) }) (v := ?vv29_7_4) rfl (by kernel_rfl) (by kernel_rfl) (by kernel_rfl) (fun _ _ _ h => h) (Or.inl ⟨by rfl, ?yy29_7_4⟩) hHeld ?_
            case yy29_7_4 => (intro W hx; go_simp; try with_reducible rfl)
            simp only [Act.put, List.setIfInBounds_toArray, List.set_cons_zero, List.set_cons_succ]
            refine wpAnyH_take (i := 5) (oi := { dst := some 30, op := Op.load 34 (Operand.tmp 8), type := 34, pos := "ref.go:16", after := #[{ on := 4, ground := Ground.guard }], guard := some (4, false) }) (v := ?vv30_7_5) rfl (by kernel_rfl) (by kernel_rfl) (by kernel_rfl) (fun _ _ _ h => h) (Or.inl ⟨by rfl, ?yy30_7_5⟩) hHeld ?_
            case yy30_7_5 => (intro W hx; have hz := zz0.trans hx; refine ld_op (rangeAt_ext (frAt k10) hz) ?_; rfl)
            simp only [Act.put, List.setIfInBounds_toArray, List.set_cons_zero, List.set_cons_succ]
            refine wpAnyH_take (i := 7) (oi := { dst := some 32, op := Op.load 34 (Operand.tmp 6), type := 34, pos := "ref.go:16", after := #[{ on := 4, ground := Ground.guard }], guard := some (4, false) }) (v := ?vv31_7_7) rfl (by kernel_rfl) (by kernel_rfl) (by kernel_rfl) (fun _ _ _ h => h) (Or.inl ⟨by rfl, ?yy31_7_7⟩) hHeld ?_
            case yy31_7_7 => (intro W hx; have hz := zz0.trans hx; refine ld_op (rangeAt_ext (frAt k66) hz) ?_; rfl)
            simp only [Act.put, List.setIfInBounds_toArray, List.set_cons_zero, List.set_cons_succ]
            refine wpAnyH_ready (rs := [6]) (by kernel_rfl) (by simp) (AllReadyH.cons rfl (fun K hK => ?_) AllReadyH.nil)
            go_simp
            go_wp2_with (go_at_call 24; (refine (rrank_fr _ _ hfo).mono ?_); rintro e wA ⟨rfl, xA⟩)
            refine hK.out _ _ xA (fun hHeld => ?_)
            clear hK K
            refine wpAnyH_imp (S' := Ext wA) (fun W h => Ext.trans xA h) _ _ _ _ ?_
            replace hHeld := Ext.refl wA
            have zz1 := zz0.trans xA
            refine wpAnyH_ready (rs := [8]) (by kernel_rfl) (by simp) (AllReadyH.cons rfl (fun K hK => ?_) AllReadyH.nil)
            go_simp
            go_wp2_with (go_at_call 24; (refine (rrank_fr _ _ hob).mono ?_); rintro e wB ⟨rfl, xB⟩)
            refine hK.out _ _ xB (fun hHeld => ?_)
            clear hK K
            refine wpAnyH_imp (S' := Ext wB) (fun W h => Ext.trans xB h) _ _ _ _ ?_
            replace hHeld := Ext.refl wB
            have zz2 := zz1.trans xB
            refine wpAnyH_take (i := 9) (oi := { dst := some 34, op := Op.binOp BinOp.lss 31 (Operand.tmp 31) (Operand.tmp 33) 31, type := 4, pos := "ref.go:16", after := #[{ on := 6, ground := Ground.data }, { on := 8, ground := Ground.data }, { on := 4, ground := Ground.guard }], guard := some (4, false) }) (v := ?vv32_7_9) rfl (by kernel_rfl) (by kernel_rfl) (by kernel_rfl) (fun _ _ _ h => h) (Or.inl ⟨by rfl, ?yy32_7_9⟩) hHeld ?_
            case yy32_7_9 => (intro W hx; go_simp; try with_reducible rfl)
            simp only [Act.put, List.setIfInBounds_toArray, List.set_cons_zero, List.set_cons_succ]
            refine wpAnyH_take (i := 10) (oi := { dst := some 35, op := Op.pick (Operand.tmp 29) (Operand.const (Value.bool true)) (Operand.tmp 34), type := 4, pos := "ref.go:16", after := #[{ on := 4, ground := Ground.data }, { on := 9, ground := Ground.data }, { on := 1, ground := Ground.guard }], guard := some (1, true) }) (v := ?vv33_7_10) rfl (by kernel_rfl) (by kernel_rfl) (by kernel_rfl) (fun _ _ _ h => h) (Or.inl ⟨by rfl, ?yy33_7_10⟩) hHeld ?_
            case yy33_7_10 => (intro W hx; go_simp; try with_reducible rfl)
            simp only [Act.put, List.setIfInBounds_toArray, List.set_cons_zero, List.set_cons_succ]
            refine wpAnyH_take (i := 11) (oi := { dst := some 36, op := Op.pick (Operand.tmp 26) (Operand.tmp 35) (Operand.const (Value.bool false)), type := 4, pos := "ref.go:16", after := #[{ on := 1, ground := Ground.data }, { on := 10, ground := Ground.data }], guard := none }) (v := ?vv34_7_11) rfl (by kernel_rfl) (by kernel_rfl) (by kernel_rfl) (fun _ _ _ h => h) (Or.inl ⟨by rfl, ?yy34_7_11⟩) hHeld ?_
            case yy34_7_11 => (intro W hx; go_simp; try with_reducible rfl)
            simp only [Act.put, List.setIfInBounds_toArray, List.set_cons_zero, List.set_cons_succ]
            refine wpAnyH_done (by kernel_rfl) ?_ _
            have zend := zz2.trans hHeld
            go_wp2
            go_roundg (n - (k + 1))
            case measure => omega
            case rel => exact ⟨k + 1, by go_num, by omega, rfl, by rw [HS2.out]; rfl, x16.trans zend, by rw [HS2.out]; exact (zend.block _ (blk_lt k66)).trans k66⟩
    · obtain rfl : k = n := by omega
      obtain ⟨pl, be, fd, hp⟩ : ∃ pl be fd, pickTo ss k = (pl, be, fd) := ⟨_, _, _, rfl⟩
      have hz := pickTo_none (ss := ss) k
      rw [hp] at k6 hz ⊢
      have HP := Lib.hid hp
      clear hp
      simp only at k6 hz ⊢
      cases fd
      · have HZ := Lib.hid (hz rfl)
        clear hz
        have e0 : pI (pl, be, false) = -1 := rfl
        rw [e0]
        clear e0
        have hm1 : ((-1 : Int) < 0) := by omega
        have k33 := (x.block _ (blk_lt k3)).trans k3
        go_wp2_with (refine wpList_strow rfl 34 _ _ rfl k33 (cells := Fr.zero.vals.toArray) rfl rfl size37 rfl (all_oneCell_toArray (fr_one Fr.zero)) ?_; intro w8 k9 x8)
        try simp only [Exit.inBlock, Exit.then]
        refine bodyPost_ret (results_srs rfl rfl k9.out) rfl ?_
        exact ⟨by rw [HP.out, HZ.out]; rfl, Ext.of_grown (x1.trans x) x8 (fun k e => by injection e with e; omega)⟩
      · have e0 : pI (pl, be, true) = pl := rfl
        rw [e0]
        have e0 := True.intro
        have hn0 : ¬ ((pl : Int) < 0) := by omega
        go_upto_region 12 with (fail)
        refine wp_region_held_drew (S := fun W => W.heap[w1.heap.size]? = some (.cells be.vals.toArray 34 (0, 0))) (by kernel_rfl) ((((Ext.refl _).drew).block _ (blk_lt k6)).trans k6) (fun hHeld => ?_)
        obtain ⟨wD35, hwD⟩ : ∃ V, V = World.drew wr := ⟨_, rfl⟩
        rw [← hwD] at hHeld ⊢
        have zz0 : Ext wr wD35 := by rw [hwD]; exact (Ext.refl _).drew
        clear hwD
        have k33 := ((x.trans zz0).block _ (blk_lt k3)).trans k3
        refine wpAnyH_take (i := 0) (oi := { dst := some 42, op := Op.move (Operand.tmp 5), type := 3, pos := "ref.go:24", after := #[], guard := none }) (v := ?vv36_12_0) rfl (by kernel_rfl) (by kernel_rfl) (by kernel_rfl) (fun _ _ _ h => h) (Or.inl ⟨by rfl, ?yy36_12_0⟩) hHeld ?_
        case yy36_12_0 => (intro W hx; go_simp; try with_reducible rfl)
        simp only [Act.put, List.setIfInBounds_toArray, List.set_cons_zero, List.set_cons_succ]
        refine wpAnyH_take (i := 1) (oi := { dst := some 43, op := Op.load 34 (Operand.tmp 6), type := 34, pos := "ref.go:24", after := #[{ on := 2, ground := Ground.gcOnly Departure.lateStores }], guard := none }) (v := ?vv37_12_1) rfl (by kernel_rfl) (by kernel_rfl) (by kernel_rfl) (fun _ _ _ h => h) (Or.inl ⟨by rfl, ?yy37_12_1⟩) hHeld ?_
        case yy37_12_1 => (intro W hx; refine ld_op (frAt hx) ?_; rfl)
        simp only [Act.put, List.setIfInBounds_toArray, List.set_cons_zero, List.set_cons_succ]
        refine wpAnyH_take (i := 2) (oi := { dst := some 2, op := Op.assign (Operand.tmp 42), type := 3, pos := "ref.go:24", after := #[{ on := 0, ground := Ground.data }, { on := 0, ground := Ground.phase }, { on := 1, ground := Ground.textOnly Departure.lateStores }], guard := none }) (v := ?vv38_12_2) rfl (by kernel_rfl) (by kernel_rfl) (by kernel_rfl) (fun _ _ _ h => h) (Or.inl ⟨by rfl, ?yy38_12_2⟩) hHeld ?_
        case yy38_12_2 => (intro W hx; go_simp; try with_reducible rfl)
        simp only [Act.put, List.setIfInBounds_toArray, List.set_cons_zero, List.set_cons_succ]
        refine wpAnyH_ready (rs := [3]) (by kernel_rfl) (by simp) (AllReadyH.cons rfl (fun K hK => ?_) AllReadyH.nil)
        rw [if_pos (by rfl)]
        refine wp_strow (o := { dst := none, op := Op.store 34 (Operand.tmp 3) (Operand.tmp 43), type := 0, pos := "ref.go:24", after := #[{ on := 1, ground := Ground.data }, { on := 2, ground := Ground.chain }, { on := 0, ground := Ground.phase }, { on := 1, ground := Ground.phase }, { on := 2, ground := Ground.phase }], guard := none }) _ _ _ rfl k33 rfl rfl size37 rfl (all_oneCell_toArray (fr_one be)) ?_; intro w8 k8 x8
        simp only [Act.put]
        refine hK.out _ _ ((x8.block _ (blk_lt hHeld) (fun e => by injection e with e; omega)).trans hHeld) (fun hHeld => ?_)
        clear hK K
        refine wpAnyH_take (i := 4) (oi := { dst := some 4, op := Op.assign (Operand.const (Value.bool true)), type := 4, pos := "ref.go:24", after := #[{ on := 3, ground := Ground.chain }, { on := 0, ground := Ground.phase }, { on := 1, ground := Ground.phase }, { on := 2, ground := Ground.phase }, { on := 3, ground := Ground.phase }], guard := none }) (v := ?vv39_12_4) rfl (by kernel_rfl) (by kernel_rfl) (by kernel_rfl) (fun _ _ _ h => h) (Or.inl ⟨by rfl, ?yy39_12_4⟩) hHeld ?_
        case yy39_12_4 => (intro W hx; go_simp; try with_reducible rfl)
        simp only [Act.put, List.setIfInBounds_toArray, List.set_cons_zero, List.set_cons_succ]
        refine wpAnyH_done (by kernel_rfl) ?_ _
        go_wp2
        try simp only [Exit.inBlock, Exit.then]
        refine bodyPost_ret (results_srs rfl rfl k8) rfl ?_
        exact ⟨by rw [HP.out]; rfl, Ext.of_grown ((x1.trans x).trans zz0) x8 (fun k e => by injection e with e; omega)⟩
end Go.Proofs.Ytjdabmadpclbaaa
