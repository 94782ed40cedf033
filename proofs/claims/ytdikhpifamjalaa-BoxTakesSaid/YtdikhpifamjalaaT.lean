import Derived.Test.YtdikhpifamjalaaU
set_option linter.unusedVariables false
set_option linter.unusedSimpArgs false
namespace Go.Proofs.Ytdikhpifamjalaa
open Go.RowKit
theorem few_any (A : Option Addr) (n c : Nat) (w : World) (hn : n ≤ c) (hc : c ≤ maxLen) : Calls Try.prog 13 #[.slice A n c] w fun e w' => e = .returned (.slice A (min n 100) c) ∧ w = w' := by
  unfold maxLen at hc
  obtain ⟨m, hm0⟩ : ∃ m, m = min n 100 := ⟨_, rfl⟩
  have hmc : m ≤ c := by omega
  have hmin : (if (100 : Int) < n then (100 : Int) else n) = m := by rw [hm0]; split <;> omega
  rw [← hm0]
  clear hm0
  go_enter Try.func13, Try.ntmps13
  go_wp2
  go_ret
  exact ⟨rfl, rfl⟩
theorem rank_inv (f : Fr) (w : World) (h : f.ok) : Calls Try.prog 29 #[.agg f.vals.toArray] w fun e w' => e = .returned (.int .u32 f.rank) ∧ Ext w w' := rrank_fr f w h
theorem next_o' {w0 w : World} {g : Nat} {s : BSt} {f : Fr} {b : Bool} (h : BxO w0 w 58 g s) (hn : s.next = (f, b)) : f.ok := by
  cases b
  · by_cases h0 : s.tx = []
    · rw [next_zero h0] at hn; injection hn with hn _; subst hn; exact ⟨by simp [Fr.zero], by simp [Fr.zero]⟩
    · rw [next_eq h0] at hn; injection hn with _ hn; cases hn
  · exact h.ok.tx _ (next_mem hn rfl).1
set_option maxRecDepth 100000 in
set_option maxHeartbeats 8000000 in
theorem BoxRanks_law (w : World) (A : Option Addr) (n c : Nat) (l : List Ac) (hnc : n ≤ c) (hcm : c ≤ maxLen) (hnl : n = l.length) (sh : Shows w 12 A n (acs l)) (ok : ∀ a ∈ l, a.ok) :
    Calls Try.prog 8 #[.slice A n c] w fun e w' => e = .returned (.bool true) ∧ Ext w w' := by
  have hfew := few_any A n c
  obtain ⟨m, hm0⟩ : ∃ m, m = min n 100 := ⟨_, rfl⟩
  have hmc : m ≤ c := by omega
  have hm100 : m ≤ 100 := by omega
  have sm := sh.take (k := m) (by omega)
  rw [acs, flat_take ac_len] at sm
  have hml : m = (l.take m).length := by rw [List.length_take]; omega
  have hok : ∀ x ∈ l.take m, Ac.ok x := fun x hx => ok x (List.mem_of_mem_take hx)
  rw [← hm0] at hfew
  have HFEW := Lib.hid (fun W => hfew W hnc hcm)
  clear hm0 sh ok hnl hnc hfew
  unfold maxLen at hcm
  generalize l.take m = ys at sm hml hok
  have HM := Lib.hid hml
  clear hml
  have of2 : ∀ y ∈ [(⟨0, 0, false⟩ : Fi), ⟨0, 0, true⟩], y.ok := by
    intro y hy
    simp at hy
    rcases hy with rfl | rfl <;> exact ⟨by simp, by simp⟩
  have OF2 := Lib.hid of2
  clear of2
  go_enter Try.func8, Try.ntmps8
  go_upto_region 2 with (go_at_call 9; (refine (shown_any _).mono ?_); rintro e w1 ⟨rfl, x1⟩)
  go_upto_region 5 with (go_at_call 10; (refine (new_o (w0 := w) _ _ _ [⟨0, 0, false⟩, ⟨0, 0, true⟩] _ (x1.alloc _) (shows_fi2 (f := ⟨0, 0, false⟩) (h := ⟨0, 0, true⟩) 53) rfl (by decide) OF2.out).mono ?_); rintro e w2 ⟨g, rfl, L2⟩)
  go_wp2_with (go_at_call 13; (refine (HFEW.out _).mono ?_); rintro e w3 ⟨rfl, rfl⟩)
  go_loopw [35] (fun i wr => ∃ (k : Nat) (s : BSt), i = .int .i64 k ∧ k ≤ m ∧ BxO w wr 58 g s) (fun i _ => m - (intOf i).toNat)
  case atStart => exact ⟨0, _, rfl, by omega, L2⟩
  case round =>
    obtain ⟨k, s, rfl, hk, L⟩ := hrel
    by_cases hlt : k < m
    · have hkm : (k : Int) < m := by omega
      have hy : ys[k]? = some _ := List.getElem?_eq_getElem (by have := HM.out; omega)
      have hyo := hok _ (List.mem_of_getElem? hy)
      generalize ys[k] = y at hy hyo
      obtain ⟨b, o, rfl, hb, hr⟩ := Shows.row ac_len (by omega) (sm.ext L.x) HM.out hy
      clear hy
      obtain ⟨was, ok0, hnx⟩ : ∃ was ok0, s.next = (was, ok0) := ⟨_, _, rfl⟩
      have HNX := Lib.hid hnx
      clear hnx
      have LL := Lib.hid L
      clear L
      go_upto_region 8 with (first | refine wpList_load_mid rfl 39 _ rfl _ _ rfl y.vals _ hr Try.underlying39 rfl size39 ?_ | refine wpList_stnew rfl 39 _ _ rfl rfl y.vals rfl rfl size39 rfl (ac_one y) ?_)
      obtain ⟨w4, hw4⟩ : ∃ V, V = wr.alloc (.cells y.vals.toArray 39) := ⟨_, rfl⟩
      have k4 : w4.heap[wr.heap.size]? = some (.cells y.vals.toArray 39 (0, 0)) := by rw [hw4]; exact heap_alloc_new _ _
      have x4 : Ext wr w4 := by rw [hw4]; exact (Ext.refl _).alloc _
      rw [← hw4]
      clear hw4 hr
      have L4 := Lib.hid (LL.out.ext x4)
      go_upto_region 9 with (first | (go_at_call 24; (refine (next_ov L4.out HNX.out).mono ?_); rintro e w5 ⟨rfl, L5, x5⟩) | refine wpList_stnew rfl 37 _ _ rfl rfl was.vals rfl rfl size37 rfl (fr_one was) ?_)
      obtain ⟨w6, hw6⟩ : ∃ V, V = w5.alloc (.cells was.vals.toArray 37) := ⟨_, rfl⟩
      have k6 : w6.heap[w5.heap.size]? = some (.cells was.vals.toArray 37 (0, 0)) := by rw [hw6]; exact heap_alloc_new _ _
      have x6 : Ext w5 w6 := by rw [hw6]; exact (Ext.refl _).alloc _
      rw [← hw6]
      clear hw6
      have L6 := Lib.hid (L5.ext x6)
      clear L5
      have ka := ((x5.trans x6).block _ (blk_lt k4)).trans k4
      have c0 : w6.cell? ⟨wr.heap.size, 0, none⟩ = some (.int .u8 y.kind) := by rw [cell_of_row _ _ _ _ _ _ ka]; rfl
      have Q6 := Lib.hid (LL.out.toQ ((x4.trans x5).trans x6))
      have hsz : w5.heap.size < w6.heap.size := blk_lt k6
      have hsa : wr.heap.size < w6.heap.size := blk_lt ka
      have hs5 : wr.heap.size ≤ w5.heap.size := (x4.trans x5).size
      obtain ⟨q, hq⟩ : ∃ q, y.kind.tmod 6 = q := ⟨_, rfl⟩
      go_upto_region 18 with (go_at_call 26; (refine (wait_o L6.out).mono ?_); rintro e w7 ⟨rfl, rfl⟩)
      by_cases h0 : q = 0
      · subst h0
        obtain ⟨s', er, hsd⟩ : ∃ s' er, s.send y.f = (s', er) := ⟨_, _, rfl⟩
        obtain ⟨now, ok1, hnw⟩ : ∃ now ok1, s'.next = (now, ok1) := ⟨_, _, rfl⟩
        have HSD := Lib.hid hsd
        have HNW := Lib.hid hnw
        clear hsd hnw
        go_upto_region 20 with (first
          | refine wpList_load_mid rfl 37 _ rfl _ _ rfl y.f.vals _ (acAt ka) Try.underlying37 rfl size37 ?_
          | (go_at_call 14; (refine (send_q Q6.out hyo.2 HSD.out).mono ?_); rintro e w8 ⟨rfl, Q8, hole8⟩))
        have ka8 := (hole8 _ (Nat.le_refl _) hsa).trans ka
        have k8 := (hole8 _ hs5 hsz).trans k6
        go_upto_region 21 with (first
          | (go_at_call 24; (refine (next_ov Q8.toO HNW.out).mono ?_); rintro e w9 ⟨rfl, L9, x9⟩)
          | refine wpList_stnew rfl 37 _ _ rfl rfl now.vals rfl rfl size37 rfl (fr_one now) ?_)
        obtain ⟨w10, hw10⟩ : ∃ V, V = w9.alloc (.cells now.vals.toArray 37) := ⟨_, rfl⟩
        have kn : w10.heap[w9.heap.size]? = some (.cells now.vals.toArray 37 (0, 0)) := by rw [hw10]; exact heap_alloc_new _ _
        have x10 : Ext w9 w10 := by rw [hw10]; exact (Ext.refl _).alloc _
        rw [← hw10]
        clear hw10
        have ka10 := ((x9.trans x10).block _ (blk_lt ka8)).trans ka8
        have k10 := ((x9.trans x10).block _ (blk_lt k8)).trans k8
        have L10 := Lib.hid (L9.ext x10)
        have hno := next_o' L9 HNW.out
        have hwo := next_o' LL.out HNX.out
        clear L9 Q8
        rcases send_errs s y.f with he | he
        · have hs' := send_len he
          have e1 : (s.send y.f).1.next = (now, ok1) := by rw [HSD.out]; exact HNW.out
          have hr' := send_rank he HNX.out e1
          clear e1
          rw [HSD.out] at he hs'
          simp only at he hs'
          subst he
          have hlen : (s'.tx.length : Int) = s.tx.length + 1 := by omega
          have hd1 : decide (y.f.rank < now.rank) = false := by simp; exact hr'.1
          have hs3 : (s.tx.length : Int) ≤ 3 := by have := LL.out.ok.nt; omega
          have hwr : IntKind.i64.wrap ((s.tx.length : Int) + 1) = s.tx.length + 1 := by rw [IntKind.wrap_i64]; omega
          have HR := Lib.hid hr'.2
          clear hs' hr'
          refine wp_region_held_drew (S := Ext w10) (by kernel_rfl) ((Ext.refl _).drew) (fun hHeld => ?_)
          obtain ⟨wD1, hwD⟩ : ∃ V, V = World.drew w10 := ⟨_, rfl⟩
          rw [← hwD]
          clear hHeld
          have zz0 : Ext w10 wD1 := by rw [hwD]; exact (Ext.refl _).drew
          clear hwD
          refine wpAnyH_imp (S' := Ext wD1) (fun W h => Ext.trans zz0 h) _ _ _ _ ?_
          have hHeld := Ext.refl wD1
          refine wpAnyH_take (i := 0) (oi := { dst := some 96, op := Op.move (Operand.tmp 11), type := 26, pos := "law.go:190", after := #[], guard := none }) (v := ?vv2_21_0) rfl (by kernel_rfl) (by kernel_rfl) (by kernel_rfl) (fun _ _ _ h => h) (Or.inl ⟨by rfl, ?yy2_21_0⟩) hHeld ?_
          case yy2_21_0 => (intro W hx; go_simp; try with_reducible rfl)
          simp only [Act.put, List.setIfInBounds_toArray, List.set_cons_zero, List.set_cons_succ]
          refine wpAnyH_take (i := 1) (oi := { dst := some 97, op := Op.binOp BinOp.neq 26 (Operand.tmp 96) (Operand.const (Value.int IntKind.i64 0)) 26, type := 4, pos := "law.go:190", after := #[{ on := 0, ground := Ground.data }], guard := none }) (v := ?vv3_21_1) rfl (by kernel_rfl) (by kernel_rfl) (by kernel_rfl) (fun _ _ _ h => h) (Or.inl ⟨by rfl, ?yy3_21_1⟩) hHeld ?_
          case yy3_21_1 => (intro W hx; go_simp; try with_reducible rfl)
          simp only [Act.put, List.setIfInBounds_toArray, List.set_cons_zero, List.set_cons_succ]
          refine wpAnyH_take (i := 2) (oi := { dst := some 98, op := Op.move (Operand.tmp 97), type := 4, pos := "law.go:190", after := #[{ on := 1, ground := Ground.data }], guard := none }) (v := ?vv4_21_2) rfl (by kernel_rfl) (by kernel_rfl) (by kernel_rfl) (fun _ _ _ h => h) (Or.inl ⟨by rfl, ?yy4_21_2⟩) hHeld ?_
          case yy4_21_2 => (intro W hx; go_simp; try with_reducible rfl)
          simp only [Act.put, List.setIfInBounds_toArray, List.set_cons_zero, List.set_cons_succ]
          refine wpAnyH_take (i := 3) (oi := { dst := some 99, op := Op.move (Operand.tmp 4), type := 25, pos := "law.go:190", after := #[{ on := 2, ground := Ground.guard }], guard := some (2, true) }) (v := undef) rfl (by kernel_rfl) (by kernel_rfl) (by kernel_rfl) (fun _ _ _ h => h) (Or.inr ⟨by rfl, rfl⟩) hHeld ?_
          simp only [Act.put, List.setIfInBounds_toArray, List.set_cons_zero, List.set_cons_succ]
          refine wpAnyH_take (i := 4) (oi := { dst := some 100, op := Op.call { callee := Callee.value (Operand.func 26), args := #[Operand.tmp 99], argTypes := #[25] }, type := 3, pos := "law.go:190", after := #[{ on := 3, ground := Ground.data }, { on := 2, ground := Ground.chain }, { on := 2, ground := Ground.guard }], guard := some (2, true) }) (v := undef) rfl (by kernel_rfl) (by kernel_rfl) (by kernel_rfl) (fun _ _ _ h => h) (Or.inr ⟨by rfl, rfl⟩) hHeld ?_
          simp only [Act.put, List.setIfInBounds_toArray, List.set_cons_zero, List.set_cons_succ]
          refine wpAnyH_take (i := 5) (oi := { dst := some 101, op := Op.move (Operand.tmp 10), type := 3, pos := "law.go:190", after := #[{ on := 2, ground := Ground.guard }], guard := some (2, true) }) (v := undef) rfl (by kernel_rfl) (by kernel_rfl) (by kernel_rfl) (fun _ _ _ h => h) (Or.inr ⟨by rfl, rfl⟩) hHeld ?_
          simp only [Act.put, List.setIfInBounds_toArray, List.set_cons_zero, List.set_cons_succ]
          refine wpAnyH_take (i := 6) (oi := { dst := some 102, op := Op.binOp BinOp.neq 3 (Operand.tmp 100) (Operand.tmp 101) 3, type := 4, pos := "law.go:190", after := #[{ on := 4, ground := Ground.data }, { on := 5, ground := Ground.data }, { on := 2, ground := Ground.guard }], guard := some (2, true) }) (v := undef) rfl (by kernel_rfl) (by kernel_rfl) (by kernel_rfl) (fun _ _ _ h => h) (Or.inr ⟨by rfl, rfl⟩) hHeld ?_
          simp only [Act.put, List.setIfInBounds_toArray, List.set_cons_zero, List.set_cons_succ]
          refine wpAnyH_take (i := 7) (oi := { dst := some 103, op := Op.pick (Operand.tmp 98) (Operand.tmp 102) (Operand.const (Value.bool false)), type := 4, pos := "law.go:190", after := #[{ on := 2, ground := Ground.data }, { on := 6, ground := Ground.data }], guard := none }) (v := ?vv5_21_7) rfl (by kernel_rfl) (by kernel_rfl) (by kernel_rfl) (fun _ _ _ h => h) (Or.inl ⟨by rfl, ?yy5_21_7⟩) hHeld ?_
          case yy5_21_7 => (intro W hx; go_simp; try with_reducible rfl)
          simp only [Act.put, List.setIfInBounds_toArray, List.set_cons_zero, List.set_cons_succ]
          refine wpAnyH_take (i := 8) (oi := { dst := some 104, op := Op.move (Operand.tmp 103), type := 4, pos := "law.go:190", after := #[{ on := 7, ground := Ground.data }, { on := 4, ground := Ground.chain }], guard := none }) (v := ?vv6_21_8) rfl (by kernel_rfl) (by kernel_rfl) (by kernel_rfl) (fun _ _ _ h => h) (Or.inl ⟨by rfl, ?yy6_21_8⟩) hHeld ?_
          case yy6_21_8 => (intro W hx; go_simp; try with_reducible rfl)
          simp only [Act.put, List.setIfInBounds_toArray, List.set_cons_zero, List.set_cons_succ]
          refine wpAnyH_take (i := 9) (oi := { dst := some 105, op := Op.move (Operand.tmp 11), type := 26, pos := "law.go:190", after := #[{ on := 8, ground := Ground.guard }], guard := some (8, false) }) (v := ?vv7_21_9) rfl (by kernel_rfl) (by kernel_rfl) (by kernel_rfl) (fun _ _ _ h => h) (Or.inl ⟨by rfl, ?yy7_21_9⟩) hHeld ?_
          case yy7_21_9 => (intro W hx; go_simp; try with_reducible rfl)
          simp only [Act.put, List.setIfInBounds_toArray, List.set_cons_zero, List.set_cons_succ]
          refine wpAnyH_take (i := 10) (oi := { dst := some 106, op := Op.binOp BinOp.eql 26 (Operand.tmp 105) (Operand.const (Value.int IntKind.i64 0)) 26, type := 4, pos := "law.go:190", after := #[{ on := 9, ground := Ground.data }, { on := 8, ground := Ground.guard }], guard := some (8, false) }) (v := ?vv8_21_10) rfl (by kernel_rfl) (by kernel_rfl) (by kernel_rfl) (fun _ _ _ h => h) (Or.inl ⟨by rfl, ?yy8_21_10⟩) hHeld ?_
          case yy8_21_10 => (intro W hx; go_simp; try with_reducible rfl)
          simp only [Act.put, List.setIfInBounds_toArray, List.set_cons_zero, List.set_cons_succ]
          refine wpAnyH_take (i := 11) (oi := { dst := some 107, op := Op.move (Operand.tmp 106), type := 4, pos := "law.go:190", after := #[{ on := 10, ground := Ground.data }, { on := 8, ground := Ground.chain }, { on := 8, ground := Ground.guard }], guard := some (8, false) }) (v := ?vv9_21_11) rfl (by kernel_rfl) (by kernel_rfl) (by kernel_rfl) (fun _ _ _ h => h) (Or.inl ⟨by rfl, ?yy9_21_11⟩) hHeld ?_
          case yy9_21_11 => (intro W hx; go_simp; try with_reducible rfl)
          simp only [Act.put, List.setIfInBounds_toArray, List.set_cons_zero, List.set_cons_succ]
          refine wpAnyH_take (i := 12) (oi := { dst := some 108, op := Op.move (Operand.tmp 4), type := 25, pos := "law.go:190", after := #[{ on := 11, ground := Ground.guard }], guard := some (11, true) }) (v := ?vv10_21_12) rfl (by kernel_rfl) (by kernel_rfl) (by kernel_rfl) (fun _ _ _ h => h) (Or.inl ⟨by rfl, ?yy10_21_12⟩) hHeld ?_
          case yy10_21_12 => (intro W hx; go_simp; try with_reducible rfl)
          simp only [Act.put, List.setIfInBounds_toArray, List.set_cons_zero, List.set_cons_succ]
          refine wpAnyH_take (i := 14) (oi := { dst := some 110, op := Op.move (Operand.tmp 10), type := 3, pos := "law.go:190", after := #[{ on := 11, ground := Ground.guard }], guard := some (11, true) }) (v := ?vv11_21_14) rfl (by kernel_rfl) (by kernel_rfl) (by kernel_rfl) (fun _ _ _ h => h) (Or.inl ⟨by rfl, ?yy11_21_14⟩) hHeld ?_
          case yy11_21_14 => (intro W hx; go_simp; try with_reducible rfl)
          simp only [Act.put, List.setIfInBounds_toArray, List.set_cons_zero, List.set_cons_succ]
          refine wpAnyH_take (i := 15) (oi := { dst := some 111, op := Op.binOp BinOp.add 3 (Operand.tmp 110) (Operand.const (Value.int IntKind.i64 1)) 3, type := 3, pos := "law.go:190", after := #[{ on := 14, ground := Ground.data }, { on := 11, ground := Ground.guard }], guard := some (11, true) }) (v := ?vv12_21_15) rfl (by kernel_rfl) (by kernel_rfl) (by kernel_rfl) (fun _ _ _ h => h) (Or.inl ⟨by rfl, ?yy12_21_15⟩) hHeld ?_
          case yy12_21_15 => (intro W hx; go_simp; try with_reducible rfl)
          simp only [Act.put, List.setIfInBounds_toArray, List.set_cons_zero, List.set_cons_succ]
          refine wpAnyH_ready (rs := [13]) (by kernel_rfl) (by simp) (AllReadyH.cons rfl (fun K hK => ?_) AllReadyH.nil)
          go_simp
          go_wp2_with (go_at_call 26; (refine (wait_o ((L10.out.ext zz0).ext hHeld)).mono ?_); rintro e w' ⟨rfl, rfl⟩)
          refine hK.out _ _ hHeld (fun hHeld => ?_)
          clear hK K
          refine wpAnyH_take (i := 16) (oi := { dst := some 112, op := Op.binOp BinOp.neq 3 (Operand.tmp 109) (Operand.tmp 111) 3, type := 4, pos := "law.go:190", after := #[{ on := 13, ground := Ground.data }, { on := 15, ground := Ground.data }, { on := 11, ground := Ground.guard }], guard := some (11, true) }) (v := ?vv13_21_16) rfl (by kernel_rfl) (by kernel_rfl) (by kernel_rfl) (fun _ _ _ h => h) (Or.inl ⟨by rfl, ?yy13_21_16⟩) hHeld ?_
          case yy13_21_16 => (intro W hx; go_simp; try with_reducible rfl)
          simp only [Act.put, List.setIfInBounds_toArray, List.set_cons_zero, List.set_cons_succ]
          refine wpAnyH_take (i := 17) (oi := { dst := some 113, op := Op.pick (Operand.tmp 107) (Operand.tmp 112) (Operand.const (Value.bool false)), type := 4, pos := "law.go:190", after := #[{ on := 11, ground := Ground.data }, { on := 16, ground := Ground.data }, { on := 8, ground := Ground.guard }], guard := some (8, false) }) (v := ?vv14_21_17) rfl (by kernel_rfl) (by kernel_rfl) (by kernel_rfl) (fun _ _ _ h => h) (Or.inl ⟨by rfl, ?yy14_21_17⟩) hHeld ?_
          case yy14_21_17 => (intro W hx; go_simp; try with_reducible rfl)
          simp only [Act.put, List.setIfInBounds_toArray, List.set_cons_zero, List.set_cons_succ]
          refine wpAnyH_take (i := 18) (oi := { dst := some 114, op := Op.pick (Operand.tmp 104) (Operand.const (Value.bool true)) (Operand.tmp 113), type := 4, pos := "law.go:190", after := #[{ on := 8, ground := Ground.data }, { on := 17, ground := Ground.data }], guard := none }) (v := ?vv15_21_18) rfl (by kernel_rfl) (by kernel_rfl) (by kernel_rfl) (fun _ _ _ h => h) (Or.inl ⟨by rfl, ?yy15_21_18⟩) hHeld ?_
          case yy15_21_18 => (intro W hx; go_simp; try with_reducible rfl)
          simp only [Act.put, List.setIfInBounds_toArray, List.set_cons_zero, List.set_cons_succ]
          refine wpAnyH_take (i := 19) (oi := { dst := some 115, op := Op.move (Operand.tmp 114), type := 4, pos := "law.go:190", after := #[{ on := 18, ground := Ground.data }, { on := 13, ground := Ground.chain }], guard := none }) (v := ?vv16_21_19) rfl (by kernel_rfl) (by kernel_rfl) (by kernel_rfl) (fun _ _ _ h => h) (Or.inl ⟨by rfl, ?yy16_21_19⟩) hHeld ?_
          case yy16_21_19 => (intro W hx; go_simp; try with_reducible rfl)
          simp only [Act.put, List.setIfInBounds_toArray, List.set_cons_zero, List.set_cons_succ]
          refine wpAnyH_take (i := 20) (oi := { dst := some 116, op := Op.move (Operand.tmp 11), type := 26, pos := "law.go:190", after := #[{ on := 19, ground := Ground.guard }], guard := some (19, false) }) (v := ?vv17_21_20) rfl (by kernel_rfl) (by kernel_rfl) (by kernel_rfl) (fun _ _ _ h => h) (Or.inl ⟨by rfl, ?yy17_21_20⟩) hHeld ?_
          case yy17_21_20 => (intro W hx; go_simp; try with_reducible rfl)
          simp only [Act.put, List.setIfInBounds_toArray, List.set_cons_zero, List.set_cons_succ]
          refine wpAnyH_take (i := 21) (oi := { dst := some 117, op := Op.binOp BinOp.eql 26 (Operand.tmp 116) (Operand.const (Value.int IntKind.i64 0)) 26, type := 4, pos := "law.go:190", after := #[{ on := 20, ground := Ground.data }, { on := 19, ground := Ground.guard }], guard := some (19, false) }) (v := ?vv18_21_21) rfl (by kernel_rfl) (by kernel_rfl) (by kernel_rfl) (fun _ _ _ h => h) (Or.inl ⟨by rfl, ?yy18_21_21⟩) hHeld ?_
          case yy18_21_21 => (intro W hx; go_simp; try with_reducible rfl)
          simp only [Act.put, List.setIfInBounds_toArray, List.set_cons_zero, List.set_cons_succ]
          refine wpAnyH_take (i := 22) (oi := { dst := some 118, op := Op.move (Operand.tmp 117), type := 4, pos := "law.go:190", after := #[{ on := 21, ground := Ground.data }, { on := 19, ground := Ground.chain }, { on := 19, ground := Ground.guard }], guard := some (19, false) }) (v := ?vv19_21_22) rfl (by kernel_rfl) (by kernel_rfl) (by kernel_rfl) (fun _ _ _ h => h) (Or.inl ⟨by rfl, ?yy19_21_22⟩) hHeld ?_
          case yy19_21_22 => (intro W hx; go_simp; try with_reducible rfl)
          simp only [Act.put, List.setIfInBounds_toArray, List.set_cons_zero, List.set_cons_succ]
          refine wpAnyH_take (i := 23) (oi := { dst := some 119, op := Op.load 37 (Operand.tmp 12), type := 37, pos := "law.go:190", after := #[{ on := 22, ground := Ground.guard }], guard := some (22, true) }) (v := ?vv20_21_23) rfl (by kernel_rfl) (by kernel_rfl) (by kernel_rfl) (fun _ _ _ h => h) (Or.inl ⟨by rfl, ?yy20_21_23⟩) hHeld ?_
          case yy20_21_23 => (intro W hx; have hz := zz0.trans hx; refine ld_op (rangeAt_ext (frAt kn) hz) ?_; rfl)
          simp only [Act.put, List.setIfInBounds_toArray, List.set_cons_zero, List.set_cons_succ]
          refine wpAnyH_take (i := 25) (oi := { dst := some 121, op := Op.fieldAddr 39 (Operand.tmp 7) 1, type := 0, pos := "law.go:190", after := #[{ on := 22, ground := Ground.guard }], guard := some (22, true) }) (v := ?vv21_21_25) rfl (by kernel_rfl) (by kernel_rfl) (by kernel_rfl) (fun _ _ _ h => h) (Or.inl ⟨by rfl, ?yy21_21_25⟩) hHeld ?_
          case yy21_21_25 => (intro W hx; go_simp; try with_reducible rfl)
          simp only [Act.put, List.setIfInBounds_toArray, List.set_cons_zero, List.set_cons_succ]
          refine wpAnyH_take (i := 26) (oi := { dst := some 122, op := Op.load 37 (Operand.tmp 121), type := 37, pos := "law.go:190", after := #[{ on := 25, ground := Ground.data }, { on := 22, ground := Ground.guard }], guard := some (22, true) }) (v := ?vv22_21_26) rfl (by kernel_rfl) (by kernel_rfl) (by kernel_rfl) (fun _ _ _ h => h) (Or.inl ⟨by rfl, ?yy22_21_26⟩) hHeld ?_
          case yy22_21_26 => (intro W hx; have hz := zz0.trans hx; refine ld_op (rangeAt_ext (acAt ka10) hz) ?_; rfl)
          simp only [Act.put, List.setIfInBounds_toArray, List.set_cons_zero, List.set_cons_succ]
          refine wpAnyH_ready (rs := [24]) (by kernel_rfl) (by simp) (AllReadyH.cons rfl (fun K hK => ?_) AllReadyH.nil)
          go_simp
          go_wp2_with (go_at_call 29; (refine (rank_inv _ _ hno).mono ?_); rintro e wA ⟨rfl, xA⟩)
          refine hK.out _ _ xA (fun hHeld => ?_)
          clear hK K
          refine wpAnyH_imp (S' := Ext wA) (fun W h => Ext.trans xA h) _ _ _ _ ?_
          replace hHeld := Ext.refl wA
          have zz2 := zz0.trans xA
          refine wpAnyH_ready (rs := [27]) (by kernel_rfl) (by simp) (AllReadyH.cons rfl (fun K hK => ?_) AllReadyH.nil)
          go_simp
          go_wp2_with (go_at_call 29; (refine (rank_inv _ _ hyo.2).mono ?_); rintro e wB ⟨rfl, xB⟩)
          refine hK.out _ _ xB (fun hHeld => ?_)
          clear hK K
          refine wpAnyH_imp (S' := Ext wB) (fun W h => Ext.trans xB h) _ _ _ _ ?_
          replace hHeld := Ext.refl wB
          have zz3 := zz2.trans xB
          refine wpAnyH_take (i := 28) (oi := { dst := some 124, op := Op.binOp BinOp.gtr 34 (Operand.tmp 120) (Operand.tmp 123) 34, type := 4, pos := "law.go:190", after := #[{ on := 24, ground := Ground.data }, { on := 27, ground := Ground.data }, { on := 22, ground := Ground.guard }], guard := some (22, true) }) (v := ?vv23_21_28) rfl (by kernel_rfl) (by kernel_rfl) (by kernel_rfl) (fun _ _ _ h => h) (Or.inl ⟨by rfl, ?yy23_21_28⟩) hHeld ?_
          case yy23_21_28 => (intro W hx; go_simp; try with_reducible rfl)
          simp only [Act.put, List.setIfInBounds_toArray, List.set_cons_zero, List.set_cons_succ]
          refine wpAnyH_take (i := 29) (oi := { dst := some 125, op := Op.pick (Operand.tmp 118) (Operand.tmp 124) (Operand.const (Value.bool false)), type := 4, pos := "law.go:190", after := #[{ on := 22, ground := Ground.data }, { on := 28, ground := Ground.data }, { on := 19, ground := Ground.guard }], guard := some (19, false) }) (v := ?vv24_21_29) rfl (by kernel_rfl) (by kernel_rfl) (by kernel_rfl) (fun _ _ _ h => h) (Or.inl ⟨by rfl, ?yy24_21_29⟩) hHeld ?_
          case yy24_21_29 => (intro W hx; go_simp; try with_reducible rfl)
          simp only [Act.put, List.setIfInBounds_toArray, List.set_cons_zero, List.set_cons_succ]
          refine wpAnyH_take (i := 30) (oi := { dst := some 126, op := Op.pick (Operand.tmp 115) (Operand.const (Value.bool true)) (Operand.tmp 125), type := 4, pos := "law.go:190", after := #[{ on := 19, ground := Ground.data }, { on := 29, ground := Ground.data }], guard := none }) (v := ?vv25_21_30) rfl (by kernel_rfl) (by kernel_rfl) (by kernel_rfl) (fun _ _ _ h => h) (Or.inl ⟨by rfl, ?yy25_21_30⟩) hHeld ?_
          case yy25_21_30 => (intro W hx; go_simp; try with_reducible rfl)
          simp only [Act.put, List.setIfInBounds_toArray, List.set_cons_zero, List.set_cons_succ]
          refine wpAnyH_done (by kernel_rfl) ?_ _
          have zend := zz3.trans hHeld
          have xC := zend
          have knC := (xC.block _ (blk_lt kn)).trans kn
          have kwC := (xC.block _ (blk_lt k10)).trans k10
          have LC := Lib.hid (L10.out.ext xC)
          clear zend
          go_upto_region 23 with (fail)
          cases ok0
          · have tok2 := True.intro
            refine wp_region_held_drew (S := Ext wB) (by kernel_rfl) ((Ext.refl _).drew) (fun hHeld => ?_)
            obtain ⟨wD71, hwD⟩ : ∃ V, V = World.drew wB := ⟨_, rfl⟩
            rw [← hwD]
            clear hHeld
            have zz0 : Ext wB wD71 := by rw [hwD]; exact (Ext.refl _).drew
            clear hwD
            refine wpAnyH_imp (S' := Ext wD71) (fun W h => Ext.trans zz0 h) _ _ _ _ ?_
            have hHeld := Ext.refl wD71
            refine wpAnyH_take (i := 0) (oi := { dst := some 127, op := Op.move (Operand.tmp 9), type := 4, pos := "law.go:193", after := #[], guard := none }) (v := ?vv72_23_0) rfl (by kernel_rfl) (by kernel_rfl) (by kernel_rfl) (fun _ _ _ h => h) (Or.inl ⟨by rfl, ?yy72_23_0⟩) hHeld ?_
            case yy72_23_0 => (intro W hx; go_simp; try with_reducible rfl)
            simp only [Act.put, List.setIfInBounds_toArray, List.set_cons_zero, List.set_cons_succ]
            refine wpAnyH_take (i := 1) (oi := { dst := some 128, op := Op.move (Operand.tmp 127), type := 4, pos := "law.go:193", after := #[{ on := 0, ground := Ground.data }], guard := none }) (v := ?vv73_23_1) rfl (by kernel_rfl) (by kernel_rfl) (by kernel_rfl) (fun _ _ _ h => h) (Or.inl ⟨by rfl, ?yy73_23_1⟩) hHeld ?_
            case yy73_23_1 => (intro W hx; go_simp; try with_reducible rfl)
            simp only [Act.put, List.setIfInBounds_toArray, List.set_cons_zero, List.set_cons_succ]
            refine wpAnyH_take (i := 2) (oi := { dst := some 129, op := Op.load 37 (Operand.tmp 12), type := 37, pos := "law.go:193", after := #[{ on := 1, ground := Ground.guard }], guard := some (1, true) }) (v := undef) rfl (by kernel_rfl) (by kernel_rfl) (by kernel_rfl) (fun _ _ _ h => h) (Or.inr ⟨by rfl, rfl⟩) hHeld ?_
            simp only [Act.put, List.setIfInBounds_toArray, List.set_cons_zero, List.set_cons_succ]
            refine wpAnyH_take (i := 3) (oi := { dst := some 130, op := Op.call { callee := Callee.value (Operand.func 29), args := #[Operand.tmp 129], argTypes := #[37] }, type := 34, pos := "law.go:193", after := #[{ on := 2, ground := Ground.data }, { on := 1, ground := Ground.chain }, { on := 1, ground := Ground.guard }], guard := some (1, true) }) (v := undef) rfl (by kernel_rfl) (by kernel_rfl) (by kernel_rfl) (fun _ _ _ h => h) (Or.inr ⟨by rfl, rfl⟩) hHeld ?_
            simp only [Act.put, List.setIfInBounds_toArray, List.set_cons_zero, List.set_cons_succ]
            refine wpAnyH_take (i := 4) (oi := { dst := some 131, op := Op.load 37 (Operand.tmp 8), type := 37, pos := "law.go:193", after := #[{ on := 1, ground := Ground.guard }], guard := some (1, true) }) (v := undef) rfl (by kernel_rfl) (by kernel_rfl) (by kernel_rfl) (fun _ _ _ h => h) (Or.inr ⟨by rfl, rfl⟩) hHeld ?_
            simp only [Act.put, List.setIfInBounds_toArray, List.set_cons_zero, List.set_cons_succ]
            refine wpAnyH_take (i := 5) (oi := { dst := some 132, op := Op.call { callee := Callee.value (Operand.func 29), args := #[Operand.tmp 131], argTypes := #[37] }, type := 34, pos := "law.go:193", after := #[{ on := 4, ground := Ground.data }, { on := 3, ground := Ground.chain }, { on := 1, ground := Ground.guard }], guard := some (1, true) }) (v := undef) rfl (by kernel_rfl) (by kernel_rfl) (by kernel_rfl) (fun _ _ _ h => h) (Or.inr ⟨by rfl, rfl⟩) hHeld ?_
            simp only [Act.put, List.setIfInBounds_toArray, List.set_cons_zero, List.set_cons_succ]
            refine wpAnyH_take (i := 6) (oi := { dst := some 133, op := Op.binOp BinOp.gtr 34 (Operand.tmp 130) (Operand.tmp 132) 34, type := 4, pos := "law.go:193", after := #[{ on := 3, ground := Ground.data }, { on := 5, ground := Ground.data }, { on := 1, ground := Ground.guard }], guard := some (1, true) }) (v := undef) rfl (by kernel_rfl) (by kernel_rfl) (by kernel_rfl) (fun _ _ _ h => h) (Or.inr ⟨by rfl, rfl⟩) hHeld ?_
            simp only [Act.put, List.setIfInBounds_toArray, List.set_cons_zero, List.set_cons_succ]
            refine wpAnyH_take (i := 7) (oi := { dst := some 134, op := Op.pick (Operand.tmp 128) (Operand.tmp 133) (Operand.const (Value.bool false)), type := 4, pos := "law.go:193", after := #[{ on := 1, ground := Ground.data }, { on := 6, ground := Ground.data }], guard := none }) (v := ?vv74_23_7) rfl (by kernel_rfl) (by kernel_rfl) (by kernel_rfl) (fun _ _ _ h => h) (Or.inl ⟨by rfl, ?yy74_23_7⟩) hHeld ?_
            case yy74_23_7 => (intro W hx; go_simp; try with_reducible rfl)
            simp only [Act.put, List.setIfInBounds_toArray, List.set_cons_zero, List.set_cons_succ]
            refine wpAnyH_done (by kernel_rfl) ?_ _
            have zend := zz0.trans hHeld
            go_wp2
            go_roundw
            case rel => exact ⟨k + 1, _, by go_num, by omega, LC.out.ext zend⟩
            case measure => simp [intOf]; omega
          · have hd2 : decide (was.rank < now.rank) = false := by have := HR.out rfl; simp; omega
            refine wp_region_held_drew (S := Ext wB) (by kernel_rfl) ((Ext.refl _).drew) (fun hHeld => ?_)
            obtain ⟨wD75, hwD⟩ : ∃ V, V = World.drew wB := ⟨_, rfl⟩
            rw [← hwD]
            clear hHeld
            have zz0 : Ext wB wD75 := by rw [hwD]; exact (Ext.refl _).drew
            clear hwD
            refine wpAnyH_imp (S' := Ext wD75) (fun W h => Ext.trans zz0 h) _ _ _ _ ?_
            have hHeld := Ext.refl wD75
            refine wpAnyH_take (i := 0) (oi := { dst := some 127, op := Op.move (Operand.tmp 9), type := 4, pos := "law.go:193", after := #[], guard := none }) (v := ?vv76_23_0) rfl (by kernel_rfl) (by kernel_rfl) (by kernel_rfl) (fun _ _ _ h => h) (Or.inl ⟨by rfl, ?yy76_23_0⟩) hHeld ?_
            case yy76_23_0 => (intro W hx; go_simp; try with_reducible rfl)
            simp only [Act.put, List.setIfInBounds_toArray, List.set_cons_zero, List.set_cons_succ]
            refine wpAnyH_take (i := 1) (oi := { dst := some 128, op := Op.move (Operand.tmp 127), type := 4, pos := "law.go:193", after := #[{ on := 0, ground := Ground.data }], guard := none }) (v := ?vv77_23_1) rfl (by kernel_rfl) (by kernel_rfl) (by kernel_rfl) (fun _ _ _ h => h) (Or.inl ⟨by rfl, ?yy77_23_1⟩) hHeld ?_
            case yy77_23_1 => (intro W hx; go_simp; try with_reducible rfl)
            simp only [Act.put, List.setIfInBounds_toArray, List.set_cons_zero, List.set_cons_succ]
            refine wpAnyH_take (i := 2) (oi := { dst := some 129, op := Op.load 37 (Operand.tmp 12), type := 37, pos := "law.go:193", after := #[{ on := 1, ground := Ground.guard }], guard := some (1, true) }) (v := ?vv78_23_2) rfl (by kernel_rfl) (by kernel_rfl) (by kernel_rfl) (fun _ _ _ h => h) (Or.inl ⟨by rfl, ?yy78_23_2⟩) hHeld ?_
            case yy78_23_2 => (intro W hx; have hz := zz0.trans hx; refine ld_op (rangeAt_ext (frAt knC) hz) ?_; rfl)
            simp only [Act.put, List.setIfInBounds_toArray, List.set_cons_zero, List.set_cons_succ]
            refine wpAnyH_take (i := 4) (oi := { dst := some 131, op := Op.load 37 (Operand.tmp 8), type := 37, pos := "law.go:193", after := #[{ on := 1, ground := Ground.guard }], guard := some (1, true) }) (v := ?vv79_23_4) rfl (by kernel_rfl) (by kernel_rfl) (by kernel_rfl) (fun _ _ _ h => h) (Or.inl ⟨by rfl, ?yy79_23_4⟩) hHeld ?_
            case yy79_23_4 => (intro W hx; have hz := zz0.trans hx; refine ld_op (rangeAt_ext (frAt kwC) hz) ?_; rfl)
            simp only [Act.put, List.setIfInBounds_toArray, List.set_cons_zero, List.set_cons_succ]
            refine wpAnyH_ready (rs := [3]) (by kernel_rfl) (by simp) (AllReadyH.cons rfl (fun K hK => ?_) AllReadyH.nil)
            go_simp
            go_wp2_with (go_at_call 29; (refine (rank_inv _ _ hno).mono ?_); rintro e wD1 ⟨rfl, xD⟩)
            refine hK.out _ _ xD (fun hHeld => ?_)
            clear hK K
            refine wpAnyH_imp (S' := Ext wD1) (fun W h => Ext.trans xD h) _ _ _ _ ?_
            replace hHeld := Ext.refl wD1
            have zz1 := zz0.trans xD
            refine wpAnyH_ready (rs := [5]) (by kernel_rfl) (by simp) (AllReadyH.cons rfl (fun K hK => ?_) AllReadyH.nil)
            go_simp
            go_wp2_with (go_at_call 29; (refine (rank_inv _ _ hwo).mono ?_); rintro e wE1 ⟨rfl, xE⟩)
            refine hK.out _ _ xE (fun hHeld => ?_)
            clear hK K
            refine wpAnyH_imp (S' := Ext wE1) (fun W h => Ext.trans xE h) _ _ _ _ ?_
            replace hHeld := Ext.refl wE1
            have zz2 := zz1.trans xE
            refine wpAnyH_take (i := 6) (oi := { dst := some 133, op := Op.binOp BinOp.gtr 34 (Operand.tmp 130) (Operand.tmp 132) 34, type := 4, pos := "law.go:193", after := #[{ on := 3, ground := Ground.data }, { on := 5, ground := Ground.data }, { on := 1, ground := Ground.guard }], guard := some (1, true) }) (v := ?vv80_23_6) rfl (by kernel_rfl) (by kernel_rfl) (by kernel_rfl) (fun _ _ _ h => h) (Or.inl ⟨by rfl, ?yy80_23_6⟩) hHeld ?_
            case yy80_23_6 => (intro W hx; go_simp; try with_reducible rfl)
            simp only [Act.put, List.setIfInBounds_toArray, List.set_cons_zero, List.set_cons_succ]
            refine wpAnyH_take (i := 7) (oi := { dst := some 134, op := Op.pick (Operand.tmp 128) (Operand.tmp 133) (Operand.const (Value.bool false)), type := 4, pos := "law.go:193", after := #[{ on := 1, ground := Ground.data }, { on := 6, ground := Ground.data }], guard := none }) (v := ?vv81_23_7) rfl (by kernel_rfl) (by kernel_rfl) (by kernel_rfl) (fun _ _ _ h => h) (Or.inl ⟨by rfl, ?yy81_23_7⟩) hHeld ?_
            case yy81_23_7 => (intro W hx; go_simp; try with_reducible rfl)
            simp only [Act.put, List.setIfInBounds_toArray, List.set_cons_zero, List.set_cons_succ]
            refine wpAnyH_done (by kernel_rfl) ?_ _
            have zend := zz2.trans hHeld
            go_wp2
            go_roundw
            case rel => exact ⟨k + 1, _, by go_num, by omega, LC.out.ext zend⟩
            case measure => simp [intOf]; omega
        · have hse : s' = s := by
            have := send_err (s := s) (f := y.f) (by omega)
            rw [HSD.out] at this
            exact this
          subst hse
          have he0 : er ≠ 0 := by rw [HSD.out] at he; simp only at he; omega
          have hb1 : (er == 0) = false := by simpa using he0
          have hb2 : (er != 0) = true := by simpa using he0
          have hpp : (was, ok0) = (now, ok1) := by rw [← HNX.out, ← HNW.out]
          injection hpp with hp1 hp2
          have HR : Hid (ok0 = true → now.rank ≤ was.rank) := Lib.hid (fun _ => by rw [hp1]; exact Int.le_refl _)
          clear hp1 hp2 he he0
          refine wp_region_held_drew (S := Ext w10) (by kernel_rfl) ((Ext.refl _).drew) (fun hHeld => ?_)
          obtain ⟨wD26, hwD⟩ : ∃ V, V = World.drew w10 := ⟨_, rfl⟩
          rw [← hwD]
          clear hHeld
          have zz0 : Ext w10 wD26 := by rw [hwD]; exact (Ext.refl _).drew
          clear hwD
          refine wpAnyH_imp (S' := Ext wD26) (fun W h => Ext.trans zz0 h) _ _ _ _ ?_
          have hHeld := Ext.refl wD26
          refine wpAnyH_take (i := 0) (oi := { dst := some 96, op := Op.move (Operand.tmp 11), type := 26, pos := "law.go:190", after := #[], guard := none }) (v := ?vv27_21_0) rfl (by kernel_rfl) (by kernel_rfl) (by kernel_rfl) (fun _ _ _ h => h) (Or.inl ⟨by rfl, ?yy27_21_0⟩) hHeld ?_
          case yy27_21_0 => (intro W hx; go_simp; try with_reducible rfl)
          simp only [Act.put, List.setIfInBounds_toArray, List.set_cons_zero, List.set_cons_succ]
          refine wpAnyH_take (i := 1) (oi := { dst := some 97, op := Op.binOp BinOp.neq 26 (Operand.tmp 96) (Operand.const (Value.int IntKind.i64 0)) 26, type := 4, pos := "law.go:190", after := #[{ on := 0, ground := Ground.data }], guard := none }) (v := ?vv28_21_1) rfl (by kernel_rfl) (by kernel_rfl) (by kernel_rfl) (fun _ _ _ h => h) (Or.inl ⟨by rfl, ?yy28_21_1⟩) hHeld ?_
          case yy28_21_1 => (intro W hx; go_simp; try with_reducible rfl)
          simp only [Act.put, List.setIfInBounds_toArray, List.set_cons_zero, List.set_cons_succ]
          refine wpAnyH_take (i := 2) (oi := { dst := some 98, op := Op.move (Operand.tmp 97), type := 4, pos := "law.go:190", after := #[{ on := 1, ground := Ground.data }], guard := none }) (v := ?vv29_21_2) rfl (by kernel_rfl) (by kernel_rfl) (by kernel_rfl) (fun _ _ _ h => h) (Or.inl ⟨by rfl, ?yy29_21_2⟩) hHeld ?_
          case yy29_21_2 => (intro W hx; go_simp; try with_reducible rfl)
          simp only [Act.put, List.setIfInBounds_toArray, List.set_cons_zero, List.set_cons_succ]
          refine wpAnyH_take (i := 3) (oi := { dst := some 99, op := Op.move (Operand.tmp 4), type := 25, pos := "law.go:190", after := #[{ on := 2, ground := Ground.guard }], guard := some (2, true) }) (v := ?vv30_21_3) rfl (by kernel_rfl) (by kernel_rfl) (by kernel_rfl) (fun _ _ _ h => h) (Or.inl ⟨by rfl, ?yy30_21_3⟩) hHeld ?_
          case yy30_21_3 => (intro W hx; go_simp; try with_reducible rfl)
          simp only [Act.put, List.setIfInBounds_toArray, List.set_cons_zero, List.set_cons_succ]
          refine wpAnyH_take (i := 5) (oi := { dst := some 101, op := Op.move (Operand.tmp 10), type := 3, pos := "law.go:190", after := #[{ on := 2, ground := Ground.guard }], guard := some (2, true) }) (v := ?vv31_21_5) rfl (by kernel_rfl) (by kernel_rfl) (by kernel_rfl) (fun _ _ _ h => h) (Or.inl ⟨by rfl, ?yy31_21_5⟩) hHeld ?_
          case yy31_21_5 => (intro W hx; go_simp; try with_reducible rfl)
          simp only [Act.put, List.setIfInBounds_toArray, List.set_cons_zero, List.set_cons_succ]
          refine wpAnyH_ready (rs := [4]) (by kernel_rfl) (by simp) (AllReadyH.cons rfl (fun K hK => ?_) AllReadyH.nil)
          go_simp
          go_wp2_with (go_at_call 26; (refine (wait_o ((L10.out.ext zz0).ext hHeld)).mono ?_); rintro e w' ⟨rfl, rfl⟩)
          refine hK.out _ _ hHeld (fun hHeld => ?_)
          clear hK K
          refine wpAnyH_take (i := 6) (oi := { dst := some 102, op := Op.binOp BinOp.neq 3 (Operand.tmp 100) (Operand.tmp 101) 3, type := 4, pos := "law.go:190", after := #[{ on := 4, ground := Ground.data }, { on := 5, ground := Ground.data }, { on := 2, ground := Ground.guard }], guard := some (2, true) }) (v := ?vv32_21_6) rfl (by kernel_rfl) (by kernel_rfl) (by kernel_rfl) (fun _ _ _ h => h) (Or.inl ⟨by rfl, ?yy32_21_6⟩) hHeld ?_
          case yy32_21_6 => (intro W hx; go_simp; try with_reducible rfl)
          simp only [Act.put, List.setIfInBounds_toArray, List.set_cons_zero, List.set_cons_succ]
          refine wpAnyH_take (i := 7) (oi := { dst := some 103, op := Op.pick (Operand.tmp 98) (Operand.tmp 102) (Operand.const (Value.bool false)), type := 4, pos := "law.go:190", after := #[{ on := 2, ground := Ground.data }, { on := 6, ground := Ground.data }], guard := none }) (v := ?vv33_21_7) rfl (by kernel_rfl) (by kernel_rfl) (by kernel_rfl) (fun _ _ _ h => h) (Or.inl ⟨by rfl, ?yy33_21_7⟩) hHeld ?_
          case yy33_21_7 => (intro W hx; go_simp; try with_reducible rfl)
          simp only [Act.put, List.setIfInBounds_toArray, List.set_cons_zero, List.set_cons_succ]
          refine wpAnyH_take (i := 8) (oi := { dst := some 104, op := Op.move (Operand.tmp 103), type := 4, pos := "law.go:190", after := #[{ on := 7, ground := Ground.data }, { on := 4, ground := Ground.chain }], guard := none }) (v := ?vv34_21_8) rfl (by kernel_rfl) (by kernel_rfl) (by kernel_rfl) (fun _ _ _ h => h) (Or.inl ⟨by rfl, ?yy34_21_8⟩) hHeld ?_
          case yy34_21_8 => (intro W hx; go_simp; try with_reducible rfl)
          simp only [Act.put, List.setIfInBounds_toArray, List.set_cons_zero, List.set_cons_succ]
          refine wpAnyH_take (i := 9) (oi := { dst := some 105, op := Op.move (Operand.tmp 11), type := 26, pos := "law.go:190", after := #[{ on := 8, ground := Ground.guard }], guard := some (8, false) }) (v := ?vv35_21_9) rfl (by kernel_rfl) (by kernel_rfl) (by kernel_rfl) (fun _ _ _ h => h) (Or.inl ⟨by rfl, ?yy35_21_9⟩) hHeld ?_
          case yy35_21_9 => (intro W hx; go_simp; try with_reducible rfl)
          simp only [Act.put, List.setIfInBounds_toArray, List.set_cons_zero, List.set_cons_succ]
          refine wpAnyH_take (i := 10) (oi := { dst := some 106, op := Op.binOp BinOp.eql 26 (Operand.tmp 105) (Operand.const (Value.int IntKind.i64 0)) 26, type := 4, pos := "law.go:190", after := #[{ on := 9, ground := Ground.data }, { on := 8, ground := Ground.guard }], guard := some (8, false) }) (v := ?vv36_21_10) rfl (by kernel_rfl) (by kernel_rfl) (by kernel_rfl) (fun _ _ _ h => h) (Or.inl ⟨by rfl, ?yy36_21_10⟩) hHeld ?_
          case yy36_21_10 => (intro W hx; go_simp; try with_reducible rfl)
          simp only [Act.put, List.setIfInBounds_toArray, List.set_cons_zero, List.set_cons_succ]
          refine wpAnyH_take (i := 11) (oi := { dst := some 107, op := Op.move (Operand.tmp 106), type := 4, pos := "law.go:190", after := #[{ on := 10, ground := Ground.data }, { on := 8, ground := Ground.chain }, { on := 8, ground := Ground.guard }], guard := some (8, false) }) (v := ?vv37_21_11) rfl (by kernel_rfl) (by kernel_rfl) (by kernel_rfl) (fun _ _ _ h => h) (Or.inl ⟨by rfl, ?yy37_21_11⟩) hHeld ?_
          case yy37_21_11 => (intro W hx; go_simp; try with_reducible rfl)
          simp only [Act.put, List.setIfInBounds_toArray, List.set_cons_zero, List.set_cons_succ]
          refine wpAnyH_take (i := 12) (oi := { dst := some 108, op := Op.move (Operand.tmp 4), type := 25, pos := "law.go:190", after := #[{ on := 11, ground := Ground.guard }], guard := some (11, true) }) (v := undef) rfl (by kernel_rfl) (by kernel_rfl) (by kernel_rfl) (fun _ _ _ h => h) (Or.inr ⟨by rfl, rfl⟩) hHeld ?_
          simp only [Act.put, List.setIfInBounds_toArray, List.set_cons_zero, List.set_cons_succ]
          refine wpAnyH_take (i := 13) (oi := { dst := some 109, op := Op.call { callee := Callee.value (Operand.func 26), args := #[Operand.tmp 108], argTypes := #[25] }, type := 3, pos := "law.go:190", after := #[{ on := 12, ground := Ground.data }, { on := 11, ground := Ground.chain }, { on := 11, ground := Ground.guard }], guard := some (11, true) }) (v := undef) rfl (by kernel_rfl) (by kernel_rfl) (by kernel_rfl) (fun _ _ _ h => h) (Or.inr ⟨by rfl, rfl⟩) hHeld ?_
          simp only [Act.put, List.setIfInBounds_toArray, List.set_cons_zero, List.set_cons_succ]
          refine wpAnyH_take (i := 14) (oi := { dst := some 110, op := Op.move (Operand.tmp 10), type := 3, pos := "law.go:190", after := #[{ on := 11, ground := Ground.guard }], guard := some (11, true) }) (v := undef) rfl (by kernel_rfl) (by kernel_rfl) (by kernel_rfl) (fun _ _ _ h => h) (Or.inr ⟨by rfl, rfl⟩) hHeld ?_
          simp only [Act.put, List.setIfInBounds_toArray, List.set_cons_zero, List.set_cons_succ]
          refine wpAnyH_take (i := 15) (oi := { dst := some 111, op := Op.binOp BinOp.add 3 (Operand.tmp 110) (Operand.const (Value.int IntKind.i64 1)) 3, type := 3, pos := "law.go:190", after := #[{ on := 14, ground := Ground.data }, { on := 11, ground := Ground.guard }], guard := some (11, true) }) (v := undef) rfl (by kernel_rfl) (by kernel_rfl) (by kernel_rfl) (fun _ _ _ h => h) (Or.inr ⟨by rfl, rfl⟩) hHeld ?_
          simp only [Act.put, List.setIfInBounds_toArray, List.set_cons_zero, List.set_cons_succ]
          refine wpAnyH_take (i := 16) (oi := { dst := some 112, op := Op.binOp BinOp.neq 3 (Operand.tmp 109) (Operand.tmp 111) 3, type := 4, pos := "law.go:190", after := #[{ on := 13, ground := Ground.data }, { on := 15, ground := Ground.data }, { on := 11, ground := Ground.guard }], guard := some (11, true) }) (v := undef) rfl (by kernel_rfl) (by kernel_rfl) (by kernel_rfl) (fun _ _ _ h => h) (Or.inr ⟨by rfl, rfl⟩) hHeld ?_
          simp only [Act.put, List.setIfInBounds_toArray, List.set_cons_zero, List.set_cons_succ]
          refine wpAnyH_take (i := 17) (oi := { dst := some 113, op := Op.pick (Operand.tmp 107) (Operand.tmp 112) (Operand.const (Value.bool false)), type := 4, pos := "law.go:190", after := #[{ on := 11, ground := Ground.data }, { on := 16, ground := Ground.data }, { on := 8, ground := Ground.guard }], guard := some (8, false) }) (v := ?vv38_21_17) rfl (by kernel_rfl) (by kernel_rfl) (by kernel_rfl) (fun _ _ _ h => h) (Or.inl ⟨by rfl, ?yy38_21_17⟩) hHeld ?_
          case yy38_21_17 => (intro W hx; go_simp; try with_reducible rfl)
          simp only [Act.put, List.setIfInBounds_toArray, List.set_cons_zero, List.set_cons_succ]
          refine wpAnyH_take (i := 18) (oi := { dst := some 114, op := Op.pick (Operand.tmp 104) (Operand.const (Value.bool true)) (Operand.tmp 113), type := 4, pos := "law.go:190", after := #[{ on := 8, ground := Ground.data }, { on := 17, ground := Ground.data }], guard := none }) (v := ?vv39_21_18) rfl (by kernel_rfl) (by kernel_rfl) (by kernel_rfl) (fun _ _ _ h => h) (Or.inl ⟨by rfl, ?yy39_21_18⟩) hHeld ?_
          case yy39_21_18 => (intro W hx; go_simp; try with_reducible rfl)
          simp only [Act.put, List.setIfInBounds_toArray, List.set_cons_zero, List.set_cons_succ]
          refine wpAnyH_take (i := 19) (oi := { dst := some 115, op := Op.move (Operand.tmp 114), type := 4, pos := "law.go:190", after := #[{ on := 18, ground := Ground.data }, { on := 13, ground := Ground.chain }], guard := none }) (v := ?vv40_21_19) rfl (by kernel_rfl) (by kernel_rfl) (by kernel_rfl) (fun _ _ _ h => h) (Or.inl ⟨by rfl, ?yy40_21_19⟩) hHeld ?_
          case yy40_21_19 => (intro W hx; go_simp; try with_reducible rfl)
          simp only [Act.put, List.setIfInBounds_toArray, List.set_cons_zero, List.set_cons_succ]
          refine wpAnyH_take (i := 20) (oi := { dst := some 116, op := Op.move (Operand.tmp 11), type := 26, pos := "law.go:190", after := #[{ on := 19, ground := Ground.guard }], guard := some (19, false) }) (v := ?vv41_21_20) rfl (by kernel_rfl) (by kernel_rfl) (by kernel_rfl) (fun _ _ _ h => h) (Or.inl ⟨by rfl, ?yy41_21_20⟩) hHeld ?_
          case yy41_21_20 => (intro W hx; go_simp; try with_reducible rfl)
          simp only [Act.put, List.setIfInBounds_toArray, List.set_cons_zero, List.set_cons_succ]
          refine wpAnyH_take (i := 21) (oi := { dst := some 117, op := Op.binOp BinOp.eql 26 (Operand.tmp 116) (Operand.const (Value.int IntKind.i64 0)) 26, type := 4, pos := "law.go:190", after := #[{ on := 20, ground := Ground.data }, { on := 19, ground := Ground.guard }], guard := some (19, false) }) (v := ?vv42_21_21) rfl (by kernel_rfl) (by kernel_rfl) (by kernel_rfl) (fun _ _ _ h => h) (Or.inl ⟨by rfl, ?yy42_21_21⟩) hHeld ?_
          case yy42_21_21 => (intro W hx; go_simp; try with_reducible rfl)
          simp only [Act.put, List.setIfInBounds_toArray, List.set_cons_zero, List.set_cons_succ]
          refine wpAnyH_take (i := 22) (oi := { dst := some 118, op := Op.move (Operand.tmp 117), type := 4, pos := "law.go:190", after := #[{ on := 21, ground := Ground.data }, { on := 19, ground := Ground.chain }, { on := 19, ground := Ground.guard }], guard := some (19, false) }) (v := ?vv43_21_22) rfl (by kernel_rfl) (by kernel_rfl) (by kernel_rfl) (fun _ _ _ h => h) (Or.inl ⟨by rfl, ?yy43_21_22⟩) hHeld ?_
          case yy43_21_22 => (intro W hx; go_simp; try with_reducible rfl)
          simp only [Act.put, List.setIfInBounds_toArray, List.set_cons_zero, List.set_cons_succ]
          refine wpAnyH_take (i := 23) (oi := { dst := some 119, op := Op.load 37 (Operand.tmp 12), type := 37, pos := "law.go:190", after := #[{ on := 22, ground := Ground.guard }], guard := some (22, true) }) (v := undef) rfl (by kernel_rfl) (by kernel_rfl) (by kernel_rfl) (fun _ _ _ h => h) (Or.inr ⟨by rfl, rfl⟩) hHeld ?_
          simp only [Act.put, List.setIfInBounds_toArray, List.set_cons_zero, List.set_cons_succ]
          refine wpAnyH_take (i := 24) (oi := { dst := some 120, op := Op.call { callee := Callee.value (Operand.func 29), args := #[Operand.tmp 119], argTypes := #[37] }, type := 34, pos := "law.go:190", after := #[{ on := 23, ground := Ground.data }, { on := 22, ground := Ground.chain }, { on := 22, ground := Ground.guard }], guard := some (22, true) }) (v := undef) rfl (by kernel_rfl) (by kernel_rfl) (by kernel_rfl) (fun _ _ _ h => h) (Or.inr ⟨by rfl, rfl⟩) hHeld ?_
          simp only [Act.put, List.setIfInBounds_toArray, List.set_cons_zero, List.set_cons_succ]
          refine wpAnyH_take (i := 25) (oi := { dst := some 121, op := Op.fieldAddr 39 (Operand.tmp 7) 1, type := 0, pos := "law.go:190", after := #[{ on := 22, ground := Ground.guard }], guard := some (22, true) }) (v := undef) rfl (by kernel_rfl) (by kernel_rfl) (by kernel_rfl) (fun _ _ _ h => h) (Or.inr ⟨by rfl, rfl⟩) hHeld ?_
          simp only [Act.put, List.setIfInBounds_toArray, List.set_cons_zero, List.set_cons_succ]
          refine wpAnyH_take (i := 26) (oi := { dst := some 122, op := Op.load 37 (Operand.tmp 121), type := 37, pos := "law.go:190", after := #[{ on := 25, ground := Ground.data }, { on := 22, ground := Ground.guard }], guard := some (22, true) }) (v := undef) rfl (by kernel_rfl) (by kernel_rfl) (by kernel_rfl) (fun _ _ _ h => h) (Or.inr ⟨by rfl, rfl⟩) hHeld ?_
          simp only [Act.put, List.setIfInBounds_toArray, List.set_cons_zero, List.set_cons_succ]
          refine wpAnyH_take (i := 27) (oi := { dst := some 123, op := Op.call { callee := Callee.value (Operand.func 29), args := #[Operand.tmp 122], argTypes := #[37] }, type := 34, pos := "law.go:190", after := #[{ on := 26, ground := Ground.data }, { on := 24, ground := Ground.chain }, { on := 22, ground := Ground.guard }], guard := some (22, true) }) (v := undef) rfl (by kernel_rfl) (by kernel_rfl) (by kernel_rfl) (fun _ _ _ h => h) (Or.inr ⟨by rfl, rfl⟩) hHeld ?_
          simp only [Act.put, List.setIfInBounds_toArray, List.set_cons_zero, List.set_cons_succ]
          refine wpAnyH_take (i := 28) (oi := { dst := some 124, op := Op.binOp BinOp.gtr 34 (Operand.tmp 120) (Operand.tmp 123) 34, type := 4, pos := "law.go:190", after := #[{ on := 24, ground := Ground.data }, { on := 27, ground := Ground.data }, { on := 22, ground := Ground.guard }], guard := some (22, true) }) (v := undef) rfl (by kernel_rfl) (by kernel_rfl) (by kernel_rfl) (fun _ _ _ h => h) (Or.inr ⟨by rfl, rfl⟩) hHeld ?_
          simp only [Act.put, List.setIfInBounds_toArray, List.set_cons_zero, List.set_cons_succ]
          refine wpAnyH_take (i := 29) (oi := { dst := some 125, op := Op.pick (Operand.tmp 118) (Operand.tmp 124) (Operand.const (Value.bool false)), type := 4, pos := "law.go:190", after := #[{ on := 22, ground := Ground.data }, { on := 28, ground := Ground.data }, { on := 19, ground := Ground.guard }], guard := some (19, false) }) (v := ?vv44_21_29) rfl (by kernel_rfl) (by kernel_rfl) (by kernel_rfl) (fun _ _ _ h => h) (Or.inl ⟨by rfl, ?yy44_21_29⟩) hHeld ?_
          case yy44_21_29 => (intro W hx; go_simp; try with_reducible rfl)
          simp only [Act.put, List.setIfInBounds_toArray, List.set_cons_zero, List.set_cons_succ]
          refine wpAnyH_take (i := 30) (oi := { dst := some 126, op := Op.pick (Operand.tmp 115) (Operand.const (Value.bool true)) (Operand.tmp 125), type := 4, pos := "law.go:190", after := #[{ on := 19, ground := Ground.data }, { on := 29, ground := Ground.data }], guard := none }) (v := ?vv45_21_30) rfl (by kernel_rfl) (by kernel_rfl) (by kernel_rfl) (fun _ _ _ h => h) (Or.inl ⟨by rfl, ?yy45_21_30⟩) hHeld ?_
          case yy45_21_30 => (intro W hx; go_simp; try with_reducible rfl)
          simp only [Act.put, List.setIfInBounds_toArray, List.set_cons_zero, List.set_cons_succ]
          refine wpAnyH_done (by kernel_rfl) ?_ _
          have zend := zz0.trans hHeld
          have xC := zend
          have knC := (xC.block _ (blk_lt kn)).trans kn
          have kwC := (xC.block _ (blk_lt k10)).trans k10
          have LC := Lib.hid (L10.out.ext xC)
          clear zend
          go_upto_region 23 with (fail)
          cases ok0
          · have tok2 := True.intro
            refine wp_region_held_drew (S := Ext wD26) (by kernel_rfl) ((Ext.refl _).drew) (fun hHeld => ?_)
            obtain ⟨wD82, hwD⟩ : ∃ V, V = World.drew wD26 := ⟨_, rfl⟩
            rw [← hwD]
            clear hHeld
            have zz0 : Ext wD26 wD82 := by rw [hwD]; exact (Ext.refl _).drew
            clear hwD
            refine wpAnyH_imp (S' := Ext wD82) (fun W h => Ext.trans zz0 h) _ _ _ _ ?_
            have hHeld := Ext.refl wD82
            refine wpAnyH_take (i := 0) (oi := { dst := some 127, op := Op.move (Operand.tmp 9), type := 4, pos := "law.go:193", after := #[], guard := none }) (v := ?vv83_23_0) rfl (by kernel_rfl) (by kernel_rfl) (by kernel_rfl) (fun _ _ _ h => h) (Or.inl ⟨by rfl, ?yy83_23_0⟩) hHeld ?_
            case yy83_23_0 => (intro W hx; go_simp; try with_reducible rfl)
            simp only [Act.put, List.setIfInBounds_toArray, List.set_cons_zero, List.set_cons_succ]
            refine wpAnyH_take (i := 1) (oi := { dst := some 128, op := Op.move (Operand.tmp 127), type := 4, pos := "law.go:193", after := #[{ on := 0, ground := Ground.data }], guard := none }) (v := ?vv84_23_1) rfl (by kernel_rfl) (by kernel_rfl) (by kernel_rfl) (fun _ _ _ h => h) (Or.inl ⟨by rfl, ?yy84_23_1⟩) hHeld ?_
            case yy84_23_1 => (intro W hx; go_simp; try with_reducible rfl)
            simp only [Act.put, List.setIfInBounds_toArray, List.set_cons_zero, List.set_cons_succ]
            refine wpAnyH_take (i := 2) (oi := { dst := some 129, op := Op.load 37 (Operand.tmp 12), type := 37, pos := "law.go:193", after := #[{ on := 1, ground := Ground.guard }], guard := some (1, true) }) (v := undef) rfl (by kernel_rfl) (by kernel_rfl) (by kernel_rfl) (fun _ _ _ h => h) (Or.inr ⟨by rfl, rfl⟩) hHeld ?_
            simp only [Act.put, List.setIfInBounds_toArray, List.set_cons_zero, List.set_cons_succ]
            refine wpAnyH_take (i := 3) (oi := { dst := some 130, op := Op.call { callee := Callee.value (Operand.func 29), args := #[Operand.tmp 129], argTypes := #[37] }, type := 34, pos := "law.go:193", after := #[{ on := 2, ground := Ground.data }, { on := 1, ground := Ground.chain }, { on := 1, ground := Ground.guard }], guard := some (1, true) }) (v := undef) rfl (by kernel_rfl) (by kernel_rfl) (by kernel_rfl) (fun _ _ _ h => h) (Or.inr ⟨by rfl, rfl⟩) hHeld ?_
            simp only [Act.put, List.setIfInBounds_toArray, List.set_cons_zero, List.set_cons_succ]
            refine wpAnyH_take (i := 4) (oi := { dst := some 131, op := Op.load 37 (Operand.tmp 8), type := 37, pos := "law.go:193", after := #[{ on := 1, ground := Ground.guard }], guard := some (1, true) }) (v := undef) rfl (by kernel_rfl) (by kernel_rfl) (by kernel_rfl) (fun _ _ _ h => h) (Or.inr ⟨by rfl, rfl⟩) hHeld ?_
            simp only [Act.put, List.setIfInBounds_toArray, List.set_cons_zero, List.set_cons_succ]
            refine wpAnyH_take (i := 5) (oi := { dst := some 132, op := Op.call { callee := Callee.value (Operand.func 29), args := #[Operand.tmp 131], argTypes := #[37] }, type := 34, pos := "law.go:193", after := #[{ on := 4, ground := Ground.data }, { on := 3, ground := Ground.chain }, { on := 1, ground := Ground.guard }], guard := some (1, true) }) (v := undef) rfl (by kernel_rfl) (by kernel_rfl) (by kernel_rfl) (fun _ _ _ h => h) (Or.inr ⟨by rfl, rfl⟩) hHeld ?_
            simp only [Act.put, List.setIfInBounds_toArray, List.set_cons_zero, List.set_cons_succ]
            refine wpAnyH_take (i := 6) (oi := { dst := some 133, op := Op.binOp BinOp.gtr 34 (Operand.tmp 130) (Operand.tmp 132) 34, type := 4, pos := "law.go:193", after := #[{ on := 3, ground := Ground.data }, { on := 5, ground := Ground.data }, { on := 1, ground := Ground.guard }], guard := some (1, true) }) (v := undef) rfl (by kernel_rfl) (by kernel_rfl) (by kernel_rfl) (fun _ _ _ h => h) (Or.inr ⟨by rfl, rfl⟩) hHeld ?_
            simp only [Act.put, List.setIfInBounds_toArray, List.set_cons_zero, List.set_cons_succ]
            refine wpAnyH_take (i := 7) (oi := { dst := some 134, op := Op.pick (Operand.tmp 128) (Operand.tmp 133) (Operand.const (Value.bool false)), type := 4, pos := "law.go:193", after := #[{ on := 1, ground := Ground.data }, { on := 6, ground := Ground.data }], guard := none }) (v := ?vv85_23_7) rfl (by kernel_rfl) (by kernel_rfl) (by kernel_rfl) (fun _ _ _ h => h) (Or.inl ⟨by rfl, ?yy85_23_7⟩) hHeld ?_
            case yy85_23_7 => (intro W hx; go_simp; try with_reducible rfl)
            simp only [Act.put, List.setIfInBounds_toArray, List.set_cons_zero, List.set_cons_succ]
            refine wpAnyH_done (by kernel_rfl) ?_ _
            have zend := zz0.trans hHeld
            go_wp2
            go_roundw
            case rel => exact ⟨k + 1, _, by go_num, by omega, LC.out.ext zend⟩
            case measure => simp [intOf]; omega
          · have hd2 : decide (was.rank < now.rank) = false := by have := HR.out rfl; simp; omega
            refine wp_region_held_drew (S := Ext wD26) (by kernel_rfl) ((Ext.refl _).drew) (fun hHeld => ?_)
            obtain ⟨wD86, hwD⟩ : ∃ V, V = World.drew wD26 := ⟨_, rfl⟩
            rw [← hwD]
            clear hHeld
            have zz0 : Ext wD26 wD86 := by rw [hwD]; exact (Ext.refl _).drew
            clear hwD
            refine wpAnyH_imp (S' := Ext wD86) (fun W h => Ext.trans zz0 h) _ _ _ _ ?_
            have hHeld := Ext.refl wD86
            refine wpAnyH_take (i := 0) (oi := { dst := some 127, op := Op.move (Operand.tmp 9), type := 4, pos := "law.go:193", after := #[], guard := none }) (v := ?vv87_23_0) rfl (by kernel_rfl) (by kernel_rfl) (by kernel_rfl) (fun _ _ _ h => h) (Or.inl ⟨by rfl, ?yy87_23_0⟩) hHeld ?_
            case yy87_23_0 => (intro W hx; go_simp; try with_reducible rfl)
            simp only [Act.put, List.setIfInBounds_toArray, List.set_cons_zero, List.set_cons_succ]
            refine wpAnyH_take (i := 1) (oi := { dst := some 128, op := Op.move (Operand.tmp 127), type := 4, pos := "law.go:193", after := #[{ on := 0, ground := Ground.data }], guard := none }) (v := ?vv88_23_1) rfl (by kernel_rfl) (by kernel_rfl) (by kernel_rfl) (fun _ _ _ h => h) (Or.inl ⟨by rfl, ?yy88_23_1⟩) hHeld ?_
            case yy88_23_1 => (intro W hx; go_simp; try with_reducible rfl)
            simp only [Act.put, List.setIfInBounds_toArray, List.set_cons_zero, List.set_cons_succ]
            refine wpAnyH_take (i := 2) (oi := { dst := some 129, op := Op.load 37 (Operand.tmp 12), type := 37, pos := "law.go:193", after := #[{ on := 1, ground := Ground.guard }], guard := some (1, true) }) (v := ?vv89_23_2) rfl (by kernel_rfl) (by kernel_rfl) (by kernel_rfl) (fun _ _ _ h => h) (Or.inl ⟨by rfl, ?yy89_23_2⟩) hHeld ?_
            case yy89_23_2 => (intro W hx; have hz := zz0.trans hx; refine ld_op (rangeAt_ext (frAt knC) hz) ?_; rfl)
            simp only [Act.put, List.setIfInBounds_toArray, List.set_cons_zero, List.set_cons_succ]
            refine wpAnyH_take (i := 4) (oi := { dst := some 131, op := Op.load 37 (Operand.tmp 8), type := 37, pos := "law.go:193", after := #[{ on := 1, ground := Ground.guard }], guard := some (1, true) }) (v := ?vv90_23_4) rfl (by kernel_rfl) (by kernel_rfl) (by kernel_rfl) (fun _ _ _ h => h) (Or.inl ⟨by rfl, ?yy90_23_4⟩) hHeld ?_
            case yy90_23_4 => (intro W hx; have hz := zz0.trans hx; refine ld_op (rangeAt_ext (frAt kwC) hz) ?_; rfl)
            simp only [Act.put, List.setIfInBounds_toArray, List.set_cons_zero, List.set_cons_succ]
            refine wpAnyH_ready (rs := [3]) (by kernel_rfl) (by simp) (AllReadyH.cons rfl (fun K hK => ?_) AllReadyH.nil)
            go_simp
            go_wp2_with (go_at_call 29; (refine (rank_inv _ _ hno).mono ?_); rintro e wD1 ⟨rfl, xD⟩)
            refine hK.out _ _ xD (fun hHeld => ?_)
            clear hK K
            refine wpAnyH_imp (S' := Ext wD1) (fun W h => Ext.trans xD h) _ _ _ _ ?_
            replace hHeld := Ext.refl wD1
            have zz1 := zz0.trans xD
            refine wpAnyH_ready (rs := [5]) (by kernel_rfl) (by simp) (AllReadyH.cons rfl (fun K hK => ?_) AllReadyH.nil)
            go_simp
            go_wp2_with (go_at_call 29; (refine (rank_inv _ _ hwo).mono ?_); rintro e wE1 ⟨rfl, xE⟩)
            refine hK.out _ _ xE (fun hHeld => ?_)
            clear hK K
            refine wpAnyH_imp (S' := Ext wE1) (fun W h => Ext.trans xE h) _ _ _ _ ?_
            replace hHeld := Ext.refl wE1
            have zz2 := zz1.trans xE
            refine wpAnyH_take (i := 6) (oi := { dst := some 133, op := Op.binOp BinOp.gtr 34 (Operand.tmp 130) (Operand.tmp 132) 34, type := 4, pos := "law.go:193", after := #[{ on := 3, ground := Ground.data }, { on := 5, ground := Ground.data }, { on := 1, ground := Ground.guard }], guard := some (1, true) }) (v := ?vv91_23_6) rfl (by kernel_rfl) (by kernel_rfl) (by kernel_rfl) (fun _ _ _ h => h) (Or.inl ⟨by rfl, ?yy91_23_6⟩) hHeld ?_
            case yy91_23_6 => (intro W hx; go_simp; try with_reducible rfl)
            simp only [Act.put, List.setIfInBounds_toArray, List.set_cons_zero, List.set_cons_succ]
            refine wpAnyH_take (i := 7) (oi := { dst := some 134, op := Op.pick (Operand.tmp 128) (Operand.tmp 133) (Operand.const (Value.bool false)), type := 4, pos := "law.go:193", after := #[{ on := 1, ground := Ground.data }, { on := 6, ground := Ground.data }], guard := none }) (v := ?vv92_23_7) rfl (by kernel_rfl) (by kernel_rfl) (by kernel_rfl) (fun _ _ _ h => h) (Or.inl ⟨by rfl, ?yy92_23_7⟩) hHeld ?_
            case yy92_23_7 => (intro W hx; go_simp; try with_reducible rfl)
            simp only [Act.put, List.setIfInBounds_toArray, List.set_cons_zero, List.set_cons_succ]
            refine wpAnyH_done (by kernel_rfl) ?_ _
            have zend := zz2.trans hHeld
            go_wp2
            go_roundw
            case rel => exact ⟨k + 1, _, by go_num, by omega, LC.out.ext zend⟩
            case measure => simp [intOf]; omega
      · by_cases h1 : q = 1
        · subst h1
          obtain ⟨now, ok1, hnw⟩ : ∃ now ok1, s.done.next = (now, ok1) := ⟨_, _, rfl⟩
          have HNW := Lib.hid hnw
          have hdl := done_len s
          have hdr := done_rank HNX.out hnw
          clear hnw h0
          obtain ⟨dn, hdn⟩ : ∃ dn, dn = s.done.tx.length := ⟨_, rfl⟩
          have HDN := Lib.hid hdn
          rw [← hdn] at hdl
          have HR := Lib.hid hdr
          have hs3 : (s.tx.length : Int) ≤ 3 := by have := LL.out.ok.nt; omega
          have hwr : IntKind.i64.wrap ((s.tx.length : Int) - 1) = s.tx.length - 1 := by rw [IntKind.wrap_i64]; omega
          have hmax : (if (s.tx.length : Int) - 1 < 0 then (0 : Int) else s.tx.length - 1) = dn := by split <;> omega
          clear hdr hdn hdl
          go_upto_region 27 with (go_at_call 16; (refine (done_q Q6.out).mono ?_); rintro e w8 ⟨rfl, Q8, hole8⟩)
          have k8 := (hole8 _ hs5 hsz).trans k6
          go_upto_region 28 with (first
            | (go_at_call 24; (refine (next_ov Q8.toO HNW.out).mono ?_); rintro e w9 ⟨rfl, L9, x9⟩)
            | refine wpList_stnew rfl 37 _ _ rfl rfl now.vals rfl rfl size37 rfl (fr_one now) ?_)
          obtain ⟨w10, hw10⟩ : ∃ V, V = w9.alloc (.cells now.vals.toArray 37) := ⟨_, rfl⟩
          have kn : w10.heap[w9.heap.size]? = some (.cells now.vals.toArray 37 (0, 0)) := by rw [hw10]; exact heap_alloc_new _ _
          have x10 : Ext w9 w10 := by rw [hw10]; exact (Ext.refl _).alloc _
          rw [← hw10]
          clear hw10
          have k10 := ((x9.trans x10).block _ (blk_lt k8)).trans k8
          have L10 := Lib.hid (L9.ext x10)
          have hno := next_o' L9 HNW.out
          have hwo := next_o' LL.out HNX.out
          have wt : ∀ W, BxO w W 58 g s.done → Calls Try.prog 26 #[.pointer (some ⟨g, 0, none⟩)] W fun e w' => e = .returned (.int .i64 dn) ∧ W = w' := fun W h => by rw [HDN.out]; exact wait_o h
          have WT := Lib.hid wt
          clear L9 Q8 wt
          cases ok1
          · have tok := True.intro
            refine wp_region_held_drew (S := Ext w10) (by kernel_rfl) ((Ext.refl _).drew) (fun hHeld => ?_)
            obtain ⟨wD46, hwD⟩ : ∃ V, V = World.drew w10 := ⟨_, rfl⟩
            rw [← hwD]
            clear hHeld
            have zz0 : Ext w10 wD46 := by rw [hwD]; exact (Ext.refl _).drew
            clear hwD
            refine wpAnyH_imp (S' := Ext wD46) (fun W h => Ext.trans zz0 h) _ _ _ _ ?_
            have hHeld := Ext.refl wD46
            refine wpAnyH_take (i := 0) (oi := { dst := some 144, op := Op.move (Operand.tmp 4), type := 25, pos := "law.go:199", after := #[], guard := none }) (v := ?vv47_28_0) rfl (by kernel_rfl) (by kernel_rfl) (by kernel_rfl) (fun _ _ _ h => h) (Or.inl ⟨by rfl, ?yy47_28_0⟩) hHeld ?_
            case yy47_28_0 => (intro W hx; go_simp; try with_reducible rfl)
            simp only [Act.put, List.setIfInBounds_toArray, List.set_cons_zero, List.set_cons_succ]
            refine wpAnyH_take (i := 2) (oi := { dst := some 146, op := Op.move (Operand.tmp 10), type := 3, pos := "law.go:199", after := #[], guard := none }) (v := ?vv48_28_2) rfl (by kernel_rfl) (by kernel_rfl) (by kernel_rfl) (fun _ _ _ h => h) (Or.inl ⟨by rfl, ?yy48_28_2⟩) hHeld ?_
            case yy48_28_2 => (intro W hx; go_simp; try with_reducible rfl)
            simp only [Act.put, List.setIfInBounds_toArray, List.set_cons_zero, List.set_cons_succ]
            refine wpAnyH_take (i := 3) (oi := { dst := some 147, op := Op.binOp BinOp.sub 3 (Operand.tmp 146) (Operand.const (Value.int IntKind.i64 1)) 3, type := 3, pos := "law.go:199", after := #[{ on := 2, ground := Ground.data }], guard := none }) (v := ?vv49_28_3) rfl (by kernel_rfl) (by kernel_rfl) (by kernel_rfl) (fun _ _ _ h => h) (Or.inl ⟨by rfl, ?yy49_28_3⟩) hHeld ?_
            case yy49_28_3 => (intro W hx; go_simp; try with_reducible rfl)
            simp only [Act.put, List.setIfInBounds_toArray, List.set_cons_zero, List.set_cons_succ]
            refine wpAnyH_take (i := 4) (oi := { dst := some 148, op := Op.call { callee := Callee.builtin Builtin.max, args := #[Operand.tmp 147, Operand.const (Value.int IntKind.i64 0)], argTypes := #[3, 3] }, type := 3, pos := "law.go:199", after := #[{ on := 3, ground := Ground.data }], guard := none }) (v := ?vv50_28_4) rfl (by kernel_rfl) (by kernel_rfl) (by kernel_rfl) (fun _ _ _ h => h) (Or.inl ⟨by rfl, ?yy50_28_4⟩) hHeld ?_
            case yy50_28_4 => (intro W hx; go_simp; try with_reducible rfl)
            simp only [Act.put, List.setIfInBounds_toArray, List.set_cons_zero, List.set_cons_succ]
            refine wpAnyH_ready (rs := [1]) (by kernel_rfl) (by simp) (AllReadyH.cons rfl (fun K hK => ?_) AllReadyH.nil)
            go_simp
            go_wp2_with (go_at_call 26; (refine (WT.out _ ((L10.out.ext zz0).ext hHeld)).mono ?_); rintro e w' ⟨rfl, rfl⟩)
            refine hK.out _ _ hHeld (fun hHeld => ?_)
            clear hK K
            refine wpAnyH_take (i := 5) (oi := { dst := some 149, op := Op.binOp BinOp.neq 3 (Operand.tmp 145) (Operand.tmp 148) 3, type := 4, pos := "law.go:199", after := #[{ on := 1, ground := Ground.data }, { on := 4, ground := Ground.data }], guard := none }) (v := ?vv51_28_5) rfl (by kernel_rfl) (by kernel_rfl) (by kernel_rfl) (fun _ _ _ h => h) (Or.inl ⟨by rfl, ?yy51_28_5⟩) hHeld ?_
            case yy51_28_5 => (intro W hx; go_simp; try with_reducible rfl)
            simp only [Act.put, List.setIfInBounds_toArray, List.set_cons_zero, List.set_cons_succ]
            refine wpAnyH_take (i := 6) (oi := { dst := some 150, op := Op.move (Operand.tmp 149), type := 4, pos := "law.go:199", after := #[{ on := 5, ground := Ground.data }, { on := 1, ground := Ground.chain }], guard := none }) (v := ?vv52_28_6) rfl (by kernel_rfl) (by kernel_rfl) (by kernel_rfl) (fun _ _ _ h => h) (Or.inl ⟨by rfl, ?yy52_28_6⟩) hHeld ?_
            case yy52_28_6 => (intro W hx; go_simp; try with_reducible rfl)
            simp only [Act.put, List.setIfInBounds_toArray, List.set_cons_zero, List.set_cons_succ]
            refine wpAnyH_take (i := 7) (oi := { dst := some 151, op := Op.move (Operand.tmp 15), type := 4, pos := "law.go:199", after := #[{ on := 6, ground := Ground.guard }], guard := some (6, false) }) (v := ?vv53_28_7) rfl (by kernel_rfl) (by kernel_rfl) (by kernel_rfl) (fun _ _ _ h => h) (Or.inl ⟨by rfl, ?yy53_28_7⟩) hHeld ?_
            case yy53_28_7 => (intro W hx; go_simp; try with_reducible rfl)
            simp only [Act.put, List.setIfInBounds_toArray, List.set_cons_zero, List.set_cons_succ]
            refine wpAnyH_take (i := 8) (oi := { dst := some 152, op := Op.move (Operand.tmp 151), type := 4, pos := "law.go:199", after := #[{ on := 7, ground := Ground.data }, { on := 6, ground := Ground.chain }, { on := 6, ground := Ground.guard }], guard := some (6, false) }) (v := ?vv54_28_8) rfl (by kernel_rfl) (by kernel_rfl) (by kernel_rfl) (fun _ _ _ h => h) (Or.inl ⟨by rfl, ?yy54_28_8⟩) hHeld ?_
            case yy54_28_8 => (intro W hx; go_simp; try with_reducible rfl)
            simp only [Act.put, List.setIfInBounds_toArray, List.set_cons_zero, List.set_cons_succ]
            refine wpAnyH_take (i := 9) (oi := { dst := some 153, op := Op.load 37 (Operand.tmp 14), type := 37, pos := "law.go:199", after := #[{ on := 8, ground := Ground.guard }], guard := some (8, true) }) (v := undef) rfl (by kernel_rfl) (by kernel_rfl) (by kernel_rfl) (fun _ _ _ h => h) (Or.inr ⟨by rfl, rfl⟩) hHeld ?_
            simp only [Act.put, List.setIfInBounds_toArray, List.set_cons_zero, List.set_cons_succ]
            refine wpAnyH_take (i := 10) (oi := { dst := some 154, op := Op.call { callee := Callee.value (Operand.func 29), args := #[Operand.tmp 153], argTypes := #[37] }, type := 34, pos := "law.go:199", after := #[{ on := 9, ground := Ground.data }, { on := 8, ground := Ground.chain }, { on := 8, ground := Ground.guard }], guard := some (8, true) }) (v := undef) rfl (by kernel_rfl) (by kernel_rfl) (by kernel_rfl) (fun _ _ _ h => h) (Or.inr ⟨by rfl, rfl⟩) hHeld ?_
            simp only [Act.put, List.setIfInBounds_toArray, List.set_cons_zero, List.set_cons_succ]
            refine wpAnyH_take (i := 11) (oi := { dst := some 155, op := Op.load 37 (Operand.tmp 8), type := 37, pos := "law.go:199", after := #[{ on := 8, ground := Ground.guard }], guard := some (8, true) }) (v := undef) rfl (by kernel_rfl) (by kernel_rfl) (by kernel_rfl) (fun _ _ _ h => h) (Or.inr ⟨by rfl, rfl⟩) hHeld ?_
            simp only [Act.put, List.setIfInBounds_toArray, List.set_cons_zero, List.set_cons_succ]
            refine wpAnyH_take (i := 12) (oi := { dst := some 156, op := Op.call { callee := Callee.value (Operand.func 29), args := #[Operand.tmp 155], argTypes := #[37] }, type := 34, pos := "law.go:199", after := #[{ on := 11, ground := Ground.data }, { on := 10, ground := Ground.chain }, { on := 8, ground := Ground.guard }], guard := some (8, true) }) (v := undef) rfl (by kernel_rfl) (by kernel_rfl) (by kernel_rfl) (fun _ _ _ h => h) (Or.inr ⟨by rfl, rfl⟩) hHeld ?_
            simp only [Act.put, List.setIfInBounds_toArray, List.set_cons_zero, List.set_cons_succ]
            refine wpAnyH_take (i := 13) (oi := { dst := some 157, op := Op.binOp BinOp.lss 34 (Operand.tmp 154) (Operand.tmp 156) 34, type := 4, pos := "law.go:199", after := #[{ on := 10, ground := Ground.data }, { on := 12, ground := Ground.data }, { on := 8, ground := Ground.guard }], guard := some (8, true) }) (v := undef) rfl (by kernel_rfl) (by kernel_rfl) (by kernel_rfl) (fun _ _ _ h => h) (Or.inr ⟨by rfl, rfl⟩) hHeld ?_
            simp only [Act.put, List.setIfInBounds_toArray, List.set_cons_zero, List.set_cons_succ]
            refine wpAnyH_take (i := 14) (oi := { dst := some 158, op := Op.pick (Operand.tmp 152) (Operand.tmp 157) (Operand.const (Value.bool false)), type := 4, pos := "law.go:199", after := #[{ on := 8, ground := Ground.data }, { on := 13, ground := Ground.data }, { on := 6, ground := Ground.guard }], guard := some (6, false) }) (v := ?vv55_28_14) rfl (by kernel_rfl) (by kernel_rfl) (by kernel_rfl) (fun _ _ _ h => h) (Or.inl ⟨by rfl, ?yy55_28_14⟩) hHeld ?_
            case yy55_28_14 => (intro W hx; go_simp; try with_reducible rfl)
            simp only [Act.put, List.setIfInBounds_toArray, List.set_cons_zero, List.set_cons_succ]
            refine wpAnyH_take (i := 15) (oi := { dst := some 159, op := Op.pick (Operand.tmp 150) (Operand.const (Value.bool true)) (Operand.tmp 158), type := 4, pos := "law.go:199", after := #[{ on := 6, ground := Ground.data }, { on := 14, ground := Ground.data }], guard := none }) (v := ?vv56_28_15) rfl (by kernel_rfl) (by kernel_rfl) (by kernel_rfl) (fun _ _ _ h => h) (Or.inl ⟨by rfl, ?yy56_28_15⟩) hHeld ?_
            case yy56_28_15 => (intro W hx; go_simp; try with_reducible rfl)
            simp only [Act.put, List.setIfInBounds_toArray, List.set_cons_zero, List.set_cons_succ]
            refine wpAnyH_done (by kernel_rfl) ?_ _
            have zend := zz0.trans hHeld
            go_wp2
            go_roundw
            case rel => exact ⟨k + 1, _, by go_num, by omega, L10.out.ext zend⟩
            case measure => simp [intOf]; omega
          · have hd2 : decide (now.rank < was.rank) = false := by have := HR.out rfl; simp; omega
            refine wp_region_held_drew (S := Ext w10) (by kernel_rfl) ((Ext.refl _).drew) (fun hHeld => ?_)
            obtain ⟨wD57, hwD⟩ : ∃ V, V = World.drew w10 := ⟨_, rfl⟩
            rw [← hwD]
            clear hHeld
            have zz0 : Ext w10 wD57 := by rw [hwD]; exact (Ext.refl _).drew
            clear hwD
            refine wpAnyH_imp (S' := Ext wD57) (fun W h => Ext.trans zz0 h) _ _ _ _ ?_
            have hHeld := Ext.refl wD57
            refine wpAnyH_take (i := 0) (oi := { dst := some 144, op := Op.move (Operand.tmp 4), type := 25, pos := "law.go:199", after := #[], guard := none }) (v := ?vv58_28_0) rfl (by kernel_rfl) (by kernel_rfl) (by kernel_rfl) (fun _ _ _ h => h) (Or.inl ⟨by rfl, ?yy58_28_0⟩) hHeld ?_
            case yy58_28_0 => (intro W hx; go_simp; try with_reducible rfl)
            simp only [Act.put, List.setIfInBounds_toArray, List.set_cons_zero, List.set_cons_succ]
            refine wpAnyH_take (i := 2) (oi := { dst := some 146, op := Op.move (Operand.tmp 10), type := 3, pos := "law.go:199", after := #[], guard := none }) (v := ?vv59_28_2) rfl (by kernel_rfl) (by kernel_rfl) (by kernel_rfl) (fun _ _ _ h => h) (Or.inl ⟨by rfl, ?yy59_28_2⟩) hHeld ?_
            case yy59_28_2 => (intro W hx; go_simp; try with_reducible rfl)
            simp only [Act.put, List.setIfInBounds_toArray, List.set_cons_zero, List.set_cons_succ]
            refine wpAnyH_take (i := 3) (oi := { dst := some 147, op := Op.binOp BinOp.sub 3 (Operand.tmp 146) (Operand.const (Value.int IntKind.i64 1)) 3, type := 3, pos := "law.go:199", after := #[{ on := 2, ground := Ground.data }], guard := none }) (v := ?vv60_28_3) rfl (by kernel_rfl) (by kernel_rfl) (by kernel_rfl) (fun _ _ _ h => h) (Or.inl ⟨by rfl, ?yy60_28_3⟩) hHeld ?_
            case yy60_28_3 => (intro W hx; go_simp; try with_reducible rfl)
            simp only [Act.put, List.setIfInBounds_toArray, List.set_cons_zero, List.set_cons_succ]
            refine wpAnyH_take (i := 4) (oi := { dst := some 148, op := Op.call { callee := Callee.builtin Builtin.max, args := #[Operand.tmp 147, Operand.const (Value.int IntKind.i64 0)], argTypes := #[3, 3] }, type := 3, pos := "law.go:199", after := #[{ on := 3, ground := Ground.data }], guard := none }) (v := ?vv61_28_4) rfl (by kernel_rfl) (by kernel_rfl) (by kernel_rfl) (fun _ _ _ h => h) (Or.inl ⟨by rfl, ?yy61_28_4⟩) hHeld ?_
            case yy61_28_4 => (intro W hx; go_simp; try with_reducible rfl)
            simp only [Act.put, List.setIfInBounds_toArray, List.set_cons_zero, List.set_cons_succ]
            refine wpAnyH_ready (rs := [1]) (by kernel_rfl) (by simp) (AllReadyH.cons rfl (fun K hK => ?_) AllReadyH.nil)
            go_simp
            go_wp2_with (go_at_call 26; (refine (WT.out _ ((L10.out.ext zz0).ext hHeld)).mono ?_); rintro e w' ⟨rfl, rfl⟩)
            refine hK.out _ _ hHeld (fun hHeld => ?_)
            clear hK K
            refine wpAnyH_take (i := 5) (oi := { dst := some 149, op := Op.binOp BinOp.neq 3 (Operand.tmp 145) (Operand.tmp 148) 3, type := 4, pos := "law.go:199", after := #[{ on := 1, ground := Ground.data }, { on := 4, ground := Ground.data }], guard := none }) (v := ?vv62_28_5) rfl (by kernel_rfl) (by kernel_rfl) (by kernel_rfl) (fun _ _ _ h => h) (Or.inl ⟨by rfl, ?yy62_28_5⟩) hHeld ?_
            case yy62_28_5 => (intro W hx; go_simp; try with_reducible rfl)
            simp only [Act.put, List.setIfInBounds_toArray, List.set_cons_zero, List.set_cons_succ]
            refine wpAnyH_take (i := 6) (oi := { dst := some 150, op := Op.move (Operand.tmp 149), type := 4, pos := "law.go:199", after := #[{ on := 5, ground := Ground.data }, { on := 1, ground := Ground.chain }], guard := none }) (v := ?vv63_28_6) rfl (by kernel_rfl) (by kernel_rfl) (by kernel_rfl) (fun _ _ _ h => h) (Or.inl ⟨by rfl, ?yy63_28_6⟩) hHeld ?_
            case yy63_28_6 => (intro W hx; go_simp; try with_reducible rfl)
            simp only [Act.put, List.setIfInBounds_toArray, List.set_cons_zero, List.set_cons_succ]
            refine wpAnyH_take (i := 7) (oi := { dst := some 151, op := Op.move (Operand.tmp 15), type := 4, pos := "law.go:199", after := #[{ on := 6, ground := Ground.guard }], guard := some (6, false) }) (v := ?vv64_28_7) rfl (by kernel_rfl) (by kernel_rfl) (by kernel_rfl) (fun _ _ _ h => h) (Or.inl ⟨by rfl, ?yy64_28_7⟩) hHeld ?_
            case yy64_28_7 => (intro W hx; go_simp; try with_reducible rfl)
            simp only [Act.put, List.setIfInBounds_toArray, List.set_cons_zero, List.set_cons_succ]
            refine wpAnyH_take (i := 8) (oi := { dst := some 152, op := Op.move (Operand.tmp 151), type := 4, pos := "law.go:199", after := #[{ on := 7, ground := Ground.data }, { on := 6, ground := Ground.chain }, { on := 6, ground := Ground.guard }], guard := some (6, false) }) (v := ?vv65_28_8) rfl (by kernel_rfl) (by kernel_rfl) (by kernel_rfl) (fun _ _ _ h => h) (Or.inl ⟨by rfl, ?yy65_28_8⟩) hHeld ?_
            case yy65_28_8 => (intro W hx; go_simp; try with_reducible rfl)
            simp only [Act.put, List.setIfInBounds_toArray, List.set_cons_zero, List.set_cons_succ]
            refine wpAnyH_take (i := 9) (oi := { dst := some 153, op := Op.load 37 (Operand.tmp 14), type := 37, pos := "law.go:199", after := #[{ on := 8, ground := Ground.guard }], guard := some (8, true) }) (v := ?vv66_28_9) rfl (by kernel_rfl) (by kernel_rfl) (by kernel_rfl) (fun _ _ _ h => h) (Or.inl ⟨by rfl, ?yy66_28_9⟩) hHeld ?_
            case yy66_28_9 => (intro W hx; have hz := zz0.trans hx; refine ld_op (rangeAt_ext (frAt kn) hz) ?_; rfl)
            simp only [Act.put, List.setIfInBounds_toArray, List.set_cons_zero, List.set_cons_succ]
            refine wpAnyH_take (i := 11) (oi := { dst := some 155, op := Op.load 37 (Operand.tmp 8), type := 37, pos := "law.go:199", after := #[{ on := 8, ground := Ground.guard }], guard := some (8, true) }) (v := ?vv67_28_11) rfl (by kernel_rfl) (by kernel_rfl) (by kernel_rfl) (fun _ _ _ h => h) (Or.inl ⟨by rfl, ?yy67_28_11⟩) hHeld ?_
            case yy67_28_11 => (intro W hx; have hz := zz0.trans hx; refine ld_op (rangeAt_ext (frAt k10) hz) ?_; rfl)
            simp only [Act.put, List.setIfInBounds_toArray, List.set_cons_zero, List.set_cons_succ]
            refine wpAnyH_ready (rs := [10]) (by kernel_rfl) (by simp) (AllReadyH.cons rfl (fun K hK => ?_) AllReadyH.nil)
            go_simp
            go_wp2_with (go_at_call 29; (refine (rank_inv _ _ hno).mono ?_); rintro e wD1 ⟨rfl, xD⟩)
            refine hK.out _ _ xD (fun hHeld => ?_)
            clear hK K
            refine wpAnyH_imp (S' := Ext wD1) (fun W h => Ext.trans xD h) _ _ _ _ ?_
            replace hHeld := Ext.refl wD1
            have zz2 := zz0.trans xD
            refine wpAnyH_ready (rs := [12]) (by kernel_rfl) (by simp) (AllReadyH.cons rfl (fun K hK => ?_) AllReadyH.nil)
            go_simp
            go_wp2_with (go_at_call 29; (refine (rank_inv _ _ hwo).mono ?_); rintro e wE1 ⟨rfl, xE⟩)
            refine hK.out _ _ xE (fun hHeld => ?_)
            clear hK K
            refine wpAnyH_imp (S' := Ext wE1) (fun W h => Ext.trans xE h) _ _ _ _ ?_
            replace hHeld := Ext.refl wE1
            have zz3 := zz2.trans xE
            refine wpAnyH_take (i := 13) (oi := { dst := some 157, op := Op.binOp BinOp.lss 34 (Operand.tmp 154) (Operand.tmp 156) 34, type := 4, pos := "law.go:199", after := #[{ on := 10, ground := Ground.data }, { on := 12, ground := Ground.data }, { on := 8, ground := Ground.guard }], guard := some (8, true) }) (v := ?vv68_28_13) rfl (by kernel_rfl) (by kernel_rfl) (by kernel_rfl) (fun _ _ _ h => h) (Or.inl ⟨by rfl, ?yy68_28_13⟩) hHeld ?_
            case yy68_28_13 => (intro W hx; go_simp; try with_reducible rfl)
            simp only [Act.put, List.setIfInBounds_toArray, List.set_cons_zero, List.set_cons_succ]
            refine wpAnyH_take (i := 14) (oi := { dst := some 158, op := Op.pick (Operand.tmp 152) (Operand.tmp 157) (Operand.const (Value.bool false)), type := 4, pos := "law.go:199", after := #[{ on := 8, ground := Ground.data }, { on := 13, ground := Ground.data }, { on := 6, ground := Ground.guard }], guard := some (6, false) }) (v := ?vv69_28_14) rfl (by kernel_rfl) (by kernel_rfl) (by kernel_rfl) (fun _ _ _ h => h) (Or.inl ⟨by rfl, ?yy69_28_14⟩) hHeld ?_
            case yy69_28_14 => (intro W hx; go_simp; try with_reducible rfl)
            simp only [Act.put, List.setIfInBounds_toArray, List.set_cons_zero, List.set_cons_succ]
            refine wpAnyH_take (i := 15) (oi := { dst := some 159, op := Op.pick (Operand.tmp 150) (Operand.const (Value.bool true)) (Operand.tmp 158), type := 4, pos := "law.go:199", after := #[{ on := 6, ground := Ground.data }, { on := 14, ground := Ground.data }], guard := none }) (v := ?vv70_28_15) rfl (by kernel_rfl) (by kernel_rfl) (by kernel_rfl) (fun _ _ _ h => h) (Or.inl ⟨by rfl, ?yy70_28_15⟩) hHeld ?_
            case yy70_28_15 => (intro W hx; go_simp; try with_reducible rfl)
            simp only [Act.put, List.setIfInBounds_toArray, List.set_cons_zero, List.set_cons_succ]
            refine wpAnyH_done (by kernel_rfl) ?_ _
            have zend := zz3.trans hHeld
            go_wp2
            go_roundw
            case rel => exact ⟨k + 1, _, by go_num, by omega, L10.out.ext zend⟩
            case measure => simp [intOf]; omega
        · obtain ⟨s1, tb, hst⟩ : ∃ s1 tb, s.take y.f = (s1, tb) := ⟨_, _, rfl⟩
          have HST := Lib.hid hst
          have htx1 : s1.tx = s.tx := by have := take_tx s y.f; rw [hst] at this; exact this
          have b0 : (q == 0) = false := by simpa using h0
          have b1 : (q == 1) = false := by simpa using h1
          clear hst
          go_upto_region 12 with (first
            | refine wpList_load_mid rfl 37 _ rfl _ _ rfl y.f.vals _ (acAt ka) Try.underlying37 rfl size37 ?_
            | (go_at_call 18; (refine (take_q Q6.out hyo.2 HST.out).mono ?_); rintro e w8 ⟨rfl, Q8, hole8⟩))
          have ka8 := (hole8 _ (Nat.le_refl _) hsa).trans ka
          have k8 := (hole8 _ hs5 hsz).trans k6
          go_upto_region 13 with (go_at_call 22; (refine (over_q Q8).mono ?_); rintro e w9 ⟨rfl, Q9, hole9⟩)
          have ka9 := (hole9 _ (Nat.le_refl _) hsa).trans ka8
          have k9 := (hole9 _ hs5 hsz).trans k8
          clear c0
          have c0 : w9.cell? ⟨wr.heap.size, 0, none⟩ = some (.int .u8 y.kind) := by rw [cell_of_row _ _ _ _ _ _ ka9]; rfl
          by_cases h3 : q = 3
          · subst h3
            clear h0 h1
            go_upto_region 15 with (go_at_call 20; (refine (recv_q Q9).mono ?_); rintro e w10 ⟨rfl, Q10, hole10⟩)
            have k10 := (hole10 _ hs5 hsz).trans k9
            have htx : (BSt.recv { s1 with lost := false }).1.tx = s.tx := by simp [recv_tx, htx1]
            have hnx2 : (BSt.recv { s1 with lost := false }).1.next = (was, ok0) := by rw [next_tx htx]; exact HNX.out
            have HN2 := Lib.hid hnx2
            obtain ⟨rn, hrn⟩ : ∃ rn, rn = (BSt.recv { s1 with lost := false }).1.rx.length := ⟨_, rfl⟩
            have HRN := Lib.hid hrn
            have hr4 : (rn : Int) ≤ 4 := by have := Q10.toO.ok.nr; rw [hrn]; omega
            have wt : ∀ W, BxO w W 58 g (BSt.recv { s1 with lost := false }).1 → Calls Try.prog 26 #[.pointer (some ⟨g, 0, none⟩)] W fun e w' => e = .returned (.int .i64 s.tx.length) ∧ W = w' := fun W h => by rw [← htx]; exact wait_o h
            have tt : ∀ W, BxO w W 58 g (BSt.recv { s1 with lost := false }).1 → Calls Try.prog 27 #[.pointer (some ⟨g, 0, none⟩)] W fun e w' => e = .returned (.int .i64 rn) ∧ W = w' := fun W h => by rw [HRN.out]; exact taken_o h
            have WT := Lib.hid wt
            have TT := Lib.hid tt
            clear hnx2 hrn wt tt htx
            go_upto_region 16 with (first | (go_at_call 24; (refine (next_ov Q10.toO HN2.out).mono ?_); rintro e w11 ⟨rfl, L11, x11⟩) | refine wpList_stnew rfl 37 _ _ rfl rfl was.vals rfl rfl size37 rfl (fr_one was) ?_)
            obtain ⟨w12, hw12⟩ : ∃ V, V = w11.alloc (.cells was.vals.toArray 37) := ⟨_, rfl⟩
            have kn : w12.heap[w11.heap.size]? = some (.cells was.vals.toArray 37 (0, 0)) := by rw [hw12]; exact heap_alloc_new _ _
            have x12 : Ext w11 w12 := by rw [hw12]; exact (Ext.refl _).alloc _
            rw [← hw12]
            clear hw12
            have kw12 := ((x11.trans x12).block _ (blk_lt k10)).trans k10
            have L12 := Lib.hid (L11.ext x12)
            clear L11
            have hne : ∀ V, (binOp .neq 37 (.agg was.vals.toArray) (.agg was.vals.toArray)).run Try.prog V = .ok (.bool false) V := fun V => by rw [run_neF]; simp
            go_wp2_with (first
              | refine wpList_ldrow rfl 37 _ rfl kn rfl Try.underlying37 rfl size37 ?_
              | refine wpList_ldrow rfl 37 _ rfl kw12 rfl Try.underlying37 rfl size37 ?_
              | (go_at_call 26; (refine (WT.out _ L12.out).mono ?_); rintro e w' ⟨rfl, rfl⟩)
              | (go_at_call 27; (refine (TT.out _ L12.out).mono ?_); rintro e w' ⟨rfl, rfl⟩))
            go_roundw
            case rel => exact ⟨k + 1, _, by go_num, by omega, L12.out⟩
            case measure => simp [intOf]; omega
          · have b3 : (q == 3) = false := by simpa using h3
            clear h0 h1
            have htx : ({ s1 with lost := false } : BSt).tx = s.tx := by simp [htx1]
            have hnx2 : ({ s1 with lost := false } : BSt).next = (was, ok0) := by rw [next_tx htx]; exact HNX.out
            have HN2 := Lib.hid hnx2
            obtain ⟨rn, hrn⟩ : ∃ rn, rn = ({ s1 with lost := false } : BSt).rx.length := ⟨_, rfl⟩
            have HRN := Lib.hid hrn
            have hr4 : (rn : Int) ≤ 4 := by have := Q9.toO.ok.nr; rw [hrn]; omega
            have wt : ∀ W, BxO w W 58 g ({ s1 with lost := false } : BSt) → Calls Try.prog 26 #[.pointer (some ⟨g, 0, none⟩)] W fun e w' => e = .returned (.int .i64 s.tx.length) ∧ W = w' := fun W h => by rw [← htx]; exact wait_o h
            have tt : ∀ W, BxO w W 58 g ({ s1 with lost := false } : BSt) → Calls Try.prog 27 #[.pointer (some ⟨g, 0, none⟩)] W fun e w' => e = .returned (.int .i64 rn) ∧ W = w' := fun W h => by rw [HRN.out]; exact taken_o h
            have WT := Lib.hid wt
            have TT := Lib.hid tt
            clear hnx2 hrn wt tt htx
            go_upto_region 16 with (first | (go_at_call 24; (refine (next_ov Q9.toO HN2.out).mono ?_); rintro e w11 ⟨rfl, L11, x11⟩) | refine wpList_stnew rfl 37 _ _ rfl rfl was.vals rfl rfl size37 rfl (fr_one was) ?_)
            obtain ⟨w12, hw12⟩ : ∃ V, V = w11.alloc (.cells was.vals.toArray 37) := ⟨_, rfl⟩
            have kn : w12.heap[w11.heap.size]? = some (.cells was.vals.toArray 37 (0, 0)) := by rw [hw12]; exact heap_alloc_new _ _
            have x12 : Ext w11 w12 := by rw [hw12]; exact (Ext.refl _).alloc _
            rw [← hw12]
            clear hw12
            have kw12 := ((x11.trans x12).block _ (blk_lt k9)).trans k9
            have L12 := Lib.hid (L11.ext x12)
            clear L11
            have hne : ∀ V, (binOp .neq 37 (.agg was.vals.toArray) (.agg was.vals.toArray)).run Try.prog V = .ok (.bool false) V := fun V => by rw [run_neF]; simp
            go_wp2_with (first
              | refine wpList_ldrow rfl 37 _ rfl kn rfl Try.underlying37 rfl size37 ?_
              | refine wpList_ldrow rfl 37 _ rfl kw12 rfl Try.underlying37 rfl size37 ?_
              | (go_at_call 26; (refine (WT.out _ L12.out).mono ?_); rintro e w' ⟨rfl, rfl⟩)
              | (go_at_call 27; (refine (TT.out _ L12.out).mono ?_); rintro e w' ⟨rfl, rfl⟩))
            go_roundw
            case rel => exact ⟨k + 1, _, by go_num, by omega, L12.out⟩
            case measure => simp [intOf]; omega
    · obtain rfl : k = m := by omega
      have hn3 := L.ok.nt
      go_wp2_with (go_at_call 26; (refine (wait_o L).mono ?_); rintro e w7 ⟨rfl, rfl⟩)
      go_ret
      exact ⟨by simp; omega, L.x⟩
end Go.Proofs.Ytdikhpifamjalaa
