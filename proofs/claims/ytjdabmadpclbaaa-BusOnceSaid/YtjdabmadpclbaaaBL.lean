import Derived.Test.YtjdabmadpclbaaaBK
set_option linter.unusedVariables false
set_option linter.unusedSimpArgs false
namespace Go.Proofs.Ytjdabmadpclbaaa
open Go.RowKit
theorem a3At {w : World} {g : Nat} {y : A3} {t : TypeId} {fr : Nat × Nat} (h : w.heap[g]? = some (.cells y.vals.toArray t fr)) : w.rangeAt g 2 y.f.vals := fun j v hj => by
  rw [cell_of_row w g (2 + j) _ t fr h]
  simp only [A3.vals, List.getElem?_toArray]
  rw [show 2 + j = j + 1 + 1 by omega, List.getElem?_cons_succ, List.getElem?_cons_succ]
  exact hj
theorem size23 : (Try.prog.info? 23).map (·.size) = some 3 := by kernel_rfl
def of3 {α : Type} (a b c : α) (i : Nat) : α := match i with | 0 => a | 1 => b | _ => c
theorem all3 {p : Nat → Prop} (h0 : p 0) (h1 : p 1) (h2 : p 2) : ∀ i, i < 3 → p i := by
  intro i hi
  match i, hi with
  | 0, _ => exact h0
  | 1, _ => exact h1
  | 2, _ => exact h2
theorem tmod_nat {a : Int} {m : Nat} (h : 0 ≤ a) (hm : 0 < m) : ∃ k : Nat, a.tmod m = k ∧ k < m := by
  have t0 := Int.tmod_nonneg (m : Int) h
  have t1 := Int.tmod_lt_of_pos a (show (0 : Int) < m by omega)
  exact ⟨(a.tmod m).toNat, by omega, by omega⟩
set_option maxRecDepth 100000 in
set_option maxHeartbeats 16000000 in
theorem plays_law (w : World) (cs : Array Value) (fA : Nat → Option Addr) (fn fc : Nat → Nat) (fl : Nat → List Fi) (hcs : ∀ i, i < 3 → cs[i]? = some (.slice (fA i) (fn i) (fc i))) (hcz : cs.size = 3) (h1 : ∀ i, i < 3 → fn i ≤ fc i) (h2 : ∀ i, i < 3 → fc i ≤ maxLen) (hfl : ∀ i, i < 3 → fn i = (fl i).length)
    (shf : ∀ i, i < 3 → Shows w 3 (fA i) (fn i) (fis (fl i))) (okf : ∀ i, i < 3 → ∀ x ∈ fl i, x.ok) (A : Option Addr) (n c : Nat) (l : List A3) (hnc : n ≤ c) (hcm : c ≤ maxLen) (hnl : n = l.length) (sh : Shows w 13 A n (a3s l)) (ok : ∀ a ∈ l, a.ok) :
    Calls Try.prog 3 #[.agg cs, .slice A n c] w fun e w' => e = .returned (.bool true) ∧ Ext w w' := by
  have hfew := few_any A n c
  obtain ⟨m, hm0⟩ : ∃ m, m = min n 60 := ⟨_, rfl⟩
  have hmc : m ≤ c := by omega
  have hm100 : m ≤ 60 := by omega
  have sm := sh.take (k := m) (by omega)
  rw [a3s, flat_take a3_len] at sm
  have hml : m = (l.take m).length := by rw [List.length_take]; omega
  have hok : ∀ x ∈ l.take m, A3.ok x := fun x hx => ok x (List.mem_of_mem_take hx)
  rw [← hm0] at hfew
  have HFEW := Lib.hid (fun W => hfew W hnc hcm)
  have HNO := Lib.hid (fun W (x : Ext w W) => nodes_any (w := W) cs fA fn fc fl hcs h1 h2 hfl (fun i hi => (shf i hi).ext x) okf)
  clear hm0 sh ok hnl hnc hfew hcs h1 h2 hfl shf okf
  unfold maxLen at hcm
  generalize l.take m = ys at sm hml hok
  have HM := Lib.hid hml
  have HZ : Hid ((Try.prog.info? 23).map (·.size) = some cs.size) := Lib.hid (by rw [hcz]; exact size23)
  clear hml hcz
  obtain ⟨w1, hw1⟩ : ∃ V, V = w.alloc (.cells cs 23) := ⟨_, rfl⟩
  have k1 : w1.heap[w.heap.size]? = some (.cells cs 23 (0, 0)) := by rw [hw1]; exact heap_alloc_new _ _
  have x1 : Ext w w1 := by rw [hw1]; exact (Ext.refl _).alloc _
  go_enter Try.func3, Try.ntmps3
  go_upto_region 1 with (fail)
  change Code.wp _ _ _ _ (w.alloc (.cells cs 23))
  rw [← hw1]
  clear hw1
  go_upto_region 2 with (go_at_call 8; (refine (shown_any _).mono ?_); rintro e w2 ⟨rfl, x2⟩)
  have k2 := (x2.block _ (blk_lt k1)).trans k1
  have x02 := x1.trans x2
  go_upto_region 3 with (first
    | refine wpList_ldrow rfl 23 _ rfl k2 rfl Try.underlying23 rfl HZ.out ?_
    | (go_at_call 9; (refine (HNO.out _ x02).mono ?_); rintro e w3 ⟨va, vb, gs, hs, rfl, N3⟩))
  obtain ⟨aA, aC, rfl⟩ := own_slice N3.rowA
  obtain ⟨bA', bC', rfl⟩ := own_slice N3.rowB
  have HG9 : Hid (gs.length ≤ 100) := Lib.hid (by rw [N3.lenA, ssN_len]; omega)
  have HH9 : Hid (hs.length ≤ 100) := Lib.hid (by rw [N3.lenB, ssN_len]; omega)
  have HG3 : Hid (gs.length = 3) := Lib.hid (by rw [N3.lenA, ssN_len])
  have HH3 : Hid (hs.length = 3) := Lib.hid (by rw [N3.lenB, ssN_len])
  have N3 := Lib.hid N3
  generalize ssN fl 3 = ss0 at N3
  clear HNO HZ k1 k2
  go_wp2_with (go_at_call 10; (refine (HFEW.out _).mono ?_); rintro e w5 ⟨rfl, rfl⟩)
  go_loopg [30] m (fun gk i wr => ∃ (k : Nat) (ss : List BSt), i = .int .i64 k ∧ k ≤ m ∧ gk = m - k ∧ NN w2 0 0 wr aA aC bA' bC' gs hs ss ss)
  case atStart => exact ⟨0, _, rfl, by omega, by omega, N3.out⟩
  case round =>
    clear N3
    obtain ⟨k, ss, rfl, hk, rfl, hN⟩ := hrel
    by_cases hlt : k < m
    · have hkm : (k : Int) < m := by omega
      have hy : ys[k]? = some _ := List.getElem?_eq_getElem (by have := HM.out; omega)
      have hyo := hok _ (List.mem_of_getElem? hy)
      generalize ys[k] = y at hy hyo
      obtain ⟨b, o, rfl, hb, hr⟩ := Shows.row a3_len (by omega) (sm.ext (x02.trans hN.x)) HM.out hy
      obtain ⟨hyk, hyw, hyf⟩ := hyo
      have hrA : ∀ r, wr.heap.size ≤ r → Value.ownBlock (.slice aA gs.length aC) ≠ some r := fun r h e => by have := own_lt hN.rowA e; omega
      have hrB : ∀ r, wr.heap.size ≤ r → Value.ownBlock (.slice bA' hs.length bC') ≠ some r := fun r h e => by have := own_lt hN.rowB e; omega
      have hlg := hN.lenA
      have HLG := Lib.hid hlg
      have hb0 := hN.x.size
      have HN := Lib.hid hN
      obtain ⟨pl, f, fd, hp⟩ : ∃ pl f fd, pick ss = (pl, f, fd) := ⟨_, _, _, rfl⟩
      have HP := Lib.hid hp
      clear hy hN hp hlg
      go_upto_region 6 with (first | refine wpList_load_mid rfl 36 _ rfl _ _ rfl y.vals _ hr Try.underlying36 rfl size36 ?_ | refine wpList_stnew rfl 36 _ _ rfl rfl y.vals rfl rfl size36 rfl (a3_one y) ?_)
      obtain ⟨w4, hw4⟩ : ∃ V, V = wr.alloc (.cells y.vals.toArray 36) := ⟨_, rfl⟩
      have k4 : w4.heap[wr.heap.size]? = some (.cells y.vals.toArray 36 (0, 0)) := by rw [hw4]; exact heap_alloc_new _ _
      have x4 : Ext wr w4 := by rw [hw4]; exact (Ext.refl _).alloc _
      rw [← hw4]
      clear hw4 hr
      go_upto_region 7 with (first
        | (go_at_call 11; (refine (first_n (HN.out.ext x4) HG9.out HP.out).mono ?_); rintro e w5 ⟨rfl, x5⟩)
        | refine wpList_stnew rfl 34 _ _ rfl rfl f.vals rfl rfl size37 rfl (fr_one f) ?_)
      obtain ⟨w6, hw6⟩ : ∃ V, V = w5.alloc (.cells f.vals.toArray 34) := ⟨_, rfl⟩
      have k6 : w6.heap[w5.heap.size]? = some (.cells f.vals.toArray 34 (0, 0)) := by rw [hw6]; exact heap_alloc_new _ _
      have x6 : Ext w5 w6 := by rw [hw6]; exact (Ext.refl _).alloc _
      rw [← hw6]
      clear hw6
      have x46 := x4.trans (x5.trans x6)
      go_upto_region 8 with (first
        | (go_at_call 12; (refine (rfirst_n (HN.out.ext x46) HH9.out HP.out).mono ?_); rintro e w7 ⟨rfl, x7⟩)
        | refine wpList_stnew rfl 34 _ _ rfl rfl f.vals rfl rfl size37 rfl (fr_one f) ?_)
      obtain ⟨w8, hw8⟩ : ∃ V, V = w7.alloc (.cells f.vals.toArray 34) := ⟨_, rfl⟩
      have k14 : w8.heap[w7.heap.size]? = some (.cells f.vals.toArray 34 (0, 0)) := by rw [hw8]; exact heap_alloc_new _ _
      have x8 : Ext w7 w8 := by rw [hw8]; exact (Ext.refl _).alloc _
      rw [← hw8]
      clear hw8
      have k11 := ((x7.trans x8).block _ (blk_lt k6)).trans k6
      have k48 := (((x5.trans x6).trans (x7.trans x8)).block _ (blk_lt k4)).trans k4
      have N8 := Lib.hid (HN.out.hole (x46.trans (x7.trans x8)))
      have h11a : wr.heap.size ≤ w5.heap.size := (x4.trans x5).size
      have h11b : w5.heap.size < w8.heap.size := blk_lt k11
      have h14a : wr.heap.size ≤ w7.heap.size := (x46.trans x7).size
      have h14b : w7.heap.size < w8.heap.size := blk_lt k14
      have h4b : wr.heap.size < w8.heap.size := blk_lt k48
      have h4c : wr.heap.size < w5.heap.size := Nat.lt_of_lt_of_le (blk_lt k4) x5.size
      have h57 : w5.heap.size < w7.heap.size := Nat.lt_of_lt_of_le (blk_lt k6) x7.size
      have h110 : w2.heap.size ≤ w5.heap.size := Nat.le_trans hb0 h11a
      have h140 : w2.heap.size ≤ w7.heap.size := Nat.le_trans hb0 h14a
      replace k4 := k48
      clear k48 k6 x4 x5 x6 x46 x7 x8 HN
      have hne : ∀ V, (binOp .neq 34 (.agg f.vals.toArray) (.agg f.vals.toArray)).run Try.prog V = .ok (.bool false) V := fun V => by rw [run_neF]; simp
      go_upto_region 10 with (first
        | refine wpList_ldrowG rfl 34 _ rfl k11 rfl Try.underlying34 rfl size37 ?_
        | refine wpList_ldrowG rfl 34 _ rfl k14 rfl Try.underlying34 rfl size37 ?_)
      have c0 : w8.cell? ⟨wr.heap.size, 0, none⟩ = some (.int .u8 y.kind) := by rw [cell_of_row _ _ _ _ _ _ k4]; rfl
      obtain ⟨q, hq⟩ : ∃ q, y.kind.tmod 4 = q := ⟨_, rfl⟩
      by_cases q0 : q = 0
      · subst q0
        obtain ⟨wi, hwi, hw3⟩ := tmod_nat (m := 3) hyw.1 (by omega)
        obtain ⟨g, hg⟩ : ∃ g, gs[wi]? = some g := ⟨_, List.getElem?_eq_getElem (show wi < gs.length by rw [HG3.out]; exact hw3)⟩
        obtain ⟨h, hh⟩ : ∃ g, hs[wi]? = some g := ⟨_, List.getElem?_eq_getElem (show wi < hs.length by rw [HH3.out]; exact hw3)⟩
        obtain ⟨s, hsx⟩ : ∃ g, ss[wi]? = some g := ⟨_, List.getElem?_eq_getElem (show wi < ss.length by rw [← HLG.out, HG3.out]; exact hw3)⟩
        have hwg : (wi : Int) < gs.length := by rw [HG3.out]; omega
        have hwh : (wi : Int) < hs.length := by rw [HH3.out]; omega
        have hw0 : (0 : Int) ≤ wi := by omega
        obtain ⟨s', er, hsd⟩ : ∃ s' er, s.send y.f = (s', er) := ⟨_, _, rfl⟩
        obtain ⟨bA, oA, rfl, hbA, hcA⟩ := ptr_cell (NN.shA N8.out) rfl hg
        obtain ⟨bB, oB, rfl, hbB, hcB⟩ := ptr_cell (NN.shB N8.out) rfl hh
        have HG := Lib.hid hg
        have HH := Lib.hid hh
        have HS := Lib.hid hsx
        have HSD := Lib.hid hsd
        have hwi' : y.who.tmod 3 = wi := hwi
        clear hg hh hsx hsd hwi
        go_upto_region 12 with (fail)
        refine wp_region_held_drew (S := fun W => W.heap[wr.heap.size]? = some (.cells y.vals.toArray 36 (0, 0)) ∧ W.cell? ⟨bA, oA + wi, none⟩ = some (ptr g) ∧ W.cell? ⟨bB, oB + wi, none⟩ = some (ptr h)) (by kernel_rfl) (⟨(((Ext.refl w8).drew).block _ h4b).trans k4, (Below.cell ((Ext.refl w8).drew) (p := ⟨bA, oA + wi, none⟩) hbA).trans hcA, (Below.cell ((Ext.refl w8).drew) (p := ⟨bB, oB + wi, none⟩) hbB).trans hcB⟩) (fun hHeld => ?_)
        obtain ⟨wD1, hwD⟩ : ∃ V, V = World.drew w8 := ⟨_, rfl⟩
        rw [← hwD] at hHeld ⊢
        have zz0 : Ext w8 wD1 := by rw [hwD]; exact (Ext.refl _).drew
        clear hwD
        have PD := N8.out.ext zz0
        refine wpAnyH_take (i := 0) (oi := { dst := some 64, op := Op.move (Operand.tmp 6), type := 26, pos := "law.go:60", after := #[], guard := none }) (v := ?vv2_12_0) rfl (by kernel_rfl) (by kernel_rfl) (by kernel_rfl) (fun _ _ _ h => h) (Or.inl ⟨by rfl, ?yy2_12_0⟩) hHeld ?_
        case yy2_12_0 => (intro W hx; go_simp; try with_reducible rfl)
        simp only [Act.put, List.setIfInBounds_toArray, List.set_cons_zero, List.set_cons_succ]
        refine wpAnyH_take (i := 1) (oi := { dst := some 65, op := Op.fieldAddr 36 (Operand.tmp 9) 1, type := 0, pos := "law.go:60", after := #[], guard := none }) (v := ?vv3_12_1) rfl (by kernel_rfl) (by kernel_rfl) (by kernel_rfl) (fun _ _ _ h => h) (Or.inl ⟨by rfl, ?yy3_12_1⟩) hHeld ?_
        case yy3_12_1 => (intro W hx; go_simp; try with_reducible rfl)
        simp only [Act.put, List.setIfInBounds_toArray, List.set_cons_zero, List.set_cons_succ]
        refine wpAnyH_take (i := 2) (oi := { dst := some 66, op := Op.load 5 (Operand.tmp 65), type := 5, pos := "law.go:60", after := #[{ on := 1, ground := Ground.data }], guard := none }) (v := ?vv4_12_2) rfl (by kernel_rfl) (by kernel_rfl) (by kernel_rfl) (fun _ _ _ h => h) (Or.inl ⟨by rfl, ?yy4_12_2⟩) hHeld ?_
        case yy4_12_2 => (intro W hx; have q9 : W.cell? ⟨wr.heap.size, 1, none⟩ = some (.int .u8 y.who) := (by rw [cell_of_row _ _ _ _ _ _ hx.1]; rfl); go_simp; try with_reducible rfl)
        simp only [Act.put, List.setIfInBounds_toArray, List.set_cons_zero, List.set_cons_succ]
        refine wpAnyH_take (i := 3) (oi := { dst := some 67, op := Op.binOp BinOp.rem 5 (Operand.tmp 66) (Operand.const (Value.int IntKind.u8 3)) 5, type := 5, pos := "law.go:60", after := #[{ on := 2, ground := Ground.data }], guard := none }) (v := ?vv5_12_3) rfl (by kernel_rfl) (by kernel_rfl) (by kernel_rfl) (fun _ _ _ h => h) (Or.inl ⟨by rfl, ?yy5_12_3⟩) hHeld ?_
        case yy5_12_3 => (intro W hx; go_simp; try with_reducible rfl)
        simp only [Act.put, List.setIfInBounds_toArray, List.set_cons_zero, List.set_cons_succ]
        refine wpAnyH_take (i := 4) (oi := { dst := some 68, op := Op.indexAddr 26 (Operand.tmp 64) (Operand.tmp 67), type := 0, pos := "law.go:60", after := #[{ on := 0, ground := Ground.data }, { on := 3, ground := Ground.data }], guard := none }) (v := ?vv6_12_4) rfl (by kernel_rfl) (by kernel_rfl) (by kernel_rfl) (fun _ _ _ h => h) (Or.inl ⟨by rfl, ?yy6_12_4⟩) hHeld ?_
        case yy6_12_4 => (intro W hx; go_simp; try with_reducible rfl)
        simp only [Act.put, List.setIfInBounds_toArray, List.set_cons_zero, List.set_cons_succ]
        refine wpAnyH_take (i := 5) (oi := { dst := some 69, op := Op.load 41 (Operand.tmp 68), type := 41, pos := "law.go:60", after := #[{ on := 4, ground := Ground.data }], guard := none }) (v := ?vv7_12_5) rfl (by kernel_rfl) (by kernel_rfl) (by kernel_rfl) (fun _ _ _ h => h) (Or.inl ⟨by rfl, ?yy7_12_5⟩) hHeld ?_
        case yy7_12_5 => (intro W hx; have q9 := hx.2.1; go_simp; try with_reducible rfl)
        simp only [Act.put, List.setIfInBounds_toArray, List.set_cons_zero, List.set_cons_succ]
        refine wpAnyH_take (i := 6) (oi := { dst := some 70, op := Op.fieldAddr 36 (Operand.tmp 9) 2, type := 0, pos := "law.go:60", after := #[], guard := none }) (v := ?vv8_12_6) rfl (by kernel_rfl) (by kernel_rfl) (by kernel_rfl) (fun _ _ _ h => h) (Or.inl ⟨by rfl, ?yy8_12_6⟩) hHeld ?_
        case yy8_12_6 => (intro W hx; go_simp; try with_reducible rfl)
        simp only [Act.put, List.setIfInBounds_toArray, List.set_cons_zero, List.set_cons_succ]
        refine wpAnyH_take (i := 7) (oi := { dst := some 71, op := Op.load 34 (Operand.tmp 70), type := 34, pos := "law.go:60", after := #[{ on := 6, ground := Ground.data }], guard := none }) (v := ?vv9_12_7) rfl (by kernel_rfl) (by kernel_rfl) (by kernel_rfl) (fun _ _ _ h => h) (Or.inl ⟨by rfl, ?yy9_12_7⟩) hHeld ?_
        case yy9_12_7 => (intro W hx; refine ld_op (a3At hx.1) ?_; rfl)
        simp only [Act.put, List.setIfInBounds_toArray, List.set_cons_zero, List.set_cons_succ]
        refine wpAnyH_take (i := 9) (oi := { dst := some 73, op := Op.move (Operand.tmp 7), type := 27, pos := "law.go:60", after := #[], guard := none }) (v := ?vv10_12_9) rfl (by kernel_rfl) (by kernel_rfl) (by kernel_rfl) (fun _ _ _ h => h) (Or.inl ⟨by rfl, ?yy10_12_9⟩) hHeld ?_
        case yy10_12_9 => (intro W hx; go_simp; try with_reducible rfl)
        simp only [Act.put, List.setIfInBounds_toArray, List.set_cons_zero, List.set_cons_succ]
        refine wpAnyH_take (i := 10) (oi := { dst := some 74, op := Op.fieldAddr 36 (Operand.tmp 9) 1, type := 0, pos := "law.go:60", after := #[], guard := none }) (v := ?vv11_12_10) rfl (by kernel_rfl) (by kernel_rfl) (by kernel_rfl) (fun _ _ _ h => h) (Or.inl ⟨by rfl, ?yy11_12_10⟩) hHeld ?_
        case yy11_12_10 => (intro W hx; go_simp; try with_reducible rfl)
        simp only [Act.put, List.setIfInBounds_toArray, List.set_cons_zero, List.set_cons_succ]
        refine wpAnyH_take (i := 11) (oi := { dst := some 75, op := Op.load 5 (Operand.tmp 74), type := 5, pos := "law.go:60", after := #[{ on := 10, ground := Ground.data }], guard := none }) (v := ?vv12_12_11) rfl (by kernel_rfl) (by kernel_rfl) (by kernel_rfl) (fun _ _ _ h => h) (Or.inl ⟨by rfl, ?yy12_12_11⟩) hHeld ?_
        case yy12_12_11 => (intro W hx; have q9 : W.cell? ⟨wr.heap.size, 1, none⟩ = some (.int .u8 y.who) := (by rw [cell_of_row _ _ _ _ _ _ hx.1]; rfl); go_simp; try with_reducible rfl)
        simp only [Act.put, List.setIfInBounds_toArray, List.set_cons_zero, List.set_cons_succ]
        refine wpAnyH_take (i := 12) (oi := { dst := some 76, op := Op.binOp BinOp.rem 5 (Operand.tmp 75) (Operand.const (Value.int IntKind.u8 3)) 5, type := 5, pos := "law.go:60", after := #[{ on := 11, ground := Ground.data }], guard := none }) (v := ?vv13_12_12) rfl (by kernel_rfl) (by kernel_rfl) (by kernel_rfl) (fun _ _ _ h => h) (Or.inl ⟨by rfl, ?yy13_12_12⟩) hHeld ?_
        case yy13_12_12 => (intro W hx; go_simp; try with_reducible rfl)
        simp only [Act.put, List.setIfInBounds_toArray, List.set_cons_zero, List.set_cons_succ]
        refine wpAnyH_take (i := 13) (oi := { dst := some 77, op := Op.indexAddr 27 (Operand.tmp 73) (Operand.tmp 76), type := 0, pos := "law.go:60", after := #[{ on := 9, ground := Ground.data }, { on := 12, ground := Ground.data }], guard := none }) (v := ?vv14_12_13) rfl (by kernel_rfl) (by kernel_rfl) (by kernel_rfl) (fun _ _ _ h => h) (Or.inl ⟨by rfl, ?yy14_12_13⟩) hHeld ?_
        case yy14_12_13 => (intro W hx; go_simp; try with_reducible rfl)
        simp only [Act.put, List.setIfInBounds_toArray, List.set_cons_zero, List.set_cons_succ]
        refine wpAnyH_take (i := 14) (oi := { dst := some 78, op := Op.load 43 (Operand.tmp 77), type := 43, pos := "law.go:60", after := #[{ on := 13, ground := Ground.data }], guard := none }) (v := ?vv15_12_14) rfl (by kernel_rfl) (by kernel_rfl) (by kernel_rfl) (fun _ _ _ h => h) (Or.inl ⟨by rfl, ?yy15_12_14⟩) hHeld ?_
        case yy15_12_14 => (intro W hx; have q9 := hx.2.2; go_simp; try with_reducible rfl)
        simp only [Act.put, List.setIfInBounds_toArray, List.set_cons_zero, List.set_cons_succ]
        refine wpAnyH_take (i := 15) (oi := { dst := some 79, op := Op.fieldAddr 36 (Operand.tmp 9) 2, type := 0, pos := "law.go:60", after := #[], guard := none }) (v := ?vv16_12_15) rfl (by kernel_rfl) (by kernel_rfl) (by kernel_rfl) (fun _ _ _ h => h) (Or.inl ⟨by rfl, ?yy16_12_15⟩) hHeld ?_
        case yy16_12_15 => (intro W hx; go_simp; try with_reducible rfl)
        simp only [Act.put, List.setIfInBounds_toArray, List.set_cons_zero, List.set_cons_succ]
        refine wpAnyH_take (i := 16) (oi := { dst := some 80, op := Op.load 34 (Operand.tmp 79), type := 34, pos := "law.go:60", after := #[{ on := 15, ground := Ground.data }], guard := none }) (v := ?vv17_12_16) rfl (by kernel_rfl) (by kernel_rfl) (by kernel_rfl) (fun _ _ _ h => h) (Or.inl ⟨by rfl, ?yy17_12_16⟩) hHeld ?_
        case yy17_12_16 => (intro W hx; refine ld_op (a3At hx.1) ?_; rfl)
        simp only [Act.put, List.setIfInBounds_toArray, List.set_cons_zero, List.set_cons_succ]
        refine wpAnyH_ready (rs := [8]) (by kernel_rfl) (by simp) (AllReadyH.cons rfl (fun K hK => ?_) AllReadyH.nil)
        go_simp
        go_wp2_with (go_at_call 13; (refine (send_n PD HG.out HS.out hyf HSD.out).mono ?_); rintro e w9 ⟨rfl, N9, hole9⟩)
        refine hK.out _ _ (⟨(hole9 _ (Nat.le_refl _) h4b).trans hHeld.1, ptr_cell' N9.shA rfl HG.out, ptr_cell' N9.shB rfl HH.out⟩) (fun hHeld => ?_)
        clear hK K
        refine wpAnyH_ready (rs := [17]) (by kernel_rfl) (by simp) (AllReadyH.cons rfl (fun K hK => ?_) AllReadyH.nil)
        go_simp
        go_wp2_with (go_at_call 14; (refine (rsend_n N9 HH.out HS.out hyf HSD.out).mono ?_); rintro e w10 ⟨rfl, N10, hole10⟩)
        refine hK.out _ _ (⟨(hole10 _ (Nat.le_refl _) h4b).trans hHeld.1, ptr_cell' N10.shA rfl HG.out, ptr_cell' N10.shB rfl HH.out⟩) (fun hHeld => ?_)
        clear hK K
        refine wpAnyH_take (i := 18) (oi := { dst := some 82, op := Op.binOp BinOp.neq 40 (Operand.tmp 72) (Operand.tmp 81) 40, type := 4, pos := "law.go:60", after := #[{ on := 8, ground := Ground.data }, { on := 17, ground := Ground.data }], guard := none }) (v := ?vv18_12_18) rfl (by kernel_rfl) (by kernel_rfl) (by kernel_rfl) (fun _ _ _ h => h) (Or.inl ⟨by rfl, ?yy18_12_18⟩) hHeld ?_
        case yy18_12_18 => (intro W hx; go_simp; try with_reducible rfl)
        simp only [Act.put, List.setIfInBounds_toArray, List.set_cons_zero, List.set_cons_succ]
        refine wpAnyH_done (by kernel_rfl) ?_ _
        have NX := Lib.hid N10.no
        clear N9 N10 PD hole9 hole10 hHeld
        go_wp2
        go_roundg (m - (k + 1))
        case measure => omega
        case rel => exact ⟨k + 1, ss.set wi s', by go_num, by omega, rfl, NX.out⟩
      · have b0 : (q == 0) = false := by simpa using q0
        by_cases q1 : q = 1
        · subst q1
          clear q0
          obtain ⟨ss', hss'⟩ : ∃ ss', turnL false ss = ss' := ⟨_, rfl⟩
          have HT := Lib.hid hss'
          clear hss'
          go_upto_region 17 with (first
            | (refine wpList_strow rfl 34 _ _ rfl k11b rfl rfl size37 rfl (all_oneCell_toArray (fr_one f)) ?_; intro w10 k11c x10)
            | (go_at_call 15; (refine (turn_n false N8.out HG9.out HP.out HT.out).mono ?_); rintro e w9 ⟨rfl, N9, hole9⟩; have k11b := (hole9 _ h11a h11b).trans k11))
          have k4b := grown_lt ((hole9 _ (Nat.le_refl _) h4b).trans k4) x10 (fun e => by injection e with e; omega)
          have k14b := grown_lt ((hole9 _ h14a h14b).trans k14) x10 (fun e => by injection e with e; omega)
          have N10 := Lib.hid (N9.poke h11a h11b h110 (hrA _ h11a) (hrB _ h11a) x10)
          clear N9 hole9 x10 c0
          have c0 : w10.cell? ⟨wr.heap.size, 0, none⟩ = some (.int .u8 y.kind) := by rw [cell_of_row _ _ _ _ _ _ k4b]; rfl
          go_upto_region 18 with (first
            | (refine wpList_strow rfl 34 _ _ rfl k14c rfl rfl size37 rfl (all_oneCell_toArray (fr_one f)) ?_; intro w12 k14d x12)
            | (go_at_call 16; (refine (rturn_n false N10.out HH9.out HP.out HT.out).mono ?_); rintro e w11 ⟨rfl, N11, hole11⟩; have k14c := (hole11 _ h14a h14b).trans k14b))
          have k11d := grown_lt ((hole11 _ h11a h11b).trans k11c.out) x12 (fun e => by injection e with e; omega)
          have N12 := Lib.hid (N11.poke h14a h14b h140 (hrA _ h14a) (hrB _ h14a) x12).no
          have k14e := k14d.out
          clear N11 hole11 x12 c0
          go_wp2_with (first
            | refine wpList_ldrowG rfl 34 _ rfl k11d rfl Try.underlying34 rfl size37 ?_
            | refine wpList_ldrowG rfl 34 _ rfl k14e rfl Try.underlying34 rfl size37 ?_)
          go_roundg (m - (k + 1))
          case measure => omega
          case rel => exact ⟨k + 1, ss', by go_num, by omega, rfl, N12.out⟩
        · have b1 : (q == 1) = false := by simpa using q1
          by_cases q2 : q = 2
          · subst q2
            clear q0 q1
            obtain ⟨ss', hss'⟩ : ∃ ss', turnL true ss = ss' := ⟨_, rfl⟩
            have HT := Lib.hid hss'
            clear hss'
            go_upto_region 17 with (first
              | (refine wpList_strow rfl 34 _ _ rfl k11b rfl rfl size37 rfl (all_oneCell_toArray (fr_one f)) ?_; intro w10 k11c x10)
              | (go_at_call 15; (refine (turn_n true N8.out HG9.out HP.out HT.out).mono ?_); rintro e w9 ⟨rfl, N9, hole9⟩; have k11b := (hole9 _ h11a h11b).trans k11))
            have k4b := grown_lt ((hole9 _ (Nat.le_refl _) h4b).trans k4) x10 (fun e => by injection e with e; omega)
            have k14b := grown_lt ((hole9 _ h14a h14b).trans k14) x10 (fun e => by injection e with e; omega)
            have N10 := Lib.hid (N9.poke h11a h11b h110 (hrA _ h11a) (hrB _ h11a) x10)
            clear N9 hole9 x10 c0
            have c0 : w10.cell? ⟨wr.heap.size, 0, none⟩ = some (.int .u8 y.kind) := by rw [cell_of_row _ _ _ _ _ _ k4b]; rfl
            go_upto_region 18 with (first
              | (refine wpList_strow rfl 34 _ _ rfl k14c rfl rfl size37 rfl (all_oneCell_toArray (fr_one f)) ?_; intro w12 k14d x12)
              | (go_at_call 16; (refine (rturn_n true N10.out HH9.out HP.out HT.out).mono ?_); rintro e w11 ⟨rfl, N11, hole11⟩; have k14c := (hole11 _ h14a h14b).trans k14b))
            have k11d := grown_lt ((hole11 _ h11a h11b).trans k11c.out) x12 (fun e => by injection e with e; omega)
            have N12 := Lib.hid (N11.poke h14a h14b h140 (hrA _ h14a) (hrB _ h14a) x12).no
            have k14e := k14d.out
            clear N11 hole11 x12 c0
            go_wp2_with (first
              | refine wpList_ldrowG rfl 34 _ rfl k11d rfl Try.underlying34 rfl size37 ?_
              | refine wpList_ldrowG rfl 34 _ rfl k14e rfl Try.underlying34 rfl size37 ?_)
            go_roundg (m - (k + 1))
            case measure => omega
            case rel => exact ⟨k + 1, ss', by go_num, by omega, rfl, N12.out⟩
          · have b2 : (q == 2) = false := by simpa using q2
            by_cases q3 : q = 3
            · subst q3
              clear q0 q1 q2
              obtain ⟨ss', pm, hpn⟩ : ∃ ss' pm, putN y.f 0 gs.length ss = (ss', pm) := ⟨_, _, rfl⟩
              have hpn2 : putN y.f 0 hs.length ss = (ss', pm) := by rw [HH3.out, ← HG3.out]; exact hpn
              have HP1 := Lib.hid hpn
              have HP2 := Lib.hid hpn2
              clear hpn hpn2
              go_upto_region 21 with (fail)
              refine wp_region_held_drew (S := fun W => W.heap[wr.heap.size]? = some (.cells y.vals.toArray 36 (0, 0))) (by kernel_rfl) ((((Ext.refl w8).drew).block _ h4b).trans k4) (fun hHeld => ?_)
              obtain ⟨wD19, hwD⟩ : ∃ V, V = World.drew w8 := ⟨_, rfl⟩
              rw [← hwD] at hHeld ⊢
              have zz0 : Ext w8 wD19 := by rw [hwD]; exact (Ext.refl _).drew
              clear hwD
              have PD := N8.out.ext zz0
              refine wpAnyH_take (i := 0) (oi := { dst := some 121, op := Op.fieldAddr 36 (Operand.tmp 9) 2, type := 0, pos := "law.go:70", after := #[], guard := none }) (v := ?vv20_21_0) rfl (by kernel_rfl) (by kernel_rfl) (by kernel_rfl) (fun _ _ _ h => h) (Or.inl ⟨by rfl, ?yy20_21_0⟩) hHeld ?_
              case yy20_21_0 => (intro W hx; go_simp; try with_reducible rfl)
              simp only [Act.put, List.setIfInBounds_toArray, List.set_cons_zero, List.set_cons_succ]
              refine wpAnyH_take (i := 1) (oi := { dst := some 122, op := Op.load 34 (Operand.tmp 121), type := 34, pos := "law.go:70", after := #[{ on := 0, ground := Ground.data }], guard := none }) (v := ?vv21_21_1) rfl (by kernel_rfl) (by kernel_rfl) (by kernel_rfl) (fun _ _ _ h => h) (Or.inl ⟨by rfl, ?yy21_21_1⟩) hHeld ?_
              case yy21_21_1 => (intro W hx; refine ld_op (a3At hx) ?_; rfl)
              simp only [Act.put, List.setIfInBounds_toArray, List.set_cons_zero, List.set_cons_succ]
              refine wpAnyH_take (i := 2) (oi := { dst := some 123, op := Op.move (Operand.tmp 6), type := 26, pos := "law.go:70", after := #[], guard := none }) (v := ?vv22_21_2) rfl (by kernel_rfl) (by kernel_rfl) (by kernel_rfl) (fun _ _ _ h => h) (Or.inl ⟨by rfl, ?yy22_21_2⟩) hHeld ?_
              case yy22_21_2 => (intro W hx; go_simp; try with_reducible rfl)
              simp only [Act.put, List.setIfInBounds_toArray, List.set_cons_zero, List.set_cons_succ]
              refine wpAnyH_take (i := 4) (oi := { dst := some 125, op := Op.fieldAddr 36 (Operand.tmp 9) 2, type := 0, pos := "law.go:70", after := #[], guard := none }) (v := ?vv23_21_4) rfl (by kernel_rfl) (by kernel_rfl) (by kernel_rfl) (fun _ _ _ h => h) (Or.inl ⟨by rfl, ?yy23_21_4⟩) hHeld ?_
              case yy23_21_4 => (intro W hx; go_simp; try with_reducible rfl)
              simp only [Act.put, List.setIfInBounds_toArray, List.set_cons_zero, List.set_cons_succ]
              refine wpAnyH_take (i := 5) (oi := { dst := some 126, op := Op.load 34 (Operand.tmp 125), type := 34, pos := "law.go:70", after := #[{ on := 4, ground := Ground.data }], guard := none }) (v := ?vv24_21_5) rfl (by kernel_rfl) (by kernel_rfl) (by kernel_rfl) (fun _ _ _ h => h) (Or.inl ⟨by rfl, ?yy24_21_5⟩) hHeld ?_
              case yy24_21_5 => (intro W hx; refine ld_op (a3At hx) ?_; rfl)
              simp only [Act.put, List.setIfInBounds_toArray, List.set_cons_zero, List.set_cons_succ]
              refine wpAnyH_take (i := 6) (oi := { dst := some 127, op := Op.move (Operand.tmp 7), type := 27, pos := "law.go:70", after := #[], guard := none }) (v := ?vv25_21_6) rfl (by kernel_rfl) (by kernel_rfl) (by kernel_rfl) (fun _ _ _ h => h) (Or.inl ⟨by rfl, ?yy25_21_6⟩) hHeld ?_
              case yy25_21_6 => (intro W hx; go_simp; try with_reducible rfl)
              simp only [Act.put, List.setIfInBounds_toArray, List.set_cons_zero, List.set_cons_succ]
              refine wpAnyH_ready (rs := [3]) (by kernel_rfl) (by simp) (AllReadyH.cons rfl (fun K hK => ?_) AllReadyH.nil)
              go_simp
              go_wp2_with (go_at_call 17; (refine (put_n PD HG9.out hyf HP1.out).mono ?_); rintro e w9 ⟨rfl, N9, hole9⟩)
              refine hK.out _ _ ((hole9 _ (Nat.le_refl _) h4b).trans hHeld) (fun hHeld => ?_)
              clear hK K
              refine wpAnyH_ready (rs := [7]) (by kernel_rfl) (by simp) (AllReadyH.cons rfl (fun K hK => ?_) AllReadyH.nil)
              go_simp
              go_wp2_with (go_at_call 18; (refine (rput_n N9 HH9.out hyf HP2.out).mono ?_); rintro e w10 ⟨rfl, N10, hole10⟩)
              refine hK.out _ _ ((hole10 _ (Nat.le_refl _) h4b).trans hHeld) (fun hHeld => ?_)
              clear hK K
              refine wpAnyH_take (i := 8) (oi := { dst := some 129, op := Op.binOp BinOp.neq 3 (Operand.tmp 124) (Operand.tmp 128) 3, type := 4, pos := "law.go:70", after := #[{ on := 3, ground := Ground.data }, { on := 7, ground := Ground.data }], guard := none }) (v := ?vv26_21_8) rfl (by kernel_rfl) (by kernel_rfl) (by kernel_rfl) (fun _ _ _ h => h) (Or.inl ⟨by rfl, ?yy26_21_8⟩) hHeld ?_
              case yy26_21_8 => (intro W hx; go_simp; try with_reducible rfl)
              simp only [Act.put, List.setIfInBounds_toArray, List.set_cons_zero, List.set_cons_succ]
              refine wpAnyH_done (by kernel_rfl) ?_ _
              have NX := Lib.hid N10.no
              clear N9 N10 PD hole9 hole10 hHeld
              go_wp2
              go_roundg (m - (k + 1))
              case measure => omega
              case rel => exact ⟨k + 1, ss', by go_num, by omega, rfl, NX.out⟩
            · have b3 : (q == 3) = false := by simpa using q3
              clear q0 q1 q2 q3
              go_wp2
              go_roundg (m - (k + 1))
              case measure => omega
              case rel => exact ⟨k + 1, ss, by go_num, by omega, rfl, N8.out.no⟩
    · obtain rfl : k = m := by omega
      have HN := Lib.hid hN
      clear hN
      go_wp2
      go_loopg [133] 3 (fun gk i wr2 => ∃ (k : Nat) (ss ts : List BSt), i = .int .i64 k ∧ k ≤ 3 ∧ gk = 3 - k ∧ NN w2 0 0 wr2 aA aC bA' bC' gs hs ss ts ∧ ∀ j, k ≤ j → ss[j]? = ts[j]?)
      case atStart => exact ⟨0, ss, ss, rfl, by omega, rfl, HN.out, fun _ _ => rfl⟩
      case round =>
        clear HN
        obtain ⟨k2, s2, t2, rfl, hk2, rfl, hN, heq⟩ := hrel
        obtain ⟨wr2, rfl⟩ : ∃ z : World, z = wr := ⟨_, rfl⟩
        by_cases hlt2 : k2 < 3
        · have hkg : (k2 : Int) < gs.length := by rw [HG3.out]; omega
          have hkh : (k2 : Int) < hs.length := by rw [HH3.out]; omega
          have hk0 : (0 : Int) ≤ k2 := by omega
          obtain ⟨g, hg⟩ : ∃ g, gs[k2]? = some g := ⟨_, List.getElem?_eq_getElem (show k2 < gs.length by rw [HG3.out]; exact hlt2)⟩
          obtain ⟨h, hh⟩ : ∃ g, hs[k2]? = some g := ⟨_, List.getElem?_eq_getElem (show k2 < hs.length by rw [HH3.out]; exact hlt2)⟩
          obtain ⟨bA, oA, rfl, hbA, hcA⟩ := ptr_cell hN.shA rfl hg
          obtain ⟨bB, oB, rfl, hbB, hcB⟩ := ptr_cell hN.shB rfl hh
          have HG := Lib.hid hg
          have HH := Lib.hid hh
          have HN := Lib.hid (And.intro hN heq)
          clear hg hh hN heq hcA hcB
          go_wp2
          go_loopg [136] 5 (fun gk i wr3 => ∃ (k : Nat) (ss ts : List BSt), i = .int .i64 k ∧ k ≤ 5 ∧ gk = 5 - k ∧ NN w2 0 0 wr3 (some ⟨bA, oA, none⟩) aC (some ⟨bB, oB, none⟩) bC' gs hs ss ts ∧ ∀ j, k2 ≤ j → ss[j]? = ts[j]?)
          case atStart => exact ⟨0, _, _, rfl, by omega, rfl, HN.out.1, HN.out.2⟩
          case round =>
            clear HN hbA hbB
            obtain ⟨k3, s3, t3, rfl, hk3, rfl, hN, heq⟩ := hrel
            obtain ⟨wr3, rfl⟩ : ∃ z : World, z = wr := ⟨_, rfl⟩
            have hls := hN.lenA
            have hcA := ptr_cell' hN.shA rfl HG.out
            obtain ⟨s, hsx⟩ : ∃ g, s3[k2]? = some g := ⟨_, List.getElem?_eq_getElem (show k2 < s3.length by rw [← hls, HG3.out]; exact hlt2)⟩
            have htx : t3[k2]? = some s := by rw [← heq k2 (Nat.le_refl _)]; exact hsx
            by_cases hlt3 : k3 < 5
            · have hk35 : (k3 : Int) < 5 := by omega
              obtain ⟨s', f, bb, hrv⟩ : ∃ s' f bb, s.recv = (s', f, bb) := ⟨_, _, _, rfl⟩
              have HE := Lib.hid heq
              have HS := Lib.hid hsx
              have HTX := Lib.hid htx
              have HRV := Lib.hid hrv
              have HN := Lib.hid hN
              clear heq hsx htx hrv hN hls
              go_upto_region 30 with (first
                | (go_at_call 19; (refine (recv_n HN.out HG.out HS.out HRV.out).mono ?_); rintro e w5 ⟨rfl, N5, hole5⟩)
                | refine wpList_stnew rfl 34 _ _ rfl rfl f.vals rfl rfl size37 rfl (fr_one f) ?_)
              obtain ⟨w6, hw6⟩ : ∃ V, V = w5.alloc (.cells f.vals.toArray 34) := ⟨_, rfl⟩
              have k6 : w6.heap[w5.heap.size]? = some (.cells f.vals.toArray 34 (0, 0)) := by rw [hw6]; exact heap_alloc_new _ _
              have x6 : Ext w5 w6 := by rw [hw6]; exact (Ext.refl _).alloc _
              rw [← hw6]
              clear hw6 hcA
              have N6 := Lib.hid (N5.hole x6)
              have hcB := ptr_cell' (NN.shB N6.out) rfl HH.out
              have hs6 := blk_lt k6
              clear N5 hole5
              go_upto_region 31 with (first
                | (go_at_call 20; (refine (rrecv_n N6.out HH.out HTX.out HRV.out).mono ?_); rintro e w7 ⟨rfl, N7, hole7⟩)
                | refine wpList_stnew rfl 34 _ _ rfl rfl f.vals rfl rfl size37 rfl (fr_one f) ?_)
              obtain ⟨w8, hw8⟩ : ∃ V, V = w7.alloc (.cells f.vals.toArray 34) := ⟨_, rfl⟩
              have k8 : w8.heap[w7.heap.size]? = some (.cells f.vals.toArray 34 (0, 0)) := by rw [hw8]; exact heap_alloc_new _ _
              have x8 : Ext w7 w8 := by rw [hw8]; exact (Ext.refl _).alloc _
              rw [← hw8]
              clear hw8 hcB
              have k7 := (hole7 _ (Nat.le_refl _) hs6).trans k6
              have k68 := (x8.block _ (blk_lt k7)).trans k7
              have N8 := Lib.hid (N7.ext x8).no
              clear N7 hole7
              have hne : ∀ V, (binOp .neq 34 (.agg f.vals.toArray) (.agg f.vals.toArray)).run Try.prog V = .ok (.bool false) V := fun V => by rw [run_neF]; simp
              go_wp2_with (first
                | refine wpList_ldrowG rfl 34 _ rfl k68 rfl Try.underlying34 rfl size37 ?_
                | refine wpList_ldrowG rfl 34 _ rfl k8 rfl Try.underlying34 rfl size37 ?_)
              go_roundg (5 - (k3 + 1))
              case measure => omega
              case rel =>
                refine ⟨k3 + 1, _, _, by go_num, by omega, rfl, N8.out, fun j hj => ?_⟩
                by_cases hjk : k2 = j
                · subst hjk
                  rw [List.getElem?_set_self (List.getElem?_eq_some_iff.1 HS.out).1, List.getElem?_set_self (List.getElem?_eq_some_iff.1 HTX.out).1]
                · rw [List.getElem?_set_ne hjk, List.getElem?_set_ne hjk]
                  exact HE.out j hj
            · obtain rfl : k3 = 5 := by omega
              obtain ⟨rfA, rfc, rtA, rtc, rrA, rrc, KH⟩ := rref hN HH.out htx
              have hcB := ptr_cell' hN.shB rfl HH.out
              have ht3 := (hN.okA s (List.mem_of_getElem? hsx)).nt
              have hbA : bA < wr3.heap.size := own_lt hN.rowA rfl
              have hbB : bB < wr3.heap.size := own_lt hN.rowB rfl
              have HE := Lib.hid heq
              have HS := Lib.hid hsx
              have HTX := Lib.hid htx
              have HN := Lib.hid hN
              clear heq hsx htx hN hls hlt3
              go_upto_region 34 with (fail)
              refine wp_region_held_drew (S := fun W => W.cell? ⟨bA, oA + k2, none⟩ = some (ptr g) ∧ W.cell? ⟨bB, oB + k2, none⟩ = some (ptr h) ∧ W.heap[h]? = some (.cells #[.slice rfA s.fl.length rfc, .slice rtA s.tx.length rtc, .slice rrA s.rx.length rrc, .bool s.lost] 53 (0, 0))) (by kernel_rfl) (⟨(Below.cell ((Ext.refl wr3).drew) (p := ⟨bA, oA + k2, none⟩) hbA).trans hcA, (Below.cell ((Ext.refl wr3).drew) (p := ⟨bB, oB + k2, none⟩) hbB).trans hcB, (((Ext.refl wr3).drew).block _ (blk_lt KH)).trans KH⟩) (fun hHeld => ?_)
              obtain ⟨wD27, hwD⟩ : ∃ V, V = World.drew wr3 := ⟨_, rfl⟩
              rw [← hwD] at hHeld ⊢
              have zz0 : Ext wr3 wD27 := by rw [hwD]; exact (Ext.refl _).drew
              clear hwD
              have PD := HN.out.ext zz0
              refine wpAnyH_take (i := 0) (oi := { dst := some 163, op := Op.move (Operand.tmp 6), type := 26, pos := "law.go:83", after := #[], guard := none }) (v := ?vv28_34_0) rfl (by kernel_rfl) (by kernel_rfl) (by kernel_rfl) (fun _ _ _ h => h) (Or.inl ⟨by rfl, ?yy28_34_0⟩) hHeld ?_
              case yy28_34_0 => (intro W hx; go_simp; try with_reducible rfl)
              simp only [Act.put, List.setIfInBounds_toArray, List.set_cons_zero, List.set_cons_succ]
              refine wpAnyH_take (i := 1) (oi := { dst := some 164, op := Op.move (Operand.tmp 16), type := 3, pos := "law.go:83", after := #[], guard := none }) (v := ?vv29_34_1) rfl (by kernel_rfl) (by kernel_rfl) (by kernel_rfl) (fun _ _ _ h => h) (Or.inl ⟨by rfl, ?yy29_34_1⟩) hHeld ?_
              case yy29_34_1 => (intro W hx; go_simp; try with_reducible rfl)
              simp only [Act.put, List.setIfInBounds_toArray, List.set_cons_zero, List.set_cons_succ]
              refine wpAnyH_take (i := 2) (oi := { dst := some 165, op := Op.indexAddr 26 (Operand.tmp 163) (Operand.tmp 164), type := 0, pos := "law.go:83", after := #[{ on := 0, ground := Ground.data }, { on := 1, ground := Ground.data }], guard := none }) (v := ?vv30_34_2) rfl (by kernel_rfl) (by kernel_rfl) (by kernel_rfl) (fun _ _ _ h => h) (Or.inl ⟨by rfl, ?yy30_34_2⟩) hHeld ?_
              case yy30_34_2 => (intro W hx; go_simp; try with_reducible rfl)
              simp only [Act.put, List.setIfInBounds_toArray, List.set_cons_zero, List.set_cons_succ]
              refine wpAnyH_take (i := 3) (oi := { dst := some 166, op := Op.load 41 (Operand.tmp 165), type := 41, pos := "law.go:83", after := #[{ on := 2, ground := Ground.data }], guard := none }) (v := ?vv31_34_3) rfl (by kernel_rfl) (by kernel_rfl) (by kernel_rfl) (fun _ _ _ h => h) (Or.inl ⟨by rfl, ?yy31_34_3⟩) hHeld ?_
              case yy31_34_3 => (intro W hx; have q9 := hx.1; go_simp; try with_reducible rfl)
              simp only [Act.put, List.setIfInBounds_toArray, List.set_cons_zero, List.set_cons_succ]
              refine wpAnyH_take (i := 5) (oi := { dst := some 168, op := Op.move (Operand.tmp 7), type := 27, pos := "law.go:83", after := #[], guard := none }) (v := ?vv32_34_5) rfl (by kernel_rfl) (by kernel_rfl) (by kernel_rfl) (fun _ _ _ h => h) (Or.inl ⟨by rfl, ?yy32_34_5⟩) hHeld ?_
              case yy32_34_5 => (intro W hx; go_simp; try with_reducible rfl)
              simp only [Act.put, List.setIfInBounds_toArray, List.set_cons_zero, List.set_cons_succ]
              refine wpAnyH_take (i := 6) (oi := { dst := some 169, op := Op.move (Operand.tmp 16), type := 3, pos := "law.go:83", after := #[], guard := none }) (v := ?vv33_34_6) rfl (by kernel_rfl) (by kernel_rfl) (by kernel_rfl) (fun _ _ _ h => h) (Or.inl ⟨by rfl, ?yy33_34_6⟩) hHeld ?_
              case yy33_34_6 => (intro W hx; go_simp; try with_reducible rfl)
              simp only [Act.put, List.setIfInBounds_toArray, List.set_cons_zero, List.set_cons_succ]
              refine wpAnyH_take (i := 7) (oi := { dst := some 170, op := Op.indexAddr 27 (Operand.tmp 168) (Operand.tmp 169), type := 0, pos := "law.go:83", after := #[{ on := 5, ground := Ground.data }, { on := 6, ground := Ground.data }], guard := none }) (v := ?vv34_34_7) rfl (by kernel_rfl) (by kernel_rfl) (by kernel_rfl) (fun _ _ _ h => h) (Or.inl ⟨by rfl, ?yy34_34_7⟩) hHeld ?_
              case yy34_34_7 => (intro W hx; go_simp; try with_reducible rfl)
              simp only [Act.put, List.setIfInBounds_toArray, List.set_cons_zero, List.set_cons_succ]
              refine wpAnyH_take (i := 8) (oi := { dst := some 171, op := Op.load 43 (Operand.tmp 170), type := 43, pos := "law.go:83", after := #[{ on := 7, ground := Ground.data }], guard := none }) (v := ?vv35_34_8) rfl (by kernel_rfl) (by kernel_rfl) (by kernel_rfl) (fun _ _ _ h => h) (Or.inl ⟨by rfl, ?yy35_34_8⟩) hHeld ?_
              case yy35_34_8 => (intro W hx; have q9 := hx.2.1; go_simp; try with_reducible rfl)
              simp only [Act.put, List.setIfInBounds_toArray, List.set_cons_zero, List.set_cons_succ]
              refine wpAnyH_take (i := 9) (oi := { dst := some 172, op := Op.nilCheck (Operand.tmp 171), type := 0, pos := "law.go:83", after := #[{ on := 8, ground := Ground.data }], guard := none }) (v := ?vv36_34_9) rfl (by kernel_rfl) (by kernel_rfl) (by kernel_rfl) (fun _ _ _ h => h) (Or.inl ⟨by rfl, ?yy36_34_9⟩) hHeld ?_
              case yy36_34_9 => (intro W hx; go_simp; try with_reducible rfl)
              simp only [Act.put, List.setIfInBounds_toArray, List.set_cons_zero, List.set_cons_succ]
              refine wpAnyH_take (i := 10) (oi := { dst := some 173, op := Op.fieldAddr 53 (Operand.tmp 172) 1, type := 0, pos := "law.go:83", after := #[{ on := 9, ground := Ground.data }], guard := none }) (v := ?vv37_34_10) rfl (by kernel_rfl) (by kernel_rfl) (by kernel_rfl) (fun _ _ _ h => h) (Or.inl ⟨by rfl, ?yy37_34_10⟩) hHeld ?_
              case yy37_34_10 => (intro W hx; go_simp; try with_reducible rfl)
              simp only [Act.put, List.setIfInBounds_toArray, List.set_cons_zero, List.set_cons_succ]
              refine wpAnyH_take (i := 11) (oi := { dst := some 174, op := Op.load 51 (Operand.tmp 173), type := 51, pos := "law.go:83", after := #[{ on := 10, ground := Ground.data }], guard := none }) (v := ?vv38_34_11) rfl (by kernel_rfl) (by kernel_rfl) (by kernel_rfl) (fun _ _ _ h => h) (Or.inl ⟨by rfl, ?yy38_34_11⟩) hHeld ?_
              case yy38_34_11 => (intro W hx; have q9 := blk_cell (i := 1) hx.2.2 rfl; go_simp; try with_reducible rfl)
              simp only [Act.put, List.setIfInBounds_toArray, List.set_cons_zero, List.set_cons_succ]
              refine wpAnyH_take (i := 12) (oi := { dst := some 175, op := Op.call { callee := Callee.builtin Builtin.len, args := #[Operand.tmp 174], argTypes := #[51] }, type := 3, pos := "law.go:83", after := #[{ on := 11, ground := Ground.data }], guard := none }) (v := ?vv39_34_12) rfl (by kernel_rfl) (by kernel_rfl) (by kernel_rfl) (fun _ _ _ h => h) (Or.inl ⟨by rfl, ?yy39_34_12⟩) hHeld ?_
              case yy39_34_12 => (intro W hx; go_simp; try with_reducible rfl)
              simp only [Act.put, List.setIfInBounds_toArray, List.set_cons_zero, List.set_cons_succ]
              refine wpAnyH_ready (rs := [4]) (by kernel_rfl) (by simp) (AllReadyH.cons rfl (fun K hK => ?_) AllReadyH.nil)
              go_simp
              go_wp2_with (go_at_call 21; (refine (wait_n PD HG.out HS.out).mono ?_); rintro e w' ⟨rfl, rfl⟩)
              refine hK.out _ _ (hHeld) (fun hHeld => ?_)
              clear hK K
              refine wpAnyH_take (i := 13) (oi := { dst := some 176, op := Op.binOp BinOp.neq 3 (Operand.tmp 167) (Operand.tmp 175) 3, type := 4, pos := "law.go:83", after := #[{ on := 4, ground := Ground.data }, { on := 12, ground := Ground.data }], guard := none }) (v := ?vv40_34_13) rfl (by kernel_rfl) (by kernel_rfl) (by kernel_rfl) (fun _ _ _ h => h) (Or.inl ⟨by rfl, ?yy40_34_13⟩) hHeld ?_
              case yy40_34_13 => (intro W hx; go_simp; try with_reducible rfl)
              simp only [Act.put, List.setIfInBounds_toArray, List.set_cons_zero, List.set_cons_succ]
              refine wpAnyH_take (i := 14) (oi := { dst := some 177, op := Op.move (Operand.tmp 176), type := 4, pos := "law.go:83", after := #[{ on := 13, ground := Ground.data }, { on := 4, ground := Ground.chain }], guard := none }) (v := ?vv41_34_14) rfl (by kernel_rfl) (by kernel_rfl) (by kernel_rfl) (fun _ _ _ h => h) (Or.inl ⟨by rfl, ?yy41_34_14⟩) hHeld ?_
              case yy41_34_14 => (intro W hx; go_simp; try with_reducible rfl)
              simp only [Act.put, List.setIfInBounds_toArray, List.set_cons_zero, List.set_cons_succ]
              refine wpAnyH_take (i := 15) (oi := { dst := some 178, op := Op.move (Operand.tmp 6), type := 26, pos := "law.go:83", after := #[{ on := 14, ground := Ground.guard }], guard := some (14, false) }) (v := ?vv42_34_15) rfl (by kernel_rfl) (by kernel_rfl) (by kernel_rfl) (fun _ _ _ h => h) (Or.inl ⟨by rfl, ?yy42_34_15⟩) hHeld ?_
              case yy42_34_15 => (intro W hx; go_simp; try with_reducible rfl)
              simp only [Act.put, List.setIfInBounds_toArray, List.set_cons_zero, List.set_cons_succ]
              refine wpAnyH_take (i := 16) (oi := { dst := some 179, op := Op.move (Operand.tmp 16), type := 3, pos := "law.go:83", after := #[{ on := 14, ground := Ground.guard }], guard := some (14, false) }) (v := ?vv43_34_16) rfl (by kernel_rfl) (by kernel_rfl) (by kernel_rfl) (fun _ _ _ h => h) (Or.inl ⟨by rfl, ?yy43_34_16⟩) hHeld ?_
              case yy43_34_16 => (intro W hx; go_simp; try with_reducible rfl)
              simp only [Act.put, List.setIfInBounds_toArray, List.set_cons_zero, List.set_cons_succ]
              refine wpAnyH_take (i := 17) (oi := { dst := some 180, op := Op.indexAddr 26 (Operand.tmp 178) (Operand.tmp 179), type := 0, pos := "law.go:83", after := #[{ on := 15, ground := Ground.data }, { on := 16, ground := Ground.data }, { on := 14, ground := Ground.guard }], guard := some (14, false) }) (v := ?vv44_34_17) rfl (by kernel_rfl) (by kernel_rfl) (by kernel_rfl) (fun _ _ _ h => h) (Or.inl ⟨by rfl, ?yy44_34_17⟩) hHeld ?_
              case yy44_34_17 => (intro W hx; go_simp; try with_reducible rfl)
              simp only [Act.put, List.setIfInBounds_toArray, List.set_cons_zero, List.set_cons_succ]
              refine wpAnyH_take (i := 18) (oi := { dst := some 181, op := Op.load 41 (Operand.tmp 180), type := 41, pos := "law.go:83", after := #[{ on := 17, ground := Ground.data }, { on := 14, ground := Ground.guard }], guard := some (14, false) }) (v := ?vv45_34_18) rfl (by kernel_rfl) (by kernel_rfl) (by kernel_rfl) (fun _ _ _ h => h) (Or.inl ⟨by rfl, ?yy45_34_18⟩) hHeld ?_
              case yy45_34_18 => (intro W hx; have q9 := hx.1; go_simp; try with_reducible rfl)
              simp only [Act.put, List.setIfInBounds_toArray, List.set_cons_zero, List.set_cons_succ]
              refine wpAnyH_take (i := 20) (oi := { dst := some 183, op := Op.move (Operand.tmp 7), type := 27, pos := "law.go:83", after := #[{ on := 14, ground := Ground.guard }], guard := some (14, false) }) (v := ?vv46_34_20) rfl (by kernel_rfl) (by kernel_rfl) (by kernel_rfl) (fun _ _ _ h => h) (Or.inl ⟨by rfl, ?yy46_34_20⟩) hHeld ?_
              case yy46_34_20 => (intro W hx; go_simp; try with_reducible rfl)
              simp only [Act.put, List.setIfInBounds_toArray, List.set_cons_zero, List.set_cons_succ]
              refine wpAnyH_take (i := 21) (oi := { dst := some 184, op := Op.move (Operand.tmp 16), type := 3, pos := "law.go:83", after := #[{ on := 14, ground := Ground.guard }], guard := some (14, false) }) (v := ?vv47_34_21) rfl (by kernel_rfl) (by kernel_rfl) (by kernel_rfl) (fun _ _ _ h => h) (Or.inl ⟨by rfl, ?yy47_34_21⟩) hHeld ?_
              case yy47_34_21 => (intro W hx; go_simp; try with_reducible rfl)
              simp only [Act.put, List.setIfInBounds_toArray, List.set_cons_zero, List.set_cons_succ]
              refine wpAnyH_take (i := 22) (oi := { dst := some 185, op := Op.indexAddr 27 (Operand.tmp 183) (Operand.tmp 184), type := 0, pos := "law.go:83", after := #[{ on := 20, ground := Ground.data }, { on := 21, ground := Ground.data }, { on := 14, ground := Ground.guard }], guard := some (14, false) }) (v := ?vv48_34_22) rfl (by kernel_rfl) (by kernel_rfl) (by kernel_rfl) (fun _ _ _ h => h) (Or.inl ⟨by rfl, ?yy48_34_22⟩) hHeld ?_
              case yy48_34_22 => (intro W hx; go_simp; try with_reducible rfl)
              simp only [Act.put, List.setIfInBounds_toArray, List.set_cons_zero, List.set_cons_succ]
              refine wpAnyH_take (i := 23) (oi := { dst := some 186, op := Op.load 43 (Operand.tmp 185), type := 43, pos := "law.go:83", after := #[{ on := 22, ground := Ground.data }, { on := 14, ground := Ground.guard }], guard := some (14, false) }) (v := ?vv49_34_23) rfl (by kernel_rfl) (by kernel_rfl) (by kernel_rfl) (fun _ _ _ h => h) (Or.inl ⟨by rfl, ?yy49_34_23⟩) hHeld ?_
              case yy49_34_23 => (intro W hx; have q9 := hx.2.1; go_simp; try with_reducible rfl)
              simp only [Act.put, List.setIfInBounds_toArray, List.set_cons_zero, List.set_cons_succ]
              refine wpAnyH_take (i := 24) (oi := { dst := some 187, op := Op.nilCheck (Operand.tmp 186), type := 0, pos := "law.go:83", after := #[{ on := 23, ground := Ground.data }, { on := 14, ground := Ground.guard }], guard := some (14, false) }) (v := ?vv50_34_24) rfl (by kernel_rfl) (by kernel_rfl) (by kernel_rfl) (fun _ _ _ h => h) (Or.inl ⟨by rfl, ?yy50_34_24⟩) hHeld ?_
              case yy50_34_24 => (intro W hx; go_simp; try with_reducible rfl)
              simp only [Act.put, List.setIfInBounds_toArray, List.set_cons_zero, List.set_cons_succ]
              refine wpAnyH_take (i := 25) (oi := { dst := some 188, op := Op.fieldAddr 53 (Operand.tmp 187) 3, type := 0, pos := "law.go:83", after := #[{ on := 24, ground := Ground.data }, { on := 14, ground := Ground.guard }], guard := some (14, false) }) (v := ?vv51_34_25) rfl (by kernel_rfl) (by kernel_rfl) (by kernel_rfl) (fun _ _ _ h => h) (Or.inl ⟨by rfl, ?yy51_34_25⟩) hHeld ?_
              case yy51_34_25 => (intro W hx; go_simp; try with_reducible rfl)
              simp only [Act.put, List.setIfInBounds_toArray, List.set_cons_zero, List.set_cons_succ]
              refine wpAnyH_take (i := 26) (oi := { dst := some 189, op := Op.load 4 (Operand.tmp 188), type := 4, pos := "law.go:83", after := #[{ on := 25, ground := Ground.data }, { on := 14, ground := Ground.guard }], guard := some (14, false) }) (v := ?vv52_34_26) rfl (by kernel_rfl) (by kernel_rfl) (by kernel_rfl) (fun _ _ _ h => h) (Or.inl ⟨by rfl, ?yy52_34_26⟩) hHeld ?_
              case yy52_34_26 => (intro W hx; have q9 := blk_cell (i := 3) hx.2.2 rfl; go_simp; try with_reducible rfl)
              simp only [Act.put, List.setIfInBounds_toArray, List.set_cons_zero, List.set_cons_succ]
              refine wpAnyH_ready (rs := [19]) (by kernel_rfl) (by simp) (AllReadyH.cons rfl (fun K hK => ?_) AllReadyH.nil)
              go_simp
              go_wp2_with (go_at_call 22; (refine (over_n PD HG.out HS.out).mono ?_); rintro e w10 ⟨rfl, N10, hole10, hrf⟩)
              refine hK.out _ _ (⟨ptr_cell' N10.shA rfl HG.out, ptr_cell' N10.shB rfl HH.out, (hrf _ _ _ HH.out HTX.out).trans hHeld.2.2⟩) (fun hHeld => ?_)
              clear hK K
              refine wpAnyH_take (i := 27) (oi := { dst := some 190, op := Op.binOp BinOp.neq 4 (Operand.tmp 182) (Operand.tmp 189) 4, type := 4, pos := "law.go:83", after := #[{ on := 19, ground := Ground.data }, { on := 26, ground := Ground.data }, { on := 14, ground := Ground.guard }], guard := some (14, false) }) (v := ?vv53_34_27) rfl (by kernel_rfl) (by kernel_rfl) (by kernel_rfl) (fun _ _ _ h => h) (Or.inl ⟨by rfl, ?yy53_34_27⟩) hHeld ?_
              case yy53_34_27 => (intro W hx; go_simp; try with_reducible rfl)
              simp only [Act.put, List.setIfInBounds_toArray, List.set_cons_zero, List.set_cons_succ]
              refine wpAnyH_take (i := 28) (oi := { dst := some 191, op := Op.pick (Operand.tmp 177) (Operand.const (Value.bool true)) (Operand.tmp 190), type := 4, pos := "law.go:83", after := #[{ on := 14, ground := Ground.data }, { on := 27, ground := Ground.data }], guard := none }) (v := ?vv54_34_28) rfl (by kernel_rfl) (by kernel_rfl) (by kernel_rfl) (fun _ _ _ h => h) (Or.inl ⟨by rfl, ?yy54_34_28⟩) hHeld ?_
              case yy54_34_28 => (intro W hx; go_simp; try with_reducible rfl)
              simp only [Act.put, List.setIfInBounds_toArray, List.set_cons_zero, List.set_cons_succ]
              refine wpAnyH_done (by kernel_rfl) ?_ _
              have NX := Lib.hid N10.no
              clear N10 PD hole10 hrf hHeld hcA hcB KH
              go_wp2
              go_roundg (3 - (k2 + 1))
              case measure => omega
              case rel => exact ⟨k2 + 1, _, _, by go_num, by omega, rfl, NX.out, fun j hj => by rw [List.getElem?_set_ne (by omega)]; exact HE.out j (by omega)⟩
        · obtain rfl : k2 = 3 := by omega
          have hkg : ¬ ((3 : Int) < gs.length) := by rw [HG3.out]; omega
          have HX := Lib.hid (x02.trans hN.x)
          clear hN heq
          go_wp2
          go_ret
          exact ⟨rfl, HX.out⟩
end Go.Proofs.Ytjdabmadpclbaaa
