import Derived.Test.YtnbcmlphnllgeaaGK
set_option linter.unusedVariables false
set_option linter.unusedSimpArgs false
namespace Go.Proofs.Ytnbcmlphnllgeaa
open Go.RowKit Go.ChangeShapes Go.WideShapes
/-- a slice of byte slices that can be read, whosever they are. -/
structure SlB (w : World) (A : Option Addr) (els : List (Value × List Int)) : Prop where
  row : Shows w 1 A els.length (els.map (·.1))
  el : ∀ x ∈ els, ∃ A' c', x.1 = .slice A' x.2.length c' ∧ Rd w A' x.2.length x.2
theorem SlB.ext {w w' : World} {A : Option Addr} {els : List (Value × List Int)} (h : SlB w A els) (x : Ext w w') : SlB w' A els :=
  ⟨h.row.ext x, fun y hy => by obtain ⟨A', c', e, r⟩ := h.el y hy; exact ⟨A', c', e, r.ext x⟩⟩
theorem SlB.of_bl {w : World} {F : Nat → Prop} {A : Option Addr} {n c : Nat} {els : List (Value × List Int)} (h : BL w F (.slice A n c) els) : SlB w A els := by
  obtain ⟨A1, c1, e, _, _⟩ := h.form
  injection e with e1 e2 e3
  subst e1 e2 e3
  exact ⟨Shows.of_own h.row, fun x hx => by
    obtain ⟨A', c', e1, _, _, r⟩ := own_rd (h.el x hx).1 (h.el x hx).2
    exact ⟨A', c', e1, r⟩⟩
theorem SlB.at_ {w : World} {A : Option Addr} {els : List (Value × List Int)} (h : SlB w A els) {k : Nat} {x : Value × List Int} (hk : els[k]? = some x) : ∃ b o, A = some ⟨b, o, none⟩ ∧ w.cell? ⟨b, o + k, none⟩ = some x.1 ∧ ∃ A' c', x.1 = .slice A' x.2.length c' ∧ Rd w A' x.2.length x.2 := by
  have hkl := (List.getElem?_eq_some_iff.1 hk).1
  obtain ⟨b, o, u, e, _, hu, hc⟩ := h.row.cell hkl
  rw [List.getElem?_map, hk] at hu
  injection hu with hu
  exact ⟨b, o, e, by rw [hc, ← hu], h.el x (List.mem_of_getElem? hk)⟩
set_option maxRecDepth 100000 in
set_option maxHeartbeats 8000000 in
theorem same_sl {w : World} {i n m : Nat} {lo : Bool} {A B : Option Addr} (c d : Nat) {e1 e2 : List (Value × List Int)} (h1 : SlB w A e1) (h2 : SlB w B e2) (hn : n = e1.length) (hm : m = e2.length) (hl : n ≤ 100000) (he : e1.map (·.2) = e2.map (·.2)) :
    Calls Try.prog 15 #[.agg #[.int .i64 (i : Int), .bool lo, .slice A n c], .agg #[.int .i64 (i : Int), .bool lo, .slice B m d]] w fun e w' => e = .returned (.bool true) ∧ Ext w w' := by
  have hmn : m = n := by have := congrArg List.length he; simp at this; omega
  subst hmn
  obtain ⟨w0, hw0⟩ : ∃ V, V = w.alloc (.cells #[.int .i64 (i : Int), .bool lo, .slice A m c] 35) := ⟨_, rfl⟩
  have k0 : w0.heap[w.heap.size]? = some (.cells #[.int .i64 (i : Int), .bool lo, .slice A m c] 35 (0, 0)) := by rw [hw0]; exact heap_alloc_new _ _
  have x0 : Ext w w0 := by rw [hw0]; exact (Ext.refl _).alloc _
  have hs0 : w0.heap.size = w.heap.size + 1 := by rw [hw0]; exact Array.size_push _
  obtain ⟨w1, hw1⟩ : ∃ V, V = w0.alloc (.cells #[.int .i64 (i : Int), .bool lo, .slice B m d] 35) := ⟨_, rfl⟩
  obtain ⟨q, hq⟩ : ∃ q, q = w.heap.size + 1 := ⟨_, rfl⟩
  have k1 : w1.heap[q]? = some (.cells #[.int .i64 (i : Int), .bool lo, .slice B m d] 35 (0, 0)) := by rw [hw1, hq, ← hs0]; exact heap_alloc_new _ _
  have x1 : Ext w0 w1 := by rw [hw1]; exact (Ext.refl _).alloc _
  have k01 := (x1.block _ (blk_lt k0)).trans k0
  have X1 := x0.trans x1
  obtain ⟨a0, a1, a2⟩ : w1.cell? ⟨w.heap.size, 0, none⟩ = some (.int .i64 (i : Int)) ∧ w1.cell? ⟨w.heap.size, 1, none⟩ = some (.bool lo) ∧ w1.cell? ⟨w.heap.size, 2, none⟩ = some (.slice A m c) := ⟨blk_cell k01 rfl, blk_cell k01 rfl, blk_cell k01 rfl⟩
  obtain ⟨b0, b1, b2⟩ : w1.cell? ⟨q, 0, none⟩ = some (.int .i64 (i : Int)) ∧ w1.cell? ⟨q, 1, none⟩ = some (.bool lo) ∧ w1.cell? ⟨q, 2, none⟩ = some (.slice B m d) := ⟨blk_cell k1 rfl, blk_cell k1 rfl, blk_cell k1 rfl⟩
  have HP := Lib.hid (And.intro h1 (And.intro h2 (And.intro hn (And.intro hm he))))
  have HK := Lib.hid (And.intro a2 b2)
  clear h1 h2 hn hm he k0 k1 k01
  go_enter Try.func15, Try.ntmps15
  go_upto_region 1 with (fail)
  rw [← hw0, ← hw1, ← hq]
  clear hw0 hw1 hs0 hq x0 x1
  go_upto_region 4 with (fail)
  clear a0 a1 a2 b0 b1 b2
  go_loopw [5] (fun v wr => ∃ k : Nat, v = .int .i64 k ∧ k ≤ m ∧ Ext w1 wr) (fun v _ => m - (intOf v).toNat)
  case atStart => exact ⟨0, rfl, Nat.zero_le _, Ext.refl _⟩
  case round =>
    obtain ⟨k, rfl, hk, xr⟩ := hrel
    obtain ⟨wo, rfl⟩ : ∃ z : World, z = wr := ⟨_, rfl⟩
    have c2 := cell_ext xr HK.out.1
    have d2 := cell_ext xr HK.out.2
    have HK2 := Lib.hid (And.intro c2 d2)
    by_cases hlt : k < m
    · have hkn : (k : Int) < m := by omega
      obtain ⟨x, hx⟩ : ∃ x, e1[k]? = some x := ⟨_, List.getElem?_eq_getElem (by have := HP.out.2.2.1; omega)⟩
      obtain ⟨y, hy⟩ : ∃ y, e2[k]? = some y := ⟨_, List.getElem?_eq_getElem (by have := HP.out.2.2.2.1; omega)⟩
      have hxy : x.2 = y.2 := by
        have := congrArg (fun l => l[k]?) HP.out.2.2.2.2
        simp only [List.getElem?_map, hx, hy, Option.map_some] at this
        injection this
      obtain ⟨ga, oa, ea, pa, Aa, ca', va, ra⟩ := (HP.out.1.ext (X1.trans xr)).at_ hx
      obtain ⟨gb, ob, eb, pb, Ab, cb', vb, rb⟩ := (HP.out.2.1.ext (X1.trans xr)).at_ hy
      subst ea eb
      rw [va] at pa
      rw [vb] at pb
      rw [← hxy] at pb rb
      have HC := Lib.hid (And.intro pa (And.intro pb (And.intro ra rb)))
      clear hx hy hxy va vb pa pb ra rb
      go_upto_region 6 with (fail)
      clear c2 d2
      refine wp_region_held_drew (S := Ext wo) (by kernel_rfl) ((Ext.refl _).drew) (fun hHeld => ?_)
      obtain ⟨wD1, hwD⟩ : ∃ V, V = World.drew wo := ⟨_, rfl⟩
      rw [← hwD]
      clear hHeld
      have zz0 : Ext wo wD1 := by rw [hwD]; exact (Ext.refl _).drew
      clear hwD
      refine wpAnyH_imp (S' := Ext wD1) (fun W h => Ext.trans zz0 h) _ _ _ _ ?_
      have hHeld := Ext.refl wD1
      refine wpAnyH_take (i := 0) (oi := { dst := some 34, op := Op.fieldAddr 35 (Operand.tmp 2) 2, type := 0, pos := "ref.go:73", after := #[], guard := none }) (v := ?vv2_6_0) rfl (by kernel_rfl) (by kernel_rfl) (by kernel_rfl) (fun _ _ _ h => h) (Or.inl ⟨by rfl, ?yy2_6_0⟩) hHeld ?_
      case yy2_6_0 => (intro W hx; go_simp; try with_reducible rfl)
      simp only [Act.put, List.setIfInBounds_toArray, List.set_cons_zero, List.set_cons_succ]
      refine wpAnyH_take (i := 1) (oi := { dst := some 35, op := Op.load 33 (Operand.tmp 34), type := 33, pos := "ref.go:73", after := #[{ on := 0, ground := Ground.data }], guard := none }) (v := ?vv3_6_1) rfl (by kernel_rfl) (by kernel_rfl) (by kernel_rfl) (fun _ _ _ h => h) (Or.inl ⟨by rfl, ?yy3_6_1⟩) hHeld ?_
      case yy3_6_1 => (intro W hx; have hz := zz0.trans hx; have q1 := cell_ext hz HK2.out.1; go_simp; try with_reducible rfl)
      simp only [Act.put, List.setIfInBounds_toArray, List.set_cons_zero, List.set_cons_succ]
      refine wpAnyH_take (i := 2) (oi := { dst := some 36, op := Op.move (Operand.tmp 5), type := 3, pos := "ref.go:73", after := #[], guard := none }) (v := ?vv4_6_2) rfl (by kernel_rfl) (by kernel_rfl) (by kernel_rfl) (fun _ _ _ h => h) (Or.inl ⟨by rfl, ?yy4_6_2⟩) hHeld ?_
      case yy4_6_2 => (intro W hx; go_simp; try with_reducible rfl)
      simp only [Act.put, List.setIfInBounds_toArray, List.set_cons_zero, List.set_cons_succ]
      refine wpAnyH_take (i := 3) (oi := { dst := some 37, op := Op.indexAddr 33 (Operand.tmp 35) (Operand.tmp 36), type := 0, pos := "ref.go:73", after := #[{ on := 1, ground := Ground.data }, { on := 2, ground := Ground.data }], guard := none }) (v := ?vv5_6_3) rfl (by kernel_rfl) (by kernel_rfl) (by kernel_rfl) (fun _ _ _ h => h) (Or.inl ⟨by rfl, ?yy5_6_3⟩) hHeld ?_
      case yy5_6_3 => (intro W hx; go_simp; try with_reducible rfl)
      simp only [Act.put, List.setIfInBounds_toArray, List.set_cons_zero, List.set_cons_succ]
      refine wpAnyH_take (i := 4) (oi := { dst := some 38, op := Op.load 30 (Operand.tmp 37), type := 30, pos := "ref.go:73", after := #[{ on := 3, ground := Ground.data }], guard := none }) (v := ?vv6_6_4) rfl (by kernel_rfl) (by kernel_rfl) (by kernel_rfl) (fun _ _ _ h => h) (Or.inl ⟨by rfl, ?yy6_6_4⟩) hHeld ?_
      case yy6_6_4 => (intro W hx; have hz := zz0.trans hx; have q1 := cell_ext hz HC.out.1; go_simp; try with_reducible rfl)
      simp only [Act.put, List.setIfInBounds_toArray, List.set_cons_zero, List.set_cons_succ]
      refine wpAnyH_take (i := 5) (oi := { dst := some 39, op := Op.convert 30 9 (Operand.tmp 38), type := 9, pos := "ref.go:73", after := #[{ on := 4, ground := Ground.data }], guard := none }) (v := ?vv7_6_5) rfl (by kernel_rfl) (by kernel_rfl) (by kernel_rfl) (fun _ _ _ h => h) (Or.inl ⟨by rfl, ?yy7_6_5⟩) hHeld ?_
      case yy7_6_5 => (intro W hx; have hz := zz0.trans hx; have q1 := str (c := ca') (HC.out.2.2.1.ext hz); go_simp; try with_reducible rfl)
      simp only [Act.put, List.setIfInBounds_toArray, List.set_cons_zero, List.set_cons_succ]
      refine wpAnyH_take (i := 6) (oi := { dst := some 40, op := Op.fieldAddr 35 (Operand.tmp 3) 2, type := 0, pos := "ref.go:73", after := #[], guard := none }) (v := ?vv8_6_6) rfl (by kernel_rfl) (by kernel_rfl) (by kernel_rfl) (fun _ _ _ h => h) (Or.inl ⟨by rfl, ?yy8_6_6⟩) hHeld ?_
      case yy8_6_6 => (intro W hx; go_simp; try with_reducible rfl)
      simp only [Act.put, List.setIfInBounds_toArray, List.set_cons_zero, List.set_cons_succ]
      refine wpAnyH_take (i := 7) (oi := { dst := some 41, op := Op.load 33 (Operand.tmp 40), type := 33, pos := "ref.go:73", after := #[{ on := 6, ground := Ground.data }], guard := none }) (v := ?vv9_6_7) rfl (by kernel_rfl) (by kernel_rfl) (by kernel_rfl) (fun _ _ _ h => h) (Or.inl ⟨by rfl, ?yy9_6_7⟩) hHeld ?_
      case yy9_6_7 => (intro W hx; have hz := zz0.trans hx; have q1 := cell_ext hz HK2.out.2; go_simp; try with_reducible rfl)
      simp only [Act.put, List.setIfInBounds_toArray, List.set_cons_zero, List.set_cons_succ]
      refine wpAnyH_take (i := 8) (oi := { dst := some 42, op := Op.move (Operand.tmp 5), type := 3, pos := "ref.go:73", after := #[], guard := none }) (v := ?vv10_6_8) rfl (by kernel_rfl) (by kernel_rfl) (by kernel_rfl) (fun _ _ _ h => h) (Or.inl ⟨by rfl, ?yy10_6_8⟩) hHeld ?_
      case yy10_6_8 => (intro W hx; go_simp; try with_reducible rfl)
      simp only [Act.put, List.setIfInBounds_toArray, List.set_cons_zero, List.set_cons_succ]
      refine wpAnyH_take (i := 9) (oi := { dst := some 43, op := Op.indexAddr 33 (Operand.tmp 41) (Operand.tmp 42), type := 0, pos := "ref.go:73", after := #[{ on := 7, ground := Ground.data }, { on := 8, ground := Ground.data }], guard := none }) (v := ?vv11_6_9) rfl (by kernel_rfl) (by kernel_rfl) (by kernel_rfl) (fun _ _ _ h => h) (Or.inl ⟨by rfl, ?yy11_6_9⟩) hHeld ?_
      case yy11_6_9 => (intro W hx; go_simp; try with_reducible rfl)
      simp only [Act.put, List.setIfInBounds_toArray, List.set_cons_zero, List.set_cons_succ]
      refine wpAnyH_take (i := 10) (oi := { dst := some 44, op := Op.load 30 (Operand.tmp 43), type := 30, pos := "ref.go:73", after := #[{ on := 9, ground := Ground.data }], guard := none }) (v := ?vv12_6_10) rfl (by kernel_rfl) (by kernel_rfl) (by kernel_rfl) (fun _ _ _ h => h) (Or.inl ⟨by rfl, ?yy12_6_10⟩) hHeld ?_
      case yy12_6_10 => (intro W hx; have hz := zz0.trans hx; have q1 := cell_ext hz HC.out.2.1; go_simp; try with_reducible rfl)
      simp only [Act.put, List.setIfInBounds_toArray, List.set_cons_zero, List.set_cons_succ]
      refine wpAnyH_take (i := 11) (oi := { dst := some 45, op := Op.convert 30 9 (Operand.tmp 44), type := 9, pos := "ref.go:73", after := #[{ on := 10, ground := Ground.data }], guard := none }) (v := ?vv13_6_11) rfl (by kernel_rfl) (by kernel_rfl) (by kernel_rfl) (fun _ _ _ h => h) (Or.inl ⟨by rfl, ?yy13_6_11⟩) hHeld ?_
      case yy13_6_11 => (intro W hx; have hz := zz0.trans hx; have q1 := str (c := cb') (HC.out.2.2.2.ext hz); go_simp; try with_reducible rfl)
      simp only [Act.put, List.setIfInBounds_toArray, List.set_cons_zero, List.set_cons_succ]
      refine wpAnyH_take (i := 12) (oi := { dst := some 46, op := Op.binOp BinOp.neq 9 (Operand.tmp 39) (Operand.tmp 45) 9, type := 4, pos := "ref.go:73", after := #[{ on := 5, ground := Ground.data }, { on := 11, ground := Ground.data }], guard := none }) (v := ?vv14_6_12) rfl (by kernel_rfl) (by kernel_rfl) (by kernel_rfl) (fun _ _ _ h => h) (Or.inl ⟨by rfl, ?yy14_6_12⟩) hHeld ?_
      case yy14_6_12 => (intro W hx; go_simp; try with_reducible rfl)
      simp only [Act.put, List.setIfInBounds_toArray, List.set_cons_zero, List.set_cons_succ]
      refine wpAnyH_done (by kernel_rfl) ?_ _
      have zend := zz0.trans hHeld
      go_wp2
      go_roundw
      case rel => exact ⟨k + 1, by go_num, by omega, xr.trans zend⟩
      case measure => simp [intOf]; omega
    · obtain rfl : k = m := by omega
      go_wp2
      go_ret
      exact ⟨rfl, X1.trans xr⟩
/-- a byte slice that comes in. -/
structure Bv where
  A : Option Addr
  n : Nat
  c : Nat
  bs : List Int
def Bv.vals (x : Bv) : List Value := [.slice x.A x.n x.c]
structure Bv.ok (W : World) (x : Bv) : Prop where
  rd : Rd W x.A x.n x.bs
  le : x.n ≤ x.c
  cm : x.c ≤ maxLen
def bvs (l : List Bv) : List Value := l.flatMap Bv.vals
theorem bv_len (x : Bv) : x.vals.length = 1 := rfl
def bools (l : List Bool) : List Value := l.flatMap fun b => [.bool b]
section
variable {H : Type} {enc : TypeId × Value → H} {W : World} {base : Nat} {held : Bool}
theorem c33 : Try.prog.cellsOf 33 = 1 := by kernel_rfl
theorem open_bss {b0 : Nat} {r : Reach} {v : Value} {d : DataW H} {p : List MemPlace}
    (hv : Value.okWide Try.prog W r b0 33 v) (h : DataW.Trod enc Try.prog W base (fun _ => true) held 33 v d p) :
    ∃ (A : Option Addr) (n c : Nat) (l : List Bv), v = .slice A n c ∧ n ≤ c ∧ c ≤ maxLen ∧ n = l.length ∧ Shows W 1 A n (bvs l) ∧ ∀ a ∈ l, a.ok W :=
  open_rows Try.underlying33 c30 (by omega) bv_len (fun n cs x hl hf => by
    obtain ⟨v, rfl⟩ : ∃ v, cs = [v] := by
      match cs, hl with
      | [a], _ => exact ⟨a, rfl⟩
    obtain ⟨A, m, c, bs, rfl, h1, h2, h3⟩ := bytes_cells n (d := x.1) (p := x.2) hf
    exact ⟨⟨A, m, c, bs⟩, rfl, h1, h2, h3⟩) hv h
theorem open_bools {b0 : Nat} {r : Reach} {v : Value} {d : DataW H} {p : List MemPlace}
    (hv : Value.okWide Try.prog W r b0 41 v) (h : DataW.Trod enc Try.prog W base (fun _ => true) held 41 v d p) :
    ∃ (A : Option Addr) (n c : Nat) (l : List Bool), v = .slice A n c ∧ n ≤ c ∧ c ≤ maxLen ∧ n = l.length ∧ Shows W 1 A n (bools l) ∧ ∀ a ∈ l, True :=
  open_rows (vals := fun b : Bool => [.bool b]) (ok := fun _ => True) Try.underlying41 c4 (by omega) (fun _ => rfl) (fun n cs x hl hf => by
    obtain ⟨v, rfl⟩ : ∃ v, cs = [v] := by
      match cs, hl with
      | [a], _ => exact ⟨a, rfl⟩
    obtain ⟨b, e, _⟩ := DataW.trod_bool Try.underlying4 hf
    injection e with e
    subst e
    exact ⟨b, rfl, trivial⟩) hv h
end
end Go.Proofs.Ytnbcmlphnllgeaa
