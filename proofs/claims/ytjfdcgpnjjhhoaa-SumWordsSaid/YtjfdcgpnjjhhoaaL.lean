import Derived.Test.YtjfdcgpnjjhhoaaK
set_option linter.unusedVariables false
namespace Go.Proofs.Ytjfdcgpnjjhhoaa
open Go.RowKit
theorem quart {n : Nat} : ∃ d q : Nat, n / 4 = d ∧ q = 4 * d ∧ q ≤ n ∧ q % 4 = 0 ∧ (n : Int).tdiv 4 = d ∧ (d : Int) * 4 = q :=
  ⟨n / 4, 4 * (n / 4), rfl, rfl, by omega, by omega, by rw [Int.tdiv_eq_ediv_of_nonneg (by omega)]; omega, by omega⟩
def mostK (k : Int) : Int := if k = 1 then 256 else if k = 2 ∨ k = 4 then 65536 else 4294967296
theorem way6 {k : Int} (h : 1 ≤ k ∧ k ≤ 6) : ∃ y, wayK k = some y ∧ addW y ∧ y.m + 1 = mostK k := by
  rcases (by omega : k = 1 ∨ k = 2 ∨ k = 3 ∨ k = 4 ∨ k = 5 ∨ k = 6) with rfl | rfl | rfl | rfl | rfl | rfl <;> exact ⟨_, rfl, ⟨rfl, rfl, by simp, rfl, by simp⟩, rfl⟩
theorem cells6 {w : World} {g : Nat} {t : TypeId} {fr : Nat × Nat} {x0 x1 x2 x3 x4 x5 : Value} (h : w.heap[g]? = some (.cells #[x0, x1, x2, x3, x4, x5] t fr)) :
    w.cell? ⟨g, 0, none⟩ = some x0 ∧ w.cell? ⟨g, 1, none⟩ = some x1 ∧ w.cell? ⟨g, 2, none⟩ = some x2 ∧ w.cell? ⟨g, 3, none⟩ = some x3 ∧ w.cell? ⟨g, 4, none⟩ = some x4 ∧ w.cell? ⟨g, 5, none⟩ = some x5 :=
  ⟨blk_cell h rfl, blk_cell h rfl, blk_cell h rfl, blk_cell h rfl, blk_cell h rfl, blk_cell h rfl⟩
set_option maxRecDepth 100000 in
set_option maxHeartbeats 4000000 in
theorem SumOrder_law (w : World) (kind : Int) (A : Option Addr) (n c : Nat) (bs : List Int) (B : Option Addr) (m d : Nat) (cs : List Int) (big : Bool) (k0 : 0 ≤ kind) (k1 : kind < 256) (rdA : Rd w A n bs) (leA : n ≤ c) (cmA : c ≤ maxLen) (rdB : Rd w B m cs) (leB : m ≤ d) (cmB : d ≤ maxLen) :
    Calls Try.prog 4 #[.int .u8 kind, .slice A n c, .slice B m d, .bool big] w fun e w' => e = .returned (.bool true) ∧ Ext w w' := by
  have FA := fun W => Lib.hid (few_any A n c W leA cmA)
  have FB := fun W => Lib.hid (few_any B m d W leB cmB)
  have ra := rdA.take (k := min n 300) (by omega)
  have rb := rdB.take (k := min m 300) (by omega)
  have ha : min n 300 ≤ 300 ∧ min n 300 ≤ c := by omega
  have hb : min m 300 ≤ 300 ∧ min m 300 ≤ d := by omega
  clear rdA rdB
  generalize min n 300 = n1 at *
  generalize min m 300 = m1 at *
  generalize bs.take n1 = b1 at *
  generalize cs.take m1 = c1 at *
  obtain ⟨dn, p, e1, e2, e3, e4, hd1, hp1⟩ := quart (n := n1)
  obtain ⟨dm, q, g1, g2, g3, g4, hd2, hp2⟩ := quart (n := m1)
  have rx := ra.take (k := p) e3
  have ry := rb.take (k := q) g3
  clear ra rb e1 e2 g1 g2
  generalize b1.take p = X at *
  generalize c1.take q = Y at *
  obtain ⟨ha1, ha2⟩ := ha
  obtain ⟨hb1, hb2⟩ := hb
  have hpc : p ≤ c := by omega
  have hqd : q ≤ d := by omega
  have hp300 : p ≤ 300 := by omega
  have hq300 : q ≤ 300 := by omega
  have hpn0 : (0 : Int) ≤ p := by omega
  have lX := rx.len
  have lY := ry.len
  obtain ⟨kk, hkk⟩ : ∃ kk : Int, kind % 6 + 1 = kk := ⟨_, rfl⟩
  have hk6 : 1 ≤ kk ∧ kk ≤ 6 := by omega
  have hkt : kind.tmod 6 = kind % 6 := Int.tmod_eq_emod_of_nonneg k0
  obtain ⟨y, hy, hadd, hmost⟩ := way6 hk6
  have v1 := sumV_app hadd big rx.byts ry.byts (by rw [lX]; exact e4) (by rw [lY]; exact g4)
  have v2 := sumV_app hadd big ry.byts rx.byts (by rw [lY]; exact g4) (by rw [lX]; exact e4)
  have bP := sumV_bd hadd big rx.byts
  have bQ := sumV_bd hadd big ry.byts
  rw [hmost] at v1 v2
  obtain ⟨P, hP⟩ : ∃ P, P = sumV y big X := ⟨_, rfl⟩
  obtain ⟨Q, hQ⟩ : ∃ Q, Q = sumV y big Y := ⟨_, rfl⟩
  rw [← hP, ← hQ] at v1 v2
  rw [← hP] at bP
  rw [← hQ] at bQ
  have HP := Lib.hid hP.symm
  have HQ := Lib.hid hQ.symm
  clear hP hQ
  rw [Int.add_comm Q P] at v2
  obtain ⟨R, hR⟩ : ∃ R, (P + Q) % mostK kk = R := ⟨_, rfl⟩
  rw [hR] at v1 v2
  have V1 := Lib.hid v1
  have V2 := Lib.hid v2
  have HY := Lib.hid hy
  have hm1 : p % y.word = 0 := by rcases hadd.2.2.2.2 with e | e | e <;> rw [e] <;> omega
  have hm2 : q % y.word = 0 := by rcases hadd.2.2.2.2 with e | e | e <;> rw [e] <;> omega
  have hm3 : (p + q) % y.word = 0 := by rcases hadd.2.2.2.2 with e | e | e <;> rw [e] <;> omega
  have HM1 := Lib.hid hm1
  have HM2 := Lib.hid hm2
  have HM3 := Lib.hid hm3
  have HM4 := Lib.hid (show (q + p) % y.word = 0 by rw [Nat.add_comm]; exact hm3)
  have LX := Lib.hid lX
  have LY := Lib.hid lY
  clear v1 v2 hy hm1 hm2 hm3 lX lY hmost hadd
  go_enter Try.func4, Try.ntmps4
  go_upto_region 2 with (go_at_call 12; (refine (shown_any _).mono ?_); rintro e w1 ⟨rfl, x1⟩)
  go_upto_region 4 with (first
    | (go_at_call 10; (refine ((FA _).out).mono ?_); rintro e w2 ⟨rfl, rfl⟩)
    | (go_at_call 10; (refine ((FB _).out).mono ?_); rintro e w3 ⟨rfl, rfl⟩))
  have hwr : ∀ z : Nat, z ≤ 1000 → IntKind.i64.wrap (z : Int) = z := fun z hz => by rw [IntKind.wrap_i64]; omega
  have hw1 := hwr dn (by omega)
  have hw2 := hwr p (by omega)
  have hw3 := hwr dm (by omega)
  have hw4 := hwr q (by omega)
  have hpcI : (p : Int) ≤ c := by omega
  have hqdI : (q : Int) ≤ d := by omega
  refine wp_region_held_drew (S := Ext w1) (by kernel_rfl) ((Ext.refl _).drew) (fun hHeld => ?_)
  obtain ⟨wD, hwD⟩ : ∃ V, V = World.drew w1 := ⟨_, rfl⟩
  rw [← hwD]
  clear hHeld
  have zz0 : Ext w1 wD := by rw [hwD]; exact (Ext.refl _).drew
  clear hwD
  refine wpAnyH_imp (S' := Ext wD) (fun W h => Ext.trans zz0 h) _ _ _ _ ?_
  have hHeld := Ext.refl wD
  refine wpAnyH_take (i := 0) (oi := { dst := some 30, op := Op.move (Operand.tmp 11), type := 22, pos := "law.go:36", after := #[], guard := none }) (v := ?vv2_4_0) rfl (by kernel_rfl) (by kernel_rfl) (by kernel_rfl) (fun _ _ _ h => h) (Or.inl ⟨by rfl, ?yy2_4_0⟩) hHeld ?_
  case yy2_4_0 => (intro W hx; go_simp; try with_reducible rfl)
  simp only [Act.put, List.setIfInBounds_toArray, List.set_cons_zero, List.set_cons_succ]
  refine wpAnyH_take (i := 1) (oi := { dst := some 31, op := Op.move (Operand.tmp 11), type := 22, pos := "law.go:36", after := #[], guard := none }) (v := ?vv3_4_1) rfl (by kernel_rfl) (by kernel_rfl) (by kernel_rfl) (fun _ _ _ h => h) (Or.inl ⟨by rfl, ?yy3_4_1⟩) hHeld ?_
  case yy3_4_1 => (intro W hx; go_simp; try with_reducible rfl)
  simp only [Act.put, List.setIfInBounds_toArray, List.set_cons_zero, List.set_cons_succ]
  refine wpAnyH_take (i := 2) (oi := { dst := some 32, op := Op.call { callee := Callee.builtin Builtin.len, args := #[Operand.tmp 31], argTypes := #[22] }, type := 3, pos := "law.go:36", after := #[{ on := 1, ground := Ground.data }], guard := none }) (v := ?vv4_4_2) rfl (by kernel_rfl) (by kernel_rfl) (by kernel_rfl) (fun _ _ _ h => h) (Or.inl ⟨by rfl, ?yy4_4_2⟩) hHeld ?_
  case yy4_4_2 => (intro W hx; go_simp; try with_reducible rfl)
  simp only [Act.put, List.setIfInBounds_toArray, List.set_cons_zero, List.set_cons_succ]
  refine wpAnyH_take (i := 3) (oi := { dst := some 33, op := Op.binOp BinOp.quo 3 (Operand.tmp 32) (Operand.const (Value.int IntKind.i64 4)) 3, type := 3, pos := "law.go:36", after := #[{ on := 2, ground := Ground.data }], guard := none }) (v := ?vv5_4_3) rfl (by kernel_rfl) (by kernel_rfl) (by kernel_rfl) (fun _ _ _ h => h) (Or.inl ⟨by rfl, ?yy5_4_3⟩) hHeld ?_
  case yy5_4_3 => (intro W hx; go_simp; try with_reducible rfl)
  simp only [Act.put, List.setIfInBounds_toArray, List.set_cons_zero, List.set_cons_succ]
  refine wpAnyH_take (i := 4) (oi := { dst := some 34, op := Op.binOp BinOp.mul 3 (Operand.tmp 33) (Operand.const (Value.int IntKind.i64 4)) 3, type := 3, pos := "law.go:36", after := #[{ on := 3, ground := Ground.data }], guard := none }) (v := ?vv6_4_4) rfl (by kernel_rfl) (by kernel_rfl) (by kernel_rfl) (fun _ _ _ h => h) (Or.inl ⟨by rfl, ?yy6_4_4⟩) hHeld ?_
  case yy6_4_4 => (intro W hx; go_simp; try with_reducible rfl)
  simp only [Act.put, List.setIfInBounds_toArray, List.set_cons_zero, List.set_cons_succ]
  refine wpAnyH_take (i := 5) (oi := { dst := some 35, op := Op.slice 22 (Operand.tmp 30) none (some (Operand.tmp 34)) none, type := 22, pos := "law.go:36", after := #[{ on := 0, ground := Ground.data }, { on := 4, ground := Ground.data }], guard := none }) (v := ?vv7_4_5) rfl (by kernel_rfl) (by kernel_rfl) (by kernel_rfl) (fun _ _ _ h => h) (Or.inl ⟨by rfl, ?yy7_4_5⟩) hHeld ?_
  case yy7_4_5 => (intro W hx; go_simp; try with_reducible rfl)
  simp only [Act.put, List.setIfInBounds_toArray, List.set_cons_zero, List.set_cons_succ]
  refine wpAnyH_take (i := 6) (oi := { dst := some 36, op := Op.move (Operand.tmp 12), type := 22, pos := "law.go:36", after := #[], guard := none }) (v := ?vv8_4_6) rfl (by kernel_rfl) (by kernel_rfl) (by kernel_rfl) (fun _ _ _ h => h) (Or.inl ⟨by rfl, ?yy8_4_6⟩) hHeld ?_
  case yy8_4_6 => (intro W hx; go_simp; try with_reducible rfl)
  simp only [Act.put, List.setIfInBounds_toArray, List.set_cons_zero, List.set_cons_succ]
  refine wpAnyH_take (i := 7) (oi := { dst := some 37, op := Op.move (Operand.tmp 12), type := 22, pos := "law.go:36", after := #[], guard := none }) (v := ?vv9_4_7) rfl (by kernel_rfl) (by kernel_rfl) (by kernel_rfl) (fun _ _ _ h => h) (Or.inl ⟨by rfl, ?yy9_4_7⟩) hHeld ?_
  case yy9_4_7 => (intro W hx; go_simp; try with_reducible rfl)
  simp only [Act.put, List.setIfInBounds_toArray, List.set_cons_zero, List.set_cons_succ]
  refine wpAnyH_take (i := 8) (oi := { dst := some 38, op := Op.call { callee := Callee.builtin Builtin.len, args := #[Operand.tmp 37], argTypes := #[22] }, type := 3, pos := "law.go:36", after := #[{ on := 7, ground := Ground.data }], guard := none }) (v := ?vv10_4_8) rfl (by kernel_rfl) (by kernel_rfl) (by kernel_rfl) (fun _ _ _ h => h) (Or.inl ⟨by rfl, ?yy10_4_8⟩) hHeld ?_
  case yy10_4_8 => (intro W hx; go_simp; try with_reducible rfl)
  simp only [Act.put, List.setIfInBounds_toArray, List.set_cons_zero, List.set_cons_succ]
  refine wpAnyH_take (i := 9) (oi := { dst := some 39, op := Op.binOp BinOp.quo 3 (Operand.tmp 38) (Operand.const (Value.int IntKind.i64 4)) 3, type := 3, pos := "law.go:36", after := #[{ on := 8, ground := Ground.data }], guard := none }) (v := ?vv11_4_9) rfl (by kernel_rfl) (by kernel_rfl) (by kernel_rfl) (fun _ _ _ h => h) (Or.inl ⟨by rfl, ?yy11_4_9⟩) hHeld ?_
  case yy11_4_9 => (intro W hx; go_simp; try with_reducible rfl)
  simp only [Act.put, List.setIfInBounds_toArray, List.set_cons_zero, List.set_cons_succ]
  refine wpAnyH_take (i := 10) (oi := { dst := some 40, op := Op.binOp BinOp.mul 3 (Operand.tmp 39) (Operand.const (Value.int IntKind.i64 4)) 3, type := 3, pos := "law.go:36", after := #[{ on := 9, ground := Ground.data }], guard := none }) (v := ?vv12_4_10) rfl (by kernel_rfl) (by kernel_rfl) (by kernel_rfl) (fun _ _ _ h => h) (Or.inl ⟨by rfl, ?yy12_4_10⟩) hHeld ?_
  case yy12_4_10 => (intro W hx; go_simp; try with_reducible rfl)
  simp only [Act.put, List.setIfInBounds_toArray, List.set_cons_zero, List.set_cons_succ]
  refine wpAnyH_take (i := 11) (oi := { dst := some 41, op := Op.slice 22 (Operand.tmp 36) none (some (Operand.tmp 40)) none, type := 22, pos := "law.go:36", after := #[{ on := 6, ground := Ground.data }, { on := 10, ground := Ground.data }], guard := none }) (v := ?vv13_4_11) rfl (by kernel_rfl) (by kernel_rfl) (by kernel_rfl) (fun _ _ _ h => h) (Or.inl ⟨by rfl, ?yy13_4_11⟩) hHeld ?_
  case yy13_4_11 => (intro W hx; go_simp; try with_reducible rfl)
  simp only [Act.put, List.setIfInBounds_toArray, List.set_cons_zero, List.set_cons_succ]
  refine wpAnyH_take (i := 12) (oi := { dst := some 11, op := Op.assign (Operand.tmp 35), type := 22, pos := "law.go:36", after := #[{ on := 5, ground := Ground.data }, { on := 0, ground := Ground.phase }, { on := 1, ground := Ground.phase }, { on := 2, ground := Ground.phase }, { on := 3, ground := Ground.phase }, { on := 4, ground := Ground.phase }, { on := 5, ground := Ground.phase }, { on := 6, ground := Ground.textOnly Departure.lateStores }, { on := 7, ground := Ground.textOnly Departure.lateStores }, { on := 8, ground := Ground.textOnly Departure.lateStoresUnsure }, { on := 9, ground := Ground.textOnly Departure.lateStores }, { on := 10, ground := Ground.textOnly Departure.lateStores }, { on := 11, ground := Ground.textOnly Departure.lateStoresUnsure }], guard := none }) (v := ?vv14_4_12) rfl (by kernel_rfl) (by kernel_rfl) (by kernel_rfl) (fun _ _ _ h => h) (Or.inl ⟨by rfl, ?yy14_4_12⟩) hHeld ?_
  case yy14_4_12 => (intro W hx; go_simp; try with_reducible rfl)
  simp only [Act.put, List.setIfInBounds_toArray, List.set_cons_zero, List.set_cons_succ]
  refine wpAnyH_take (i := 13) (oi := { dst := some 12, op := Op.assign (Operand.tmp 41), type := 22, pos := "law.go:36", after := #[{ on := 11, ground := Ground.data }, { on := 12, ground := Ground.chain }, { on := 0, ground := Ground.phase }, { on := 1, ground := Ground.phase }, { on := 2, ground := Ground.phase }, { on := 3, ground := Ground.phase }, { on := 4, ground := Ground.phase }, { on := 5, ground := Ground.phase }, { on := 6, ground := Ground.phase }, { on := 7, ground := Ground.phase }, { on := 8, ground := Ground.phase }, { on := 9, ground := Ground.phase }, { on := 10, ground := Ground.phase }, { on := 11, ground := Ground.phase }, { on := 12, ground := Ground.phase }], guard := none }) (v := ?vv15_4_13) rfl (by kernel_rfl) (by kernel_rfl) (by kernel_rfl) (fun _ _ _ h => h) (Or.inl ⟨by rfl, ?yy15_4_13⟩) hHeld ?_
  case yy15_4_13 => (intro W hx; go_simp; try with_reducible rfl)
  simp only [Act.put, List.setIfInBounds_toArray, List.set_cons_zero, List.set_cons_succ]
  refine wpAnyH_done (by kernel_rfl) ?_ _
  have zend := zz0.trans hHeld
  clear hw1 hw2 hw3 hw4 hwr
  have rxD := rx.ext (x1.trans zend)
  have ryD := ry.ext (x1.trans zend)
  go_upto_region 6 with (first
    | (at_builtin; refine wpList_app el22 rfl _ _ rfl (World.ownsRow_lit _ #[] 0 (Nat.le_refl _) (by simp) rfl) rfl ((rxD.ext ((Ext.refl _).alloc _)).shows) rfl (u8s_one _) (le_max (by omega)) (by omega) rfl ((Ext.refl _).alloc _) ?_; intro v7 w7 own7 x7 hg7 hat7; clear hg7 hat7; rw [Nat.zero_add] at own7)
    | (at_builtin; refine wpList_app el22 rfl _ _ rfl own7 rfl ((ryD.ext x7).shows) rfl (u8s_one _) (le_max (by omega)) (by omega) rfl x7 ?_; intro v8 w8 own8 x8 hg8 hat8; clear hg8 hat8; obtain ⟨A5, c5, rfl, l5, m5, r5⟩ := own_rd (bs := X ++ Y) (by rw [u8s_append]; exact own8) (rxD.byts.append ryD.byts))
    | (go_at_call 9; (refine (of_any _ _ _ _ _ _ _ r5 (by omega) l5 m5 _ HY.out HM3.out).mono ?_); rintro e w9 ⟨rfl, x9⟩; rw [V1.out]))
  have y9 := x8.trans x9
  have rxE := rxD.ext y9
  have ryE := ryD.ext y9
  clear rxD ryD zz0
  go_upto_region 7 with (first
    | (at_builtin; refine wpList_app el22 rfl _ _ rfl (World.ownsRow_lit _ #[] 0 (Nat.le_refl _) (by simp) rfl) rfl ((ryE.ext ((Ext.refl _).alloc _)).shows) rfl (u8s_one _) (le_max (by omega)) (by omega) rfl ((Ext.refl _).alloc _) ?_; intro v7 w7 own7 z7 hg7 hat7; clear hg7 hat7; rw [Nat.zero_add] at own7)
    | (at_builtin; refine wpList_app el22 rfl _ _ rfl own7 rfl ((rxE.ext z7).shows) rfl (u8s_one _) (le_max (by omega)) (by omega) rfl z7 ?_; intro v8 u8 own8 z8 hg8 hat8; clear hg8 hat8; obtain ⟨A5, c5, rfl, l5, m5, r6⟩ := own_rd (bs := Y ++ X) (by rw [u8s_append]; exact own8) (ryE.byts.append rxE.byts))
    | (go_at_call 9; (refine (of_any _ _ _ _ _ _ _ r6 (by omega) l5 m5 _ HY.out HM4.out).mono ?_); rintro e u9 ⟨rfl, z9⟩; rw [V2.out]))
  have rxF := rxE.ext (z8.trans z9)
  have ryF := ryE.ext (z8.trans z9)
  have xx := (x1.trans zend).trans (y9.trans (z8.trans z9))
  clear rxE ryE
  go_upto_region 8 with (go_at_call 9; (refine (of_any _ _ _ _ _ _ _ rxF (by omega) hpc cmA _ HY.out HM1.out).mono ?_); rintro e w10 ⟨rfl, x10⟩; rw [HP.out])
  go_upto_region 9 with (go_at_call 9; (refine (of_any _ _ _ _ _ _ _ (ryF.ext x10) (by omega) hqd cmB _ HY.out HM2.out).mono ?_); rintro e w11 ⟨rfl, x11⟩; rw [HQ.out])
  go_cut [21] (fun v wr => v = .int .u64 (mostK kk) ∧ Ext w11 wr)
  case first =>
    have K := blk_of (Ext.refl (w11.alloc (.cells #[.int .u64 256, .int .u64 65536, .int .u64 4294967296, .int .u64 65536, .int .u64 4294967296, .int .u64 4294967296] 31)))
    obtain ⟨f0, f1, f2, f3, f4, f5⟩ := cells6 K
    rcases (by omega : kk = 1 ∨ kk = 2 ∨ kk = 3 ∨ kk = 4 ∨ kk = 5 ∨ kk = 6) with e | e | e | e | e | e
    all_goals
      go_wp2
      go_meet
      case rel => exact ⟨by simp [mostK, e], (Ext.refl _).alloc _⟩
  case rest =>
    obtain ⟨rfl, xc⟩ := hcut
    obtain ⟨M, hM⟩ : ∃ M, M = mostK kk := ⟨_, rfl⟩
    have hMp : 1 ≤ M ∧ M ≤ 4294967296 := by rw [hM]; unfold mostK; repeat' split <;> omega
    rw [← hM] at hR ⊢
    clear hM hkk hkt
    have hM0 : (M == 0) = false := by simp; omega
    have hbR : 0 ≤ R ∧ R < 4294967296 := by rw [← hR]; exact ⟨Int.emod_nonneg _ (by omega), Int.lt_of_lt_of_le (Int.emod_lt_of_pos _ (by omega)) hMp.2⟩
    obtain ⟨bP0, bP1⟩ := bP
    obtain ⟨bQ0, bQ1⟩ := bQ
    obtain ⟨bR0, bR1⟩ := hbR
    have hRt : (P + Q).tmod M = R := by rw [Int.tmod_eq_emod_of_nonneg (by omega)]; exact hR
    go_wp2
    go_ret
    exact ⟨by simp, xx.trans (x10.trans (x11.trans xc))⟩
end Go.Proofs.Ytjfdcgpnjjhhoaa
