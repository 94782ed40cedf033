import Derived.Test.YtpjficfmmfdbjaaVC
set_option linter.unusedVariables false
set_option linter.unusedSimpArgs false
namespace Go.Proofs.Ytpjficfmmfdbjaa
open Go.RowKit
theorem rnew_long {w : World} {A : Option Addr} {n c : Nat} (h : 64 < n) : Calls Try.prog 18 #[.slice A n c] w fun e w' => e = .returned (.tuple #[.slice none 0 0, .int .i64 3]) ∧ w = w' := by
  have h' : (64 : Int) < n := by omega
  clear h
  go_enter Try.func18, Try.ntmps18
  go_wp2
  go_ret2
  exact ⟨rfl, rfl⟩
theorem s_beq (a b : ByteArray) : (a.toList == b.toList) = decide (a = b) := by
  by_cases h : a = b
  · subst h; simp
  · rw [decide_eq_false h, beq_eq_false_iff_ne]
    intro e
    exact h (ByteArray.ext (Array.ext' (by simpa [ByteArray.toList_eq] using e)))
def rnewV (l : List Sy) (A : Option Addr) (n c : Nat) : Value := if newE l = 0 then .slice A n c else .slice none 0 0
set_option maxRecDepth 100000 in
set_option maxHeartbeats 4000000 in
theorem rnew_short {w : World} {A : Option Addr} {n c : Nat} {l : List Sy} (hs : Shows w 8 A n (sys l)) (hn : n = l.length) (hok : ∀ y ∈ l, y.ok) (h : n ≤ 64) :
    Calls Try.prog 18 #[.slice A n c] w fun e w' => e = .returned (.tuple #[rnewV l A n c, .int .i64 (newE l)]) ∧ Ext w w' := by
  have h' : ¬ (64 : Int) < n := by omega
  have HL := Lib.hid (And.intro hs (And.intro hn hok))
  clear hs hn hok
  go_enter Try.func18, Try.ntmps18
  go_upto_region 4 with (fail)
  go_loopw [4] (fun v wr => ∃ k : Nat, v = .int .i64 k ∧ k ≤ n ∧ Ext w wr ∧ (l.take k).all Sy.may = true) (fun v _ => n - (intOf v).toNat)
  case atStart => exact ⟨0, rfl, Nat.zero_le _, Ext.refl _, rfl⟩
  case round =>
    obtain ⟨k, rfl, hk, xr, hall⟩ := hrel
    obtain ⟨wo, rfl⟩ : ∃ z : World, z = wr := ⟨_, rfl⟩
    have HA := Lib.hid hall
    clear hall
    by_cases hlt : k < n
    · have hkn : (k : Int) < n := by omega
      obtain ⟨y, hy⟩ : ∃ y, l[k]? = some y := ⟨_, List.getElem?_eq_getElem (by have := HL.out.2.1; omega)⟩
      obtain ⟨b5, o5, hA', hb5, hr⟩ := Shows.row sy_len (by omega) (HL.out.1.ext xr) HL.out.2.1 hy
      have HY := Lib.hid (And.intro hy (HL.out.2.2 y (List.mem_of_getElem? hy)))
      subst hA'
      clear hy
      rcases hm : y.may with _ | _
      · have HM := Lib.hid hm
        clear hm
        go_wp2_with (first | refine wpList_load_mid rfl 24 _ rfl _ _ rfl y.vals _ hr Try.underlying24 rfl size24 ?_ | (go_at_call 16; (refine (rmay_sy y _ HY.out.2.s).mono ?_); rw [HM.out]; rintro e w6 ⟨rfl, x6⟩))
        go_ret2
        have hne : newE l = 1 := by
          unfold newE
          rw [if_neg (by have := HL.out.2.1; omega), if_pos]
          rw [List.all_eq_false]
          exact ⟨y, List.mem_of_getElem? HY.out.1, by rw [HM.out]; simp⟩
        exact ⟨by rw [hne]; unfold rnewV; rw [hne]; rfl, xr.trans x6⟩
      · have HM := Lib.hid hm
        clear hm
        go_wp2_with (first | refine wpList_load_mid rfl 24 _ rfl _ _ rfl y.vals _ hr Try.underlying24 rfl size24 ?_ | (go_at_call 16; (refine (rmay_sy y _ HY.out.2.s).mono ?_); rw [HM.out]; rintro e w6 ⟨rfl, x6⟩))
        go_roundw
        case rel => exact ⟨k + 1, by go_num, by omega, xr.trans x6, by rw [List.take_add_one, HY.out.1]; simp only [Option.toList_some, List.all_append, HA.out, Bool.true_and]; simp [HM.out]⟩
        case measure => simp [intOf]; omega
    · obtain rfl : k = n := by omega
      have hall := HA.out
      rw [HL.out.2.1, List.take_length] at hall
      have HALL := Lib.hid hall
      clear hall
      go_upto_region 9 with (fail)
      go_loopw [5] (fun v wr => ∃ i : Nat, v = .int .i64 i ∧ i ≤ k ∧ Ext w wr ∧ ((l.take i).map Sy.s).Nodup) (fun v _ => k - (intOf v).toNat)
      case atStart => exact ⟨0, rfl, Nat.zero_le _, xr, by simp⟩
      case round =>
        obtain ⟨i, rfl, hi, x2, hnd⟩ := hrel
        obtain ⟨wp, rfl⟩ : ∃ z : World, z = wr := ⟨_, rfl⟩
        have HND := Lib.hid hnd
        clear hnd
        by_cases hil : i < k
        · have hiI : (i : Int) < k := by omega
          obtain ⟨y, hy⟩ : ∃ y, l[i]? = some y := ⟨_, List.getElem?_eq_getElem (by have := HL.out.2.1; omega)⟩
          have HY := Lib.hid hy
          go_upto_region 12 with (fail)
          go_loopw [6] (fun v wr => ∃ j : Nat, v = .int .i64 j ∧ j ≤ i ∧ Ext w wr ∧ y.s ∉ (l.take j).map Sy.s) (fun v _ => i - (intOf v).toNat)
          case atStart => exact ⟨0, rfl, Nat.zero_le _, x2, by simp⟩
          case round =>
            obtain ⟨j, rfl, hj, x3, hno⟩ := hrel
            obtain ⟨wq, rfl⟩ : ∃ z : World, z = wr := ⟨_, rfl⟩
            have HNO := Lib.hid hno
            clear hno
            by_cases hjl : j < i
            · have hjI : (j : Int) < i := by omega
              have hjk : (j : Int) < k := by omega
              obtain ⟨x, hx⟩ : ∃ x, l[j]? = some x := ⟨_, List.getElem?_eq_getElem (by have := HL.out.2.1; omega)⟩
              obtain ⟨b5, o5, hA', hb5, hr5⟩ := Shows.row sy_len (by omega) (HL.out.1.ext x3) HL.out.2.1 hx
              obtain ⟨b6, o6, hA6, hb6, hr6⟩ := Shows.row sy_len (by omega) (HL.out.1.ext x3) HL.out.2.1 hy
              rw [hA'] at hA6
              injection hA6 with hA6
              injection hA6 with e1 e2
              subst e1 e2
              subst hA'
              have HX := Lib.hid hx
              have p5 := hr5 0 _ rfl
              have p6 := hr6 0 _ rfl
              simp only [Nat.add_zero] at p5 p6
              clear hx hy hr5 hr6
              have HP := Lib.hid (And.intro p5 p6)
              clear p5 p6
              go_upto_region 14 with (fail)
              by_cases he : x.s = y.s
              · have hbe : (x.s.toList == y.s.toList) = true := by rw [s_beq, decide_eq_true he]
                have HE := Lib.hid he
                clear he
                refine wp_region_held_drew (S := Ext wq) (by kernel_rfl) ((Ext.refl _).drew) (fun hHeld => ?_)
                obtain ⟨wD1, hwD⟩ : ∃ V, V = World.drew wq := ⟨_, rfl⟩
                rw [← hwD]
                clear hHeld
                have zz0 : Ext wq wD1 := by rw [hwD]; exact (Ext.refl _).drew
                clear hwD
                refine wpAnyH_imp (S' := Ext wD1) (fun W h => Ext.trans zz0 h) _ _ _ _ ?_
                have hHeld := Ext.refl wD1
                refine wpAnyH_take (i := 0) (oi := { dst := some 33, op := Op.move (Operand.tmp 0), type := 26, pos := "ref.go:31", after := #[], guard := none }) (v := ?vv2_14_0) rfl (by kernel_rfl) (by kernel_rfl) (by kernel_rfl) (fun _ _ _ h => h) (Or.inl ⟨by rfl, ?yy2_14_0⟩) hHeld ?_
                case yy2_14_0 => (intro W hx; go_simp; try with_reducible rfl)
                simp only [Act.put, List.setIfInBounds_toArray, List.set_cons_zero, List.set_cons_succ]
                refine wpAnyH_take (i := 1) (oi := { dst := some 34, op := Op.move (Operand.tmp 6), type := 3, pos := "ref.go:31", after := #[], guard := none }) (v := ?vv3_14_1) rfl (by kernel_rfl) (by kernel_rfl) (by kernel_rfl) (fun _ _ _ h => h) (Or.inl ⟨by rfl, ?yy3_14_1⟩) hHeld ?_
                case yy3_14_1 => (intro W hx; go_simp; try with_reducible rfl)
                simp only [Act.put, List.setIfInBounds_toArray, List.set_cons_zero, List.set_cons_succ]
                refine wpAnyH_take (i := 2) (oi := { dst := some 35, op := Op.indexAddr 26 (Operand.tmp 33) (Operand.tmp 34), type := 0, pos := "ref.go:31", after := #[{ on := 0, ground := Ground.data }, { on := 1, ground := Ground.data }], guard := none }) (v := ?vv4_14_2) rfl (by kernel_rfl) (by kernel_rfl) (by kernel_rfl) (fun _ _ _ h => h) (Or.inl ⟨by rfl, ?yy4_14_2⟩) hHeld ?_
                case yy4_14_2 => (intro W hx; go_simp; try with_reducible rfl)
                simp only [Act.put, List.setIfInBounds_toArray, List.set_cons_zero, List.set_cons_succ]
                refine wpAnyH_take (i := 3) (oi := { dst := some 36, op := Op.fieldAddr 24 (Operand.tmp 35) 0, type := 0, pos := "ref.go:31", after := #[{ on := 2, ground := Ground.data }], guard := none }) (v := ?vv5_14_3) rfl (by kernel_rfl) (by kernel_rfl) (by kernel_rfl) (fun _ _ _ h => h) (Or.inl ⟨by rfl, ?yy5_14_3⟩) hHeld ?_
                case yy5_14_3 => (intro W hx; go_simp; try with_reducible rfl)
                simp only [Act.put, List.setIfInBounds_toArray, List.set_cons_zero, List.set_cons_succ]
                refine wpAnyH_take (i := 4) (oi := { dst := some 37, op := Op.load 9 (Operand.tmp 36), type := 9, pos := "ref.go:31", after := #[{ on := 3, ground := Ground.data }], guard := none }) (v := ?vv6_14_4) rfl (by kernel_rfl) (by kernel_rfl) (by kernel_rfl) (fun _ _ _ h => h) (Or.inl ⟨by rfl, ?yy6_14_4⟩) hHeld ?_
                case yy6_14_4 => (intro W hx; have hz := zz0.trans hx; have m0 := cell_ext hz HP.out.1; go_simp; try with_reducible rfl)
                simp only [Act.put, List.setIfInBounds_toArray, List.set_cons_zero, List.set_cons_succ]
                refine wpAnyH_take (i := 5) (oi := { dst := some 38, op := Op.move (Operand.tmp 0), type := 26, pos := "ref.go:31", after := #[], guard := none }) (v := ?vv7_14_5) rfl (by kernel_rfl) (by kernel_rfl) (by kernel_rfl) (fun _ _ _ h => h) (Or.inl ⟨by rfl, ?yy7_14_5⟩) hHeld ?_
                case yy7_14_5 => (intro W hx; go_simp; try with_reducible rfl)
                simp only [Act.put, List.setIfInBounds_toArray, List.set_cons_zero, List.set_cons_succ]
                refine wpAnyH_take (i := 6) (oi := { dst := some 39, op := Op.move (Operand.tmp 5), type := 3, pos := "ref.go:31", after := #[], guard := none }) (v := ?vv8_14_6) rfl (by kernel_rfl) (by kernel_rfl) (by kernel_rfl) (fun _ _ _ h => h) (Or.inl ⟨by rfl, ?yy8_14_6⟩) hHeld ?_
                case yy8_14_6 => (intro W hx; go_simp; try with_reducible rfl)
                simp only [Act.put, List.setIfInBounds_toArray, List.set_cons_zero, List.set_cons_succ]
                refine wpAnyH_take (i := 7) (oi := { dst := some 40, op := Op.indexAddr 26 (Operand.tmp 38) (Operand.tmp 39), type := 0, pos := "ref.go:31", after := #[{ on := 5, ground := Ground.data }, { on := 6, ground := Ground.data }], guard := none }) (v := ?vv9_14_7) rfl (by kernel_rfl) (by kernel_rfl) (by kernel_rfl) (fun _ _ _ h => h) (Or.inl ⟨by rfl, ?yy9_14_7⟩) hHeld ?_
                case yy9_14_7 => (intro W hx; go_simp; try with_reducible rfl)
                simp only [Act.put, List.setIfInBounds_toArray, List.set_cons_zero, List.set_cons_succ]
                refine wpAnyH_take (i := 8) (oi := { dst := some 41, op := Op.fieldAddr 24 (Operand.tmp 40) 0, type := 0, pos := "ref.go:31", after := #[{ on := 7, ground := Ground.data }], guard := none }) (v := ?vv10_14_8) rfl (by kernel_rfl) (by kernel_rfl) (by kernel_rfl) (fun _ _ _ h => h) (Or.inl ⟨by rfl, ?yy10_14_8⟩) hHeld ?_
                case yy10_14_8 => (intro W hx; go_simp; try with_reducible rfl)
                simp only [Act.put, List.setIfInBounds_toArray, List.set_cons_zero, List.set_cons_succ]
                refine wpAnyH_take (i := 9) (oi := { dst := some 42, op := Op.load 9 (Operand.tmp 41), type := 9, pos := "ref.go:31", after := #[{ on := 8, ground := Ground.data }], guard := none }) (v := ?vv11_14_9) rfl (by kernel_rfl) (by kernel_rfl) (by kernel_rfl) (fun _ _ _ h => h) (Or.inl ⟨by rfl, ?yy11_14_9⟩) hHeld ?_
                case yy11_14_9 => (intro W hx; have hz := zz0.trans hx; have m0 := cell_ext hz HP.out.2; go_simp; try with_reducible rfl)
                simp only [Act.put, List.setIfInBounds_toArray, List.set_cons_zero, List.set_cons_succ]
                refine wpAnyH_take (i := 10) (oi := { dst := some 43, op := Op.binOp BinOp.eql 9 (Operand.tmp 37) (Operand.tmp 42) 9, type := 4, pos := "ref.go:31", after := #[{ on := 4, ground := Ground.data }, { on := 9, ground := Ground.data }], guard := none }) (v := ?vv12_14_10) rfl (by kernel_rfl) (by kernel_rfl) (by kernel_rfl) (fun _ _ _ h => h) (Or.inl ⟨by rfl, ?yy12_14_10⟩) hHeld ?_
                case yy12_14_10 => (intro W hx; go_simp; try with_reducible rfl)
                simp only [Act.put, List.setIfInBounds_toArray, List.set_cons_zero, List.set_cons_succ]
                refine wpAnyH_done (by kernel_rfl) ?_ _
                have zend := zz0.trans hHeld
                go_wp2
                go_ret2
                have hne : newE l = 180 := by
                  unfold newE
                  rw [if_neg (by have := HL.out.2.1; omega), if_neg (by rw [HALL.out]; simp), if_neg]
                  intro hnd
                  have hj2 : j < (l.map Sy.s).length := by rw [List.length_map, ← HL.out.2.1]; omega
                  have hi2 : i < (l.map Sy.s).length := by rw [List.length_map, ← HL.out.2.1]; omega
                  have := (List.getElem_inj (h₀ := hj2) (h₁ := hi2) hnd).1 (by
                    have h1 := HX.out
                    have h2 := HY.out
                    rw [List.getElem?_eq_getElem (by simpa using hj2)] at h1
                    rw [List.getElem?_eq_getElem (by simpa using hi2)] at h2
                    injection h1 with h1
                    injection h2 with h2
                    rw [List.getElem_map, List.getElem_map, h1, h2, HE.out])
                  omega
                exact ⟨by rw [hne]; unfold rnewV; rw [hne]; rfl, x3.trans zend⟩
              · have hbe : (x.s.toList == y.s.toList) = false := by rw [s_beq, decide_eq_false he]
                have HE := Lib.hid he
                clear he
                refine wp_region_held_drew (S := Ext wq) (by kernel_rfl) ((Ext.refl _).drew) (fun hHeld => ?_)
                obtain ⟨wD13, hwD⟩ : ∃ V, V = World.drew wq := ⟨_, rfl⟩
                rw [← hwD]
                clear hHeld
                have zz0 : Ext wq wD13 := by rw [hwD]; exact (Ext.refl _).drew
                clear hwD
                refine wpAnyH_imp (S' := Ext wD13) (fun W h => Ext.trans zz0 h) _ _ _ _ ?_
                have hHeld := Ext.refl wD13
                refine wpAnyH_take (i := 0) (oi := { dst := some 33, op := Op.move (Operand.tmp 0), type := 26, pos := "ref.go:31", after := #[], guard := none }) (v := ?vv14_14_0) rfl (by kernel_rfl) (by kernel_rfl) (by kernel_rfl) (fun _ _ _ h => h) (Or.inl ⟨by rfl, ?yy14_14_0⟩) hHeld ?_
                case yy14_14_0 => (intro W hx; go_simp; try with_reducible rfl)
                simp only [Act.put, List.setIfInBounds_toArray, List.set_cons_zero, List.set_cons_succ]
                refine wpAnyH_take (i := 1) (oi := { dst := some 34, op := Op.move (Operand.tmp 6), type := 3, pos := "ref.go:31", after := #[], guard := none }) (v := ?vv15_14_1) rfl (by kernel_rfl) (by kernel_rfl) (by kernel_rfl) (fun _ _ _ h => h) (Or.inl ⟨by rfl, ?yy15_14_1⟩) hHeld ?_
                case yy15_14_1 => (intro W hx; go_simp; try with_reducible rfl)
                simp only [Act.put, List.setIfInBounds_toArray, List.set_cons_zero, List.set_cons_succ]
                refine wpAnyH_take (i := 2) (oi := { dst := some 35, op := Op.indexAddr 26 (Operand.tmp 33) (Operand.tmp 34), type := 0, pos := "ref.go:31", after := #[{ on := 0, ground := Ground.data }, { on := 1, ground := Ground.data }], guard := none }) (v := ?vv16_14_2) rfl (by kernel_rfl) (by kernel_rfl) (by kernel_rfl) (fun _ _ _ h => h) (Or.inl ⟨by rfl, ?yy16_14_2⟩) hHeld ?_
                case yy16_14_2 => (intro W hx; go_simp; try with_reducible rfl)
                simp only [Act.put, List.setIfInBounds_toArray, List.set_cons_zero, List.set_cons_succ]
                refine wpAnyH_take (i := 3) (oi := { dst := some 36, op := Op.fieldAddr 24 (Operand.tmp 35) 0, type := 0, pos := "ref.go:31", after := #[{ on := 2, ground := Ground.data }], guard := none }) (v := ?vv17_14_3) rfl (by kernel_rfl) (by kernel_rfl) (by kernel_rfl) (fun _ _ _ h => h) (Or.inl ⟨by rfl, ?yy17_14_3⟩) hHeld ?_
                case yy17_14_3 => (intro W hx; go_simp; try with_reducible rfl)
                simp only [Act.put, List.setIfInBounds_toArray, List.set_cons_zero, List.set_cons_succ]
                refine wpAnyH_take (i := 4) (oi := { dst := some 37, op := Op.load 9 (Operand.tmp 36), type := 9, pos := "ref.go:31", after := #[{ on := 3, ground := Ground.data }], guard := none }) (v := ?vv18_14_4) rfl (by kernel_rfl) (by kernel_rfl) (by kernel_rfl) (fun _ _ _ h => h) (Or.inl ⟨by rfl, ?yy18_14_4⟩) hHeld ?_
                case yy18_14_4 => (intro W hx; have hz := zz0.trans hx; have m0 := cell_ext hz HP.out.1; go_simp; try with_reducible rfl)
                simp only [Act.put, List.setIfInBounds_toArray, List.set_cons_zero, List.set_cons_succ]
                refine wpAnyH_take (i := 5) (oi := { dst := some 38, op := Op.move (Operand.tmp 0), type := 26, pos := "ref.go:31", after := #[], guard := none }) (v := ?vv19_14_5) rfl (by kernel_rfl) (by kernel_rfl) (by kernel_rfl) (fun _ _ _ h => h) (Or.inl ⟨by rfl, ?yy19_14_5⟩) hHeld ?_
                case yy19_14_5 => (intro W hx; go_simp; try with_reducible rfl)
                simp only [Act.put, List.setIfInBounds_toArray, List.set_cons_zero, List.set_cons_succ]
                refine wpAnyH_take (i := 6) (oi := { dst := some 39, op := Op.move (Operand.tmp 5), type := 3, pos := "ref.go:31", after := #[], guard := none }) (v := ?vv20_14_6) rfl (by kernel_rfl) (by kernel_rfl) (by kernel_rfl) (fun _ _ _ h => h) (Or.inl ⟨by rfl, ?yy20_14_6⟩) hHeld ?_
                case yy20_14_6 => (intro W hx; go_simp; try with_reducible rfl)
                simp only [Act.put, List.setIfInBounds_toArray, List.set_cons_zero, List.set_cons_succ]
                refine wpAnyH_take (i := 7) (oi := { dst := some 40, op := Op.indexAddr 26 (Operand.tmp 38) (Operand.tmp 39), type := 0, pos := "ref.go:31", after := #[{ on := 5, ground := Ground.data }, { on := 6, ground := Ground.data }], guard := none }) (v := ?vv21_14_7) rfl (by kernel_rfl) (by kernel_rfl) (by kernel_rfl) (fun _ _ _ h => h) (Or.inl ⟨by rfl, ?yy21_14_7⟩) hHeld ?_
                case yy21_14_7 => (intro W hx; go_simp; try with_reducible rfl)
                simp only [Act.put, List.setIfInBounds_toArray, List.set_cons_zero, List.set_cons_succ]
                refine wpAnyH_take (i := 8) (oi := { dst := some 41, op := Op.fieldAddr 24 (Operand.tmp 40) 0, type := 0, pos := "ref.go:31", after := #[{ on := 7, ground := Ground.data }], guard := none }) (v := ?vv22_14_8) rfl (by kernel_rfl) (by kernel_rfl) (by kernel_rfl) (fun _ _ _ h => h) (Or.inl ⟨by rfl, ?yy22_14_8⟩) hHeld ?_
                case yy22_14_8 => (intro W hx; go_simp; try with_reducible rfl)
                simp only [Act.put, List.setIfInBounds_toArray, List.set_cons_zero, List.set_cons_succ]
                refine wpAnyH_take (i := 9) (oi := { dst := some 42, op := Op.load 9 (Operand.tmp 41), type := 9, pos := "ref.go:31", after := #[{ on := 8, ground := Ground.data }], guard := none }) (v := ?vv23_14_9) rfl (by kernel_rfl) (by kernel_rfl) (by kernel_rfl) (fun _ _ _ h => h) (Or.inl ⟨by rfl, ?yy23_14_9⟩) hHeld ?_
                case yy23_14_9 => (intro W hx; have hz := zz0.trans hx; have m0 := cell_ext hz HP.out.2; go_simp; try with_reducible rfl)
                simp only [Act.put, List.setIfInBounds_toArray, List.set_cons_zero, List.set_cons_succ]
                refine wpAnyH_take (i := 10) (oi := { dst := some 43, op := Op.binOp BinOp.eql 9 (Operand.tmp 37) (Operand.tmp 42) 9, type := 4, pos := "ref.go:31", after := #[{ on := 4, ground := Ground.data }, { on := 9, ground := Ground.data }], guard := none }) (v := ?vv24_14_10) rfl (by kernel_rfl) (by kernel_rfl) (by kernel_rfl) (fun _ _ _ h => h) (Or.inl ⟨by rfl, ?yy24_14_10⟩) hHeld ?_
                case yy24_14_10 => (intro W hx; go_simp; try with_reducible rfl)
                simp only [Act.put, List.setIfInBounds_toArray, List.set_cons_zero, List.set_cons_succ]
                refine wpAnyH_done (by kernel_rfl) ?_ _
                have zend := zz0.trans hHeld
                go_wp2
                go_roundw
                case rel => exact ⟨j + 1, by go_num, by omega, x3.trans zend, by rw [take_map_succ Sy.s HX.out]; simp only [List.mem_append, List.mem_singleton, not_or]; exact ⟨HNO.out, fun e => HE.out e.symm⟩⟩
                case measure => simp [intOf]; omega
            · obtain rfl : j = i := by omega
              go_wp2
              go_roundw
              case rel => exact ⟨j + 1, by go_num, by omega, x3, by rw [take_map_succ Sy.s HY.out, nodup_snoc]; exact ⟨HND.out, HNO.out⟩⟩
              case measure => simp [intOf]; omega
        · obtain rfl : i = k := by omega
          have hnd := HND.out
          rw [HL.out.2.1, List.take_length] at hnd
          have hne : newE l = 0 := by
            unfold newE
            rw [if_neg (by have := HL.out.2.1; omega), if_neg (by rw [HALL.out]; simp), if_pos hnd]
          have HNE := Lib.hid hne
          clear hne hnd
          go_wp2
          go_ret2
          exact ⟨by rw [HNE.out]; unfold rnewV; rw [HNE.out]; rfl, x2⟩
theorem rfind_any {w : World} {A : Option Addr} {n c : Nat} {l : List Sy} (hs : Shows w 8 A n (sys l)) (hn : n = l.length) (hm : n ≤ 100) (s : ByteArray) : Calls Try.prog 20 #[.slice A n c, .string s] w fun e w' => e = .returned (.tuple #[.agg (findS l s).1.vals.toArray, .bool (findS l s).2]) ∧ Ext w w' := by
  obtain ⟨w0, hw0⟩ : ∃ V, V = w.alloc (.cells zsy.vals.toArray 24) := ⟨_, rfl⟩
  have k0 : w0.heap[w.heap.size]? = some (.cells zsy.vals.toArray 24 (0, 0)) := by rw [hw0]; exact heap_alloc_new _ _
  have x0 : Ext w w0 := by rw [hw0]; exact (Ext.refl _).alloc _
  have HL := Lib.hid (And.intro hs hn)
  clear hs hn
  go_enter Try.func20, Try.ntmps20
  go_upto_region 2 with (fail)
  change Code.wp _ _ _ _ (w.alloc (.cells zsy.vals.toArray 24))
  rw [← hw0]
  clear hw0
  go_loopw [6] (fun v wr => ∃ k : Nat, v = .int .i64 k ∧ k ≤ n ∧ Ext w0 wr ∧ ∀ y ∈ l.take k, y.s ≠ s) (fun v _ => n - (intOf v).toNat)
  case atStart => exact ⟨0, rfl, Nat.zero_le _, Ext.refl _, by simp⟩
  case round =>
    obtain ⟨k, rfl, hk, xr, hno⟩ := hrel
    obtain ⟨wo, rfl⟩ : ∃ z : World, z = wr := ⟨_, rfl⟩
    have HNO := Lib.hid hno
    clear hno
    have k0o := (xr.block _ (blk_lt k0)).trans k0
    have HK0 := Lib.hid k0o
    clear k0o
    by_cases hlt : k < n
    · have hkn : (k : Int) < n := by omega
      obtain ⟨y, hy⟩ : ∃ y, l[k]? = some y := ⟨_, List.getElem?_eq_getElem (by have := HL.out.2; omega)⟩
      obtain ⟨b5, o5, hA', hb5, hr⟩ := Shows.row sy_len (by omega) (HL.out.1.ext (x0.trans xr)) HL.out.2 hy
      have HY := Lib.hid hy
      subst hA'
      clear hy
      have p0 := hr 0 _ rfl
      simp only [Nat.add_zero] at p0
      by_cases he : y.s = s
      · have hbe : (y.s.toList == s.toList) = true := by rw [s_beq, decide_eq_true he]
        have hf : findS l s = (y, true) := by
          have hkl : k < l.length := by rw [← HL.out.2]; exact hlt
          have hy2 : l[k] = y := by have := HY.out; rw [List.getElem?_eq_getElem hkl] at this; injection this
          have hfi : l.find? (fun y => decide (y.s = s)) = some y := by
            rw [← List.take_append_drop k l, List.find?_append]
            have h1 : (l.take k).find? (fun y => decide (y.s = s)) = none := by
              rw [List.find?_eq_none]
              intro x hx
              simpa using HNO.out x hx
            rw [h1, Option.none_or, List.drop_eq_getElem_cons hkl, hy2]
            simp [he]
          unfold findS
          rw [hfi]
        have HHF := Lib.hid hf
        have k0o := HK0.out
        clear hf he
        go_wp2_with (first | refine wpList_load_mid rfl 24 _ rfl _ _ rfl y.vals _ hr Try.underlying24 rfl size24 ?_ | (refine wpList_strow rfl 24 (.tmp 4) (.tmp 23) rfl k0o rfl rfl size24 rfl (all_oneCell_toArray (sy_one y)) ?_; intro w5 k5 x5))
        try simp only [Exit.inBlock, Exit.then]
        refine bodyPost_ret (results_row2 rfl rfl k5.out Try.underlying24 rfl (by kernel_rfl)) rfl ?_
        exact ⟨by rw [HHF.out]; rfl, Ext.of_grown (x0.trans xr) x5 (fun k e => by injection e with e; omega)⟩
      · have hbe : (y.s.toList == s.toList) = false := by rw [s_beq, decide_eq_false he]
        have HE := Lib.hid he
        clear he
        go_wp2
        go_roundw
        case rel => exact ⟨k + 1, by go_num, by omega, xr, fun x hx => by
          rw [List.take_add_one, HY.out] at hx
          rcases List.mem_append.1 hx with hx | hx
          · exact HNO.out x hx
          · simp at hx; subst hx; exact HE.out⟩
        case measure => simp [intOf]; omega
    · obtain rfl : k = n := by omega
      have hf : findS l s = (zsy, false) := findS_no (fun hm => by
        obtain ⟨y, hy, e⟩ := List.mem_map.1 hm
        exact HNO.out y (by rw [HL.out.2, List.take_length]; exact hy) e)
      have HHF := Lib.hid hf
      have k0o := HK0.out
      clear hf
      go_wp2_with (refine wpList_strow rfl 24 (.tmp 4) (.tmp 24) rfl k0o rfl rfl size24 rfl (all_oneCell_toArray (sy_one zsy)) ?_; intro w5 k5 x5)
      try simp only [Exit.inBlock, Exit.then]
      refine bodyPost_ret (results_row2 rfl rfl k5.out Try.underlying24 rfl (by kernel_rfl)) rfl ?_
      exact ⟨by rw [HHF.out]; rfl, Ext.of_grown (x0.trans xr) x5 (fun k e => by injection e with e; omega)⟩
end Go.Proofs.Ytpjficfmmfdbjaa
