import Derived.Test.YtdhdkjiphapliaaM
set_option linter.unusedVariables false
set_option linter.unusedSimpArgs false
namespace Go.Proofs.Ytdhdkjiphapliaa
open Go.RowKit
theorem qf_up {F X : Nat → Prop} {w0 w1 w : World} {g : Nat} {s : QS} (h : Qf (fun b => F b ∧ X b) w1 w g s) (k : Kept F w0 w1) (up : ∀ b, w0.heap.size ≤ b → F b) : Qf F w0 w g s := by
  obtain ⟨h1, h2, rs, va, T, h3, h4, h5⟩ := h
  exact ⟨k.trans' (h1.mono (fun i _ h => h.1)), up, rs, va, T, h3, fun b t hb => (h4 b t hb).1, fun r hr ad e => (h5 r hr ad e).1⟩
theorem slit (n : Nat) (h1 : 1 ≤ n) (bs : List Int) : (⟨n, [], [false, false, false, false]⟩ : QS).put 0 [⟨0, 0, bs⟩] = (true, ⟨n, [⟨0, 0, bs⟩], [false, false, false, false]⟩) := by
  unfold QS.put
  have hs : samp [⟨0, 0, bs⟩] = true := by simp [samp]
  rw [if_neg (fun h => h.elim (fun h => h (by decide)) (fun h => by rw [hs] at h; cases h))]
  simp only [List.length_nil, List.length_singleton]
  rw [if_neg (by omega)]
  rfl
set_option maxRecDepth 100000 in
set_option maxHeartbeats 8000000 in
theorem QueueBounds_law (w : World) (mo : Int) (A : Option Addr) (n c : Nat) (l : List Ac) (hnc : n ≤ c) (hcm : c ≤ maxLen) (hl : n = l.length) (hs : Shows w 3 A n (acs l)) (hok : ∀ a ∈ l, a.ok w) : Calls Try.prog 5 #[.int .i64 mo, .slice A n c] w fun e w' => e = .returned (.bool true) ∧ Ext w w' := by
  by_cases hm : 1 ≤ mo ∧ mo ≤ 64
  · obtain ⟨m, rfl⟩ : ∃ m : Nat, mo = m := ⟨mo.toNat, by omega⟩
    have hm1 : 1 ≤ m := by omega
    have hm64 : m ≤ 64 := by omega
    have d1 : (1 : Int) ≤ m := by omega
    have d2 : (m : Int) ≤ 64 := by omega
    have HF := Lib.hid (fun W (x : Ext w W) => few_any (wp := w) (hs.ext x) hl hnc hcm (fun a ha => (hok a ha).ext x) (fun a ha => (hok a ha).rok))
    clear hs hl hnc hcm hok hm
    go_enter Try.func5, Try.ntmps5
    go_upto_region 2 with (go_at_call 8; (refine (shown_any _).mono ?_); rintro e w1 ⟨rfl, x1⟩)
    go_upto_region 3 with (go_at_call 9; (refine (new_b hm1 hm64 _).mono ?_); rintro e w2 ⟨g, rfl, Q2⟩)
    have HQ2 := Lib.hid Q2
    clear Q2
    go_upto_region 8 with (go_at_call 11; (refine (HF.out _ (x1.trans HQ2.out.1)).mono ?_); rintro e w3 ⟨v, ys, rfl, x3, AL⟩; obtain ⟨vA, vc, rfl, hvc, hvm, _⟩ := own_form AL.own)
    have HAL := Lib.hid AL
    have HQ3 := Lib.hid (qf_start HQ2.out rfl x3)
    obtain ⟨ny, hny⟩ : ∃ ny, ny = ys.length := ⟨_, rfl⟩
    rw [← hny]
    have HNY := Lib.hid hny
    have hvcn : ny ≤ vc := by omega
    have hny63 : ny ≤ 9223372036854775807 := by unfold maxLen at hvm; omega
    have HX3 := Lib.hid (And.intro x3 (x1.trans (HQ2.out.1.trans x3)))
    clear AL hny x3 hvc hvm d1 d2
    go_loopw [52] (fun v wr => ∃ (k : Nat) (s : QS), v = .int .i64 k ∧ k ≤ ny ∧ Qf (beh w1.heap.size w2.heap.size w3.heap.size) w3 wr g s ∧ s.most = m) (fun v _ => ny - (intOf v).toNat)
    case atStart => exact ⟨0, _, rfl, Nat.zero_le _, HQ3.out, rfl⟩
    case round =>
      obtain ⟨k, s, rfl, hk, Q, hsm⟩ := hrel
      obtain ⟨wo, rfl⟩ : ∃ z : World, z = wr := ⟨_, rfl⟩
      have HQ := Lib.hid Q
      have HSM := Lib.hid hsm
      clear Q hsm
      by_cases hlt : k < ny
      · have hkn : (k : Int) < ny := by omega
        obtain ⟨y, hy⟩ : ∃ y, ys[k]? = some y := ⟨_, List.getElem?_eq_getElem (by rw [← HNY.out]; exact hlt)⟩
        have hmem := List.mem_of_getElem? hy
        have hrow : Shows wo 3 vA ny (acs ys) := by
          have := own_keptF HAL.out.own HQ.out.1 (fun b hb hF => hF.2 (HAL.out.own.lt b hb))
          rw [← HNY.out] at this
          exact Shows.of_own this
        obtain ⟨b, o, hA', hb, hr⟩ := Shows.row ac_len (by omega) hrow HNY.out hy
        obtain ⟨y1, y2, y3, y4, y5, y6, y7⟩ := HAL.out.ok y hmem
        have y3o : Shows wo 3 y.A y.n (rps y.xs) := y3.kept HQ.out.1 (fun ad e hF => by have := HAL.out.ne y hmem ad e; exact hF.2 ⟨this.1, this.2.1⟩)
        have hyA : ∀ ad, y.A = some ad → ¬ beh w1.heap.size w2.heap.size w3.heap.size ad.block := fun ad e hF => by have := HAL.out.ne y hmem ad e; exact hF.2 ⟨this.1, this.2.1⟩
        have hxF : ∀ x ∈ y.xs, ∀ ad, x.A = some ad → 0 < x.n → ¬ beh w1.heap.size w2.heap.size w3.heap.size ad.block := fun x hx ad e h0 hF => by
          obtain ⟨ad', e', hlt', _⟩ := (HAL.out.rok y hmem x hx).1.rd.at_ h0
          rw [e] at e'; injection e' with e'; subst e'
          have h1 := hF.1
          have h2 := x1.size
          omega
        have hxo : ∀ x ∈ y.xs, x.ok wo ∧ x.n ≤ 100000 := fun x hx => ⟨((HAL.out.rok y hmem x hx).1.ext HX3.out.2).keptN HQ.out.1 (fun ad e h0 => hxF x hx ad e h0), by have := (HAL.out.rok y hmem x hx).2; omega⟩
        have HY := Lib.hid (And.intro y3o (And.intro hyA (And.intro hxF (And.intro hxo (And.intro y4 y5)))))
        have hyc : y.n ≤ y.c := y6
        have hk0 := y1
        subst hA'
        clear hy hmem hrow y1 y2 y3 y4 y5 y6 y7 y3o hyA hxF hxo
        go_upto_region 10 with (first | refine wpList_load_mid rfl 34 _ rfl _ _ rfl y.vals _ hr Try.underlying34 rfl size34 ?_ | refine wpList_stnew rfl 34 _ _ rfl rfl y.vals rfl rfl size34 rfl (ac_one y) ?_)
        obtain ⟨w4, hw4⟩ : ∃ V, V = wo.alloc (.cells y.vals.toArray 34) := ⟨_, rfl⟩
        have k4 : w4.heap[wo.heap.size]? = some (.cells #[.int .u8 y.k, .int .i64 y.list, .slice y.A y.n y.c] 34 (0, 0)) := by rw [hw4]; exact heap_alloc_new _ _
        have x4 : Ext wo w4 := by rw [hw4]; exact (Ext.refl _).alloc _
        rw [← hw4]
        clear hw4 hr
        have HK4 := Lib.hid k4
        clear k4
        -- the act's block is not the queue's
        have HQ4 := Lib.hid (qf_base HQ.out x4)
        have hB : ¬ (fun b => beh w1.heap.size w2.heap.size w3.heap.size b ∧ ¬ (wo.heap.size ≤ b ∧ b < w4.heap.size)) wo.heap.size := fun h => h.2 ⟨Nat.le_refl _, blk_lt HK4.out⟩
        have HB := Lib.hid hB
        clear hB
        go_upto_region 11 with (go_at_call 19; (refine (len_f HQ4.out).mono ?_); rintro e w5 ⟨rfl, rfl⟩)
        obtain ⟨m0, m1, m2⟩ : w4.cell? ⟨wo.heap.size, 0, none⟩ = some (.int .u8 y.k) ∧ w4.cell? ⟨wo.heap.size, 1, none⟩ = some (.int .i64 y.list) ∧ w4.cell? ⟨wo.heap.size, 2, none⟩ = some (.slice y.A y.n y.c) := ⟨blk_cell HK4.out rfl, blk_cell HK4.out rfl, blk_cell HK4.out rfl⟩
        obtain ⟨okb, hokb⟩ : ∃ b, b = (s.put y.list (y.xs.map Rp.pk)).1 := ⟨_, rfl⟩
        obtain ⟨s', hs'⟩ : ∃ z, z = (s.put y.list (y.xs.map Rp.pk)).2 := ⟨_, rfl⟩
        have HOB := Lib.hid (And.intro hokb hs')
        clear hokb hs'
        go_upto_region 12 with (go_at_call 12; (refine (put_f HQ4.out (Ext.refl _) y.list y.c (HY.out.1.ext x4) HY.out.2.2.2.2.1 (by have := HY.out.2.2.2.2.2; omega) (fun x hx => ⟨(HY.out.2.2.2.1 x hx).1.ext x4, (HY.out.2.2.2.1 x hx).2⟩) (fun ad e => .inl (fun h => HY.out.2.1 ad e h.1)) (fun x hx ad e h0 => .inl (fun h => HY.out.2.2.1 x hx ad e h0 h.1))).mono ?_); rw [← HOB.out.1, ← HOB.out.2]; rintro e w5 ⟨rfl, Q5⟩)
        have HPL := Lib.hid (show s'.l.length = s.l.length + (if okb = true then y.n else 0) ∧ s'.most = m from by
          have h1 := put_len (s := s) (list := y.list) (l := y.xs.map Rp.pk)
          rw [← HOB.out.1, ← HOB.out.2, List.length_map, ← HY.out.2.2.2.2.1, HSM.out] at h1
          exact h1)
        have HLE := Lib.hid (show s'.l.length ≤ m ∧ m ≤ 64 from ⟨by have := Q5.ok.n; rw [HPL.out.2] at this; exact this, hm64⟩)
        have HQ5 := Lib.hid Q5
        have K45 := Q5.1.blk HK4.out HB.out
        clear Q5 m0 m1 m2
        rcases hob : okb with _ | _
        · obtain rfl : okb = false := hob
          obtain ⟨ln2, hln2⟩ : ∃ z, z = s'.l.length := ⟨_, rfl⟩
          have hlI : (s.l.length : Int) = (ln2 : Int) := by have := HPL.out.1; rw [if_neg (by simp)] at this; omega
          have uln := wri ln2 (by have := HLE.out; omega)
          have hgt : ¬ (m : Int) < ln2 := by have := HLE.out; omega
          have hgt2 : ¬ m < ln2 := by omega
          have hgt3 : decide (m < ln2) = false := by simp; omega
          have HLN := Lib.hid (fun W (x : Ext w5 W) => (by rw [hln2]; exact len_f (HQ5.out.ext x) : Calls Try.prog 19 #[.pointer (some ⟨g, 0, none⟩)] W fun e w' => e = .returned (.int .i64 (ln2 : Int)) ∧ W = w'))
          clear hln2
          refine wp_region_held_drew (S := Ext w5) (by kernel_rfl) ((Ext.refl _).drew) (fun hHeld => ?_)
          obtain ⟨wD1, hwD⟩ : ∃ V, V = World.drew w5 := ⟨_, rfl⟩
          rw [← hwD]
          clear hHeld
          have zz0 : Ext w5 wD1 := by rw [hwD]; exact (Ext.refl _).drew
          clear hwD
          refine wpAnyH_imp (S' := Ext wD1) (fun W h => Ext.trans zz0 h) _ _ _ _ ?_
          have hHeld := Ext.refl wD1
          refine wpAnyH_take (i := 0) (oi := { dst := some 64, op := Op.move (Operand.tmp 11), type := 4, pos := "law.go:144", after := #[], guard := none }) (v := ?vv2_12_0) rfl (by kernel_rfl) (by kernel_rfl) (by kernel_rfl) (fun _ _ _ h => h) (Or.inl ⟨by rfl, ?yy2_12_0⟩) hHeld ?_
          case yy2_12_0 => (intro W hx; go_simp; try with_reducible rfl)
          simp only [Act.put, List.setIfInBounds_toArray, List.set_cons_zero, List.set_cons_succ]
          refine wpAnyH_take (i := 1) (oi := { dst := some 65, op := Op.move (Operand.tmp 64), type := 4, pos := "law.go:144", after := #[{ on := 0, ground := Ground.data }], guard := none }) (v := ?vv3_12_1) rfl (by kernel_rfl) (by kernel_rfl) (by kernel_rfl) (fun _ _ _ h => h) (Or.inl ⟨by rfl, ?yy3_12_1⟩) hHeld ?_
          case yy3_12_1 => (intro W hx; go_simp; try with_reducible rfl)
          simp only [Act.put, List.setIfInBounds_toArray, List.set_cons_zero, List.set_cons_succ]
          refine wpAnyH_take (i := 2) (oi := { dst := some 66, op := Op.move (Operand.tmp 6), type := 24, pos := "law.go:144", after := #[{ on := 1, ground := Ground.guard }], guard := some (1, true) }) (v := undef) rfl (by kernel_rfl) (by kernel_rfl) (by kernel_rfl) (fun _ _ _ h => h) (Or.inr ⟨by rfl, rfl⟩) hHeld ?_
          simp only [Act.put, List.setIfInBounds_toArray, List.set_cons_zero, List.set_cons_succ]
          refine wpAnyH_take (i := 3) (oi := { dst := some 67, op := Op.call { callee := Callee.value (Operand.func 19), args := #[Operand.tmp 66], argTypes := #[24] }, type := 3, pos := "law.go:144", after := #[{ on := 2, ground := Ground.data }, { on := 1, ground := Ground.chain }, { on := 1, ground := Ground.guard }], guard := some (1, true) }) (v := undef) rfl (by kernel_rfl) (by kernel_rfl) (by kernel_rfl) (fun _ _ _ h => h) (Or.inr ⟨by rfl, rfl⟩) hHeld ?_
          simp only [Act.put, List.setIfInBounds_toArray, List.set_cons_zero, List.set_cons_succ]
          refine wpAnyH_take (i := 4) (oi := { dst := some 68, op := Op.move (Operand.tmp 10), type := 3, pos := "law.go:144", after := #[{ on := 1, ground := Ground.guard }], guard := some (1, true) }) (v := undef) rfl (by kernel_rfl) (by kernel_rfl) (by kernel_rfl) (fun _ _ _ h => h) (Or.inr ⟨by rfl, rfl⟩) hHeld ?_
          simp only [Act.put, List.setIfInBounds_toArray, List.set_cons_zero, List.set_cons_succ]
          refine wpAnyH_take (i := 5) (oi := { dst := some 69, op := Op.fieldAddr 34 (Operand.tmp 9) 2, type := 0, pos := "law.go:144", after := #[{ on := 1, ground := Ground.guard }], guard := some (1, true) }) (v := undef) rfl (by kernel_rfl) (by kernel_rfl) (by kernel_rfl) (fun _ _ _ h => h) (Or.inr ⟨by rfl, rfl⟩) hHeld ?_
          simp only [Act.put, List.setIfInBounds_toArray, List.set_cons_zero, List.set_cons_succ]
          refine wpAnyH_take (i := 6) (oi := { dst := some 70, op := Op.load 32 (Operand.tmp 69), type := 32, pos := "law.go:144", after := #[{ on := 5, ground := Ground.data }, { on := 1, ground := Ground.guard }], guard := some (1, true) }) (v := undef) rfl (by kernel_rfl) (by kernel_rfl) (by kernel_rfl) (fun _ _ _ h => h) (Or.inr ⟨by rfl, rfl⟩) hHeld ?_
          simp only [Act.put, List.setIfInBounds_toArray, List.set_cons_zero, List.set_cons_succ]
          refine wpAnyH_take (i := 7) (oi := { dst := some 71, op := Op.call { callee := Callee.builtin Builtin.len, args := #[Operand.tmp 70], argTypes := #[32] }, type := 3, pos := "law.go:144", after := #[{ on := 6, ground := Ground.data }, { on := 1, ground := Ground.guard }], guard := some (1, true) }) (v := undef) rfl (by kernel_rfl) (by kernel_rfl) (by kernel_rfl) (fun _ _ _ h => h) (Or.inr ⟨by rfl, rfl⟩) hHeld ?_
          simp only [Act.put, List.setIfInBounds_toArray, List.set_cons_zero, List.set_cons_succ]
          refine wpAnyH_take (i := 8) (oi := { dst := some 72, op := Op.binOp BinOp.add 3 (Operand.tmp 68) (Operand.tmp 71) 3, type := 3, pos := "law.go:144", after := #[{ on := 4, ground := Ground.data }, { on := 7, ground := Ground.data }, { on := 1, ground := Ground.guard }], guard := some (1, true) }) (v := undef) rfl (by kernel_rfl) (by kernel_rfl) (by kernel_rfl) (fun _ _ _ h => h) (Or.inr ⟨by rfl, rfl⟩) hHeld ?_
          simp only [Act.put, List.setIfInBounds_toArray, List.set_cons_zero, List.set_cons_succ]
          refine wpAnyH_take (i := 9) (oi := { dst := some 73, op := Op.binOp BinOp.neq 3 (Operand.tmp 67) (Operand.tmp 72) 3, type := 4, pos := "law.go:144", after := #[{ on := 3, ground := Ground.data }, { on := 8, ground := Ground.data }, { on := 1, ground := Ground.guard }], guard := some (1, true) }) (v := undef) rfl (by kernel_rfl) (by kernel_rfl) (by kernel_rfl) (fun _ _ _ h => h) (Or.inr ⟨by rfl, rfl⟩) hHeld ?_
          simp only [Act.put, List.setIfInBounds_toArray, List.set_cons_zero, List.set_cons_succ]
          refine wpAnyH_take (i := 10) (oi := { dst := some 74, op := Op.pick (Operand.tmp 65) (Operand.tmp 73) (Operand.const (Value.bool false)), type := 4, pos := "law.go:144", after := #[{ on := 1, ground := Ground.data }, { on := 9, ground := Ground.data }], guard := none }) (v := ?vv4_12_10) rfl (by kernel_rfl) (by kernel_rfl) (by kernel_rfl) (fun _ _ _ h => h) (Or.inl ⟨by rfl, ?yy4_12_10⟩) hHeld ?_
          case yy4_12_10 => (intro W hx; go_simp; try with_reducible rfl)
          simp only [Act.put, List.setIfInBounds_toArray, List.set_cons_zero, List.set_cons_succ]
          refine wpAnyH_take (i := 11) (oi := { dst := some 75, op := Op.move (Operand.tmp 74), type := 4, pos := "law.go:144", after := #[{ on := 10, ground := Ground.data }, { on := 3, ground := Ground.chain }], guard := none }) (v := ?vv5_12_11) rfl (by kernel_rfl) (by kernel_rfl) (by kernel_rfl) (fun _ _ _ h => h) (Or.inl ⟨by rfl, ?yy5_12_11⟩) hHeld ?_
          case yy5_12_11 => (intro W hx; go_simp; try with_reducible rfl)
          simp only [Act.put, List.setIfInBounds_toArray, List.set_cons_zero, List.set_cons_succ]
          refine wpAnyH_take (i := 12) (oi := { dst := some 76, op := Op.move (Operand.tmp 11), type := 4, pos := "law.go:144", after := #[{ on := 11, ground := Ground.guard }], guard := some (11, false) }) (v := ?vv6_12_12) rfl (by kernel_rfl) (by kernel_rfl) (by kernel_rfl) (fun _ _ _ h => h) (Or.inl ⟨by rfl, ?yy6_12_12⟩) hHeld ?_
          case yy6_12_12 => (intro W hx; go_simp; try with_reducible rfl)
          simp only [Act.put, List.setIfInBounds_toArray, List.set_cons_zero, List.set_cons_succ]
          refine wpAnyH_take (i := 13) (oi := { dst := some 77, op := Op.unOp UnOp.not 4 (Operand.tmp 76), type := 4, pos := "law.go:144", after := #[{ on := 12, ground := Ground.data }, { on := 11, ground := Ground.guard }], guard := some (11, false) }) (v := ?vv7_12_13) rfl (by kernel_rfl) (by kernel_rfl) (by kernel_rfl) (fun _ _ _ h => h) (Or.inl ⟨by rfl, ?yy7_12_13⟩) hHeld ?_
          case yy7_12_13 => (intro W hx; go_simp; try with_reducible rfl)
          simp only [Act.put, List.setIfInBounds_toArray, List.set_cons_zero, List.set_cons_succ]
          refine wpAnyH_take (i := 14) (oi := { dst := some 78, op := Op.move (Operand.tmp 77), type := 4, pos := "law.go:144", after := #[{ on := 13, ground := Ground.data }, { on := 11, ground := Ground.chain }, { on := 11, ground := Ground.guard }], guard := some (11, false) }) (v := ?vv8_12_14) rfl (by kernel_rfl) (by kernel_rfl) (by kernel_rfl) (fun _ _ _ h => h) (Or.inl ⟨by rfl, ?yy8_12_14⟩) hHeld ?_
          case yy8_12_14 => (intro W hx; go_simp; try with_reducible rfl)
          simp only [Act.put, List.setIfInBounds_toArray, List.set_cons_zero, List.set_cons_succ]
          refine wpAnyH_take (i := 15) (oi := { dst := some 79, op := Op.move (Operand.tmp 6), type := 24, pos := "law.go:144", after := #[{ on := 14, ground := Ground.guard }], guard := some (14, true) }) (v := ?vv9_12_15) rfl (by kernel_rfl) (by kernel_rfl) (by kernel_rfl) (fun _ _ _ h => h) (Or.inl ⟨by rfl, ?yy9_12_15⟩) hHeld ?_
          case yy9_12_15 => (intro W hx; go_simp; try with_reducible rfl)
          simp only [Act.put, List.setIfInBounds_toArray, List.set_cons_zero, List.set_cons_succ]
          refine wpAnyH_take (i := 17) (oi := { dst := some 81, op := Op.move (Operand.tmp 10), type := 3, pos := "law.go:144", after := #[{ on := 14, ground := Ground.guard }], guard := some (14, true) }) (v := ?vv10_12_17) rfl (by kernel_rfl) (by kernel_rfl) (by kernel_rfl) (fun _ _ _ h => h) (Or.inl ⟨by rfl, ?yy10_12_17⟩) hHeld ?_
          case yy10_12_17 => (intro W hx; go_simp; try with_reducible rfl)
          simp only [Act.put, List.setIfInBounds_toArray, List.set_cons_zero, List.set_cons_succ]
          refine wpAnyH_ready (rs := [16]) (by kernel_rfl) (by simp) (AllReadyH.cons rfl (fun K hK => ?_) AllReadyH.nil)
          go_simp
          go_wp2_with (go_at_call 19; (refine (HLN.out _ zz0).mono ?_); rintro e w' ⟨rfl, rfl⟩)
          refine hK.out _ _ hHeld (fun hHeld => ?_)
          clear hK K
          refine wpAnyH_take (i := 18) (oi := { dst := some 82, op := Op.binOp BinOp.neq 3 (Operand.tmp 80) (Operand.tmp 81) 3, type := 4, pos := "law.go:144", after := #[{ on := 16, ground := Ground.data }, { on := 17, ground := Ground.data }, { on := 14, ground := Ground.guard }], guard := some (14, true) }) (v := ?vv11_12_18) rfl (by kernel_rfl) (by kernel_rfl) (by kernel_rfl) (fun _ _ _ h => h) (Or.inl ⟨by rfl, ?yy11_12_18⟩) hHeld ?_
          case yy11_12_18 => (intro W hx; go_simp; try with_reducible rfl)
          simp only [Act.put, List.setIfInBounds_toArray, List.set_cons_zero, List.set_cons_succ]
          refine wpAnyH_take (i := 19) (oi := { dst := some 83, op := Op.pick (Operand.tmp 78) (Operand.tmp 82) (Operand.const (Value.bool false)), type := 4, pos := "law.go:144", after := #[{ on := 14, ground := Ground.data }, { on := 18, ground := Ground.data }, { on := 11, ground := Ground.guard }], guard := some (11, false) }) (v := ?vv12_12_19) rfl (by kernel_rfl) (by kernel_rfl) (by kernel_rfl) (fun _ _ _ h => h) (Or.inl ⟨by rfl, ?yy12_12_19⟩) hHeld ?_
          case yy12_12_19 => (intro W hx; go_simp; try with_reducible rfl)
          simp only [Act.put, List.setIfInBounds_toArray, List.set_cons_zero, List.set_cons_succ]
          refine wpAnyH_take (i := 20) (oi := { dst := some 84, op := Op.pick (Operand.tmp 75) (Operand.const (Value.bool true)) (Operand.tmp 83), type := 4, pos := "law.go:144", after := #[{ on := 11, ground := Ground.data }, { on := 19, ground := Ground.data }], guard := none }) (v := ?vv13_12_20) rfl (by kernel_rfl) (by kernel_rfl) (by kernel_rfl) (fun _ _ _ h => h) (Or.inl ⟨by rfl, ?yy13_12_20⟩) hHeld ?_
          case yy13_12_20 => (intro W hx; go_simp; try with_reducible rfl)
          simp only [Act.put, List.setIfInBounds_toArray, List.set_cons_zero, List.set_cons_succ]
          refine wpAnyH_take (i := 21) (oi := { dst := some 85, op := Op.move (Operand.tmp 84), type := 4, pos := "law.go:144", after := #[{ on := 20, ground := Ground.data }, { on := 16, ground := Ground.chain }], guard := none }) (v := ?vv14_12_21) rfl (by kernel_rfl) (by kernel_rfl) (by kernel_rfl) (fun _ _ _ h => h) (Or.inl ⟨by rfl, ?yy14_12_21⟩) hHeld ?_
          case yy14_12_21 => (intro W hx; go_simp; try with_reducible rfl)
          simp only [Act.put, List.setIfInBounds_toArray, List.set_cons_zero, List.set_cons_succ]
          refine wpAnyH_take (i := 22) (oi := { dst := some 86, op := Op.move (Operand.tmp 6), type := 24, pos := "law.go:144", after := #[{ on := 21, ground := Ground.guard }], guard := some (21, false) }) (v := ?vv15_12_22) rfl (by kernel_rfl) (by kernel_rfl) (by kernel_rfl) (fun _ _ _ h => h) (Or.inl ⟨by rfl, ?yy15_12_22⟩) hHeld ?_
          case yy15_12_22 => (intro W hx; go_simp; try with_reducible rfl)
          simp only [Act.put, List.setIfInBounds_toArray, List.set_cons_zero, List.set_cons_succ]
          refine wpAnyH_take (i := 24) (oi := { dst := some 88, op := Op.move (Operand.tmp 0), type := 3, pos := "law.go:144", after := #[{ on := 21, ground := Ground.guard }], guard := some (21, false) }) (v := ?vv16_12_24) rfl (by kernel_rfl) (by kernel_rfl) (by kernel_rfl) (fun _ _ _ h => h) (Or.inl ⟨by rfl, ?yy16_12_24⟩) hHeld ?_
          case yy16_12_24 => (intro W hx; go_simp; try with_reducible rfl)
          simp only [Act.put, List.setIfInBounds_toArray, List.set_cons_zero, List.set_cons_succ]
          refine wpAnyH_ready (rs := [23]) (by kernel_rfl) (by simp) (AllReadyH.cons rfl (fun K hK => ?_) AllReadyH.nil)
          go_simp
          go_wp2_with (go_at_call 19; (refine (HLN.out _ zz0).mono ?_); rintro e w' ⟨rfl, rfl⟩)
          refine hK.out _ _ hHeld (fun hHeld => ?_)
          clear hK K
          refine wpAnyH_take (i := 25) (oi := { dst := some 89, op := Op.binOp BinOp.gtr 3 (Operand.tmp 87) (Operand.tmp 88) 3, type := 4, pos := "law.go:144", after := #[{ on := 23, ground := Ground.data }, { on := 24, ground := Ground.data }, { on := 21, ground := Ground.guard }], guard := some (21, false) }) (v := ?vv17_12_25) rfl (by kernel_rfl) (by kernel_rfl) (by kernel_rfl) (fun _ _ _ h => h) (Or.inl ⟨by rfl, ?yy17_12_25⟩) hHeld ?_
          case yy17_12_25 => (intro W hx; go_simp; try with_reducible rfl)
          simp only [Act.put, List.setIfInBounds_toArray, List.set_cons_zero, List.set_cons_succ]
          refine wpAnyH_take (i := 26) (oi := { dst := some 90, op := Op.pick (Operand.tmp 85) (Operand.const (Value.bool true)) (Operand.tmp 89), type := 4, pos := "law.go:144", after := #[{ on := 21, ground := Ground.data }, { on := 25, ground := Ground.data }], guard := none }) (v := ?vv18_12_26) rfl (by kernel_rfl) (by kernel_rfl) (by kernel_rfl) (fun _ _ _ h => h) (Or.inl ⟨by rfl, ?yy18_12_26⟩) hHeld ?_
          case yy18_12_26 => (intro W hx; go_simp; try with_reducible rfl)
          simp only [Act.put, List.setIfInBounds_toArray, List.set_cons_zero, List.set_cons_succ]
          refine wpAnyH_done (by kernel_rfl) ?_ _
          have zend := zz0.trans hHeld
          have HQ8 := Lib.hid (HQ5.out.ext zend)
          have k48 := HQ8.out.1.blk HK4.out HB.out
          have m0 : wD1.cell? ⟨wo.heap.size, 0, none⟩ = some (.int .u8 y.k) := blk_cell k48 rfl
          clear k48 hlI uln hgt hgt2 hgt3
          obtain ⟨q3, hq3⟩ : ∃ q, y.k.tmod 3 = q := ⟨_, rfl⟩
          have hq5 : q3 = 0 ∨ q3 = 1 ∨ q3 = 2 := by rw [← hq3, Int.tmod_eq_emod_of_nonneg hk0.1]; omega
          rcases hq5 with rfl | rfl | rfl
          · go_upto_region 15 with (fail)
            clear m0 hq3
            go_wp2_with (go_at_call 14; (refine (next_fw HQ8.out).mono ?_); rintro e w9 ⟨v9, b9, s9, rfl, Q9, hm9⟩; have HQ9 := Lib.hid (And.intro Q9 hm9); clear Q9 hm9)
            go_roundw
            case rel => exact ⟨k + 1, s9, by go_num, by omega, qf_up HQ9.out.1 (HQ.out.1.then x4) HQ.out.2.1, by rw [HQ9.out.2]; exact HPL.out.2⟩
            case measure => simp [intOf]; omega
          · go_wp2
            go_roundw
            case rel => exact ⟨k + 1, s', by go_num, by omega, qf_up HQ8.out (HQ.out.1.then x4) HQ.out.2.1, HPL.out.2⟩
            case measure => simp [intOf]; omega
          · go_wp2
            go_roundw
            case rel => exact ⟨k + 1, s', by go_num, by omega, qf_up HQ8.out (HQ.out.1.then x4) HQ.out.2.1, HPL.out.2⟩
            case measure => simp [intOf]; omega
        · obtain rfl : okb = true := hob
          obtain ⟨ln2, hln2⟩ : ∃ z, z = s'.l.length := ⟨_, rfl⟩
          have hlI : (s.l.length : Int) + (y.n : Int) = (ln2 : Int) := by have := HPL.out.1; rw [if_pos rfl] at this; omega
          have uln := wri ln2 (by have := HLE.out; omega)
          have hgt : ¬ (m : Int) < ln2 := by have := HLE.out; omega
          have hgt2 : ¬ m < ln2 := by omega
          have hgt3 : decide (m < ln2) = false := by simp; omega
          have HLN := Lib.hid (fun W (x : Ext w5 W) => (by rw [hln2]; exact len_f (HQ5.out.ext x) : Calls Try.prog 19 #[.pointer (some ⟨g, 0, none⟩)] W fun e w' => e = .returned (.int .i64 (ln2 : Int)) ∧ W = w'))
          clear hln2
          refine wp_region_held_drew (S := Ext w5) (by kernel_rfl) ((Ext.refl _).drew) (fun hHeld => ?_)
          obtain ⟨wD19, hwD⟩ : ∃ V, V = World.drew w5 := ⟨_, rfl⟩
          rw [← hwD]
          clear hHeld
          have zz0 : Ext w5 wD19 := by rw [hwD]; exact (Ext.refl _).drew
          clear hwD
          refine wpAnyH_imp (S' := Ext wD19) (fun W h => Ext.trans zz0 h) _ _ _ _ ?_
          have hHeld := Ext.refl wD19
          refine wpAnyH_take (i := 0) (oi := { dst := some 64, op := Op.move (Operand.tmp 11), type := 4, pos := "law.go:144", after := #[], guard := none }) (v := ?vv20_12_0) rfl (by kernel_rfl) (by kernel_rfl) (by kernel_rfl) (fun _ _ _ h => h) (Or.inl ⟨by rfl, ?yy20_12_0⟩) hHeld ?_
          case yy20_12_0 => (intro W hx; go_simp; try with_reducible rfl)
          simp only [Act.put, List.setIfInBounds_toArray, List.set_cons_zero, List.set_cons_succ]
          refine wpAnyH_take (i := 1) (oi := { dst := some 65, op := Op.move (Operand.tmp 64), type := 4, pos := "law.go:144", after := #[{ on := 0, ground := Ground.data }], guard := none }) (v := ?vv21_12_1) rfl (by kernel_rfl) (by kernel_rfl) (by kernel_rfl) (fun _ _ _ h => h) (Or.inl ⟨by rfl, ?yy21_12_1⟩) hHeld ?_
          case yy21_12_1 => (intro W hx; go_simp; try with_reducible rfl)
          simp only [Act.put, List.setIfInBounds_toArray, List.set_cons_zero, List.set_cons_succ]
          refine wpAnyH_take (i := 2) (oi := { dst := some 66, op := Op.move (Operand.tmp 6), type := 24, pos := "law.go:144", after := #[{ on := 1, ground := Ground.guard }], guard := some (1, true) }) (v := ?vv22_12_2) rfl (by kernel_rfl) (by kernel_rfl) (by kernel_rfl) (fun _ _ _ h => h) (Or.inl ⟨by rfl, ?yy22_12_2⟩) hHeld ?_
          case yy22_12_2 => (intro W hx; go_simp; try with_reducible rfl)
          simp only [Act.put, List.setIfInBounds_toArray, List.set_cons_zero, List.set_cons_succ]
          refine wpAnyH_take (i := 4) (oi := { dst := some 68, op := Op.move (Operand.tmp 10), type := 3, pos := "law.go:144", after := #[{ on := 1, ground := Ground.guard }], guard := some (1, true) }) (v := ?vv23_12_4) rfl (by kernel_rfl) (by kernel_rfl) (by kernel_rfl) (fun _ _ _ h => h) (Or.inl ⟨by rfl, ?yy23_12_4⟩) hHeld ?_
          case yy23_12_4 => (intro W hx; go_simp; try with_reducible rfl)
          simp only [Act.put, List.setIfInBounds_toArray, List.set_cons_zero, List.set_cons_succ]
          refine wpAnyH_take (i := 5) (oi := { dst := some 69, op := Op.fieldAddr 34 (Operand.tmp 9) 2, type := 0, pos := "law.go:144", after := #[{ on := 1, ground := Ground.guard }], guard := some (1, true) }) (v := ?vv24_12_5) rfl (by kernel_rfl) (by kernel_rfl) (by kernel_rfl) (fun _ _ _ h => h) (Or.inl ⟨by rfl, ?yy24_12_5⟩) hHeld ?_
          case yy24_12_5 => (intro W hx; go_simp; try with_reducible rfl)
          simp only [Act.put, List.setIfInBounds_toArray, List.set_cons_zero, List.set_cons_succ]
          refine wpAnyH_take (i := 6) (oi := { dst := some 70, op := Op.load 32 (Operand.tmp 69), type := 32, pos := "law.go:144", after := #[{ on := 5, ground := Ground.data }, { on := 1, ground := Ground.guard }], guard := some (1, true) }) (v := ?vv25_12_6) rfl (by kernel_rfl) (by kernel_rfl) (by kernel_rfl) (fun _ _ _ h => h) (Or.inl ⟨by rfl, ?yy25_12_6⟩) hHeld ?_
          case yy25_12_6 => (intro W hx; have hz := zz0.trans hx; have m2 : W.cell? ⟨wo.heap.size, 2, none⟩ = some (.slice y.A y.n y.c) := cell_ext hz (blk_cell K45 rfl); go_simp; try with_reducible rfl)
          simp only [Act.put, List.setIfInBounds_toArray, List.set_cons_zero, List.set_cons_succ]
          refine wpAnyH_take (i := 7) (oi := { dst := some 71, op := Op.call { callee := Callee.builtin Builtin.len, args := #[Operand.tmp 70], argTypes := #[32] }, type := 3, pos := "law.go:144", after := #[{ on := 6, ground := Ground.data }, { on := 1, ground := Ground.guard }], guard := some (1, true) }) (v := ?vv26_12_7) rfl (by kernel_rfl) (by kernel_rfl) (by kernel_rfl) (fun _ _ _ h => h) (Or.inl ⟨by rfl, ?yy26_12_7⟩) hHeld ?_
          case yy26_12_7 => (intro W hx; go_simp; try with_reducible rfl)
          simp only [Act.put, List.setIfInBounds_toArray, List.set_cons_zero, List.set_cons_succ]
          refine wpAnyH_take (i := 8) (oi := { dst := some 72, op := Op.binOp BinOp.add 3 (Operand.tmp 68) (Operand.tmp 71) 3, type := 3, pos := "law.go:144", after := #[{ on := 4, ground := Ground.data }, { on := 7, ground := Ground.data }, { on := 1, ground := Ground.guard }], guard := some (1, true) }) (v := ?vv27_12_8) rfl (by kernel_rfl) (by kernel_rfl) (by kernel_rfl) (fun _ _ _ h => h) (Or.inl ⟨by rfl, ?yy27_12_8⟩) hHeld ?_
          case yy27_12_8 => (intro W hx; go_simp; try with_reducible rfl)
          simp only [Act.put, List.setIfInBounds_toArray, List.set_cons_zero, List.set_cons_succ]
          refine wpAnyH_ready (rs := [3]) (by kernel_rfl) (by simp) (AllReadyH.cons rfl (fun K hK => ?_) AllReadyH.nil)
          go_simp
          go_wp2_with (go_at_call 19; (refine (HLN.out _ zz0).mono ?_); rintro e w' ⟨rfl, rfl⟩)
          refine hK.out _ _ hHeld (fun hHeld => ?_)
          clear hK K
          refine wpAnyH_take (i := 9) (oi := { dst := some 73, op := Op.binOp BinOp.neq 3 (Operand.tmp 67) (Operand.tmp 72) 3, type := 4, pos := "law.go:144", after := #[{ on := 3, ground := Ground.data }, { on := 8, ground := Ground.data }, { on := 1, ground := Ground.guard }], guard := some (1, true) }) (v := ?vv28_12_9) rfl (by kernel_rfl) (by kernel_rfl) (by kernel_rfl) (fun _ _ _ h => h) (Or.inl ⟨by rfl, ?yy28_12_9⟩) hHeld ?_
          case yy28_12_9 => (intro W hx; go_simp; try with_reducible rfl)
          simp only [Act.put, List.setIfInBounds_toArray, List.set_cons_zero, List.set_cons_succ]
          refine wpAnyH_take (i := 10) (oi := { dst := some 74, op := Op.pick (Operand.tmp 65) (Operand.tmp 73) (Operand.const (Value.bool false)), type := 4, pos := "law.go:144", after := #[{ on := 1, ground := Ground.data }, { on := 9, ground := Ground.data }], guard := none }) (v := ?vv29_12_10) rfl (by kernel_rfl) (by kernel_rfl) (by kernel_rfl) (fun _ _ _ h => h) (Or.inl ⟨by rfl, ?yy29_12_10⟩) hHeld ?_
          case yy29_12_10 => (intro W hx; go_simp; try with_reducible rfl)
          simp only [Act.put, List.setIfInBounds_toArray, List.set_cons_zero, List.set_cons_succ]
          refine wpAnyH_take (i := 11) (oi := { dst := some 75, op := Op.move (Operand.tmp 74), type := 4, pos := "law.go:144", after := #[{ on := 10, ground := Ground.data }, { on := 3, ground := Ground.chain }], guard := none }) (v := ?vv30_12_11) rfl (by kernel_rfl) (by kernel_rfl) (by kernel_rfl) (fun _ _ _ h => h) (Or.inl ⟨by rfl, ?yy30_12_11⟩) hHeld ?_
          case yy30_12_11 => (intro W hx; go_simp; try with_reducible rfl)
          simp only [Act.put, List.setIfInBounds_toArray, List.set_cons_zero, List.set_cons_succ]
          refine wpAnyH_take (i := 12) (oi := { dst := some 76, op := Op.move (Operand.tmp 11), type := 4, pos := "law.go:144", after := #[{ on := 11, ground := Ground.guard }], guard := some (11, false) }) (v := ?vv31_12_12) rfl (by kernel_rfl) (by kernel_rfl) (by kernel_rfl) (fun _ _ _ h => h) (Or.inl ⟨by rfl, ?yy31_12_12⟩) hHeld ?_
          case yy31_12_12 => (intro W hx; go_simp; try with_reducible rfl)
          simp only [Act.put, List.setIfInBounds_toArray, List.set_cons_zero, List.set_cons_succ]
          refine wpAnyH_take (i := 13) (oi := { dst := some 77, op := Op.unOp UnOp.not 4 (Operand.tmp 76), type := 4, pos := "law.go:144", after := #[{ on := 12, ground := Ground.data }, { on := 11, ground := Ground.guard }], guard := some (11, false) }) (v := ?vv32_12_13) rfl (by kernel_rfl) (by kernel_rfl) (by kernel_rfl) (fun _ _ _ h => h) (Or.inl ⟨by rfl, ?yy32_12_13⟩) hHeld ?_
          case yy32_12_13 => (intro W hx; go_simp; try with_reducible rfl)
          simp only [Act.put, List.setIfInBounds_toArray, List.set_cons_zero, List.set_cons_succ]
          refine wpAnyH_take (i := 14) (oi := { dst := some 78, op := Op.move (Operand.tmp 77), type := 4, pos := "law.go:144", after := #[{ on := 13, ground := Ground.data }, { on := 11, ground := Ground.chain }, { on := 11, ground := Ground.guard }], guard := some (11, false) }) (v := ?vv33_12_14) rfl (by kernel_rfl) (by kernel_rfl) (by kernel_rfl) (fun _ _ _ h => h) (Or.inl ⟨by rfl, ?yy33_12_14⟩) hHeld ?_
          case yy33_12_14 => (intro W hx; go_simp; try with_reducible rfl)
          simp only [Act.put, List.setIfInBounds_toArray, List.set_cons_zero, List.set_cons_succ]
          refine wpAnyH_take (i := 15) (oi := { dst := some 79, op := Op.move (Operand.tmp 6), type := 24, pos := "law.go:144", after := #[{ on := 14, ground := Ground.guard }], guard := some (14, true) }) (v := undef) rfl (by kernel_rfl) (by kernel_rfl) (by kernel_rfl) (fun _ _ _ h => h) (Or.inr ⟨by rfl, rfl⟩) hHeld ?_
          simp only [Act.put, List.setIfInBounds_toArray, List.set_cons_zero, List.set_cons_succ]
          refine wpAnyH_take (i := 16) (oi := { dst := some 80, op := Op.call { callee := Callee.value (Operand.func 19), args := #[Operand.tmp 79], argTypes := #[24] }, type := 3, pos := "law.go:144", after := #[{ on := 15, ground := Ground.data }, { on := 14, ground := Ground.chain }, { on := 14, ground := Ground.guard }], guard := some (14, true) }) (v := undef) rfl (by kernel_rfl) (by kernel_rfl) (by kernel_rfl) (fun _ _ _ h => h) (Or.inr ⟨by rfl, rfl⟩) hHeld ?_
          simp only [Act.put, List.setIfInBounds_toArray, List.set_cons_zero, List.set_cons_succ]
          refine wpAnyH_take (i := 17) (oi := { dst := some 81, op := Op.move (Operand.tmp 10), type := 3, pos := "law.go:144", after := #[{ on := 14, ground := Ground.guard }], guard := some (14, true) }) (v := undef) rfl (by kernel_rfl) (by kernel_rfl) (by kernel_rfl) (fun _ _ _ h => h) (Or.inr ⟨by rfl, rfl⟩) hHeld ?_
          simp only [Act.put, List.setIfInBounds_toArray, List.set_cons_zero, List.set_cons_succ]
          refine wpAnyH_take (i := 18) (oi := { dst := some 82, op := Op.binOp BinOp.neq 3 (Operand.tmp 80) (Operand.tmp 81) 3, type := 4, pos := "law.go:144", after := #[{ on := 16, ground := Ground.data }, { on := 17, ground := Ground.data }, { on := 14, ground := Ground.guard }], guard := some (14, true) }) (v := undef) rfl (by kernel_rfl) (by kernel_rfl) (by kernel_rfl) (fun _ _ _ h => h) (Or.inr ⟨by rfl, rfl⟩) hHeld ?_
          simp only [Act.put, List.setIfInBounds_toArray, List.set_cons_zero, List.set_cons_succ]
          refine wpAnyH_take (i := 19) (oi := { dst := some 83, op := Op.pick (Operand.tmp 78) (Operand.tmp 82) (Operand.const (Value.bool false)), type := 4, pos := "law.go:144", after := #[{ on := 14, ground := Ground.data }, { on := 18, ground := Ground.data }, { on := 11, ground := Ground.guard }], guard := some (11, false) }) (v := ?vv34_12_19) rfl (by kernel_rfl) (by kernel_rfl) (by kernel_rfl) (fun _ _ _ h => h) (Or.inl ⟨by rfl, ?yy34_12_19⟩) hHeld ?_
          case yy34_12_19 => (intro W hx; go_simp; try with_reducible rfl)
          simp only [Act.put, List.setIfInBounds_toArray, List.set_cons_zero, List.set_cons_succ]
          refine wpAnyH_take (i := 20) (oi := { dst := some 84, op := Op.pick (Operand.tmp 75) (Operand.const (Value.bool true)) (Operand.tmp 83), type := 4, pos := "law.go:144", after := #[{ on := 11, ground := Ground.data }, { on := 19, ground := Ground.data }], guard := none }) (v := ?vv35_12_20) rfl (by kernel_rfl) (by kernel_rfl) (by kernel_rfl) (fun _ _ _ h => h) (Or.inl ⟨by rfl, ?yy35_12_20⟩) hHeld ?_
          case yy35_12_20 => (intro W hx; go_simp; try with_reducible rfl)
          simp only [Act.put, List.setIfInBounds_toArray, List.set_cons_zero, List.set_cons_succ]
          refine wpAnyH_take (i := 21) (oi := { dst := some 85, op := Op.move (Operand.tmp 84), type := 4, pos := "law.go:144", after := #[{ on := 20, ground := Ground.data }, { on := 16, ground := Ground.chain }], guard := none }) (v := ?vv36_12_21) rfl (by kernel_rfl) (by kernel_rfl) (by kernel_rfl) (fun _ _ _ h => h) (Or.inl ⟨by rfl, ?yy36_12_21⟩) hHeld ?_
          case yy36_12_21 => (intro W hx; go_simp; try with_reducible rfl)
          simp only [Act.put, List.setIfInBounds_toArray, List.set_cons_zero, List.set_cons_succ]
          refine wpAnyH_take (i := 22) (oi := { dst := some 86, op := Op.move (Operand.tmp 6), type := 24, pos := "law.go:144", after := #[{ on := 21, ground := Ground.guard }], guard := some (21, false) }) (v := ?vv37_12_22) rfl (by kernel_rfl) (by kernel_rfl) (by kernel_rfl) (fun _ _ _ h => h) (Or.inl ⟨by rfl, ?yy37_12_22⟩) hHeld ?_
          case yy37_12_22 => (intro W hx; go_simp; try with_reducible rfl)
          simp only [Act.put, List.setIfInBounds_toArray, List.set_cons_zero, List.set_cons_succ]
          refine wpAnyH_take (i := 24) (oi := { dst := some 88, op := Op.move (Operand.tmp 0), type := 3, pos := "law.go:144", after := #[{ on := 21, ground := Ground.guard }], guard := some (21, false) }) (v := ?vv38_12_24) rfl (by kernel_rfl) (by kernel_rfl) (by kernel_rfl) (fun _ _ _ h => h) (Or.inl ⟨by rfl, ?yy38_12_24⟩) hHeld ?_
          case yy38_12_24 => (intro W hx; go_simp; try with_reducible rfl)
          simp only [Act.put, List.setIfInBounds_toArray, List.set_cons_zero, List.set_cons_succ]
          refine wpAnyH_ready (rs := [23]) (by kernel_rfl) (by simp) (AllReadyH.cons rfl (fun K hK => ?_) AllReadyH.nil)
          go_simp
          go_wp2_with (go_at_call 19; (refine (HLN.out _ zz0).mono ?_); rintro e w' ⟨rfl, rfl⟩)
          refine hK.out _ _ hHeld (fun hHeld => ?_)
          clear hK K
          refine wpAnyH_take (i := 25) (oi := { dst := some 89, op := Op.binOp BinOp.gtr 3 (Operand.tmp 87) (Operand.tmp 88) 3, type := 4, pos := "law.go:144", after := #[{ on := 23, ground := Ground.data }, { on := 24, ground := Ground.data }, { on := 21, ground := Ground.guard }], guard := some (21, false) }) (v := ?vv39_12_25) rfl (by kernel_rfl) (by kernel_rfl) (by kernel_rfl) (fun _ _ _ h => h) (Or.inl ⟨by rfl, ?yy39_12_25⟩) hHeld ?_
          case yy39_12_25 => (intro W hx; go_simp; try with_reducible rfl)
          simp only [Act.put, List.setIfInBounds_toArray, List.set_cons_zero, List.set_cons_succ]
          refine wpAnyH_take (i := 26) (oi := { dst := some 90, op := Op.pick (Operand.tmp 85) (Operand.const (Value.bool true)) (Operand.tmp 89), type := 4, pos := "law.go:144", after := #[{ on := 21, ground := Ground.data }, { on := 25, ground := Ground.data }], guard := none }) (v := ?vv40_12_26) rfl (by kernel_rfl) (by kernel_rfl) (by kernel_rfl) (fun _ _ _ h => h) (Or.inl ⟨by rfl, ?yy40_12_26⟩) hHeld ?_
          case yy40_12_26 => (intro W hx; go_simp; try with_reducible rfl)
          simp only [Act.put, List.setIfInBounds_toArray, List.set_cons_zero, List.set_cons_succ]
          refine wpAnyH_done (by kernel_rfl) ?_ _
          have zend := zz0.trans hHeld
          have HQ8 := Lib.hid (HQ5.out.ext zend)
          have k48 := HQ8.out.1.blk HK4.out HB.out
          have m0 : wD19.cell? ⟨wo.heap.size, 0, none⟩ = some (.int .u8 y.k) := blk_cell k48 rfl
          clear k48 hlI uln hgt hgt2 hgt3
          obtain ⟨q3, hq3⟩ : ∃ q, y.k.tmod 3 = q := ⟨_, rfl⟩
          have hq5 : q3 = 0 ∨ q3 = 1 ∨ q3 = 2 := by rw [← hq3, Int.tmod_eq_emod_of_nonneg hk0.1]; omega
          rcases hq5 with rfl | rfl | rfl
          · go_upto_region 15 with (fail)
            clear m0 hq3
            go_wp2_with (go_at_call 14; (refine (next_fw HQ8.out).mono ?_); rintro e w9 ⟨v9, b9, s9, rfl, Q9, hm9⟩; have HQ9 := Lib.hid (And.intro Q9 hm9); clear Q9 hm9)
            go_roundw
            case rel => exact ⟨k + 1, s9, by go_num, by omega, qf_up HQ9.out.1 (HQ.out.1.then x4) HQ.out.2.1, by rw [HQ9.out.2]; exact HPL.out.2⟩
            case measure => simp [intOf]; omega
          · go_wp2
            go_roundw
            case rel => exact ⟨k + 1, s', by go_num, by omega, qf_up HQ8.out (HQ.out.1.then x4) HQ.out.2.1, HPL.out.2⟩
            case measure => simp [intOf]; omega
          · go_wp2
            go_roundw
            case rel => exact ⟨k + 1, s', by go_num, by omega, qf_up HQ8.out (HQ.out.1.then x4) HQ.out.2.1, HPL.out.2⟩
            case measure => simp [intOf]; omega
      · obtain rfl : k = ny := by omega
        go_upto_region 18 with (go_at_call 17; (refine (clear_f HQ.out).mono ?_); rintro e w5 ⟨rfl, Q5⟩)
        have hsc : s.clear = ⟨m, [], [false, false, false, false]⟩ := by unfold QS.clear; rw [HSM.out]
        rw [hsc] at Q5
        have X5 : Ext w w5 := HX3.out.2.kept Q5.1 (fun i hi => Nat.le_trans x1.size hi.1)
        have HQ5 := Lib.hid Q5
        clear Q5 hsc
        go_upto_region 19 with (fail)
        obtain ⟨w6, hw6⟩ : ∃ V, V = w5.alloc (.cells #[.int .u8 1] 5) := ⟨_, rfl⟩
        have x6 : Ext w5 w6 := by rw [hw6]; exact (Ext.refl _).alloc _
        have k6 : w6.heap[w5.heap.size]? = some (.cells #[.int .u8 1] 5 (0, 0)) := by rw [hw6]; exact heap_alloc_new _ _
        have rd6 : Rd w6 (some ⟨w5.heap.size, 0, none⟩) 1 [1] := by rw [hw6]; exact rd_new (cs := [1]) 5 rfl (by intro b hb; simp at hb; subst hb; decide)
        rw [← hw6]
        have HQ6 := Lib.hid (qf_base HQ5.out x6)
        have hB : ¬ (beh w1.heap.size w2.heap.size w3.heap.size w5.heap.size ∧ ¬ (w5.heap.size ≤ w5.heap.size ∧ w5.heap.size < w6.heap.size)) := fun h => h.2 ⟨Nat.le_refl _, blk_lt k6⟩
        have HB := Lib.hid hB
        have HK6 := Lib.hid k6
        clear hw6 k6 hB
        obtain ⟨w7, hw7⟩ : ∃ V, V = w6.alloc (.cells #[.int .u8 0, .int .u8 0, .slice (some ⟨w5.heap.size, 0, none⟩) 1 1] 38) := ⟨_, rfl⟩
        have x7 : Ext w6 w7 := by rw [hw7]; exact (Ext.refl _).alloc _
        have sh7 : Shows w7 3 (some ⟨w6.heap.size, 0, none⟩) 1 (rps [⟨0, 0, some ⟨w5.heap.size, 0, none⟩, 1, 1, [1]⟩]) := by rw [hw7]; exact shows_rp rfl
        have HP := Lib.hid (put_f HQ6.out x7 0 (A := some ⟨w6.heap.size, 0, none⟩) 1 (xs := [⟨0, 0, some ⟨w5.heap.size, 0, none⟩, 1, 1, [1]⟩]) sh7 rfl (by omega) (fun x hx => by simp at hx; subst hx; exact ⟨⟨⟨by show (0 : Int) ≤ 0; decide, by show (0 : Int) < 256; decide⟩, ⟨by show (0 : Int) ≤ 0; decide, by show (0 : Int) < 256; decide⟩, rd6.ext x7, Nat.le_refl _, le_max (n := 1) (by omega)⟩, by show 1 ≤ 100000; omega⟩) (fun ad e => by injection e with e; subst e; exact .inr (Nat.le_refl _)) (fun x hx ad e _ => by simp at hx; subst hx; injection e with e; subst e; exact .inl HB.out))
        have HSL := Lib.hid (slit m hm1 [1])
        clear sh7 rd6
        go_upto_region 21 with (go_at_call 12; rw [← hw7]; (refine HP.out.mono ?_); rw [show [(⟨0, 0, some ⟨w5.heap.size, 0, none⟩, 1, 1, [1]⟩ : Rp)].map Rp.pk = [⟨0, 0, [1]⟩] from rfl, HSL.out]; rintro e w8 ⟨rfl, Q8⟩)
        have k8 := Q8.1.blk HK6.out HB.out
        have c8 : w8.cell? ⟨w5.heap.size, 0, none⟩ = some (.int .u8 1) := blk_cell k8 rfl
        have f8 : w8.frozen? ⟨w5.heap.size, 0, none⟩ = false := blk_free k8
        have HQ8 := Lib.hid Q8
        clear Q8 k8 hw7
        go_upto_region 22 with (fail)
        obtain ⟨w9, hw9⟩ : ∃ V, V = w8.setCell ⟨w5.heap.size, 0, none⟩ (.int .u8 2) := ⟨_, rfl⟩
        have Q9 := qf_set HQ8.out (B := w5.heap.size) (i := 0) (.int .u8 2) HB.out
        rw [← hw9] at Q9 ⊢
        have HN := Lib.hid (next_f Q9 rfl)
        clear hw9 c8 f8 Q9
        go_upto_region 23 with (first | (go_at_call 14; (refine HN.out.mono ?_); rintro e w10 ⟨r7, hr7, rfl, hok7, Q10⟩; have HR7 := Lib.hid (And.intro hr7 hok7); have HQ10 := Lib.hid Q10; clear Q10 hr7 hok7) | refine wpList_stnew rfl 38 _ _ rfl rfl r7.vals rfl rfl size38 rfl (rp_one r7) ?_)
        obtain ⟨w11, hw11⟩ : ∃ V, V = w10.alloc (.cells r7.vals.toArray 38) := ⟨_, rfl⟩
        have k11 : w11.heap[w10.heap.size]? = some (.cells r7.vals.toArray 38 (0, 0)) := by rw [hw11]; exact heap_alloc_new _ _
        have x11 : Ext w10 w11 := by rw [hw11]; exact (Ext.refl _).alloc _
        have hbs : r7.bs = [1] := congrArg Pk.bs HR7.out.1
        have c2 : w11.cell? ⟨w10.heap.size, 2, none⟩ = some (.slice r7.A r7.n r7.c) := blk_cell k11 rfl
        have s1 : (convert 36 9 (.slice r7.A r7.n r7.c)).run Try.prog w11 = .ok (.string ⟨#[1]⟩) w11 := by
          have := run_str (c := r7.c) Try.underlying36 Try.underlying5 Try.underlying9 (HR7.out.2.rd.ext x11)
          rw [hbs, show strOfNums [1] = ⟨#[1]⟩ by kernel_rfl] at this
          exact this
        rw [← hw11]
        clear hw11 k11 hbs
        go_wp2
        go_ret
        refine ⟨by simp, ((X5.trans x6).kept HQ10.out.1 (fun i hi => ?_)).trans x11⟩
        have h1 := x1.size
        have h2 := X5.size
        rcases hi with hi | hi
        · have := hi.1.1; omega
        · omega
  · have HF0 := Lib.hid hm
    clear hm hs hl hnc hcm hok
    by_cases hm0 : mo < 1
    · have hd : ¬ (1 : Int) ≤ mo := by omega
      go_enter Try.func5, Try.ntmps5
      go_upto_region 2 with (go_at_call 8; (refine (shown_any _).mono ?_); rintro e w1 ⟨rfl, x1⟩)
      go_upto_region 3 with (go_at_call 9; (refine (new_no9 mo (.inl hm0) _).mono ?_); rintro e w2 ⟨rfl, rfl⟩)
      go_upto_region 99 with (first | (go_at_call 12; (refine (put_nil _ _ _ _).mono ?_); rintro e w3 ⟨rfl, rfl⟩) | (go_at_call 19; (refine (len_nil _).mono ?_); rintro e w4 ⟨rfl, rfl⟩))
      go_ret
      exact ⟨by simp, x1.trans ((Ext.refl _).alloc _)⟩
    · have hd : (1 : Int) ≤ mo := by omega
      have hd2 : ¬ mo ≤ (64 : Int) := by have := HF0.out; omega
      have hd3 : 64 < mo := by omega
      go_enter Try.func5, Try.ntmps5
      go_upto_region 2 with (go_at_call 8; (refine (shown_any _).mono ?_); rintro e w1 ⟨rfl, x1⟩)
      go_upto_region 3 with (go_at_call 9; (refine (new_no9 mo (.inr hd3) _).mono ?_); rintro e w2 ⟨rfl, rfl⟩)
      go_upto_region 99 with (first | (go_at_call 12; (refine (put_nil _ _ _ _).mono ?_); rintro e w3 ⟨rfl, rfl⟩) | (go_at_call 19; (refine (len_nil _).mono ?_); rintro e w4 ⟨rfl, rfl⟩))
      go_ret
      exact ⟨by simp, x1.trans ((Ext.refl _).alloc _)⟩
end Go.Proofs.Ytdhdkjiphapliaa
