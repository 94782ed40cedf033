import Derived.Test.YtdhdkjiphapliaaT
import Derived.Test.YtdhdkjiphapliaaK
import Derived.Deep.DeepCutAuto
import Derived.Deep.CutBlock
set_option linter.unusedVariables false
set_option linter.unusedSimpArgs false
namespace Go.Proofs.Ytdhdkjiphapliaa
open Go.RowKit
def QS.hd (s : QS) : Pk × Bool := match s.l with | [] => (⟨0, 0, []⟩, false) | p :: _ => (p, true)
theorem TwC.zero {F : Nat → Prop} {w0 w : World} {t1 t2 : TypeId} {g h : Nat} {s1 s2 : QS} {r1 r2 : List Rp} {v1 v2 : Tg → Value} {T1 T2 : Nat → Option Tg} {hd : List Rp} (t : TwC F w0 w t1 t2 g h s1 s2 r1 r2 v1 v2 T1 T2 hd) : TwC F w0 w t1 t2 g h s1 s2 r1 r2 v1 v2 T1 T2 (Rp.zero :: hd) :=
  ⟨t.k, t.up, t.C, t.R, t.fC, t.fR, t.dis, t.aC, t.aR, fun r hr => by
    rcases List.mem_cons.1 hr with hr | hr
    · subst hr
      exact ⟨⟨by decide, by decide, Rd.nil, Nat.le_refl _, Nat.zero_le _⟩, fun ad e => by cases e⟩
    · exact t.H r hr⟩
theorem next_id {s : QS} (h : s.l = []) : s.next = s := by unfold QS.next; rw [h, List.tail_nil, ← h]
theorem next_t {F : Nat → Prop} {w0 w : World} {g h : Nat} {s1 s2 : QS} {hd : List Rp} (t : Tw F w0 w g h s1 s2 hd) : Calls Try.prog 14 #[.pointer (some ⟨g, 0, none⟩)] w fun e w' => ∃ r : Rp, r.pk = s1.hd.1 ∧ e = .returned (.tuple #[.agg r.vals.toArray, .bool s1.hd.2]) ∧ Tw F w0 w' g h s1.next s2 (r :: hd) := by
  rcases hl : s1.l with _ | ⟨p, l⟩
  · refine (next_t0 t hl).mono ?_
    rintro e w' ⟨h1, h2⟩
    obtain ⟨_, _, _, _, _, _, h2⟩ := h2
    rw [next_id hl]
    unfold QS.hd
    rw [hl]
    exact ⟨Rp.zero, rfl, h1, _, _, _, _, _, _, h2.zero⟩
  · refine (next_t1 t hl).mono ?_
    rintro e w' ⟨r, h1, h2, h3⟩
    unfold QS.hd
    rw [hl]
    exact ⟨r, h1, h2, h3⟩
theorem rnext_t {F : Nat → Prop} {w0 w : World} {g h : Nat} {s1 s2 : QS} {hd : List Rp} (t : Tw F w0 w g h s1 s2 hd) : Calls Try.prog 15 #[.pointer (some ⟨h, 0, none⟩)] w fun e w' => ∃ r : Rp, r.pk = s2.hd.1 ∧ e = .returned (.tuple #[.agg r.vals.toArray, .bool s2.hd.2]) ∧ Tw F w0 w' g h s1 s2.next (r :: hd) := by
  rcases hl : s2.l with _ | ⟨p, l⟩
  · refine (rnext_t0 t hl).mono ?_
    rintro e w' ⟨h1, h2⟩
    obtain ⟨_, _, _, _, _, _, h2⟩ := h2
    rw [next_id hl]
    unfold QS.hd
    rw [hl]
    exact ⟨Rp.zero, rfl, h1, _, _, _, _, _, _, h2.zero⟩
  · refine (rnext_t1 t hl).mono ?_
    rintro e w' ⟨r, h1, h2, h3⟩
    unfold QS.hd
    rw [hl]
    exact ⟨r, h1, h2, h3⟩
theorem wpList_ldrowG {P : Program} {w : World} {ops : Array Oper} {rest : List Oper} {o : Oper} {a : Act} {Q : Exit → Act → World → Prop} (hw : Region.wanted o (yielded ops a.tmps) = true) (ty : TypeId) (x : Operand) (ho : o.op = .load ty x)
    {g : Nat} {cs : Array Value} {t : TypeId} {fr : Nat × Nat} (hg : w.heap[g]? = some (.cells cs t fr)) (hx : a.eval x = .pointer (some ⟨g, 0, none⟩)) {d : TypeDesc}
    (hu : P.underlying ty = some d) (hd : (match d with | .struct _ | .array _ _ => true | _ => false) = true) (hi : (P.info? ty).map (·.size) = some cs.size)
    (h : wpList P ops Q rest (a.put o.dst (.agg cs)) w) : wpList P ops Q (o :: rest) a w :=
  BigFrame.wpList_want hw fun _ hK => wp_load_row ty x ho g hx t cs fr d hg hu hd hi (hK _ _ h)
theorem wpList_bsG {w : World} {ops : Array Oper} {rest : List Oper} {o : Oper} {a : Act} {Q : Exit → Act → World → Prop} {r : Rp} (hw : Region.wanted o (yielded ops a.tmps) = true) (x : Operand) (ho : o.op = .buildSlice 32 1 #[(0, x)]) (hx : a.eval x = .agg r.vals.toArray)
    (h : ∀ w', w' = w.alloc (.cells r.vals.toArray 38) → wpList Try.prog ops Q rest (a.put o.dst (.slice (some ⟨w.heap.size, 0, none⟩) 1 1)) w') : wpList Try.prog ops Q (o :: rest) a w :=
  BigFrame.wpList_want hw fun _ hK => wp_bsR (r := r) x ho hx fun w' e => hK _ _ (h w' e)
theorem rp_same {w : World} {A B : Nat} (c d : Nat) {r1 r2 : Rp} (h1 : Shows w 3 (some ⟨A, 0, none⟩) 1 (rps [r1])) (h2 : Shows w 3 (some ⟨B, 0, none⟩) 1 (rps [r2])) (o1 : r1.ok w) (o2 : r2.ok w) (he : r1.pk = r2.pk) :
    Calls Try.prog 16 #[.slice (some ⟨A, 0, none⟩) 1 c, .slice (some ⟨B, 0, none⟩) 1 d] w fun e w' => e = .returned (.bool true) ∧ Ext w w' :=
  same_true c d (xs := [r1]) (ys := [r2]) h1 h2 rfl (by omega) (fun x hx => by simp at hx; subst hx; exact o1) (fun x hx => by simp at hx; subst hx; exact o2) (by simp [he])
set_option maxRecDepth 100000 in
set_option maxHeartbeats 8000000 in
theorem QueuePlays_law (w : World) (mo : Int) (A : Option Addr) (n c : Nat) (l : List Ac) (hnc : n ≤ c) (hcm : c ≤ maxLen) (hl : n = l.length) (hs : Shows w 3 A n (acs l)) (hok : ∀ a ∈ l, a.ok w) : Calls Try.prog 3 #[.int .i64 mo, .slice A n c] w fun e w' => e = .returned (.bool true) ∧ Ext w w' := by
  by_cases hm : 1 ≤ mo ∧ mo ≤ 64
  · obtain ⟨m, rfl⟩ : ∃ m : Nat, mo = m := ⟨mo.toNat, by omega⟩
    have hm1 : 1 ≤ m := by omega
    have hm64 : m ≤ 64 := by omega
    have HF := Lib.hid (fun W (x : Ext w W) => few_any (wp := w) (hs.ext x) hl hnc hcm (fun a ha => (hok a ha).ext x) (fun a ha => (hok a ha).rok))
    clear hs hl hnc hcm hok hm
    go_enter Try.func3, Try.ntmps3
    go_upto_region 2 with (go_at_call 8; (refine (shown_any _).mono ?_); rintro e w1 ⟨rfl, x1⟩)
    go_upto_region 3 with (go_at_call 9; (refine (new_b hm1 hm64 _).mono ?_); rintro e w2 ⟨g, rfl, Q2⟩)
    have HQ2 := Lib.hid Q2
    clear Q2
    go_upto_region 8 with (go_at_call 10; (refine (new_yes10 hm1 hm64 _).mono ?_); rintro e w3 ⟨h, r0, v0, T0, rfl, x3, R3, hT3⟩)
    have HR3 := Lib.hid (And.intro R3 (And.intro hT3 x3))
    clear R3 hT3
    go_upto_region 9 with (go_at_call 11; (refine (HF.out _ (x1.trans (HQ2.out.1.trans HR3.out.2.2))).mono ?_); rintro e w4 ⟨v, ys, rfl, x4, AL⟩; obtain ⟨vA, vc, rfl, hvc, hvm, _⟩ := own_form AL.own)
    have HAL := Lib.hid AL
    have HT4 := Lib.hid (tw_start HQ2.out rfl HR3.out.2.2 HR3.out.1 HR3.out.2.1 rfl x4)
    obtain ⟨ny, hny⟩ : ∃ ny, ny = ys.length := ⟨_, rfl⟩
    rw [← hny]
    have HNY := Lib.hid hny
    have hvcn : ny ≤ vc := by omega
    have hny63 : ny ≤ 9223372036854775807 := by unfold maxLen at hvm; omega
    have HX4 := Lib.hid (And.intro x4 (x1.trans (HQ2.out.1.trans (HR3.out.2.2.trans x4))))
    obtain ⟨F, hF⟩ : ∃ F, F = beh w1.heap.size w3.heap.size w4.heap.size := ⟨_, rfl⟩
    rw [← hF] at HT4
    have HFF := Lib.hid (show ∀ b, F b → w1.heap.size ≤ b ∧ ¬ (w3.heap.size ≤ b ∧ b < w4.heap.size) from fun b hb => by rw [hF] at hb; exact hb)
    have HW1 := Lib.hid x1
    clear AL hny x4 hvc hvm hF x3 x1
    go_loopw [43] (fun v wr => ∃ (k : Nat) (s : QS), v = .int .i64 k ∧ k ≤ ny ∧ Tw F w4 wr g h s s []) (fun v _ => ny - (intOf v).toNat)
    case atStart => exact ⟨0, _, rfl, Nat.zero_le _, HT4.out⟩
    case round =>
      obtain ⟨k, s, rfl, hk, Q⟩ := hrel
      obtain ⟨wo, rfl⟩ : ∃ z : World, z = wr := ⟨_, rfl⟩
      have HQ := Lib.hid Q
      clear Q
      by_cases hlt : k < ny
      · have hkn : (k : Int) < ny := by omega
        obtain ⟨y, hy⟩ : ∃ y, ys[k]? = some y := ⟨_, List.getElem?_eq_getElem (by rw [← HNY.out]; exact hlt)⟩
        have hmem := List.mem_of_getElem? hy
        have hrow : Shows wo 3 vA ny (acs ys) := by
          have := own_keptF HAL.out.own HQ.out.k (fun b hb hF => (HFF.out b hF).2 (HAL.out.own.lt b hb))
          rw [← HNY.out] at this
          exact Shows.of_own this
        obtain ⟨b, o, hA', hb, hr⟩ := Shows.row ac_len (by omega) hrow HNY.out hy
        obtain ⟨y1, y2, y3, y4, y5, y6, y7⟩ := HAL.out.ok y hmem
        have y3o : Shows wo 3 y.A y.n (rps y.xs) := y3.kept HQ.out.k (fun ad e hF => by have := HAL.out.ne y hmem ad e; exact (HFF.out _ hF).2 ⟨this.1, this.2.1⟩)
        have hyA : ∀ ad, y.A = some ad → ¬ F ad.block := fun ad e hF => by have := HAL.out.ne y hmem ad e; exact (HFF.out _ hF).2 ⟨this.1, this.2.1⟩
        have hxF : ∀ x ∈ y.xs, ∀ ad, x.A = some ad → 0 < x.n → ¬ F ad.block := fun x hx ad e h0 hF => by
          obtain ⟨ad', e', hlt', _⟩ := (HAL.out.rok y hmem x hx).1.rd.at_ h0
          rw [e] at e'; injection e' with e'; subst e'
          have h1 := (HFF.out _ hF).1
          have h2 := HW1.out.size
          omega
        have hxo : ∀ x ∈ y.xs, x.ok wo ∧ x.n ≤ 100000 := fun x hx => ⟨((HAL.out.rok y hmem x hx).1.ext HX4.out.2).keptN HQ.out.k (fun ad e h0 => hxF x hx ad e h0), by have := (HAL.out.rok y hmem x hx).2; omega⟩
        have HY := Lib.hid (And.intro y3o (And.intro hyA (And.intro hxF (And.intro hxo (And.intro y4 y5)))))
        have hyc : y.n ≤ y.c := y6
        have hk0 := y1
        subst hA'
        clear hy hmem hrow y1 y2 y3 y4 y5 y6 y7 y3o hyA hxF hxo
        go_upto_block 2 with (first | refine wpList_load_mid rfl 34 _ rfl _ _ rfl y.vals _ hr Try.underlying34 rfl size34 ?_ | refine wpList_stnew rfl 34 _ _ rfl rfl y.vals rfl rfl size34 rfl (ac_one y) ?_)
        obtain ⟨w5, hw5⟩ : ∃ V, V = wo.alloc (.cells y.vals.toArray 34) := ⟨_, rfl⟩
        have k5 : w5.heap[wo.heap.size]? = some (.cells #[.int .u8 y.k, .int .i64 y.list, .slice y.A y.n y.c] 34 (0, 0)) := by rw [hw5]; exact heap_alloc_new _ _
        have x5 : Ext wo w5 := by rw [hw5]; exact (Ext.refl _).alloc _
        rw [← hw5]
        clear hw5 hr
        have HK5 := Lib.hid k5
        obtain ⟨F5, hF5⟩ : ∃ F5 : Nat → Prop, F5 = fun b => F b ∧ ¬ (wo.heap.size ≤ b ∧ b < w5.heap.size) := ⟨_, rfl⟩
        have HT5 := Lib.hid (show Tw F5 w5 w5 g h s s [] by rw [hF5]; exact HQ.out.base x5)
        have HB := Lib.hid (show ¬ F5 wo.heap.size by rw [hF5]; exact fun h => h.2 ⟨Nat.le_refl _, blk_lt HK5.out⟩)
        have HL := Lib.hid (show ∀ W s' hd, Tw F5 w5 W g h s' s' hd → Tw F w4 W g h s' s' [] from fun W s' hd t => by rw [hF5] at t; exact (t.lift (HQ.out.k.then x5) HQ.out.up).drop)
        have HSU := Lib.hid (show ∀ b, F5 b → F b by rw [hF5]; exact fun b h => h.1)
        clear hF5 k5
        have HYK := Lib.hid (show ∀ W, Kept F5 w5 W → Shows W 3 y.A y.n (rps y.xs) ∧ ∀ x ∈ y.xs, x.ok W ∧ x.n ≤ 100000 from fun W kk => ⟨(HY.out.1.ext x5).kept kk (fun ad e hF => HY.out.2.1 ad e (HSU.out _ hF)), fun x hx => ⟨((HY.out.2.2.2.1 x hx).1.ext x5).keptN kk (fun ad e h0 hF => HY.out.2.2.1 x hx ad e h0 (HSU.out _ hF)), (HY.out.2.2.2.1 x hx).2⟩⟩)
        have HYF := Lib.hid (show (∀ ad, y.A = some ad → ¬ F5 ad.block) ∧ ∀ x ∈ y.xs, ∀ ad, x.A = some ad → 0 < x.n → ¬ F5 ad.block from ⟨fun ad e hF => HY.out.2.1 ad e (HSU.out _ hF), fun x hx ad e h0 hF => HY.out.2.2.1 x hx ad e h0 (HSU.out _ hF)⟩)
        have m0 : w5.cell? ⟨wo.heap.size, 0, none⟩ = some (.int .u8 y.k) := blk_cell HK5.out rfl
        obtain ⟨q, hq⟩ : ∃ q, y.k.tmod 8 = q := ⟨_, rfl⟩
        have hq0 : 0 ≤ q ∧ q < 8 := by rw [← hq, Int.tmod_eq_emod_of_nonneg hk0.1]; omega
        simp only [Act.put]
        go_cut [5] (fun v5 wx => v5 = .bool true ∧ ∃ s' hd, Tw F5 w5 wx g h s' s' hd)
        case first =>
          by_cases hq4 : q < 4
          · go_upto_region 14 with (fail)
            clear m0
            obtain ⟨okb, hokb⟩ : ∃ b, b = (s.put y.list (y.xs.map Rp.pk)).1 := ⟨_, rfl⟩
            obtain ⟨s', hs'⟩ : ∃ z, z = (s.put y.list (y.xs.map Rp.pk)).2 := ⟨_, rfl⟩
            have HOB := Lib.hid (And.intro hokb hs')
            clear hokb hs'
            refine wp_region_held_drew (S := fun W => W.heap[wo.heap.size]? = some (.cells #[.int .u8 y.k, .int .i64 y.list, .slice y.A y.n y.c] 34 (0, 0))) (by kernel_rfl) (((Ext.refl w5).drew.block _ (blk_lt HK5.out)).trans HK5.out) (fun hHeld => ?_)
            obtain ⟨wD1, hwD⟩ : ∃ V, V = World.drew w5 := ⟨_, rfl⟩
            rw [← hwD] at hHeld ⊢
            have zz0 : Ext w5 wD1 := by rw [hwD]; exact (Ext.refl _).drew
            clear hwD
            have PD := HT5.out.ext zz0
            refine wpAnyH_take (i := 0) (oi := { dst := some 56, op := Op.move (Operand.tmp 6), type := 24, pos := "law.go:64", after := #[], guard := none }) (v := ?vv2_14_0) rfl (by kernel_rfl) (by kernel_rfl) (by kernel_rfl) (fun _ _ _ h => h) (Or.inl ⟨by rfl, ?yy2_14_0⟩) hHeld ?_
            case yy2_14_0 => (intro W hx; go_simp; try with_reducible rfl)
            simp only [Act.put, List.setIfInBounds_toArray, List.set_cons_zero, List.set_cons_succ]
            refine wpAnyH_take (i := 1) (oi := { dst := some 57, op := Op.fieldAddr 34 (Operand.tmp 11) 1, type := 0, pos := "law.go:64", after := #[], guard := none }) (v := ?vv3_14_1) rfl (by kernel_rfl) (by kernel_rfl) (by kernel_rfl) (fun _ _ _ h => h) (Or.inl ⟨by rfl, ?yy3_14_1⟩) hHeld ?_
            case yy3_14_1 => (intro W hx; go_simp; try with_reducible rfl)
            simp only [Act.put, List.setIfInBounds_toArray, List.set_cons_zero, List.set_cons_succ]
            refine wpAnyH_take (i := 2) (oi := { dst := some 58, op := Op.load 3 (Operand.tmp 57), type := 3, pos := "law.go:64", after := #[{ on := 1, ground := Ground.data }], guard := none }) (v := ?vv4_14_2) rfl (by kernel_rfl) (by kernel_rfl) (by kernel_rfl) (fun _ _ _ h => h) (Or.inl ⟨by rfl, ?yy4_14_2⟩) hHeld ?_
            case yy4_14_2 => (intro W hx; have m1 := blk_cell (i := 1) (v := .int .i64 y.list) hx rfl; go_simp; try with_reducible rfl)
            simp only [Act.put, List.setIfInBounds_toArray, List.set_cons_zero, List.set_cons_succ]
            refine wpAnyH_take (i := 3) (oi := { dst := some 59, op := Op.fieldAddr 34 (Operand.tmp 11) 2, type := 0, pos := "law.go:64", after := #[], guard := none }) (v := ?vv5_14_3) rfl (by kernel_rfl) (by kernel_rfl) (by kernel_rfl) (fun _ _ _ h => h) (Or.inl ⟨by rfl, ?yy5_14_3⟩) hHeld ?_
            case yy5_14_3 => (intro W hx; go_simp; try with_reducible rfl)
            simp only [Act.put, List.setIfInBounds_toArray, List.set_cons_zero, List.set_cons_succ]
            refine wpAnyH_take (i := 4) (oi := { dst := some 60, op := Op.load 32 (Operand.tmp 59), type := 32, pos := "law.go:64", after := #[{ on := 3, ground := Ground.data }], guard := none }) (v := ?vv6_14_4) rfl (by kernel_rfl) (by kernel_rfl) (by kernel_rfl) (fun _ _ _ h => h) (Or.inl ⟨by rfl, ?yy6_14_4⟩) hHeld ?_
            case yy6_14_4 => (intro W hx; have m2 := blk_cell (i := 2) (v := .slice y.A y.n y.c) hx rfl; go_simp; try with_reducible rfl)
            simp only [Act.put, List.setIfInBounds_toArray, List.set_cons_zero, List.set_cons_succ]
            refine wpAnyH_take (i := 6) (oi := { dst := some 62, op := Op.move (Operand.tmp 8), type := 28, pos := "law.go:64", after := #[], guard := none }) (v := ?vv7_14_6) rfl (by kernel_rfl) (by kernel_rfl) (by kernel_rfl) (fun _ _ _ h => h) (Or.inl ⟨by rfl, ?yy7_14_6⟩) hHeld ?_
            case yy7_14_6 => (intro W hx; go_simp; try with_reducible rfl)
            simp only [Act.put, List.setIfInBounds_toArray, List.set_cons_zero, List.set_cons_succ]
            refine wpAnyH_take (i := 7) (oi := { dst := some 63, op := Op.fieldAddr 34 (Operand.tmp 11) 1, type := 0, pos := "law.go:64", after := #[], guard := none }) (v := ?vv8_14_7) rfl (by kernel_rfl) (by kernel_rfl) (by kernel_rfl) (fun _ _ _ h => h) (Or.inl ⟨by rfl, ?yy8_14_7⟩) hHeld ?_
            case yy8_14_7 => (intro W hx; go_simp; try with_reducible rfl)
            simp only [Act.put, List.setIfInBounds_toArray, List.set_cons_zero, List.set_cons_succ]
            refine wpAnyH_take (i := 8) (oi := { dst := some 64, op := Op.load 3 (Operand.tmp 63), type := 3, pos := "law.go:64", after := #[{ on := 7, ground := Ground.data }], guard := none }) (v := ?vv9_14_8) rfl (by kernel_rfl) (by kernel_rfl) (by kernel_rfl) (fun _ _ _ h => h) (Or.inl ⟨by rfl, ?yy9_14_8⟩) hHeld ?_
            case yy9_14_8 => (intro W hx; have m1 := blk_cell (i := 1) (v := .int .i64 y.list) hx rfl; go_simp; try with_reducible rfl)
            simp only [Act.put, List.setIfInBounds_toArray, List.set_cons_zero, List.set_cons_succ]
            refine wpAnyH_take (i := 9) (oi := { dst := some 65, op := Op.fieldAddr 34 (Operand.tmp 11) 2, type := 0, pos := "law.go:64", after := #[], guard := none }) (v := ?vv10_14_9) rfl (by kernel_rfl) (by kernel_rfl) (by kernel_rfl) (fun _ _ _ h => h) (Or.inl ⟨by rfl, ?yy10_14_9⟩) hHeld ?_
            case yy10_14_9 => (intro W hx; go_simp; try with_reducible rfl)
            simp only [Act.put, List.setIfInBounds_toArray, List.set_cons_zero, List.set_cons_succ]
            refine wpAnyH_take (i := 10) (oi := { dst := some 66, op := Op.load 32 (Operand.tmp 65), type := 32, pos := "law.go:64", after := #[{ on := 9, ground := Ground.data }], guard := none }) (v := ?vv11_14_10) rfl (by kernel_rfl) (by kernel_rfl) (by kernel_rfl) (fun _ _ _ h => h) (Or.inl ⟨by rfl, ?yy11_14_10⟩) hHeld ?_
            case yy11_14_10 => (intro W hx; have m2 := blk_cell (i := 2) (v := .slice y.A y.n y.c) hx rfl; go_simp; try with_reducible rfl)
            simp only [Act.put, List.setIfInBounds_toArray, List.set_cons_zero, List.set_cons_succ]
            refine wpAnyH_ready (rs := [5]) (by kernel_rfl) (by simp) (AllReadyH.cons rfl (fun K hK => ?_) AllReadyH.nil)
            go_simp
            go_wp2_with (go_at_call 12; (refine (put_t PD y.list y.c (HYK.out _ PD.k).1 HY.out.2.2.2.2.1 (by have := HY.out.2.2.2.2.2; omega) (HYK.out _ PD.k).2 HYF.out.1 HYF.out.2).mono ?_); rw [← HOB.out.1, ← HOB.out.2]; rintro e w6 ⟨rfl, P6⟩)
            refine hK.out _ _ (P6.k.blk HK5.out HB.out) (fun hHeld => ?_)
            clear hK K
            refine wpAnyH_ready (rs := [11]) (by kernel_rfl) (by simp) (AllReadyH.cons rfl (fun K hK => ?_) AllReadyH.nil)
            go_simp
            go_wp2_with (go_at_call 13; (refine (rput_t P6 y.list y.c (HYK.out _ P6.k).1 HY.out.2.2.2.2.1 (by have := HY.out.2.2.2.2.2; omega) (HYK.out _ P6.k).2 HYF.out.1 HYF.out.2).mono ?_); rw [← HOB.out.1, ← HOB.out.2]; rintro e w7 ⟨rfl, P7⟩)
            refine hK.out _ _ (P7.k.blk HK5.out HB.out) (fun hHeld => ?_)
            clear hK K
            refine wpAnyH_take (i := 12) (oi := { dst := some 68, op := Op.binOp BinOp.neq 4 (Operand.tmp 61) (Operand.tmp 67) 4, type := 4, pos := "law.go:64", after := #[{ on := 5, ground := Ground.data }, { on := 11, ground := Ground.data }], guard := none }) (v := ?vv12_14_12) rfl (by kernel_rfl) (by kernel_rfl) (by kernel_rfl) (fun _ _ _ h => h) (Or.inl ⟨by rfl, ?yy12_14_12⟩) hHeld ?_
            case yy12_14_12 => (intro W hx; go_simp; try with_reducible rfl)
            simp only [Act.put, List.setIfInBounds_toArray, List.set_cons_zero, List.set_cons_succ]
            refine wpAnyH_done (by kernel_rfl) ?_ _
            go_wp2
            go_meet
            case rel => exact ⟨rfl, _, _, P7⟩
          · by_cases hq7 : q < 7
            · obtain ⟨pp, hpp⟩ : ∃ p, p = s.hd.1 := ⟨_, rfl⟩
              obtain ⟨bb, hbb⟩ : ∃ p, p = s.hd.2 := ⟨_, rfl⟩
              have HPB := Lib.hid (And.intro hpp hbb)
              clear hpp hbb
              go_upto_region 18 with (first | (go_at_call 14; (refine (next_t HT5.out).mono ?_); rw [← HPB.out.1, ← HPB.out.2]; rintro e w6 ⟨r1, hr1, rfl, P6⟩) | refine wpList_stnew rfl 38 _ _ rfl rfl r1.vals rfl rfl size38 rfl (rp_one r1) ?_)
              clear m0
              obtain ⟨w7, hw7⟩ : ∃ V, V = w6.alloc (.cells r1.vals.toArray 38) := ⟨_, rfl⟩
              have k7 : w7.heap[w6.heap.size]? = some (.cells r1.vals.toArray 38 (0, 0)) := by rw [hw7]; exact heap_alloc_new _ _
              have x7 : Ext w6 w7 := by rw [hw7]; exact (Ext.refl _).alloc _
              rw [← hw7]
              clear hw7
              have HP6 := Lib.hid (And.intro P6 (And.intro hr1 x7))
              obtain ⟨F7, hF7⟩ : ∃ F7 : Nat → Prop, F7 = fun b => F5 b ∧ ¬ (w6.heap.size ≤ b ∧ b < w7.heap.size) := ⟨_, rfl⟩
              have HT7 := Lib.hid (show Tw F7 w7 w7 g h s.next s [r1] by rw [hF7]; exact P6.base x7)
              have HB7 := Lib.hid (show ¬ F7 w6.heap.size by rw [hF7]; exact fun h => h.2 ⟨Nat.le_refl _, blk_lt k7⟩)
              have HL7 := Lib.hid (show ∀ W s' hd, Tw F7 w7 W g h s' s' hd → Tw F5 w5 W g h s' s' hd from fun W s' hd t => by rw [hF7] at t; exact t.lift (HP6.out.1.k.then x7) HP6.out.1.up)
              clear hF7 P6 hr1 x7
              go_upto_region 19 with (first | (go_at_call 15; (refine (rnext_t HT7.out).mono ?_); rw [← HPB.out.1, ← HPB.out.2]; rintro e w8 ⟨r2, hr2, rfl, P8⟩) | refine wpList_stnew rfl 38 _ _ rfl rfl r2.vals rfl rfl size38 rfl (rp_one r2) ?_)
              obtain ⟨w9, hw9⟩ : ∃ V, V = w8.alloc (.cells r2.vals.toArray 38) := ⟨_, rfl⟩
              have k9 : w9.heap[w8.heap.size]? = some (.cells r2.vals.toArray 38 (0, 0)) := by rw [hw9]; exact heap_alloc_new _ _
              have x9 : Ext w8 w9 := by rw [hw9]; exact (Ext.refl _).alloc _
              rw [← hw9]
              clear hw9
              have k79 := (x9.block _ (blk_lt (P8.k.blk k7 HB7.out))).trans (P8.k.blk k7 HB7.out)
              have HP9 := Lib.hid (P8.ext x9)
              have HRR := Lib.hid (show r1.pk = r2.pk by rw [hr2, HP6.out.2.1])
              clear P8 hr2 k7 x9
              go_wp2_with (first
                | (go_at_call 16; (refine (rp_same 1 1 sh1 sh2 ((HP9.out.held r1 (by simp)).ext (xA.trans xB)) ((HP9.out.held r2 (by simp)).ext (xA.trans xB)) HRR.out).mono ?_); rintro e wC ⟨rfl, xC⟩)
                | (refine wpList_bsG (r := r2) rfl _ rfl rfl ?_; intro wB hwB; have xB : Ext wA wB := (by rw [hwB]; exact (Ext.refl _).alloc _); have sh1 := sh1.ext xB; have sh2 := shows_one (w := wA) (r := r2) 38; rw [← hwB] at sh2; clear hwB)
                | refine wpList_ldrowG rfl 38 _ rfl k9A rfl Try.underlying38 rfl size38 ?_
                | (refine wpList_bsG (r := r1) rfl _ rfl rfl ?_; intro wA hwA; have xA : Ext w9 wA := (by rw [hwA]; exact (Ext.refl _).alloc _); have sh1 := shows_one (w := w9) (r := r1) 38; rw [← hwA] at sh1; clear hwA; have k9A := (xA.block _ (blk_lt k9)).trans k9)
                | refine wpList_ldrowG rfl 38 _ rfl k79 rfl Try.underlying38 rfl size38 ?_)
              go_meet
              case rel => exact ⟨rfl, s.next, _, HL7.out _ _ _ (HP9.out.ext (xA.trans (xB.trans xC)))⟩
            · go_wp2_with (first
                | (go_at_call 18; (refine (rclear_t P6).mono ?_); rintro e w7 ⟨rfl, P7⟩)
                | (go_at_call 17; (refine (clear_t HT5.out).mono ?_); rintro e w6 ⟨rfl, P6⟩))
              go_meet
              case rel => exact ⟨rfl, _, _, P7⟩
        case rest =>
          obtain ⟨rfl, s', hd, P⟩ := hcut
          obtain ⟨wx, rfl⟩ : ∃ z : World, z = wc := ⟨_, rfl⟩
          obtain ⟨RA, Rc, kR, l64, hRc⟩ := P.rowR
          have HP := Lib.hid P
          have HLN := Lib.hid (fun W (x : Ext wx W) => (P.ext x).lenC)
          clear P m0
          obtain ⟨ln, hln⟩ : ∃ ln, ln = s'.l.length := ⟨_, rfl⟩
          rw [← hln] at kR l64 hRc HLN
          clear hln
          go_upto_region 21 with (fail)
          refine wp_region_held_drew (S := Ext wx) (by kernel_rfl) ((Ext.refl _).drew) (fun hHeld => ?_)
          obtain ⟨wD13, hwD⟩ : ∃ V, V = World.drew wx := ⟨_, rfl⟩
          rw [← hwD]
          clear hHeld
          have zz0 : Ext wx wD13 := by rw [hwD]; exact (Ext.refl _).drew
          clear hwD
          refine wpAnyH_imp (S' := Ext wD13) (fun W h => Ext.trans zz0 h) _ _ _ _ ?_
          have hHeld := Ext.refl wD13
          refine wpAnyH_take (i := 0) (oi := { dst := some 95, op := Op.move (Operand.tmp 6), type := 24, pos := "law.go:77", after := #[], guard := none }) (v := ?vv14_21_0) rfl (by kernel_rfl) (by kernel_rfl) (by kernel_rfl) (fun _ _ _ h => h) (Or.inl ⟨by rfl, ?yy14_21_0⟩) hHeld ?_
          case yy14_21_0 => (intro W hx; go_simp; try with_reducible rfl)
          simp only [Act.put, List.setIfInBounds_toArray, List.set_cons_zero, List.set_cons_succ]
          refine wpAnyH_take (i := 2) (oi := { dst := some 97, op := Op.move (Operand.tmp 8), type := 28, pos := "law.go:77", after := #[], guard := none }) (v := ?vv15_21_2) rfl (by kernel_rfl) (by kernel_rfl) (by kernel_rfl) (fun _ _ _ h => h) (Or.inl ⟨by rfl, ?yy15_21_2⟩) hHeld ?_
          case yy15_21_2 => (intro W hx; go_simp; try with_reducible rfl)
          simp only [Act.put, List.setIfInBounds_toArray, List.set_cons_zero, List.set_cons_succ]
          refine wpAnyH_take (i := 3) (oi := { dst := some 98, op := Op.nilCheck (Operand.tmp 97), type := 0, pos := "law.go:77", after := #[{ on := 2, ground := Ground.data }], guard := none }) (v := ?vv16_21_3) rfl (by kernel_rfl) (by kernel_rfl) (by kernel_rfl) (fun _ _ _ h => h) (Or.inl ⟨by rfl, ?yy16_21_3⟩) hHeld ?_
          case yy16_21_3 => (intro W hx; go_simp; try with_reducible rfl)
          simp only [Act.put, List.setIfInBounds_toArray, List.set_cons_zero, List.set_cons_succ]
          refine wpAnyH_take (i := 4) (oi := { dst := some 99, op := Op.fieldAddr 45 (Operand.tmp 98) 1, type := 0, pos := "law.go:77", after := #[{ on := 3, ground := Ground.data }], guard := none }) (v := ?vv17_21_4) rfl (by kernel_rfl) (by kernel_rfl) (by kernel_rfl) (fun _ _ _ h => h) (Or.inl ⟨by rfl, ?yy17_21_4⟩) hHeld ?_
          case yy17_21_4 => (intro W hx; go_simp; try with_reducible rfl)
          simp only [Act.put, List.setIfInBounds_toArray, List.set_cons_zero, List.set_cons_succ]
          refine wpAnyH_take (i := 5) (oi := { dst := some 100, op := Op.load 32 (Operand.tmp 99), type := 32, pos := "law.go:77", after := #[{ on := 4, ground := Ground.data }], guard := none }) (v := ?vv18_21_5) rfl (by kernel_rfl) (by kernel_rfl) (by kernel_rfl) (fun _ _ _ h => h) (Or.inl ⟨by rfl, ?yy18_21_5⟩) hHeld ?_
          case yy18_21_5 => (intro W hx; have hz := zz0.trans hx; have m0 := cell_ext hz kR; go_simp; try with_reducible rfl)
          simp only [Act.put, List.setIfInBounds_toArray, List.set_cons_zero, List.set_cons_succ]
          refine wpAnyH_take (i := 6) (oi := { dst := some 101, op := Op.call { callee := Callee.builtin Builtin.len, args := #[Operand.tmp 100], argTypes := #[32] }, type := 3, pos := "law.go:77", after := #[{ on := 5, ground := Ground.data }], guard := none }) (v := ?vv19_21_6) rfl (by kernel_rfl) (by kernel_rfl) (by kernel_rfl) (fun _ _ _ h => h) (Or.inl ⟨by rfl, ?yy19_21_6⟩) hHeld ?_
          case yy19_21_6 => (intro W hx; go_simp; try with_reducible rfl)
          simp only [Act.put, List.setIfInBounds_toArray, List.set_cons_zero, List.set_cons_succ]
          refine wpAnyH_ready (rs := [1]) (by kernel_rfl) (by simp) (AllReadyH.cons rfl (fun K hK => ?_) AllReadyH.nil)
          go_simp
          go_wp2_with (go_at_call 19; (refine (HLN.out _ zz0).mono ?_); rintro e w' ⟨rfl, rfl⟩)
          refine hK.out _ _ hHeld (fun hHeld => ?_)
          clear hK K
          refine wpAnyH_take (i := 7) (oi := { dst := some 102, op := Op.binOp BinOp.neq 3 (Operand.tmp 96) (Operand.tmp 101) 3, type := 4, pos := "law.go:77", after := #[{ on := 1, ground := Ground.data }, { on := 6, ground := Ground.data }], guard := none }) (v := ?vv20_21_7) rfl (by kernel_rfl) (by kernel_rfl) (by kernel_rfl) (fun _ _ _ h => h) (Or.inl ⟨by rfl, ?yy20_21_7⟩) hHeld ?_
          case yy20_21_7 => (intro W hx; go_simp; try with_reducible rfl)
          simp only [Act.put, List.setIfInBounds_toArray, List.set_cons_zero, List.set_cons_succ]
          refine wpAnyH_done (by kernel_rfl) ?_ _
          have zend := zz0.trans hHeld
          go_wp2
          go_roundw
          case rel => exact ⟨k + 1, s', by go_num, by omega, HL.out _ _ _ (HP.out.ext zend)⟩
          case measure => simp [intOf]; omega
      · obtain rfl : k = ny := by omega
        have X : Ext w wo := HX4.out.2.kept HQ.out.k (fun i hi => Nat.le_trans HW1.out.size (HFF.out i hi).1)
        go_wp2
        go_ret
        exact ⟨rfl, X⟩
  · clear hs hl hnc hcm hok
    have hm' : mo < 1 ∨ 64 < mo := by omega
    clear hm
    go_enter Try.func3, Try.ntmps3
    go_upto_region 2 with (go_at_call 8; (refine (shown_any _).mono ?_); rintro e w1 ⟨rfl, x1⟩)
    go_wp2_with (first
      | (go_at_call 9; (refine (new_no9 _ hm' _).mono ?_); rintro e w2 ⟨rfl, rfl⟩)
      | (go_at_call 10; (refine (new_no10 _ hm' _).mono ?_); rintro e w3 ⟨rfl, rfl⟩))
    go_ret
    exact ⟨rfl, x1⟩
end Go.Proofs.Ytdhdkjiphapliaa
