import Derived.Test.YtdhdkjiphapliaaR
set_option linter.unusedVariables false
set_option linter.unusedSimpArgs false
namespace Go.Proofs.Ytdhdkjiphapliaa
open Go.RowKit
theorem shows_blk {w : World} {b : Nat} {r : Rp} {t : TypeId} {fr : Nat × Nat} (K : w.heap[b]? = some (.cells r.vals.toArray t fr)) : Shows w 3 (some ⟨b, 0, none⟩) 1 (rps [r]) := by
  rw [rps_oneL]
  exact ⟨rfl, fun _ => ⟨_, rfl, blk_lt K, World.news_of_block K⟩⟩
theorem newP_of {wo wD wp wS : World} {gA : Nat} {k code : Int} {A4 : Option Addr} {n c4 : Nat} {bs : List Int} (own1 : wp.ownsRow wD.heap.size 5 1 (.slice A4 n c4) n (u8s bs)) (hb : Byts bs) (hk : 0 ≤ k ∧ k < 256) (hc : 0 ≤ code ∧ code < 256) (ne : ∀ k, Value.ownBlock (.slice A4 n c4) = some k → k ≠ gA) (xg : wp.grownBy wS (some gA))
    (ks : wS.heap[gA]? = some (.cells #[.int .u8 k, .int .u8 code, .slice A4 n c4] 38 (0, 0))) (x0 : Ext wo wD) (gB : wD.heap.size ≤ gA) (zend : Ext wo wS) : NewP wo wS gA ⟨k, code, A4, n, c4, bs⟩ := by
  obtain ⟨A5, c5, e, h1, h2, _⟩ := own_rd own1 hb
  injection e with e1 e2 e3
  subst e1 e3
  have kx := Kept.of_grown (F := fun b => b = gA) xg (fun b e => by injection e with e; exact e.symm)
  have own2 := own_keptF own1 kx (fun b e h => ne b e h)
  have hl : ∀ ad, A4 = some ad → Value.ownBlock (.slice A4 n c4) = some ad.block := fun ad e => by rw [e]; rfl
  exact ⟨ks, ⟨hk, hc, ⟨Shows.of_own own2, hb⟩, h1, h2⟩, fun ad e => ⟨Nat.le_trans x0.size (own2.lt _ (hl ad e)).1, (own2.lt _ (hl ad e)).2, ne _ (hl ad e)⟩, Nat.le_trans x0.size gB, zend⟩
theorem newP_set {wo wx : World} {gA : Nat} {k code : Int} {A4 : Option Addr} {n c4 : Nat} {bs : List Int} (h : NewP wo wx gA ⟨k, code, A4, n, c4, bs⟩) {code' : Int} (hc : 0 ≤ code' ∧ code' < 256) : NewP wo (wx.setCell ⟨gA, 1, none⟩ (.int .u8 code')) gA ⟨k, code', A4, n, c4, bs⟩ := by
  have kx : Kept (fun b => b = gA) wx (wx.setCell ⟨gA, 1, none⟩ (.int .u8 code')) := Kept.of_set _ rfl
  have ok := h.ok
  exact ⟨blk_set h.blk, ⟨ok.kind, hc, ok.rd.kept kx (fun ad e => (h.far ad e).2.2), ok.le, ok.cm⟩, fun ad e => ⟨(h.far ad e).1, Nat.lt_of_lt_of_le (h.far ad e).2.1 kx.size, (h.far ad e).2.2⟩, h.at_, h.ext.setCell h.at_ _⟩
theorem qu_addN {w w2 : World} {ty : TypeId} {g : Nat} {s : QS} {rs : List Rp} {va : Tg → Value} {T : Nat → Option Tg} {v : Value} {B : Nat} {r : Rp} (h : QuC w ty g s rs va T) (x : Ext w w2) (hr : r.ok w) (hA : ∀ ad, r.A = some ad → T ad.block = none ∧ ad.block < w.heap.size)
    (hv : w2.ownsRow w.heap.size 38 3 v (rs.length + 1) (rps rs ++ rps [r])) (hb : v.ownBlock = some B) (hn : s.l.length + 1 ≤ s.most) :
    (w2.frozen? ⟨g, 1, none⟩ = false ∧ ∃ u, w2.cell? ⟨g, 1, none⟩ = some u) ∧ ∃ va' T', QuC (w2.setCell ⟨g, 1, none⟩ v) ty g { s with l := s.l ++ [r.pk] } (rs ++ [r]) va' T' ∧ Kept (fun b => T b ≠ none) w (w2.setCell ⟨g, 1, none⟩ v) ∧ (∀ b t, T' b = some t → T b ≠ none ∨ w.heap.size ≤ b) := by
  refine qu_rowN h x (by rw [List.length_append, rps_app]; exact hv) hb (by rw [List.map_append, h.pk]; rfl) (by simp; exact hn) (fun y hy => ?_) (fun y hy ad e => ?_)
  · rcases List.mem_append.1 hy with hy | hy
    · exact h.rok y hy
    · simp at hy; subst hy; exact hr
  · rcases List.mem_append.1 hy with hy | hy
    · exact h.far y hy ad e
    · simp at hy; subst hy; exact hA ad e
section
variable {w : World} {g : Nat} {s : QS} {rs : List Rp} {va : Tg → Value} {T : Nat → Option Tg}
set_option maxRecDepth 100000 in
set_option maxHeartbeats 8000000 in
theorem rput_ok (h : QuC w 45 g s rs va T) {j : Nat} (hj : j < 4) {A : Option Addr} {n : Nat} (c : Nat) {xs : List Rp} (hs : Shows w 3 A n (rps xs)) (hn : n = xs.length) (hm : n ≤ 100000) (hx : ∀ x ∈ xs, x.ok w ∧ x.n ≤ 100000) (hA : ∀ ad, A = some ad → T ad.block = none) (hxA : ∀ x ∈ xs, ∀ ad, x.A = some ad → 0 < x.n → T ad.block = none)
    (hf : samp (xs.map Rp.pk) = true) (hfull : ¬ s.most < s.l.length + n) :
    Calls Try.prog 13 #[.pointer (some ⟨g, 0, none⟩), .int .i64 (j : Int), .slice A n c] w fun e w' => e = .returned (.bool true) ∧ QPost w w' 45 g { s with l := s.l ++ mark (s.lost.getD j false) (xs.map Rp.pk), lost := s.lost.set j false } rs T := by
  have h0 : ¬ (j : Int) < 0 := by omega
  have h4 : (j : Int) < 4 := by omega
  have h4' : ¬ (4 : Int) ≤ j := by omega
  have HH := Lib.hid h
  have hl := h.ok.n
  have hm2 := h.ok.m2
  have hn64 : n ≤ 64 := by omega
  obtain ⟨z, hz⟩ : ∃ z, z = s.l.length + n := ⟨_, rfl⟩
  have hzI : (s.l.length : Int) + n = (z : Int) := by omega
  have hzm : ¬ (s.most : Int) < z := by omega
  have z63 : z < 9223372036854775808 := by omega
  obtain ⟨ln, hln⟩ : ∃ ln, ln = s.l.length := ⟨_, rfl⟩
  rw [← hln] at hzI
  have HLN := Lib.hid hln
  have hcode : ∀ x ∈ xs, x.code < 64 := fun x hx => by
    simp only [samp, Bool.and_eq_true, List.all_eq_true, decide_eq_true_eq] at hf
    exact hf.1 x.pk (List.mem_map_of_mem hx)
  have hn0 : 0 < n := by
    simp only [samp, Bool.and_eq_true, decide_eq_true_eq, List.length_map] at hf
    omega
  have hne : ((n : Int) == 0) = false := by simp; omega
  have hne2 : ¬ ((n : Int) = 0) := by omega
  have HP := Lib.hid (And.intro hs (And.intro hn (And.intro hx (And.intro hA (And.intro hxA hcode)))))
  have HFU := Lib.hid (show s.l.length + (xs.map Rp.pk).length ≤ s.most by rw [List.length_map, ← hn]; omega)
  clear h hf hs hl hm2 hz hln hn hfull hx hA hxA hcode hn0
  have uz := wri z z63
  clear z63
  go_enter Try.func13, Try.ntmps13
  go_upto_region 4 with (fail)
  clear h0 h4 h4' hne hne2
  go_loopw [7] (fun v wr => ∃ k : Nat, v = .int .i64 k ∧ k ≤ n ∧ Ext w wr) (fun v _ => n - (intOf v).toNat)
  case atStart => exact ⟨0, rfl, Nat.zero_le _, Ext.refl _⟩
  case round =>
    obtain ⟨k, rfl, hk, xr⟩ := hrel
    by_cases hlt : k < n
    · have hkn : (k : Int) < n := by omega
      obtain ⟨r, hr⟩ : ∃ r, xs[k]? = some r := ⟨_, List.getElem?_eq_getElem (by have := HP.out.2.1; omega)⟩
      obtain ⟨b, o, hA, hb, hrr⟩ := Shows.row rp_len (by omega) (HP.out.1.ext xr) HP.out.2.1 hr
      have m1 := hrr 1 _ rfl
      have d : r.code < 64 := HP.out.2.2.2.2.2 r (List.mem_of_getElem? hr)
      have d' : ¬ (64 : Int) ≤ r.code := by omega
      clear hr hrr
      subst hA
      go_wp2
      go_roundw
      case rel => exact ⟨k + 1, by go_num, by omega, xr⟩
      case measure => simp [intOf]; omega
    · obtain rfl : k = n := by omega
      have h0 : ¬ (j : Int) < 0 := by omega
      have h4 : (j : Int) < 4 := by omega
      have h4' : ¬ (4 : Int) ≤ j := by omega
      have H1 := HH.out.ext xr
      obtain ⟨A1, c1, e, h1, h2, k0, k1, kl, kf⟩ := H1.cells
      rw [H1.len, ← HLN.out] at k1
      have HX := Lib.hid H1
      clear H1 e h1 h2 kl kf
      go_upto_region 8 with (fail)
      go_quiet (fail)
      obtain ⟨w2, hWq⟩ : ∃ z : World, z = World.drewN wr nq := ⟨_, rfl⟩
      rw [← hWq]
      have xw2 : Ext wr w2 := by rw [hWq]; exact (Ext.refl _).drewN _
      clear hWq
      have hdN : decide (s.most < z) = false := by simp; omega
      go_upto_region 12 with (fail)
      clear hzI hzm uz k0 k1 hdN
      have x12 := xr.trans xw2
      have H2 := Lib.hid (HH.out.ext x12)
      go_loopw [8] (fun v wr => ∃ (i : Nat) (rk : List Rp) (vk : Tg → Value) (Tk : Nat → Option Tg), v = .int .i64 i ∧ i ≤ k ∧ QuC wr 45 g (s.part (s.lost.getD j false) (xs.map Rp.pk) i) rk vk Tk ∧ Kept (fun b => T b ≠ none) w wr ∧ (∀ b t, Tk b = some t → T b ≠ none ∨ w.heap.size ≤ b) ∧ FromR w rs rk) (fun v _ => k - (intOf v).toNat)
      case atStart => exact ⟨0, _, _, _, rfl, Nat.zero_le _, by have := H2.out; simpa [QS.part] using this, .of_ext x12, fun b t hb => .inl (by rw [hb]; simp), FromR.same _ _⟩
      case round =>
        obtain ⟨i, rk, vk, Tk, rfl, hi, Q, kp, hTk, hFR⟩ := hrel
        have HFR := Lib.hid hFR
        clear hFR
        obtain ⟨wo, rfl⟩ : ∃ z : World, z = wr := ⟨_, rfl⟩
        by_cases hlt : i < k
        · have hkn : (i : Int) < k := by omega
          obtain ⟨r, hr⟩ : ∃ r, xs[i]? = some r := ⟨_, List.getElem?_eq_getElem (by have := HP.out.2.1; omega)⟩
          have hmem := List.mem_of_getElem? hr
          have hso := (HP.out.1).kept kp (fun ad e h => h (HP.out.2.2.2.1 ad e))
          obtain ⟨b, o, hA', hb, hrr⟩ := Shows.row rp_len (by omega) hso HP.out.2.1 hr
          have hrd := ((HP.out.2.2.1 r hmem).1).keptN kp (fun ad e h0 h => h (HP.out.2.2.2.2.1 r hmem ad e h0))
          have hrn := (HP.out.2.2.1 r hmem).2
          have hrc := HP.out.2.2.2.2.2 r hmem
          have HR := Lib.hid (And.intro hrd (And.intro hrn (And.intro hrc (show (xs.map Rp.pk)[i]? = some r.pk by rw [List.getElem?_map, hr]; rfl))))
          have HQ := Lib.hid Q
          have HK := Lib.hid (And.intro kp hTk)
          have p0 := hrr 0 _ rfl
          have p1 := hrr 1 _ rfl
          have p2 := hrr 2 _ rfl
          simp only [Nat.add_zero] at p0
          have HC := Lib.hid (And.intro p0 (And.intro p1 p2))
          subst hA'
          clear Q kp hTk hr hmem hso hrd hrc hrr p0 p1 p2
          go_upto_region 14 with (fail)
          go_cut [9] (fun v9 wx => ∃ gA A4 c4, v9 = .pointer (some ⟨gA, 0, none⟩) ∧ NewP wo wx gA ⟨r.kind, r.code, A4, r.n, c4, r.bs⟩)
          case first =>
            refine wp_region_held_drew (S := Ext wo) (by kernel_rfl) ((Ext.refl _).drew) (fun hHeld => ?_)
            obtain ⟨wB7, hwD⟩ : ∃ V, V = World.drew wo := ⟨_, rfl⟩
            rw [← hwD]
            clear hHeld
            have zz0 : Ext wo wB7 := by rw [hwD]; exact (Ext.refl _).drew
            clear hwD
            refine wpAnyH_imp (S' := Ext wB7) (fun W h => Ext.trans zz0 h) _ _ _ _ ?_
            have hHeld := Ext.refl wB7
            have hB := Ext.refl wB7
            have hW := zz0
            refine wpAnyH_take (i := 0) (oi := { dst := some 57, op := Op.move (Operand.tmp 2), type := 32, pos := "ref.go:36", after := #[], guard := none }) (v := ?vv2_14_0) rfl (by kernel_rfl) (by kernel_rfl) (by kernel_rfl) (fun _ _ _ h => h) (Or.inl ⟨by rfl, ?yy2_14_0⟩) hHeld ?_
            case yy2_14_0 => (intro W hx; go_simp; try with_reducible rfl)
            simp only [Act.put, List.setIfInBounds_toArray, List.set_cons_zero, List.set_cons_succ]
            refine wpAnyH_take (i := 1) (oi := { dst := some 58, op := Op.move (Operand.tmp 8), type := 3, pos := "ref.go:36", after := #[], guard := none }) (v := ?vv3_14_1) rfl (by kernel_rfl) (by kernel_rfl) (by kernel_rfl) (fun _ _ _ h => h) (Or.inl ⟨by rfl, ?yy3_14_1⟩) hHeld ?_
            case yy3_14_1 => (intro W hx; go_simp; try with_reducible rfl)
            simp only [Act.put, List.setIfInBounds_toArray, List.set_cons_zero, List.set_cons_succ]
            refine wpAnyH_take (i := 2) (oi := { dst := some 59, op := Op.indexAddr 32 (Operand.tmp 57) (Operand.tmp 58), type := 0, pos := "ref.go:36", after := #[{ on := 0, ground := Ground.data }, { on := 1, ground := Ground.data }], guard := none }) (v := ?vv4_14_2) rfl (by kernel_rfl) (by kernel_rfl) (by kernel_rfl) (fun _ _ _ h => h) (Or.inl ⟨by rfl, ?yy4_14_2⟩) hHeld ?_
            case yy4_14_2 => (intro W hx; go_simp; try with_reducible rfl)
            simp only [Act.put, List.setIfInBounds_toArray, List.set_cons_zero, List.set_cons_succ]
            refine wpAnyH_take (i := 3) (oi := { dst := some 60, op := Op.fieldAddr 38 (Operand.tmp 59) 0, type := 0, pos := "ref.go:36", after := #[{ on := 2, ground := Ground.data }], guard := none }) (v := ?vv5_14_3) rfl (by kernel_rfl) (by kernel_rfl) (by kernel_rfl) (fun _ _ _ h => h) (Or.inl ⟨by rfl, ?yy5_14_3⟩) hHeld ?_
            case yy5_14_3 => (intro W hx; go_simp; try with_reducible rfl)
            simp only [Act.put, List.setIfInBounds_toArray, List.set_cons_zero, List.set_cons_succ]
            refine wpAnyH_take (i := 4) (oi := { dst := some 61, op := Op.load 5 (Operand.tmp 60), type := 5, pos := "ref.go:36", after := #[{ on := 3, ground := Ground.data }], guard := none }) (v := ?vv6_14_4) rfl (by kernel_rfl) (by kernel_rfl) (by kernel_rfl) (fun _ _ _ h => h) (Or.inl ⟨by rfl, ?yy6_14_4⟩) hHeld ?_
            case yy6_14_4 => (intro W hx; have hz := zz0.trans hx; have m0 := cell_ext hz HC.out.1; go_simp; try with_reducible rfl)
            simp only [Act.put, List.setIfInBounds_toArray, List.set_cons_zero, List.set_cons_succ]
            refine wpAnyH_take (i := 5) (oi := { dst := some 62, op := Op.move (Operand.tmp 2), type := 32, pos := "ref.go:36", after := #[], guard := none }) (v := ?vv7_14_5) rfl (by kernel_rfl) (by kernel_rfl) (by kernel_rfl) (fun _ _ _ h => h) (Or.inl ⟨by rfl, ?yy7_14_5⟩) hHeld ?_
            case yy7_14_5 => (intro W hx; go_simp; try with_reducible rfl)
            simp only [Act.put, List.setIfInBounds_toArray, List.set_cons_zero, List.set_cons_succ]
            refine wpAnyH_take (i := 6) (oi := { dst := some 63, op := Op.move (Operand.tmp 8), type := 3, pos := "ref.go:36", after := #[], guard := none }) (v := ?vv8_14_6) rfl (by kernel_rfl) (by kernel_rfl) (by kernel_rfl) (fun _ _ _ h => h) (Or.inl ⟨by rfl, ?yy8_14_6⟩) hHeld ?_
            case yy8_14_6 => (intro W hx; go_simp; try with_reducible rfl)
            simp only [Act.put, List.setIfInBounds_toArray, List.set_cons_zero, List.set_cons_succ]
            refine wpAnyH_take (i := 7) (oi := { dst := some 64, op := Op.indexAddr 32 (Operand.tmp 62) (Operand.tmp 63), type := 0, pos := "ref.go:36", after := #[{ on := 5, ground := Ground.data }, { on := 6, ground := Ground.data }], guard := none }) (v := ?vv9_14_7) rfl (by kernel_rfl) (by kernel_rfl) (by kernel_rfl) (fun _ _ _ h => h) (Or.inl ⟨by rfl, ?yy9_14_7⟩) hHeld ?_
            case yy9_14_7 => (intro W hx; go_simp; try with_reducible rfl)
            simp only [Act.put, List.setIfInBounds_toArray, List.set_cons_zero, List.set_cons_succ]
            refine wpAnyH_take (i := 8) (oi := { dst := some 65, op := Op.fieldAddr 38 (Operand.tmp 64) 1, type := 0, pos := "ref.go:36", after := #[{ on := 7, ground := Ground.data }], guard := none }) (v := ?vv10_14_8) rfl (by kernel_rfl) (by kernel_rfl) (by kernel_rfl) (fun _ _ _ h => h) (Or.inl ⟨by rfl, ?yy10_14_8⟩) hHeld ?_
            case yy10_14_8 => (intro W hx; go_simp; try with_reducible rfl)
            simp only [Act.put, List.setIfInBounds_toArray, List.set_cons_zero, List.set_cons_succ]
            refine wpAnyH_take (i := 9) (oi := { dst := some 66, op := Op.load 5 (Operand.tmp 65), type := 5, pos := "ref.go:36", after := #[{ on := 8, ground := Ground.data }], guard := none }) (v := ?vv11_14_9) rfl (by kernel_rfl) (by kernel_rfl) (by kernel_rfl) (fun _ _ _ h => h) (Or.inl ⟨by rfl, ?yy11_14_9⟩) hHeld ?_
            case yy11_14_9 => (intro W hx; have hz := zz0.trans hx; have m0 := cell_ext hz HC.out.2.1; go_simp; try with_reducible rfl)
            simp only [Act.put, List.setIfInBounds_toArray, List.set_cons_zero, List.set_cons_succ]
            refine wpAnyH_take (i := 11) (oi := { dst := some 68, op := Op.move (Operand.tmp 2), type := 32, pos := "ref.go:36", after := #[], guard := none }) (v := ?vv12_14_11) rfl (by kernel_rfl) (by kernel_rfl) (by kernel_rfl) (fun _ _ _ h => h) (Or.inl ⟨by rfl, ?yy12_14_11⟩) hHeld ?_
            case yy12_14_11 => (intro W hx; go_simp; try with_reducible rfl)
            simp only [Act.put, List.setIfInBounds_toArray, List.set_cons_zero, List.set_cons_succ]
            refine wpAnyH_take (i := 12) (oi := { dst := some 69, op := Op.move (Operand.tmp 8), type := 3, pos := "ref.go:36", after := #[], guard := none }) (v := ?vv13_14_12) rfl (by kernel_rfl) (by kernel_rfl) (by kernel_rfl) (fun _ _ _ h => h) (Or.inl ⟨by rfl, ?yy13_14_12⟩) hHeld ?_
            case yy13_14_12 => (intro W hx; go_simp; try with_reducible rfl)
            simp only [Act.put, List.setIfInBounds_toArray, List.set_cons_zero, List.set_cons_succ]
            refine wpAnyH_take (i := 13) (oi := { dst := some 70, op := Op.indexAddr 32 (Operand.tmp 68) (Operand.tmp 69), type := 0, pos := "ref.go:36", after := #[{ on := 11, ground := Ground.data }, { on := 12, ground := Ground.data }], guard := none }) (v := ?vv14_14_13) rfl (by kernel_rfl) (by kernel_rfl) (by kernel_rfl) (fun _ _ _ h => h) (Or.inl ⟨by rfl, ?yy14_14_13⟩) hHeld ?_
            case yy14_14_13 => (intro W hx; go_simp; try with_reducible rfl)
            simp only [Act.put, List.setIfInBounds_toArray, List.set_cons_zero, List.set_cons_succ]
            refine wpAnyH_take (i := 14) (oi := { dst := some 71, op := Op.fieldAddr 38 (Operand.tmp 70) 2, type := 0, pos := "ref.go:36", after := #[{ on := 13, ground := Ground.data }], guard := none }) (v := ?vv15_14_14) rfl (by kernel_rfl) (by kernel_rfl) (by kernel_rfl) (fun _ _ _ h => h) (Or.inl ⟨by rfl, ?yy15_14_14⟩) hHeld ?_
            case yy15_14_14 => (intro W hx; go_simp; try with_reducible rfl)
            simp only [Act.put, List.setIfInBounds_toArray, List.set_cons_zero, List.set_cons_succ]
            refine wpAnyH_take (i := 15) (oi := { dst := some 72, op := Op.load 36 (Operand.tmp 71), type := 36, pos := "ref.go:36", after := #[{ on := 14, ground := Ground.data }], guard := none }) (v := ?vv16_14_15) rfl (by kernel_rfl) (by kernel_rfl) (by kernel_rfl) (fun _ _ _ h => h) (Or.inl ⟨by rfl, ?yy16_14_15⟩) hHeld ?_
            case yy16_14_15 => (intro W hx; have hz := zz0.trans hx; have m0 := cell_ext hz HC.out.2.2; go_simp; try with_reducible rfl)
            simp only [Act.put, List.setIfInBounds_toArray, List.set_cons_zero, List.set_cons_succ]
            refine wpAnyH_ready (rs := [10, 18]) (by kernel_rfl) (by simp) (AllReadyH.cons rfl (fun K hK => ?_) (AllReadyH.cons rfl (fun K hK => ?_) AllReadyH.nil))
            · have tok := True.intro
              go_simp
              obtain ⟨wb, hw⟩ : ∃ V, V = World.alloc wB7 (.cells #[] 5) := ⟨_, rfl⟩
              rw [← hw]
              have xb : Ext wB7 wb := by rw [hw]; exact (Ext.refl _).alloc _
              have own0 := own_eq hw (own_lit (e := 5) (size := 1) #[] 0 rfl hB.size (le_max (by omega)) rfl)
              clear hw
              refine hK.out _ _ (hB.trans xb) (fun hHeld => ?_)
              clear hK K
              have hB := hB.trans xb
              have hW := zz0.trans hB
              refine wpAnyH_ready (rs := [16, 18]) (by kernel_rfl) (by simp) (AllReadyH.cons rfl (fun K hK => ?_) (AllReadyH.cons rfl (fun K hK => ?_) AllReadyH.nil))
              · have tok := True.intro
                rw [if_pos (by rfl)]
                refine wp_app2 (o := { dst := some 73, op := Op.call { callee := Callee.builtin Builtin.append, args := #[Operand.tmp 67, Operand.tmp 72], argTypes := #[36, 36] }, type := 36, pos := "ref.go:36", after := #[{ on := 10, ground := Ground.data }, { on := 15, ground := Ground.data }], guard := none }) el36 _ _ rfl own0 rfl (HR.out.1.rd.ext hW).shows rfl (u8s_one _) (le_max (by omega)) (by omega) rfl hB ?_; intro V1 wq own1 x9 hg9 hat9
                simp only [Act.put, List.setIfInBounds_toArray, List.set_cons_zero, List.set_cons_succ]
                refine hK.out _ _ x9 (fun hHeld => ?_)
                clear hK K
                have hB := x9
                have hW := zz0.trans hB
                clear own0 hg9 hat9
                simp only [List.nil_append, Nat.zero_add] at own1; obtain ⟨A4, c4, rfl⟩ := own_slice own1
                refine wpAnyH_take (i := 17) (oi := { dst := some 74, op := Op.build 38 #[(0, Operand.tmp 61), (1, Operand.tmp 66), (2, Operand.tmp 73)], type := 38, pos := "ref.go:36", after := #[{ on := 4, ground := Ground.data }, { on := 9, ground := Ground.data }, { on := 16, ground := Ground.data }], guard := none }) (v := ?vv17_14_17) rfl (by kernel_rfl) (by kernel_rfl) (by kernel_rfl) (fun _ _ _ h => h) (Or.inl ⟨by rfl, ?yy17_14_17⟩) hHeld ?_
                case yy17_14_17 => (intro W hx; go_simp; try with_reducible rfl)
                simp only [Act.put, List.setIfInBounds_toArray, List.set_cons_zero, List.set_cons_succ]
                refine wpAnyH_ready (rs := [18]) (by kernel_rfl) (by simp) (AllReadyH.cons rfl (fun K hK => ?_) AllReadyH.nil)
                go_simp
                obtain ⟨wL, hw⟩ : ∃ V, V = World.alloc wq (.cells #[.int .u8 0, .int .u8 0, .slice none 0 0] 38) := ⟨_, rfl⟩
                rw [← hw]
                have xa : Ext wq wL := by rw [hw]; exact (Ext.refl _).alloc _
                have kg : (World.heap wL)[(World.heap wq).size]? = some (.cells #[.int .u8 0, .int .u8 0, .slice none 0 0] 38) := by rw [hw]; exact heap_alloc_new _ _
                clear hw
                obtain ⟨gA, hgA⟩ : ∃ q, q = (World.heap wq).size := ⟨_, rfl⟩
                have ne_own1 : ∀ k, Value.ownBlock _ = some k → k ≠ gA := fun k e => by rw [hgA]; exact Nat.ne_of_lt (own1.lt k e).2
                have gB : (World.heap wB7).size ≤ gA := by rw [hgA]; exact hB.size
                have gE := Nat.le_of_eq hgA.symm
                rw [← hgA] at kg ⊢
                clear hgA
                refine hK.out _ _ (hB.trans xa) (fun hHeld => ?_)
                clear hK K
                have hB := hB.trans xa
                have hW := zz0.trans hB
                refine wpAnyH_imp (S' := fun W => Ext wB7 W ∧ ∃ cs, (World.heap W)[gA]? = some (.cells cs 38 (0, 0))) (fun W h => h.1) _ _ _ _ ?_
                have hHeld := And.intro hB (Exists.intro _ kg)
                have own1 := own_ext own1 xa
                refine wpAnyH_ready (rs := [19]) (by kernel_rfl) (by simp) (AllReadyH.cons rfl (fun K hK => ?_) AllReadyH.nil)
                rw [if_pos (by rfl)]
                refine wp_strow (o := { dst := none, op := Op.store 38 (Operand.tmp 9) (Operand.tmp 74), type := 0, pos := "ref.go:36", after := #[{ on := 18, ground := Ground.data }, { on := 17, ground := Ground.data }, { on := 16, ground := Ground.chain }, { on := 0, ground := Ground.phase }, { on := 1, ground := Ground.phase }, { on := 2, ground := Ground.phase }, { on := 3, ground := Ground.phase }, { on := 4, ground := Ground.phase }, { on := 5, ground := Ground.phase }, { on := 6, ground := Ground.phase }, { on := 7, ground := Ground.phase }, { on := 8, ground := Ground.phase }, { on := 9, ground := Ground.phase }, { on := 10, ground := Ground.phase }, { on := 11, ground := Ground.phase }, { on := 12, ground := Ground.phase }, { on := 13, ground := Ground.phase }, { on := 14, ground := Ground.phase }, { on := 15, ground := Ground.phase }, { on := 16, ground := Ground.phase }, { on := 17, ground := Ground.phase }, { on := 18, ground := Ground.phase }], guard := none }) _ _ _ rfl kg rfl rfl (by kernel_rfl) rfl (by simp [Value.oneCell']) ?_
                intro wS ks xg
                simp only [Act.put]
                have hB := Ext.of_grown hB xg (fun k e => by cases e; exact gB)
                have hW := zz0.trans hB
                refine hK.out _ _ ⟨hB, _, ks⟩ (fun hHeld => ?_)
                clear hK K
                refine wpAnyH_done (by kernel_rfl) ?_ _
                have zend := hW
                go_wp2
                go_meet
                case rel => exact ⟨gA, A4, c4, rfl, newP_of own1 HR.out.1.rd.byts HR.out.1.kind HR.out.1.code ne_own1 xg ks zz0 gB zend⟩
              · have tok := True.intro
                go_simp
                obtain ⟨wL, hw⟩ : ∃ V, V = World.alloc wb (.cells #[.int .u8 0, .int .u8 0, .slice none 0 0] 38) := ⟨_, rfl⟩
                rw [← hw]
                have xa : Ext wb wL := by rw [hw]; exact (Ext.refl _).alloc _
                have kg : (World.heap wL)[(World.heap wb).size]? = some (.cells #[.int .u8 0, .int .u8 0, .slice none 0 0] 38) := by rw [hw]; exact heap_alloc_new _ _
                clear hw
                obtain ⟨gA, hgA⟩ : ∃ q, q = (World.heap wb).size := ⟨_, rfl⟩
                have ne_own0 : ∀ k, Value.ownBlock _ = some k → k ≠ gA := fun k e => by rw [hgA]; exact Nat.ne_of_lt (own0.lt k e).2
                have gB : (World.heap wB7).size ≤ gA := by rw [hgA]; exact hB.size
                have gE := Nat.le_of_eq hgA.symm
                rw [← hgA] at kg ⊢
                clear hgA
                refine hK.out _ _ (hB.trans xa) (fun hHeld => ?_)
                clear hK K
                have hB := hB.trans xa
                have hW := zz0.trans hB
                refine wpAnyH_imp (S' := fun W => Ext wB7 W ∧ ∃ cs, (World.heap W)[gA]? = some (.cells cs 38 (0, 0))) (fun W h => h.1) _ _ _ _ ?_
                have hHeld := And.intro hB (Exists.intro _ kg)
                have own0 := own_ext own0 xa
                refine wpAnyH_ready (rs := [16]) (by kernel_rfl) (by simp) (AllReadyH.cons rfl (fun K hK => ?_) AllReadyH.nil)
                rw [if_pos (by rfl)]
                refine wp_app2 (o := { dst := some 73, op := Op.call { callee := Callee.builtin Builtin.append, args := #[Operand.tmp 67, Operand.tmp 72], argTypes := #[36, 36] }, type := 36, pos := "ref.go:36", after := #[{ on := 10, ground := Ground.data }, { on := 15, ground := Ground.data }], guard := none }) el36 _ _ rfl own0 rfl (HR.out.1.rd.ext hW).shows rfl (u8s_one _) (le_max (by omega)) (by omega) rfl hB ?_; intro V1 wq own1 x9 hg9 hat9
                simp only [Act.put, List.setIfInBounds_toArray, List.set_cons_zero, List.set_cons_succ]
                have kg2 := (hg9.block _ (blk_lt kg) (fun e => ne_own0 _ e.symm rfl)).trans kg
                refine hK.out _ _ ⟨x9, _, kg2⟩ (fun hHeld => ?_)
                clear hK K
                have ne_own1 : ∀ k, Value.ownBlock V1 = some k → k ≠ gA := own_ne2 hat9 ne_own0 (blk_lt kg)
                have kg := kg2; clear kg2
                have hB := x9
                have hW := zz0.trans hB
                clear own0 hg9 hat9
                simp only [List.nil_append, Nat.zero_add] at own1; obtain ⟨A4, c4, rfl⟩ := own_slice own1
                refine wpAnyH_take (i := 17) (oi := { dst := some 74, op := Op.build 38 #[(0, Operand.tmp 61), (1, Operand.tmp 66), (2, Operand.tmp 73)], type := 38, pos := "ref.go:36", after := #[{ on := 4, ground := Ground.data }, { on := 9, ground := Ground.data }, { on := 16, ground := Ground.data }], guard := none }) (v := ?vv18_14_17) rfl (by kernel_rfl) (by kernel_rfl) (by kernel_rfl) (fun _ _ _ h => h) (Or.inl ⟨by rfl, ?yy18_14_17⟩) hHeld ?_
                case yy18_14_17 => (intro W hx; go_simp; try with_reducible rfl)
                simp only [Act.put, List.setIfInBounds_toArray, List.set_cons_zero, List.set_cons_succ]
                refine wpAnyH_ready (rs := [19]) (by kernel_rfl) (by simp) (AllReadyH.cons rfl (fun K hK => ?_) AllReadyH.nil)
                rw [if_pos (by rfl)]
                refine wp_strow (o := { dst := none, op := Op.store 38 (Operand.tmp 9) (Operand.tmp 74), type := 0, pos := "ref.go:36", after := #[{ on := 18, ground := Ground.data }, { on := 17, ground := Ground.data }, { on := 16, ground := Ground.chain }, { on := 0, ground := Ground.phase }, { on := 1, ground := Ground.phase }, { on := 2, ground := Ground.phase }, { on := 3, ground := Ground.phase }, { on := 4, ground := Ground.phase }, { on := 5, ground := Ground.phase }, { on := 6, ground := Ground.phase }, { on := 7, ground := Ground.phase }, { on := 8, ground := Ground.phase }, { on := 9, ground := Ground.phase }, { on := 10, ground := Ground.phase }, { on := 11, ground := Ground.phase }, { on := 12, ground := Ground.phase }, { on := 13, ground := Ground.phase }, { on := 14, ground := Ground.phase }, { on := 15, ground := Ground.phase }, { on := 16, ground := Ground.phase }, { on := 17, ground := Ground.phase }, { on := 18, ground := Ground.phase }], guard := none }) _ _ _ rfl kg rfl rfl (by kernel_rfl) rfl (by simp [Value.oneCell']) ?_
                intro wS ks xg
                simp only [Act.put]
                have hB := Ext.of_grown hB xg (fun k e => by cases e; exact gB)
                have hW := zz0.trans hB
                refine hK.out _ _ ⟨hB, _, ks⟩ (fun hHeld => ?_)
                clear hK K
                refine wpAnyH_done (by kernel_rfl) ?_ _
                have zend := hW
                go_wp2
                go_meet
                case rel => exact ⟨gA, A4, c4, rfl, newP_of own1 HR.out.1.rd.byts HR.out.1.kind HR.out.1.code ne_own1 xg ks zz0 gB zend⟩
            · have tok := True.intro
              go_simp
              obtain ⟨wL, hw⟩ : ∃ V, V = World.alloc wB7 (.cells #[.int .u8 0, .int .u8 0, .slice none 0 0] 38) := ⟨_, rfl⟩
              rw [← hw]
              have xa : Ext wB7 wL := by rw [hw]; exact (Ext.refl _).alloc _
              have kg : (World.heap wL)[(World.heap wB7).size]? = some (.cells #[.int .u8 0, .int .u8 0, .slice none 0 0] 38) := by rw [hw]; exact heap_alloc_new _ _
              clear hw
              obtain ⟨gA, hgA⟩ : ∃ q, q = (World.heap wB7).size := ⟨_, rfl⟩
              have gB : (World.heap wB7).size ≤ gA := by rw [hgA]; exact hB.size
              have gE := Nat.le_of_eq hgA.symm
              rw [← hgA] at kg ⊢
              clear hgA
              refine hK.out _ _ (hB.trans xa) (fun hHeld => ?_)
              clear hK K
              have hB := hB.trans xa
              have hW := zz0.trans hB
              refine wpAnyH_imp (S' := fun W => Ext wB7 W ∧ ∃ cs, (World.heap W)[gA]? = some (.cells cs 38 (0, 0))) (fun W h => h.1) _ _ _ _ ?_
              have hHeld := And.intro hB (Exists.intro _ kg)
              refine wpAnyH_ready (rs := [10]) (by kernel_rfl) (by simp) (AllReadyH.cons rfl (fun K hK => ?_) AllReadyH.nil)
              go_simp
              obtain ⟨wb, hw⟩ : ∃ V, V = World.alloc wL (.cells #[] 5) := ⟨_, rfl⟩
              rw [← hw]
              have xb : Ext wL wb := by rw [hw]; exact (Ext.refl _).alloc _
              have own0 := own_eq hw (own_lit (e := 5) (size := 1) #[] 0 rfl hB.size (le_max (by omega)) rfl)
              clear hw
              refine hK.out _ _ ⟨(hB.trans xb), _, ((xb.block _ (blk_lt kg)).trans kg)⟩ (fun hHeld => ?_)
              clear hK K
              have hB := hB.trans xb
              have hW := zz0.trans hB
              have ne_own0 : ∀ k, Value.ownBlock (.slice (some ⟨(World.heap wL).size, 0, none⟩) 0 0) = some k → k ≠ gA := fun k e => by have h2 := blk_lt kg; simp only [Value.ownBlock, Option.some.injEq] at e; omega
              have kg := (xb.block _ (blk_lt kg)).trans kg
              refine wpAnyH_ready (rs := [16]) (by kernel_rfl) (by simp) (AllReadyH.cons rfl (fun K hK => ?_) AllReadyH.nil)
              rw [if_pos (by rfl)]
              refine wp_app2 (o := { dst := some 73, op := Op.call { callee := Callee.builtin Builtin.append, args := #[Operand.tmp 67, Operand.tmp 72], argTypes := #[36, 36] }, type := 36, pos := "ref.go:36", after := #[{ on := 10, ground := Ground.data }, { on := 15, ground := Ground.data }], guard := none }) el36 _ _ rfl own0 rfl (HR.out.1.rd.ext hW).shows rfl (u8s_one _) (le_max (by omega)) (by omega) rfl hB ?_; intro V1 wq own1 x9 hg9 hat9
              simp only [Act.put, List.setIfInBounds_toArray, List.set_cons_zero, List.set_cons_succ]
              have kg2 := (hg9.block _ (blk_lt kg) (fun e => ne_own0 _ e.symm rfl)).trans kg
              refine hK.out _ _ ⟨x9, _, kg2⟩ (fun hHeld => ?_)
              clear hK K
              have ne_own1 : ∀ k, Value.ownBlock V1 = some k → k ≠ gA := own_ne2 hat9 ne_own0 (blk_lt kg)
              have kg := kg2; clear kg2
              have hB := x9
              have hW := zz0.trans hB
              clear own0 hg9 hat9
              simp only [List.nil_append, Nat.zero_add] at own1; obtain ⟨A4, c4, rfl⟩ := own_slice own1
              refine wpAnyH_take (i := 17) (oi := { dst := some 74, op := Op.build 38 #[(0, Operand.tmp 61), (1, Operand.tmp 66), (2, Operand.tmp 73)], type := 38, pos := "ref.go:36", after := #[{ on := 4, ground := Ground.data }, { on := 9, ground := Ground.data }, { on := 16, ground := Ground.data }], guard := none }) (v := ?vv19_14_17) rfl (by kernel_rfl) (by kernel_rfl) (by kernel_rfl) (fun _ _ _ h => h) (Or.inl ⟨by rfl, ?yy19_14_17⟩) hHeld ?_
              case yy19_14_17 => (intro W hx; go_simp; try with_reducible rfl)
              simp only [Act.put, List.setIfInBounds_toArray, List.set_cons_zero, List.set_cons_succ]
              refine wpAnyH_ready (rs := [19]) (by kernel_rfl) (by simp) (AllReadyH.cons rfl (fun K hK => ?_) AllReadyH.nil)
              rw [if_pos (by rfl)]
              refine wp_strow (o := { dst := none, op := Op.store 38 (Operand.tmp 9) (Operand.tmp 74), type := 0, pos := "ref.go:36", after := #[{ on := 18, ground := Ground.data }, { on := 17, ground := Ground.data }, { on := 16, ground := Ground.chain }, { on := 0, ground := Ground.phase }, { on := 1, ground := Ground.phase }, { on := 2, ground := Ground.phase }, { on := 3, ground := Ground.phase }, { on := 4, ground := Ground.phase }, { on := 5, ground := Ground.phase }, { on := 6, ground := Ground.phase }, { on := 7, ground := Ground.phase }, { on := 8, ground := Ground.phase }, { on := 9, ground := Ground.phase }, { on := 10, ground := Ground.phase }, { on := 11, ground := Ground.phase }, { on := 12, ground := Ground.phase }, { on := 13, ground := Ground.phase }, { on := 14, ground := Ground.phase }, { on := 15, ground := Ground.phase }, { on := 16, ground := Ground.phase }, { on := 17, ground := Ground.phase }, { on := 18, ground := Ground.phase }], guard := none }) _ _ _ rfl kg rfl rfl (by kernel_rfl) rfl (by simp [Value.oneCell']) ?_
              intro wS ks xg
              simp only [Act.put]
              have hB := Ext.of_grown hB xg (fun k e => by cases e; exact gB)
              have hW := zz0.trans hB
              refine hK.out _ _ ⟨hB, _, ks⟩ (fun hHeld => ?_)
              clear hK K
              refine wpAnyH_done (by kernel_rfl) ?_ _
              have zend := hW
              go_wp2
              go_meet
              case rel => exact ⟨gA, A4, c4, rfl, newP_of own1 HR.out.1.rd.byts HR.out.1.kind HR.out.1.code ne_own1 xg ks zz0 gB zend⟩
          case rest =>
            obtain ⟨gA, A4, c4, rfl, N4⟩ := hcut
            obtain ⟨w4, rfl⟩ : ∃ z : World, z = wc := ⟨_, rfl⟩
            obtain ⟨A9, c9', e9, _, _, _, _, kl, _⟩ := (HQ.out.ext N4.ext).cells
            have kj : w4.cell? ⟨g, 2 + j, none⟩ = some (.bool (s.lost.getD j false)) := kl j hj
            clear kl e9
            obtain ⟨bl, hbl⟩ : ∃ bl, bl = s.lost.getD j false := ⟨_, rfl⟩
            rw [← hbl] at kj
            have HBL := Lib.hid hbl
            have HN4 := Lib.hid N4
            clear hbl N4
            obtain ⟨bq, hbq⟩ : ∃ q, q = (decide (i = 0) && bl) := ⟨_, rfl⟩
            have HBQ := Lib.hid hbq
            clear hbq
            go_upto_region 15 with (fail)
            go_cut [9, 84] (fun v9 v84 wx => v9 = .pointer (some ⟨gA, 0, none⟩) ∧ v84 = .bool bq ∧ w4 = wx)
            case first =>
              by_cases h0 : i = 0
              · have H0 := Lib.hid h0
                subst h0
                go_wp2
                go_meet
                case rel => exact ⟨rfl, by rw [HBQ.out]; simp, rfl⟩
              · have hkz : ((i : Int) == 0) = false := by simp; omega
                have hkz2 : ¬ ((i : Int) = 0) := by omega
                have H0 := Lib.hid h0
                go_wp2
                go_meet
                case rel => exact ⟨rfl, by rw [HBQ.out, decide_eq_false H0.out]; rfl, rfl⟩
            case rest =>
            obtain ⟨rfl, rfl, rfl⟩ := hcut
            clear kj
            go_upto_if 84 with (fail)
            go_cut [9] (fun v9 wx => v9 = .pointer (some ⟨gA, 0, none⟩) ∧ ∃ r7 : Rp, r7.pk = (if s.lost.getD j false = true ∧ i = 0 then { r.pk with code := r.pk.code + 64 } else r.pk) ∧ NewP wo wx gA r7)
            case first =>
              rcases bq with _ | _
              · go_wp2
                go_meet
                case rel => exact ⟨rfl, _, by rw [if_neg (fun h => by have := HBQ.out; rw [HBL.out, h.1, h.2] at this; cases this)]; rfl, HN4.out⟩
              · have m1 : w4.cell? ⟨gA, 1, none⟩ = some (.int .u8 r.code) := blk_cell HN4.out.blk rfl
                have ff1 : w4.frozen? ⟨gA, 1, none⟩ = false := blk_free HN4.out.blk
                obtain ⟨cn, hcn⟩ : ∃ cn : Nat, r.code + 64 = cn := ⟨(r.code + 64).toNat, by have := HR.out.1.code; omega⟩
                have ucn := wr8 (i := cn) (by have := HR.out.2.2.1; omega)
                have HCN := Lib.hid hcn
                go_wp2
                go_meet
                case rel =>
                  have hq := HBQ.out
                  rw [eq_comm, Bool.and_eq_true, decide_eq_true_eq] at hq
                  rw [← HCN.out]
                  exact ⟨rfl, ⟨r.kind, r.code + 64, A4, r.n, c4, r.bs⟩, by rw [if_pos ⟨by rw [← HBL.out]; exact hq.2, hq.1⟩]; rfl, newP_set HN4.out (by have h1 := HR.out.1.code; have h2 := HR.out.2.2.1; omega)⟩
            case rest =>
              obtain ⟨rfl, r7, hpk, N7⟩ := hcut
              obtain ⟨w7, rfl⟩ : ∃ z : World, z = wc := ⟨_, rfl⟩
              have HPK := Lib.hid hpk
              have HN7 := Lib.hid N7
              clear hpk
              have HF7 := Lib.hid (show ∀ ad, r7.A = some ad → Tk ad.block = none ∧ ad.block < w7.heap.size from fun ad e => by
                refine ⟨?_, (HN7.out.far ad e).2.1⟩
                rcases et : Tk ad.block with _ | t
                · rfl
                · have := HQ.out.O.lt _ _ et; have := (HN7.out.far ad e).1; omega)
              have H7 := Lib.hid (HQ.out.ext N7.ext)
              have HK7 := Lib.hid N7.blk
              have X7 := N7.ext
              clear N7
              obtain ⟨A2, c2, e2, h31, h32, q0, k1, ql, qf⟩ := H7.out.cells
              have HE := Lib.hid e2
              have ow := H7.out.row
              rw [e2] at ow
              have hrl := H7.out.len
              have HN1 := Lib.hid (show (s.part (s.lost.getD j false) (xs.map Rp.pk) i).l.length + 1 ≤ s.most by simp only [QS.part, List.length_append, List.length_take, mark_len, List.length_map]; have := HFU.out; rw [List.length_map] at this; have := HP.out.2.1; omega)
              have hrk : rk.length ≤ 64 := by have := H7.out.ok.n; have := H7.out.ok.m2; omega
              have HTG := Lib.hid (show Tk g ≠ none by rw [H7.out.tg]; simp)
              clear e2 q0 ql qf hrl h31 h32
              go_upto_region 17 with (fail)
              refine wp_regionL (Kept (fun b => Tk b ≠ none) w7) (Ext w7) 12 (by kernel_rfl) (Kept.of_ext (Ext.refl _).drew) ((Ext.refl _).drew) (fun hL => ?_)
              have hP := hL.1
              have hE : Ext w7 (World.drew w7) := (Ext.refl _).drew
              obtain ⟨wD20, hwD⟩ : ∃ V, V = World.drew w7 := ⟨_, rfl⟩
              rw [← hwD] at hL hP hE ⊢
              clear hwD
              refine wpAnyL_takeP (i := 0) (oi := { dst := some 89, op := Op.move (Operand.tmp 0), type := 28, pos := "ref.go:40", after := #[], guard := none }) (v := ?vv21_17_0) rfl (by kernel_rfl) (by kernel_rfl) (by kernel_rfl) (by kernel_rfl) (fun _ _ _ h => h) (Or.inl ⟨by rfl, ?yy21_17_0⟩) hL (fun hL => ?_)
              case yy21_17_0 => (intro W hx; go_simp; try with_reducible rfl)
              simp only [Act.put, List.setIfInBounds_toArray, List.set_cons_zero, List.set_cons_succ]
              refine wpAnyL_takeP (i := 2) (oi := { dst := some 91, op := Op.move (Operand.tmp 0), type := 28, pos := "ref.go:40", after := #[], guard := none }) (v := ?vv22_17_2) rfl (by kernel_rfl) (by kernel_rfl) (by kernel_rfl) (by kernel_rfl) (fun _ _ _ h => h) (Or.inl ⟨by rfl, ?yy22_17_2⟩) hL (fun hL => ?_)
              case yy22_17_2 => (intro W hx; go_simp; try with_reducible rfl)
              simp only [Act.put, List.setIfInBounds_toArray, List.set_cons_zero, List.set_cons_succ]
              refine wpAnyL_takeP (i := 3) (oi := { dst := some 92, op := Op.nilCheck (Operand.tmp 91), type := 0, pos := "ref.go:40", after := #[{ on := 2, ground := Ground.data }], guard := none }) (v := ?vv23_17_3) rfl (by kernel_rfl) (by kernel_rfl) (by kernel_rfl) (by kernel_rfl) (fun _ _ _ h => h) (Or.inl ⟨by rfl, ?yy23_17_3⟩) hL (fun hL => ?_)
              case yy23_17_3 => (intro W hx; go_simp; try with_reducible rfl)
              simp only [Act.put, List.setIfInBounds_toArray, List.set_cons_zero, List.set_cons_succ]
              refine wpAnyL_takeP (i := 4) (oi := { dst := some 93, op := Op.fieldAddr 45 (Operand.tmp 92) 1, type := 0, pos := "ref.go:40", after := #[{ on := 3, ground := Ground.data }], guard := none }) (v := ?vv24_17_4) rfl (by kernel_rfl) (by kernel_rfl) (by kernel_rfl) (by kernel_rfl) (fun _ _ _ h => h) (Or.inl ⟨by rfl, ?yy24_17_4⟩) hL (fun hL => ?_)
              case yy24_17_4 => (intro W hx; go_simp; try with_reducible rfl)
              simp only [Act.put, List.setIfInBounds_toArray, List.set_cons_zero, List.set_cons_succ]
              refine wpAnyL_takeB (i := 5) [6, 9, 12] (oi := { dst := some 94, op := Op.load 32 (Operand.tmp 93), type := 32, pos := "ref.go:40", after := #[{ on := 4, ground := Ground.data }], guard := none }) (v := ?vv25_17_5) rfl (by kernel_rfl) (by kernel_rfl) (by kernel_rfl) (by kernel_rfl) (fun _ _ _ h => h) (by kernel_rfl) (Or.inl ⟨by rfl, ?yy25_17_5⟩) hL (fun hL => ?_)
              case yy25_17_5 => (intro W hx; have q1 := cell_ext hx.2 k1; go_simp; try with_reducible rfl)
              simp only [Act.put, List.setIfInBounds_toArray, List.set_cons_zero, List.set_cons_succ]
              refine wpAnyL_takeB (i := 7) [8, 9, 12] (oi := { dst := some 96, op := Op.load 38 (Operand.tmp 9), type := 38, pos := "ref.go:40", after := #[], guard := none }) (v := ?vv26_17_7) rfl (by kernel_rfl) (by kernel_rfl) (by kernel_rfl) (by kernel_rfl) (fun _ _ _ h => h) (by kernel_rfl) (Or.inl ⟨by rfl, ?yy26_17_7⟩) hL (fun hL => ?_)
              case yy26_17_7 => (intro W hx; refine ld_op (r := r7) (rpAt ((hx.2.block _ (blk_lt HK7.out)).trans HK7.out)) ?_; rfl)
              simp only [Act.put, List.setIfInBounds_toArray, List.set_cons_zero, List.set_cons_succ]
              refine wpAnyL_ready (rs := [1, 8]) (by kernel_rfl) (by simp) (AllReadyL.cons rfl (fun K hK => ?_) (AllReadyL.cons rfl (fun K hK => ?_) AllReadyL.nil))
              · have tok := True.intro
                go_simp
                obtain ⟨wB, hw⟩ : ∃ V, V = World.alloc wD20 (.cells #[] 38) := ⟨_, rfl⟩
                rw [← hw]
                have xb : Ext wD20 wB := by rw [hw]; exact (Ext.refl _).alloc _
                have kb : (World.heap wB)[(World.heap wD20).size]? = some (.cells #[] 38) := by rw [hw]; exact heap_alloc_new _ _
                have own0 := own_eq hw (own_lit (e := 38) (size := 3) #[] 0 rfl hE.size (le_max (by omega)) rfl); (try have neS := fun (k : Nat) (e : Value.ownBlock (.slice (some ⟨(World.heap wD20).size, 0, none⟩) 0 0) = some k) => Nat.ne_of_gt (Nat.lt_of_lt_of_eq (blk_lt sk) (Option.some.inj e))); (try have sk := (xb.block _ (blk_lt sk)).trans sk)
                clear hw
                replace hE := hE.trans xb
                replace hP := hP.then xb
                clear hL
                refine hK.out _ _ ⟨hP, fun e => hE⟩ (fun hL => ?_)
                clear hK K
                refine wpAnyL_ready (rs := [6, 8]) (by kernel_rfl) (by simp) (AllReadyL.cons rfl (fun K hK => ?_) (AllReadyL.cons rfl (fun K hK => ?_) AllReadyL.nil))
                · have tok := True.intro
                  rw [if_pos (by rfl)]
                  refine wp_appB (o := { dst := some 95, op := Op.call { callee := Callee.builtin Builtin.append, args := #[Operand.tmp 90, Operand.tmp 94], argTypes := #[32, 32] }, type := 32, pos := "ref.go:40", after := #[{ on := 1, ground := Ground.data }, { on := 5, ground := Ground.data }], guard := none }) el32 _ _ rfl own0 rfl ((Shows.of_own ow).ext hE) rfl (rps_one _) (le_max (by omega)) (by omega) hE.size ?_; intro v9 wq own1 x9 at9; simp only [List.nil_append, Nat.zero_add] at own1; obtain ⟨A5, c5, rfl⟩ := own_slice own1; try (have sk := (x9.block _ (blk_lt sk) (fun e => neS _ e.symm rfl)).trans sk)
                  simp only [Act.put, List.setIfInBounds_toArray, List.set_cons_zero, List.set_cons_succ]
                  replace hE := Ext.of_grown hE x9 (fun k hk => (own0.lt k hk).1)
                  replace hP := Kept.of_ext (F := (fun b => Tk b ≠ none)) hE
                  clear hL
                  refine hK.out _ _ ⟨hP, fun e => hE⟩ (fun hL => ?_)
                  clear hK K
                  refine wpAnyL_ready (rs := [8]) (by kernel_rfl) (by simp) (AllReadyL.cons rfl (fun K hK => ?_) AllReadyL.nil)
                  rw [if_pos (by rfl)]
                  refine wp_bsR (o := { dst := some 97, op := Op.buildSlice 32 1 #[(0, Operand.tmp 96)], type := 32, pos := "ref.go:40", after := #[{ on := 7, ground := Ground.data }], guard := none }) (r := r7) _ rfl rfl ?_; intro wS hw; have xb : Ext wq wS := (by rw [hw]; exact (Ext.refl _).alloc _); have sk : wS.heap[(World.heap wq).size]? = some (.cells r7.vals.toArray 38 (0, 0)) := (by rw [hw]; exact heap_alloc_new _ _); clear hw; (try have neS := fun (k : Nat) (e : _ = some k) => Nat.ne_of_lt (own0.lt k e).2); (try have own0 := own_ext own0 xb); (try have own1 := own_ext own1 xb)
                  simp only [Act.put, List.setIfInBounds_toArray, List.set_cons_zero, List.set_cons_succ]
                  replace hE := hE.trans xb
                  replace hP := hP.then xb
                  clear hL
                  refine hK.out _ _ ⟨hP, fun e => hE⟩ (fun hL => ?_)
                  clear hK K
                  refine wpAnyL_ready (rs := [9]) (by kernel_rfl) (by simp) (AllReadyL.cons rfl (fun K hK => ?_) AllReadyL.nil)
                  rw [if_pos (by rfl)]
                  refine wp_appB (o := { dst := some 98, op := Op.call { callee := Callee.builtin Builtin.append, args := #[Operand.tmp 95, Operand.tmp 97], argTypes := #[32, 32] }, type := 32, pos := "ref.go:40", after := #[{ on := 6, ground := Ground.data }, { on := 8, ground := Ground.data }, { on := 6, ground := Ground.chain }], guard := none }) el32 _ _ rfl own1 rfl (shows_blk sk) rfl (rps_one _) (le_max (by omega)) (by omega) hE.size ?_; intro v9 w9 ow9 x9 at9; obtain ⟨B9, c9, rfl, _, _⟩ := ow9.form (by omega)
                  simp only [Act.put, List.setIfInBounds_toArray, List.set_cons_zero, List.set_cons_succ]
                  replace hE := Ext.of_grown hE x9 (fun k hk => (own1.lt k hk).1)
                  replace hP := Kept.of_ext (F := (fun b => Tk b ≠ none)) hE
                  obtain ⟨⟨hfz9, u9, hcell9⟩, va9, T9, Q9, k9, b9⟩ := qu_addN H7.out hE HN7.out.ok HF7.out ow9 rfl HN1.out
                  clear hL
                  refine hK.out _ _ ⟨hP, fun e => hE⟩ (fun hL => ?_)
                  clear hK K
                  refine wpAnyL_takeP (i := 10) (oi := { dst := some 99, op := Op.nilCheck (Operand.tmp 89), type := 0, pos := "ref.go:40", after := #[{ on := 0, ground := Ground.data }, { on := 0, ground := Ground.phase }, { on := 1, ground := Ground.phase }, { on := 2, ground := Ground.phase }, { on := 3, ground := Ground.phase }, { on := 4, ground := Ground.phase }, { on := 5, ground := Ground.phase }, { on := 6, ground := Ground.phase }, { on := 7, ground := Ground.phase }, { on := 8, ground := Ground.phase }, { on := 9, ground := Ground.phase }], guard := none }) (v := ?vv27_17_10) rfl (by kernel_rfl) (by kernel_rfl) (by kernel_rfl) (by kernel_rfl) (fun _ _ _ h => h) (Or.inl ⟨by rfl, ?yy27_17_10⟩) hL (fun hL => ?_)
                  case yy27_17_10 => (intro W hx; go_simp; try with_reducible rfl)
                  simp only [Act.put, List.setIfInBounds_toArray, List.set_cons_zero, List.set_cons_succ]
                  refine wpAnyL_takeP (i := 11) (oi := { dst := some 100, op := Op.fieldAddr 45 (Operand.tmp 99) 1, type := 0, pos := "ref.go:40", after := #[{ on := 10, ground := Ground.data }, { on := 0, ground := Ground.phase }, { on := 1, ground := Ground.phase }, { on := 2, ground := Ground.phase }, { on := 3, ground := Ground.phase }, { on := 4, ground := Ground.phase }, { on := 5, ground := Ground.phase }, { on := 6, ground := Ground.phase }, { on := 7, ground := Ground.phase }, { on := 8, ground := Ground.phase }, { on := 9, ground := Ground.phase }], guard := none }) (v := ?vv28_17_11) rfl (by kernel_rfl) (by kernel_rfl) (by kernel_rfl) (by kernel_rfl) (fun _ _ _ h => h) (Or.inl ⟨by rfl, ?yy28_17_11⟩) hL (fun hL => ?_)
                  case yy28_17_11 => (intro W hx; go_simp; try with_reducible rfl)
                  simp only [Act.put, List.setIfInBounds_toArray, List.set_cons_zero, List.set_cons_succ]
                  refine wpAnyL_ready (rs := [12]) (by kernel_rfl) (by simp) (AllReadyL.cons rfl (fun K hK => ?_) AllReadyL.nil)
                  rw [if_pos (by rfl)]
                  refine wp_stset (o := { dst := none, op := Op.store 32 (Operand.tmp 100) (Operand.tmp 98), type := 0, pos := "ref.go:40", after := #[{ on := 11, ground := Ground.data }, { on := 9, ground := Ground.data }, { on := 9, ground := Ground.chain }, { on := 0, ground := Ground.phase }, { on := 1, ground := Ground.phase }, { on := 2, ground := Ground.phase }, { on := 3, ground := Ground.phase }, { on := 4, ground := Ground.phase }, { on := 5, ground := Ground.phase }, { on := 6, ground := Ground.phase }, { on := 7, ground := Ground.phase }, { on := 8, ground := Ground.phase }, { on := 9, ground := Ground.phase }], guard := none }) (v := .slice (some ⟨B9, 0, none⟩) (rk.length + 1) c9) 32 _ _ rfl hcell9 hfz9 rfl rfl size32 rfl (fun c e => by cases e) ?_; obtain ⟨w10, hw10, x10⟩ : ∃ V, V = World.setCell w9 ⟨g, 1, none⟩ (.slice (some ⟨B9, 0, none⟩) (rk.length + 1) c9) ∧ w9.grownBy V (some g) := ⟨_, rfl, set_grown _ _ _ _⟩; rw [← hw10]
                  simp only [Act.put]
                  replace hP := hP.trans' (Kept.of_grown x10 (fun b e => by injection e with e; subst e; exact HTG.out))
                  clear hE
                  clear hL
                  refine hK.out _ _ ⟨hP, fun e => absurd e (by simp)⟩ (fun hL => ?_)
                  clear hK K
                  refine wpAnyL_done (by kernel_rfl) ?_ _
                  rw [← hw10] at Q9 k9
                  rw [HPK.out, part_succ HR.out.2.2.2] at Q9
                  have HQ9 := Lib.hid Q9
                  have HFR9 := Lib.hid (show FromR w rs (rk ++ [r7]) from fun y hy ad e => by
                    rcases List.mem_append.1 hy with hy | hy
                    · exact HFR.out y hy ad e
                    · simp at hy; subst hy; exact .inr (Nat.le_trans HK.out.1.size (HN7.out.far ad e).1))
                  have HKB := Lib.hid (tags_trans HK.out.1 HK.out.2 ((Kept.of_ext X7).trans' k9) (fun b t hb => (b9 b t hb).imp id (fun h => Nat.le_trans X7.size h)))
                  clear Q9 k9 b9 hw10 ow9 at9 hcell9 hfz9
                  go_wp2
                  go_roundw
                  case rel => exact ⟨i + 1, _, _, _, by go_num, by omega, HQ9.out, HKB.out.1, HKB.out.2, HFR9.out⟩
                  case measure => simp [intOf]; omega
                · have tok := True.intro
                  rw [if_pos (by rfl)]
                  refine wp_bsR (o := { dst := some 97, op := Op.buildSlice 32 1 #[(0, Operand.tmp 96)], type := 32, pos := "ref.go:40", after := #[{ on := 7, ground := Ground.data }], guard := none }) (r := r7) _ rfl rfl ?_; intro wS hw; have xb : Ext wB wS := (by rw [hw]; exact (Ext.refl _).alloc _); have sk : wS.heap[(World.heap wB).size]? = some (.cells r7.vals.toArray 38 (0, 0)) := (by rw [hw]; exact heap_alloc_new _ _); clear hw; (try have neS := fun (k : Nat) (e : _ = some k) => Nat.ne_of_lt (own0.lt k e).2); (try have own0 := own_ext own0 xb); (try have own1 := own_ext own1 xb)
                  simp only [Act.put, List.setIfInBounds_toArray, List.set_cons_zero, List.set_cons_succ]
                  replace hE := hE.trans xb
                  replace hP := hP.then xb
                  clear hL
                  refine hK.out _ _ ⟨hP, fun e => hE⟩ (fun hL => ?_)
                  clear hK K
                  refine wpAnyL_ready (rs := [6]) (by kernel_rfl) (by simp) (AllReadyL.cons rfl (fun K hK => ?_) AllReadyL.nil)
                  rw [if_pos (by rfl)]
                  refine wp_appB (o := { dst := some 95, op := Op.call { callee := Callee.builtin Builtin.append, args := #[Operand.tmp 90, Operand.tmp 94], argTypes := #[32, 32] }, type := 32, pos := "ref.go:40", after := #[{ on := 1, ground := Ground.data }, { on := 5, ground := Ground.data }], guard := none }) el32 _ _ rfl own0 rfl ((Shows.of_own ow).ext hE) rfl (rps_one _) (le_max (by omega)) (by omega) hE.size ?_; intro v9 wq own1 x9 at9; simp only [List.nil_append, Nat.zero_add] at own1; obtain ⟨A5, c5, rfl⟩ := own_slice own1; try (have sk := (x9.block _ (blk_lt sk) (fun e => neS _ e.symm rfl)).trans sk)
                  simp only [Act.put, List.setIfInBounds_toArray, List.set_cons_zero, List.set_cons_succ]
                  replace hE := Ext.of_grown hE x9 (fun k hk => (own0.lt k hk).1)
                  replace hP := Kept.of_ext (F := (fun b => Tk b ≠ none)) hE
                  clear hL
                  refine hK.out _ _ ⟨hP, fun e => hE⟩ (fun hL => ?_)
                  clear hK K
                  refine wpAnyL_ready (rs := [9]) (by kernel_rfl) (by simp) (AllReadyL.cons rfl (fun K hK => ?_) AllReadyL.nil)
                  rw [if_pos (by rfl)]
                  refine wp_appB (o := { dst := some 98, op := Op.call { callee := Callee.builtin Builtin.append, args := #[Operand.tmp 95, Operand.tmp 97], argTypes := #[32, 32] }, type := 32, pos := "ref.go:40", after := #[{ on := 6, ground := Ground.data }, { on := 8, ground := Ground.data }, { on := 6, ground := Ground.chain }], guard := none }) el32 _ _ rfl own1 rfl (shows_blk sk) rfl (rps_one _) (le_max (by omega)) (by omega) hE.size ?_; intro v9 w9 ow9 x9 at9; obtain ⟨B9, c9, rfl, _, _⟩ := ow9.form (by omega)
                  simp only [Act.put, List.setIfInBounds_toArray, List.set_cons_zero, List.set_cons_succ]
                  replace hE := Ext.of_grown hE x9 (fun k hk => (own1.lt k hk).1)
                  replace hP := Kept.of_ext (F := (fun b => Tk b ≠ none)) hE
                  obtain ⟨⟨hfz9, u9, hcell9⟩, va9, T9, Q9, k9, b9⟩ := qu_addN H7.out hE HN7.out.ok HF7.out ow9 rfl HN1.out
                  clear hL
                  refine hK.out _ _ ⟨hP, fun e => hE⟩ (fun hL => ?_)
                  clear hK K
                  refine wpAnyL_takeP (i := 10) (oi := { dst := some 99, op := Op.nilCheck (Operand.tmp 89), type := 0, pos := "ref.go:40", after := #[{ on := 0, ground := Ground.data }, { on := 0, ground := Ground.phase }, { on := 1, ground := Ground.phase }, { on := 2, ground := Ground.phase }, { on := 3, ground := Ground.phase }, { on := 4, ground := Ground.phase }, { on := 5, ground := Ground.phase }, { on := 6, ground := Ground.phase }, { on := 7, ground := Ground.phase }, { on := 8, ground := Ground.phase }, { on := 9, ground := Ground.phase }], guard := none }) (v := ?vv29_17_10) rfl (by kernel_rfl) (by kernel_rfl) (by kernel_rfl) (by kernel_rfl) (fun _ _ _ h => h) (Or.inl ⟨by rfl, ?yy29_17_10⟩) hL (fun hL => ?_)
                  case yy29_17_10 => (intro W hx; go_simp; try with_reducible rfl)
                  simp only [Act.put, List.setIfInBounds_toArray, List.set_cons_zero, List.set_cons_succ]
                  refine wpAnyL_takeP (i := 11) (oi := { dst := some 100, op := Op.fieldAddr 45 (Operand.tmp 99) 1, type := 0, pos := "ref.go:40", after := #[{ on := 10, ground := Ground.data }, { on := 0, ground := Ground.phase }, { on := 1, ground := Ground.phase }, { on := 2, ground := Ground.phase }, { on := 3, ground := Ground.phase }, { on := 4, ground := Ground.phase }, { on := 5, ground := Ground.phase }, { on := 6, ground := Ground.phase }, { on := 7, ground := Ground.phase }, { on := 8, ground := Ground.phase }, { on := 9, ground := Ground.phase }], guard := none }) (v := ?vv30_17_11) rfl (by kernel_rfl) (by kernel_rfl) (by kernel_rfl) (by kernel_rfl) (fun _ _ _ h => h) (Or.inl ⟨by rfl, ?yy30_17_11⟩) hL (fun hL => ?_)
                  case yy30_17_11 => (intro W hx; go_simp; try with_reducible rfl)
                  simp only [Act.put, List.setIfInBounds_toArray, List.set_cons_zero, List.set_cons_succ]
                  refine wpAnyL_ready (rs := [12]) (by kernel_rfl) (by simp) (AllReadyL.cons rfl (fun K hK => ?_) AllReadyL.nil)
                  rw [if_pos (by rfl)]
                  refine wp_stset (o := { dst := none, op := Op.store 32 (Operand.tmp 100) (Operand.tmp 98), type := 0, pos := "ref.go:40", after := #[{ on := 11, ground := Ground.data }, { on := 9, ground := Ground.data }, { on := 9, ground := Ground.chain }, { on := 0, ground := Ground.phase }, { on := 1, ground := Ground.phase }, { on := 2, ground := Ground.phase }, { on := 3, ground := Ground.phase }, { on := 4, ground := Ground.phase }, { on := 5, ground := Ground.phase }, { on := 6, ground := Ground.phase }, { on := 7, ground := Ground.phase }, { on := 8, ground := Ground.phase }, { on := 9, ground := Ground.phase }], guard := none }) (v := .slice (some ⟨B9, 0, none⟩) (rk.length + 1) c9) 32 _ _ rfl hcell9 hfz9 rfl rfl size32 rfl (fun c e => by cases e) ?_; obtain ⟨w10, hw10, x10⟩ : ∃ V, V = World.setCell w9 ⟨g, 1, none⟩ (.slice (some ⟨B9, 0, none⟩) (rk.length + 1) c9) ∧ w9.grownBy V (some g) := ⟨_, rfl, set_grown _ _ _ _⟩; rw [← hw10]
                  simp only [Act.put]
                  replace hP := hP.trans' (Kept.of_grown x10 (fun b e => by injection e with e; subst e; exact HTG.out))
                  clear hE
                  clear hL
                  refine hK.out _ _ ⟨hP, fun e => absurd e (by simp)⟩ (fun hL => ?_)
                  clear hK K
                  refine wpAnyL_done (by kernel_rfl) ?_ _
                  rw [← hw10] at Q9 k9
                  rw [HPK.out, part_succ HR.out.2.2.2] at Q9
                  have HQ9 := Lib.hid Q9
                  have HFR9 := Lib.hid (show FromR w rs (rk ++ [r7]) from fun y hy ad e => by
                    rcases List.mem_append.1 hy with hy | hy
                    · exact HFR.out y hy ad e
                    · simp at hy; subst hy; exact .inr (Nat.le_trans HK.out.1.size (HN7.out.far ad e).1))
                  have HKB := Lib.hid (tags_trans HK.out.1 HK.out.2 ((Kept.of_ext X7).trans' k9) (fun b t hb => (b9 b t hb).imp id (fun h => Nat.le_trans X7.size h)))
                  clear Q9 k9 b9 hw10 ow9 at9 hcell9 hfz9
                  go_wp2
                  go_roundw
                  case rel => exact ⟨i + 1, _, _, _, by go_num, by omega, HQ9.out, HKB.out.1, HKB.out.2, HFR9.out⟩
                  case measure => simp [intOf]; omega
              · have tok := True.intro
                rw [if_pos (by rfl)]
                refine wp_bsR (o := { dst := some 97, op := Op.buildSlice 32 1 #[(0, Operand.tmp 96)], type := 32, pos := "ref.go:40", after := #[{ on := 7, ground := Ground.data }], guard := none }) (r := r7) _ rfl rfl ?_; intro wS hw; have xb : Ext wD20 wS := (by rw [hw]; exact (Ext.refl _).alloc _); have sk : wS.heap[(World.heap wD20).size]? = some (.cells r7.vals.toArray 38 (0, 0)) := (by rw [hw]; exact heap_alloc_new _ _); clear hw; (try have neS := fun (k : Nat) (e : _ = some k) => Nat.ne_of_lt (own0.lt k e).2); (try have own0 := own_ext own0 xb); (try have own1 := own_ext own1 xb)
                simp only [Act.put, List.setIfInBounds_toArray, List.set_cons_zero, List.set_cons_succ]
                replace hE := hE.trans xb
                replace hP := hP.then xb
                clear hL
                refine hK.out _ _ ⟨hP, fun e => hE⟩ (fun hL => ?_)
                clear hK K
                refine wpAnyL_ready (rs := [1]) (by kernel_rfl) (by simp) (AllReadyL.cons rfl (fun K hK => ?_) AllReadyL.nil)
                go_simp
                obtain ⟨wB, hw⟩ : ∃ V, V = World.alloc wS (.cells #[] 38) := ⟨_, rfl⟩
                rw [← hw]
                have xb : Ext wS wB := by rw [hw]; exact (Ext.refl _).alloc _
                have kb : (World.heap wB)[(World.heap wS).size]? = some (.cells #[] 38) := by rw [hw]; exact heap_alloc_new _ _
                have own0 := own_eq hw (own_lit (e := 38) (size := 3) #[] 0 rfl hE.size (le_max (by omega)) rfl); (try have neS := fun (k : Nat) (e : Value.ownBlock (.slice (some ⟨(World.heap wS).size, 0, none⟩) 0 0) = some k) => Nat.ne_of_gt (Nat.lt_of_lt_of_eq (blk_lt sk) (Option.some.inj e))); (try have sk := (xb.block _ (blk_lt sk)).trans sk)
                clear hw
                replace hE := hE.trans xb
                replace hP := hP.then xb
                clear hL
                refine hK.out _ _ ⟨hP, fun e => hE⟩ (fun hL => ?_)
                clear hK K
                refine wpAnyL_ready (rs := [6]) (by kernel_rfl) (by simp) (AllReadyL.cons rfl (fun K hK => ?_) AllReadyL.nil)
                rw [if_pos (by rfl)]
                refine wp_appB (o := { dst := some 95, op := Op.call { callee := Callee.builtin Builtin.append, args := #[Operand.tmp 90, Operand.tmp 94], argTypes := #[32, 32] }, type := 32, pos := "ref.go:40", after := #[{ on := 1, ground := Ground.data }, { on := 5, ground := Ground.data }], guard := none }) el32 _ _ rfl own0 rfl ((Shows.of_own ow).ext hE) rfl (rps_one _) (le_max (by omega)) (by omega) hE.size ?_; intro v9 wq own1 x9 at9; simp only [List.nil_append, Nat.zero_add] at own1; obtain ⟨A5, c5, rfl⟩ := own_slice own1; try (have sk := (x9.block _ (blk_lt sk) (fun e => neS _ e.symm rfl)).trans sk)
                simp only [Act.put, List.setIfInBounds_toArray, List.set_cons_zero, List.set_cons_succ]
                replace hE := Ext.of_grown hE x9 (fun k hk => (own0.lt k hk).1)
                replace hP := Kept.of_ext (F := (fun b => Tk b ≠ none)) hE
                clear hL
                refine hK.out _ _ ⟨hP, fun e => hE⟩ (fun hL => ?_)
                clear hK K
                refine wpAnyL_ready (rs := [9]) (by kernel_rfl) (by simp) (AllReadyL.cons rfl (fun K hK => ?_) AllReadyL.nil)
                rw [if_pos (by rfl)]
                refine wp_appB (o := { dst := some 98, op := Op.call { callee := Callee.builtin Builtin.append, args := #[Operand.tmp 95, Operand.tmp 97], argTypes := #[32, 32] }, type := 32, pos := "ref.go:40", after := #[{ on := 6, ground := Ground.data }, { on := 8, ground := Ground.data }, { on := 6, ground := Ground.chain }], guard := none }) el32 _ _ rfl own1 rfl (shows_blk sk) rfl (rps_one _) (le_max (by omega)) (by omega) hE.size ?_; intro v9 w9 ow9 x9 at9; obtain ⟨B9, c9, rfl, _, _⟩ := ow9.form (by omega)
                simp only [Act.put, List.setIfInBounds_toArray, List.set_cons_zero, List.set_cons_succ]
                replace hE := Ext.of_grown hE x9 (fun k hk => (own1.lt k hk).1)
                replace hP := Kept.of_ext (F := (fun b => Tk b ≠ none)) hE
                obtain ⟨⟨hfz9, u9, hcell9⟩, va9, T9, Q9, k9, b9⟩ := qu_addN H7.out hE HN7.out.ok HF7.out ow9 rfl HN1.out
                clear hL
                refine hK.out _ _ ⟨hP, fun e => hE⟩ (fun hL => ?_)
                clear hK K
                refine wpAnyL_takeP (i := 10) (oi := { dst := some 99, op := Op.nilCheck (Operand.tmp 89), type := 0, pos := "ref.go:40", after := #[{ on := 0, ground := Ground.data }, { on := 0, ground := Ground.phase }, { on := 1, ground := Ground.phase }, { on := 2, ground := Ground.phase }, { on := 3, ground := Ground.phase }, { on := 4, ground := Ground.phase }, { on := 5, ground := Ground.phase }, { on := 6, ground := Ground.phase }, { on := 7, ground := Ground.phase }, { on := 8, ground := Ground.phase }, { on := 9, ground := Ground.phase }], guard := none }) (v := ?vv31_17_10) rfl (by kernel_rfl) (by kernel_rfl) (by kernel_rfl) (by kernel_rfl) (fun _ _ _ h => h) (Or.inl ⟨by rfl, ?yy31_17_10⟩) hL (fun hL => ?_)
                case yy31_17_10 => (intro W hx; go_simp; try with_reducible rfl)
                simp only [Act.put, List.setIfInBounds_toArray, List.set_cons_zero, List.set_cons_succ]
                refine wpAnyL_takeP (i := 11) (oi := { dst := some 100, op := Op.fieldAddr 45 (Operand.tmp 99) 1, type := 0, pos := "ref.go:40", after := #[{ on := 10, ground := Ground.data }, { on := 0, ground := Ground.phase }, { on := 1, ground := Ground.phase }, { on := 2, ground := Ground.phase }, { on := 3, ground := Ground.phase }, { on := 4, ground := Ground.phase }, { on := 5, ground := Ground.phase }, { on := 6, ground := Ground.phase }, { on := 7, ground := Ground.phase }, { on := 8, ground := Ground.phase }, { on := 9, ground := Ground.phase }], guard := none }) (v := ?vv32_17_11) rfl (by kernel_rfl) (by kernel_rfl) (by kernel_rfl) (by kernel_rfl) (fun _ _ _ h => h) (Or.inl ⟨by rfl, ?yy32_17_11⟩) hL (fun hL => ?_)
                case yy32_17_11 => (intro W hx; go_simp; try with_reducible rfl)
                simp only [Act.put, List.setIfInBounds_toArray, List.set_cons_zero, List.set_cons_succ]
                refine wpAnyL_ready (rs := [12]) (by kernel_rfl) (by simp) (AllReadyL.cons rfl (fun K hK => ?_) AllReadyL.nil)
                rw [if_pos (by rfl)]
                refine wp_stset (o := { dst := none, op := Op.store 32 (Operand.tmp 100) (Operand.tmp 98), type := 0, pos := "ref.go:40", after := #[{ on := 11, ground := Ground.data }, { on := 9, ground := Ground.data }, { on := 9, ground := Ground.chain }, { on := 0, ground := Ground.phase }, { on := 1, ground := Ground.phase }, { on := 2, ground := Ground.phase }, { on := 3, ground := Ground.phase }, { on := 4, ground := Ground.phase }, { on := 5, ground := Ground.phase }, { on := 6, ground := Ground.phase }, { on := 7, ground := Ground.phase }, { on := 8, ground := Ground.phase }, { on := 9, ground := Ground.phase }], guard := none }) (v := .slice (some ⟨B9, 0, none⟩) (rk.length + 1) c9) 32 _ _ rfl hcell9 hfz9 rfl rfl size32 rfl (fun c e => by cases e) ?_; obtain ⟨w10, hw10, x10⟩ : ∃ V, V = World.setCell w9 ⟨g, 1, none⟩ (.slice (some ⟨B9, 0, none⟩) (rk.length + 1) c9) ∧ w9.grownBy V (some g) := ⟨_, rfl, set_grown _ _ _ _⟩; rw [← hw10]
                simp only [Act.put]
                replace hP := hP.trans' (Kept.of_grown x10 (fun b e => by injection e with e; subst e; exact HTG.out))
                clear hE
                clear hL
                refine hK.out _ _ ⟨hP, fun e => absurd e (by simp)⟩ (fun hL => ?_)
                clear hK K
                refine wpAnyL_done (by kernel_rfl) ?_ _
                rw [← hw10] at Q9 k9
                rw [HPK.out, part_succ HR.out.2.2.2] at Q9
                have HQ9 := Lib.hid Q9
                have HFR9 := Lib.hid (show FromR w rs (rk ++ [r7]) from fun y hy ad e => by
                  rcases List.mem_append.1 hy with hy | hy
                  · exact HFR.out y hy ad e
                  · simp at hy; subst hy; exact .inr (Nat.le_trans HK.out.1.size (HN7.out.far ad e).1))
                have HKB := Lib.hid (tags_trans HK.out.1 HK.out.2 ((Kept.of_ext X7).trans' k9) (fun b t hb => (b9 b t hb).imp id (fun h => Nat.le_trans X7.size h)))
                clear Q9 k9 b9 hw10 ow9 at9 hcell9 hfz9
                go_wp2
                go_roundw
                case rel => exact ⟨i + 1, _, _, _, by go_num, by omega, HQ9.out, HKB.out.1, HKB.out.2, HFR9.out⟩
                case measure => simp [intOf]; omega
        · obtain rfl : i = k := by omega
          have hall : s.part (s.lost.getD j false) (xs.map Rp.pk) i = { s with l := s.l ++ mark (s.lost.getD j false) (xs.map Rp.pk) } := by
            unfold QS.part
            rw [List.take_of_length_le (by rw [mark_len, List.length_map, HP.out.2.1]; exact Nat.le_refl _)]
          rw [hall] at Q
          have HQ := Lib.hid Q
          have HK := Lib.hid (And.intro kp hTk)
          obtain ⟨A9, c9, e9, _, _, _, _, kl, kf⟩ := Q.cells
          have kj := kl j hj
          have fj := kf (2 + j) (by omega)
          have HRS := Lib.hid (qu_lost Q hj false)
          clear Q kp hTk hall e9 kl kf
          go_wp2
          go_ret
          have hres := tags_trans (T2 := Tk) HK.out.1 HK.out.2 HRS.out.2 (fun b t (hb : Tk b = some t) => .inl (by rw [hb]; simp))
          exact ⟨rfl, _, _, _, HRS.out.1, hres.1, hres.2, HFR.out⟩
theorem rput_any (h : QuC w 45 g s rs va T) (list : Int) {A : Option Addr} {n : Nat} (c : Nat) {xs : List Rp} (hs : Shows w 3 A n (rps xs)) (hn : n = xs.length) (hm : n ≤ 100000) (hx : ∀ x ∈ xs, x.ok w ∧ x.n ≤ 100000) (hA : ∀ ad, A = some ad → T ad.block = none) (hxA : ∀ x ∈ xs, ∀ ad, x.A = some ad → 0 < x.n → T ad.block = none) :
    Calls Try.prog 13 #[.pointer (some ⟨g, 0, none⟩), .int .i64 list, .slice A n c] w fun e w' => e = .returned (.bool (s.put list (xs.map Rp.pk)).1) ∧ QPost w w' 45 g (s.put list (xs.map Rp.pk)).2 rs T := by
  unfold QS.put
  by_cases h1 : 0 ≤ list ∧ list < 4
  · by_cases h2 : samp (xs.map Rp.pk) = false
    · rw [if_pos (.inr h2)]
      exact (rput_no2 list c hs hn hm h1 h2).mono fun e w' ⟨h3, h4⟩ => ⟨h3, QPost.same h h4⟩
    · rw [if_neg (fun h => h.elim (fun h => h h1) h2)]
      obtain ⟨j, rfl⟩ : ∃ j : Nat, list = j := ⟨list.toNat, by omega⟩
      rw [List.length_map, Int.toNat_natCast, ← hn]
      by_cases h3 : s.most < s.l.length + n
      · rw [if_pos h3]
        exact rput_full h (by omega) c hs hn hm hx hA hxA (by simpa using h2) h3
      · rw [if_neg h3]
        exact rput_ok h (by omega) c hs hn hm hx hA hxA (by simpa using h2) h3
  · rw [if_pos (.inl h1)]
    exact (rput_no1 (w := w) list A n c h1).mono fun e w' ⟨h3, h4⟩ => ⟨h3, by subst h4; exact QPost.same h (Ext.refl _)⟩
end
end Go.Proofs.Ytdhdkjiphapliaa
