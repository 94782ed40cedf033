import Derived.Test.YtnjiajogbadadaaP
set_option linter.unusedVariables false
namespace Go.Proofs.Ytnjiajogbadadaa
open Go.RowKit
set_option maxRecDepth 100000 in
set_option maxHeartbeats 40000000 in
theorem LockParts_law (w : World) (wh : Int) (A : Option Addr) (n c : Nat) (bs : List Int) (stop : Int) (rd : Rd w A n bs) (le : n ≤ c) (cm : c ≤ maxLen) (r0 : 0 ≤ wh) (r1 : wh < 256) (s0 : 0 ≤ stop) (s1 : stop < 256) :
    Calls Try.prog 5 #[.int .u8 wh, .slice A n c, .int .u8 stop] w fun e w' => e = .returned (.bool true) ∧ Ext w w' := by
  obtain ⟨m, hm0⟩ : ∃ m, m = min n 20 := ⟨_, rfl⟩
  have rdm := rd.take (k := m) (by omega)
  have hmc : m ≤ c := by omega
  have hm20 : m ≤ 20 := by omega
  have hmin : (if (20 : Int) < n then (20 : Int) else n) = m := by rw [hm0]; split <;> omega
  clear hm0 rd
  generalize bs.take m = ys at rdm
  have hlen := Lib.hid rdm.len
  go_enter Try.func5, Try.ntmps5
  go_upto_region 2 with (go_at_call 8; (refine (shown_any _).mono ?_); rintro e w1 ⟨rfl, x1⟩)
  go_cut [8] (fun v8 wr => ∃ r : Int, v8 = .int .u8 r ∧ (r = 1 ∨ r = 4 ∨ r = 8) ∧ Ext w1 wr)
  case first =>
    have K := blk_of (Ext.refl (w1.alloc (.cells #[.int .u8 1, .int .u8 4, .int .u8 8] 5)))
    have f0 := blk_cell (i := 0) K rfl
    have f1 := blk_cell (i := 1) K rfl
    have f2 := blk_cell (i := 2) K rfl
    have ht : wh.tmod 3 = wh % 3 := Int.tmod_eq_emod_of_nonneg r0
    have hc : wh % 3 = 0 ∨ wh % 3 = 1 ∨ wh % 3 = 2 := by omega
    rcases hc with hc | hc | hc
    all_goals
      rw [hc] at ht
      go_wp2
      go_meet
      case rel => exact ⟨_, rfl, by simp, (Ext.refl _).alloc _⟩
  case rest =>
    obtain ⟨r, rfl, hr, xc⟩ := hcut
    have hr0 : 0 ≤ r ∧ r < 256 := by omega
    obtain ⟨q1, q2, q3⟩ := one_facts hr
    have HN := Lib.hid q2
    have xw := x1.trans xc
    clear q1 q2 q3 x1 xc
    go_upto_region 5 with (go_at_call 9; (refine (new_cn r _ hr0).mono ?_); rintro e w2 ⟨g, F, rfl, L2, x2, f2⟩)
    by_cases hm1 : m = 0
    · subst hm1
      go_wp2
      go_ret
      exact ⟨by simp, xw.trans x2⟩
    · have hmn : ((m : Int) == 0) = false := by simp; omega
      have hm1' : 1 ≤ m := by omega
      clear hm1
      have hF : 0 < m → ∀ ad, A = some ad → ¬ F ad.block := fun h0 ad e hf => by
        obtain ⟨ad', e', hb, _⟩ := (rdm.ext xw).shows.2 h0
        rw [e] at e'; injection e' with e'; subst e'
        have := f2 _ hf
        omega
      have hf0 : ∀ i, F i → w.heap.size ≤ i := fun i hi => by have := f2 i hi; have := xw.size; omega
      have hq := p_first hr hlen.out hm1' hm20
      have HQ := Lib.hid hq
      clear hq
      obtain ⟨d, hd⟩ : ∃ d, d = min m 6 := ⟨_, rfl⟩
      have hpl : Hid ((ys.take (min m 6)).length = d) := by show _ = _; rw [List.length_take, hlen.out]; omega
      have hdm : d ≤ m := by omega
      have hdp : 0 < d := by omega
      have HD := Lib.hid hd
      clear hd
      go_upto_region 9 with (go_at_call 12; (refine (seed_any _ _ _ _ _ _ _ _ ys _ (rdm.ext (xw.trans x2)) hF (le_max (by omega)) hr0 L2).mono ?_); rw [HQ.out]; rintro e w4 ⟨A4, c4, F4, rfl, L4, k4, r4, l4, m4, f4, q4⟩; rw [hpl.out] at r4 l4 ⊢)
      obtain ⟨xw4, hf4⟩ := live_step (xw.trans x2) hf0 k4 f4
      replace q4 := fun ad e => (q4 ad e).2
      clear f4 k4 hF f2 L2 hf0
      go_wp2
      go_loopw [11, 12, 13, 14, 15] (fun v11 v12 v13 v14 v15 wr => ∃ (k q dd nb : Nat) (F' : Nat → Prop) (bA : Option Addr) (bc : Nat), Hid (q = 6 * k) ∧ Hid (dd = m - q) ∧ Hid (nb = min dd 6) ∧ Hid (q < m) ∧ v12 = .int .i64 dd ∧ v13 = .slice bA nb bc ∧ v14 = .int .i64 0 ∧ v15 = .int .i64 k ∧ Ext w wr ∧ LkC wr g (LSt.at r ys (q + nb)) F' ∧ (∀ i, F' i → w.heap.size ≤ i) ∧
        wr.ownsRow w.heap.size 5 1 v11 q (u8s (ys.take q)) ∧ (∀ b, v11.ownBlock = some b → ¬ F' b) ∧ Rd wr bA nb ((ys.drop q).take nb)) (fun _ _ _ _ i _ => 9 - (intOf i).toNat)
      case atStart => exact ⟨0, 0, m, d, F4, A4, c4, rfl, rfl, HD.out, hm1', rfl, rfl, rfl, rfl, xw4, by rw [Nat.zero_add]; have := HD.out; rw [← this] at L4; exact L4, hf4, by simpa [u8s] using ⟨rfl, .inl ⟨rfl, rfl⟩⟩, (fun b e => nomatch e), by have := HD.out; rw [← this] at r4; simpa using r4⟩
      case round =>
        obtain ⟨k, q, dd, nb, F', bA, bc, hq, hdd, hnb, hqm, rfl, rfl, rfl, rfl, xg, LG, hfg, ho, hof, rb⟩ := hrel
        have hq1 := hq.out
        have hdd1 := hdd.out
        have hnb1 := hnb.out
        have hqm1 := hqm.out
        have hk9 : (k : Int) < 9 := by omega
        have hsub : (m : Int) - q = dd := by omega
        have hmin2 : (if (6 : Int) < dd then (6 : Int) else dd) = nb := by rw [hnb1]; split <;> omega
        have hnb6 : nb ≤ 6 := by omega
        have hqn : q + nb ≤ m := by omega
        clear hq1 hdd1 hnb1 hqm1
        obtain ⟨A11, c11, rfl, l11, m11, r11⟩ := own_rd ho (fun b hb => rdm.byts b (List.mem_of_mem_take hb))
        have hT := Lib.hid (show ys.take (q + nb) = ys.take q ++ (ys.drop q).take nb from take_add')
        have hby := Lib.hid (show Byts (ys.take (q + nb)) from fun b hb => rdm.byts b (List.mem_of_mem_take hb))
        by_cases hlast : q + nb = m
        · have hmm : ((q : Int) + nb == m) = true := by simp; omega
          have hmmN : (((q + nb : Nat) : Int) == m) = true := by simp; omega
          go_upto_region 22 with (at_builtin; refine wpList_appB el29 rfl _ _ rfl ho rfl rb.shows rfl (u8s_one _) (le_max (by omega)) (by omega) xg.size ?_; intro v4 w4 own4 hg4 hat4; rw [← u8s_append, ← hT.out] at own4; obtain ⟨A12, c12, rfl, l12, m12, r12⟩ := own_rd own4 hby.out)
          have kap : Kept (fun i => Value.ownBlock (.slice A11 q c11) = some i) wr w4 := .of_grown hg4 (fun b e => e)
          have LG4 := LG.kept kap (fun i hi e => hof i e hi)
          have xw4' : Ext w w4 := Ext.of_grown xg hg4 (fun b e => (ho.lt b e).1)
          have hof4 : ∀ ad, A12 = some ad → ¬ F' ad.block := fun ad e h => by
            subst e
            rcases hat4 with e4 | e4
            · exact hof _ e4.symm h
            · have := LG.lt _ h; simp [Value.ownBlock] at e4; omega
          rw [hlast] at LG4 r12
          have hz := List.take_of_length_le (l := ys) (i := m) (by rw [hlen.out]; exact Nat.le_refl _)
          rw [hz] at r12
          clear hz hT hby own4 ho rb r11 LG hg4 hat4 hof
          have HE := Lib.hid (p_end (r := r) hlen.out r)
          have HU2 := fun b => Lib.hid (p_unl2 (r := r) hlen.out b)
          have hd2 := HD.out
          have hmin3 : (if (6 : Int) < m then (6 : Int) else m) = d := by rw [hd2]; split <;> omega
          clear hd2
          go_upto_region 23 with (go_at_call 12; (refine (seed_any _ _ _ _ _ _ _ _ [] _ Rd.nil (fun h => absurd h (by omega)) (by simp) hr0 LG4).mono ?_); rw [HE.out]; rintro e w5 ⟨A5, c5, F5, rfl, L5, k5, _, _, _, f5, _⟩)
          obtain ⟨xw5, hf5⟩ := live_step xw4' hfg k5 f5
          have r12' := r12.kept k5 hof4
          have hn5 : ∀ ad, A12 = some ad → ¬ F5 ad.block := fun ad e h => (f5 _ h).elim (hof4 ad e) (fun h => by
            obtain ⟨ad', e', hb, _⟩ := r12.shows.2 (by omega)
            rw [e] at e'; injection e' with e'; subst e'; omega)
          go_upto_region 24 with (go_at_call 20; (refine (key_any _ _ _ _ _ _ (rdm.ext xw5) (by omega) hr0.1 hr0.2).mono ?_); rintro e w6 ⟨A6, rfl, x6, r6, q6⟩)
          have L6 := L5.ext x6
          have r6d := r6.take (k := d) (by omega)
          have hdl : (d : Int) ≤ m := by omega
          go_upto_region 25 with (go_at_call 14; (refine (unlock_any _ _ _ _ _ _ _ _ _ L6 r6d).mono ?_); rw [(HU2 _).out]; rintro e w7 ⟨rfl, F7, L7, k7, f7⟩)
          obtain ⟨xw7, hf7⟩ := live_step (xw5.trans x6) hf5 k7 f7
          have r6e := r6d.kept k7 (fun ad e h => by have := q6 ad e; have := L5.lt _ h; omega)
          have r12e := (r12'.ext x6).kept k7 hn5
          have hn7 : ∀ ad, A12 = some ad → ¬ F7 ad.block := fun ad e h => (f7 _ h).elim (hn5 ad e) (fun h => by
            obtain ⟨ad', e', hb, _⟩ := r12'.shows.2 (by omega)
            rw [e] at e'; injection e' with e'; subst e'; have := x6.size; omega)
          go_upto_region 26 with (go_at_call 14; (refine (unlock_any _ _ _ _ _ _ _ _ _ L7 r6e).mono ?_); rw [p_unl3]; rintro e w8 ⟨rfl, F8, L8, k8, f8⟩)
          obtain ⟨xw8, hf8⟩ := live_step xw7 hf7 k8 f8
          have r12f := r12e.kept k8 hn7
          have s1 := str (c := c12) r12f
          have s2 := str (c := c) (rdm.ext xw8)
          go_wp2_with (go_at_call 19; (refine (show Calls Try.prog 19 #[.pointer (some ⟨g, 0, none⟩)] w8 fun e w' => e = .returned (.int .u8 r) ∧ w8 = w' from locked_cn _ _ _ _ L8).mono ?_); rintro e w9 ⟨rfl, rfl⟩)
          go_ret
          exact ⟨by simp, xw8⟩
        · have hmm : ((q : Int) + nb == m) = false := by simp; omega
          have hmmN : (((q + nb : Nat) : Int) == m) = false := by simp; omega
          have hlt : q + nb < m := by omega
          have htm : stop.tmod 5 = stop % 5 := Int.tmod_eq_emod_of_nonneg s0
          have HU1 := fun x b => Lib.hid (p_unl1 (r := r) (ys := ys) (t := q + nb) x b (by rw [hlen.out]; exact hlt))
          have hd2 := HD.out
          have hmin3 : (if (6 : Int) < m then (6 : Int) else m) = d := by rw [hd2]; split <;> omega
          clear hd2
          by_cases hs : stop % 5 = k
          · have hsb : (stop % 5 == (k : Int)) = true := by simpa using hs
            go_upto_region 17 with (at_builtin; refine wpList_appB el29 rfl _ _ rfl ho rfl rb.shows rfl (u8s_one _) (le_max (by omega)) (by omega) xg.size ?_; intro v4 w4 own4 hg4 hat4; rw [← u8s_append, ← hT.out] at own4; obtain ⟨A12, c12, rfl, l12, m12, r12⟩ := own_rd own4 hby.out)
            have kap : Kept (fun i => Value.ownBlock (.slice A11 q c11) = some i) wr w4 := .of_grown hg4 (fun b e => e)
            have LG4 := LG.kept kap (fun i hi e => hof i e hi)
            have xw4' : Ext w w4 := Ext.of_grown xg hg4 (fun b e => (ho.lt b e).1)
            have hof4 : ∀ ad, A12 = some ad → ¬ F' ad.block := fun ad e h => by
              subst e
              rcases hat4 with e4 | e4
              · exact hof _ e4.symm h
              · have := LG.lt _ h; simp [Value.ownBlock] at e4; omega
            clear hT hby own4 rb r11 LG hat4 hof
            go_upto_region 18 with (go_at_call 20; (refine (key_any _ _ _ _ _ _ (rdm.ext xw4') (by omega) hr0.1 hr0.2).mono ?_); rintro e w6 ⟨A6, rfl, x6, r6, q6⟩)
            have L6 := LG4.ext x6
            have r6d := r6.take (k := d) (by omega)
            have hdl : (d : Int) ≤ m := by omega
            have hu := unlock_any g _ F' m A6 d m _ w6 L6 r6d
            rw [(HU1 _ _).out] at hu
            have HUU := Lib.hid hu
            clear hu
            clear hsub hmin2 hmm hmmN hsb htm
            go_upto_region 19 with (go_at_call 14; (refine (HUU.out).mono ?_); rintro e w7 ⟨rfl, F7, L7, k7, f7⟩)
            obtain ⟨xw7, hf7⟩ := live_step (xw4'.trans x6) hfg k7 f7
            go_upto_region 20 with (go_at_call 12; (refine (seed_any _ _ _ _ _ _ _ _ [] _ Rd.nil (fun h => absurd h (by omega)) (by simp) hr0 L7).mono ?_); rw [p_clear]; rintro e w8 ⟨A8, c8, F8, rfl, L8, k8, _, _, _, f8, _⟩)
            obtain ⟨xw8, hf8⟩ := live_step xw7 hf7 k8 f8
            go_wp2_with (go_at_call 19; (refine (show Calls Try.prog 19 #[.pointer (some ⟨g, 0, none⟩)] w8 fun e w' => e = .returned (.int .u8 r) ∧ w8 = w' from locked_cn _ _ _ _ L8).mono ?_); rintro e w9 ⟨rfl, rfl⟩)
            go_ret
            exact ⟨by simp, xw8⟩
          · have hsb : (stop % 5 == (k : Int)) = false := by simpa using hs
            have HX := Lib.hid (p_next (r := r) hlen.out hlt r)
            obtain ⟨nb2, hnb2⟩ : ∃ z, z = min (m - (q + nb)) 6 := ⟨_, rfl⟩
            have hpl2 : Hid (((ys.drop (q + nb)).take (min (m - (q + nb)) 6)).length = nb2) := by show _ = _; rw [List.length_take, List.length_drop, hlen.out]; omega
            have HN2 := Lib.hid hnb2
            clear hnb2
            go_upto_region 21 with (at_builtin; refine wpList_appB el29 rfl _ _ rfl ho rfl rb.shows rfl (u8s_one _) (le_max (by omega)) (by omega) xg.size ?_; intro v4 w4 own4 hg4 hat4; rw [← u8s_append, ← hT.out] at own4; obtain ⟨A12, c12, rfl, l12, m12, r12⟩ := own_rd own4 hby.out)
            have kap : Kept (fun i => Value.ownBlock (.slice A11 q c11) = some i) wr w4 := .of_grown hg4 (fun b e => e)
            have LG4 := LG.kept kap (fun i hi e => hof i e hi)
            have xw4' : Ext w w4 := Ext.of_grown xg hg4 (fun b e => (ho.lt b e).1)
            have hof4 : ∀ ad, A12 = some ad → ¬ F' ad.block := fun ad e h => by
              subst e
              rcases hat4 with e4 | e4
              · exact hof _ e4.symm h
              · have := LG.lt _ h; simp [Value.ownBlock] at e4; omega
            go_wp2_with (go_at_call 12; (refine (seed_any _ _ _ _ _ _ _ _ [] _ Rd.nil (fun h => absurd h (by omega)) (by simp) hr0 LG4).mono ?_); rw [HX.out]; rintro e w5 ⟨A5, c5, F5, rfl, L5, k5, r5, l5, m5, f5, q5⟩; rw [hpl2.out] at r5 l5 ⊢)
            go_roundw
            case rel =>
              have h1 := hq.out
              have h2 := hdd.out
              have h3 := hnb.out
              have h4 := HN2.out
              obtain ⟨xw5, hf5⟩ := live_step xw4' hfg k5 f5
              exact ⟨k + 1, q + nb, m - (q + nb), nb2, F5, A5, c5, by show _ = _; omega, rfl, h4, hlt, rfl, rfl, rfl, by go_num, xw5, by rw [h4]; exact L5, hf5, own_keptF own4 k5 (fun b e => by simp only [Value.ownBlock] at e; rcases A12 with _ | ad <;> simp at e; subst e; exact hof4 _ rfl), (fun b e h => (f5 _ h).elim (fun h => by simp only [Value.ownBlock] at e; rcases A12 with _ | ad <;> simp at e; subst e; exact hof4 _ rfl h) (fun h => by have := own_lt own4 e; omega)), by rw [h4]; rw [h4] at r5; exact r5⟩
            case measure => simp [intOf]; omega
end Go.Proofs.Ytnjiajogbadadaa
