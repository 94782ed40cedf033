import Derived.Test.YtnfipfgbckbaeaaE
set_option linter.unusedVariables false
namespace Go.Proofs.Ytnfipfgbckbaeaa
open Go.RowKit
def cmdC (c : Int) (al : List Int) (x y : Value) : Array Value := (.int .u8 c :: (u8s al ++ [x, y])).toArray
theorem cmdC_get (c : Int) (al : List Int) (x y : Value) (k : Nat) (hk : k < al.length) : (cmdC c al x y)[1 + k]? = some (.int .u8 (al.getD k 0)) := by
  rw [Nat.add_comm]
  simp [cmdC, u8s, List.getElem?_append, hk, List.getD]
theorem cmdC_set (c : Int) (al : List Int) (x y : Value) (k : Nat) (v : Int) (hk : k < al.length) : (cmdC c al x y).setIfInBounds (1 + k) (.int .u8 v) = cmdC c (al.set k v) x y := by
  rw [Nat.add_comm]
  simp [cmdC, u8s, hk]
theorem pad_set (r : List Int) (k : Nat) (hk : k < r.length) (h5 : k < 5) : (r.take k ++ List.replicate (5 - k) 0).set k (r.getD k 0) = r.take (k + 1) ++ List.replicate (5 - (k + 1)) 0 := by
  have e1 : (r.take k).length = k := by simp; omega
  rw [List.set_append_right _ _ (by omega), e1, Nat.sub_self, show 5 - k = (5 - (k + 1)) + 1 by omega, List.replicate_succ, List.set_cons_zero, List.take_succ_eq_append_getElem hk, List.append_assoc]
  simp [List.getD, List.getElem?_eq_getElem hk]
theorem pad_len (r : List Int) (k : Nat) (hk : k ≤ r.length) (h5 : k ≤ 5) : (r.take k ++ List.replicate (5 - k) (0 : Int)).length = 5 := by simp; omega
set_option maxRecDepth 100000 in
set_option maxHeartbeats 2000000 in
theorem rtake_walk (A : Option Addr) (n cp : Nat) (bs : List Int) (w : World) (hr : Rd w A n bs) (hnc : n ≤ cp) (hc : cp ≤ maxLen) (hn : n ≤ 100) :
    Calls Try.prog 15 #[.slice A n cp] w fun e w' => TakeP bs w e w' := by
  have hl := hr.len
  rcases bs with _ | ⟨c, r⟩
  · obtain rfl : n = 0 := by simpa using hl.symm
    go_enter Try.func15, Try.ntmps15
    go_wp2
    refine bodyPost_ret (results_row2 rfl rfl (blk_new rfl) Try.underlying26 rfl (by kernel_rfl)) rfl (.inl ⟨5, rfl, rfl, (Ext.refl _).alloc _⟩)
  · have hlr : r.length + 1 = n := by simpa using hl
    obtain ⟨c0, c1⟩ := hr.byts c (by simp)
    have hbr : Byts r := fun b hb => hr.byts b (by simp [hb])
    obtain ⟨bb, off, rfl, hbb, hcell⟩ := hr.cell (k := 0) (by omega)
    have hcell' : w.cell? ⟨bb, off, none⟩ = some (.int .u8 c) := hcell
    clear hcell
    have hn0 : (0 : Int) < n := by omega
    have hnb : ((n : Int) == 0) = false := by simp; omega
    have s5 := sm_le c
    have HL := Lib.hid hlr
    clear hl hlr
    go_enter Try.func15, Try.ntmps15
    go_upto_region 3 with (fail)
    obtain ⟨W1, hW1⟩ : ∃ V, V = w.alloc (.cells #[.int .u8 0, .int .u8 0, .int .u8 0, .int .u8 0, .int .u8 0, .int .u8 0, .int .u32 0, .slice none 0 0] 26) := ⟨_, rfl⟩
    rw [← hW1]
    have v1 : Ext w W1 := by rw [hW1]; exact (Ext.refl _).alloc _
    have K0 : W1.heap[w.heap.size]? = some (.cells #[.int .u8 0, .int .u8 0, .int .u8 0, .int .u8 0, .int .u8 0, .int .u8 0, .int .u32 0, .slice none 0 0] 26 (0, 0)) := by rw [hW1]; exact heap_alloc_new _ _
    clear hW1
    have hc1 : W1.cell? ⟨bb, off, none⟩ = some (.int .u8 c) := (Below.cell v1 (p := ⟨bb, off, none⟩) hbb).trans hcell'
    have hr1 := hr.ext v1
    clear hr
    rcases hok : ok c with _ | _
    · have hE : errOf (c :: r) = some 1 := by simp [errOf, hok]
      have HE := Lib.hid hE; clear hE
      go_upto_region 5 with (go_at_call 12; (with_reducible refine (rshape_any _ _ c0 c1).mono ?_); rintro e w1 ⟨rfl, rfl⟩)
      go_wp2_with (refine wpList_strow rfl 26 (.tmp 2) (.tmp 30) rfl K0 rfl rfl (by kernel_rfl) rfl (by simp [Value.oneCell']) ?_; intro w9 hg9 hw9)
      refine bodyPost_ret (results_row2 rfl rfl hg9.out Try.underlying26 rfl (by kernel_rfl)) rfl (.inl ⟨_, HE.out, rfl, v1.of_grown hw9 (fun k hk => by simp at hk; omega)⟩)
    · have HOK := Lib.hid hok
      have hs0 : (0 : Int) ≤ sm c := by omega
      have hs5 : (sm c : Int) ≤ 5 := by omega
      go_upto_region 6 with (go_at_call 12; (with_reducible refine (rshape_any _ _ c0 c1).mono ?_); rintro e w1 ⟨rfl, rfl⟩)
      have hlr := HL.out
      obtain ⟨m, hm⟩ : ∃ m, m = r.length := ⟨_, rfl⟩
      obtain ⟨cc, hcc⟩ : ∃ cc, cp = cc + 1 := ⟨cp - 1, by omega⟩
      have hmc : m ≤ cc := by omega
      have hmn : n = m + 1 := by omega
      subst hmn hcc
      have HM := Lib.hid hm
      clear hm hlr HL
      by_cases h3 : (m : Int) < sm c
      · have h3' : (m : Int) + 1 < 1 + sm c := by omega
        have hE : errOf (c :: r) = some 5 := by simp [errOf, hok, show r.length < sm c by have := HM.out; omega]
        have HE := Lib.hid hE; clear hE
        go_upto_region 7 with (fail)
        go_wp2_with (refine wpList_strow rfl 26 (.tmp 2) (.tmp 36) rfl K0 rfl rfl (by kernel_rfl) rfl (by simp [Value.oneCell']) ?_; intro w9 hg9 hw9)
        refine bodyPost_ret (results_row2 rfl rfl hg9.out Try.underlying26 rfl (by kernel_rfl)) rfl (.inl ⟨_, HE.out, rfl, v1.of_grown hw9 (fun k hk => by simp at hk; omega)⟩)
      · have h3' : ¬ ((m : Int) + 1 < 1 + sm c) := by omega
        have hsm : sm c ≤ m := by omega
        have HM3 := Lib.hid h3
        clear h3
        go_upto_region 9 with (fail)
        obtain ⟨W2, hW2⟩ : ∃ V, V = W1.alloc (.cells #[.int .u8 c, .int .u8 0, .int .u8 0, .int .u8 0, .int .u8 0, .int .u8 0, .int .u32 0, .slice none 0 0] 26) := ⟨_, rfl⟩
        rw [← hW2]
        have e2 : Ext W1 W2 := by rw [hW2]; exact (Ext.refl _).alloc _
        have K2 : W2.heap[W1.heap.size]? = some (.cells #[.int .u8 c, .int .u8 0, .int .u8 0, .int .u8 0, .int .u8 0, .int .u8 0, .int .u32 0, .slice none 0 0] 26 (0, 0)) := by rw [hW2]; exact heap_alloc_new _ _
        clear hW2 hc1 hcell'
        have hg8 := v1.size
        generalize hgg : W1.heap.size = g8 at *
        have HG8 := Lib.hid hgg
        clear hgg
        have hal := al5_byts c hbr
        have hal5 := al5_len c r (by have := HM.out; omega)
        obtain ⟨a0, a1, a2, a3, a4, hAL⟩ := list5 hal5
        have HAL := Lib.hid hAL
        rw [hAL] at hal
        clear hal5 hAL
        have hr1' : Rd W1 (some ⟨bb, off, none⟩) (m + 1) (c :: r) := hr1
        go_wp2
        go_loopw [9] (fun v wr => ∃ k : Nat, k ≤ sm c ∧ v = .int .i64 k ∧ Hid (wr.heap[g8]? = some (.cells (cmdC c (r.take k ++ List.replicate (5 - k) 0) (.int .u32 0) (.slice none 0 0)) 26 (0, 0))) ∧ Ext W1 wr) (fun v _ => (5 - intOf v).toNat)
        case atStart => exact ⟨0, by omega, rfl, K2, e2⟩
        case round =>
          obtain ⟨k, hk, rfl, KK, hx⟩ := hrel
          obtain ⟨wr, rfl⟩ : ∃ z : World, z = wr := ⟨_, rfl⟩
          have k0 : (0 : Int) ≤ k := by omega
          by_cases hlt : (k : Int) < sm c
          · obtain ⟨b', off', hA', _, hcx⟩ := (hr1'.ext hx).cell (k := 1 + k) (by omega)
            cases hA'
            have hgx : (c :: r).getD (1 + k) 0 = r.getD k 0 := by rw [Nat.add_comm]; rfl
            rw [hgx] at hcx
            have hpl := pad_len r k (by have := HM.out; omega) (by omega)
            have hcy := blk_cell KK.out (cmdC_get c (r.take k ++ List.replicate (5 - k) 0) _ _ k (by rw [hpl]; omega))
            have hfy := blk_free (i := 1 + k) KK.out
            have HST := Lib.hid (pad_set r k (by have := HM.out; omega) (by omega))
            have HPL := Lib.hid hpl
            clear hpl hgx
            generalize r.getD k 0 = x at *
            generalize (r.take k ++ List.replicate (5 - k) 0).getD k 0 = y at *
            go_wp2
            go_roundw
            case rel => exact ⟨k + 1, by omega, by go_num, by have := blk_set (i := 1 + k) (v := .int .u8 x) KK.out; rw [cmdC_set _ _ _ _ _ _ (by rw [HPL.out]; omega), HST.out] at this; exact this, hx.setCell (by rw [HG8.out]; exact Nat.le_refl _) _⟩
            case measure => simp [intOf]; omega
          · obtain rfl : k = sm c := by omega
            obtain ⟨w4, rfl⟩ : ∃ z : World, z = wr := ⟨_, rfl⟩
            have hx4 := hx
            have K4 : w4.heap[g8]? = some (.cells #[.int .u8 c, .int .u8 a0, .int .u8 a1, .int .u8 a2, .int .u8 a3, .int .u8 a4, .int .u32 0, .slice none 0 0] 26 (0, 0)) := by
              have := KK.out
              rw [show r.take (sm c) ++ List.replicate (5 - sm c) 0 = al5 c r from rfl, HAL.out] at this
              exact this
            have K04 := (hx4.block _ (blk_lt K0)).trans K0
            have v4 := v1.trans hx4
            have K0' := K0
            clear K2 e2 K0 KK hx
            obtain ⟨m2, hm2⟩ : ∃ m2, m = m2 + sm c := ⟨m - sm c, by omega⟩
            obtain ⟨c2, hc2⟩ : ∃ c2, cc = c2 + sm c := ⟨cc - sm c, by omega⟩
            have hmc2 : m2 ≤ c2 := by omega
            have HM2 := Lib.hid hm2
            have HC2 := Lib.hid hc2
            have hm1 : m + 1 = m2 + (sm c + 1) := by omega
            have hcc1 : cc + 1 = c2 + (sm c + 1) := by omega
            have HM21 := Lib.hid hm1
            have HC21 := Lib.hid hcc1
            clear hm1 hcc1
            go_upto_if 58 with (refine wpList_drop rfl (.tmp 54) (.tmp 56) rfl (sm c + 1) m2 c2 rfl (by show Value.int IntKind.i64 (1 + (sm c : Int)) = Value.int IntKind.i64 ((sm c + 1 : Nat) : Int); congr 1; omega) hr1' HM21.out HC21.out hmc2 ?_; intro A2 r2)
            replace r2 : Rd W1 A2 m2 (r.drop (sm c)) := r2
            have h6 : Ext W1 W1 := Ext.refl _
            have hlen2 : (r.drop (sm c)).length = m2 := by rw [List.length_drop]; have := HM.out; have := HM2.out; omega
            have HLEN2 := Lib.hid hlen2; clear hlen2
            have HOKs := Lib.hid (show ¬ r.length < sm c by have := HM.out; omega)
            by_cases h4 : gr c = true ∧ (m2 : Int) < 4
            · obtain ⟨hg, h4'⟩ := h4
              have hE : errOf (c :: r) = some 5 := by simp [errOf, HOK.out, HOKs.out, hg, HLEN2.out, show m2 < 4 by omega]
              have HE := Lib.hid hE; clear hE
              rw [hg]
              go_upto_region 17 with (go_at_call 25; (with_reducible refine (rtake4no _ _ _ _ h4').mono ?_); rintro e w5 ⟨rfl, rfl⟩)
              go_wp2_with (refine wpList_strow rfl 26 (.tmp 2) (.tmp 67) rfl K04 rfl rfl (by kernel_rfl) rfl (by simp [Value.oneCell']) ?_; intro w9 hg9 hw9)
              refine bodyPost_ret (results_row2 rfl rfl hg9.out Try.underlying26 rfl (by kernel_rfl)) rfl (.inl ⟨_, HE.out, rfl, v4.of_grown hw9 (fun k hk => by simp at hk; omega)⟩)
            · have H4 := Lib.hid h4; clear h4
              have H3E := Lib.hid (show ¬ (gr c && decide ((r.drop (sm c)).length < 4)) = true by rw [HLEN2.out]; intro h; simp at h; exact H4.out ⟨h.1, by omega⟩)
              have HGR : Hid (gr c = true → (4 : Int) ≤ m2) := fun h => Int.not_lt.1 fun h' => H4.out ⟨h, h'⟩
              have hbr2 : Byts (r.drop (sm c)) := fun b hb => hbr b (List.mem_of_mem_drop hb)
              obtain ⟨t0, t1⟩ := take32 hbr2
              go_cut [5, 10] (fun v5 v9 wr => v5 = .bool (gr c) ∧ Part3 c r [a0, a1, a2, a3, a4] g8 v9 W1 wr)
              case first =>
                rcases hg : gr c with _ | _
                · have HG := Lib.hid hg
                  go_wp2
                  go_meet
                  case rel => exact ⟨congrArg Value.bool HG.out.symm, A2, m2, c2, rfl, hmc2, by rw [r3_f HG.out]; exact r2.ext hx4, by rw [wOf_f HG.out]; exact K4, hx4⟩
                · have HG := Lib.hid hg
                  have h4m := HGR.out hg
                  have f6 := fun (W : World) (x : Ext w4 W) => Lib.hid ((x.block _ (blk_lt K4)).trans K4)
                  have F6 := Lib.hid f6
                  clear f6 hg
                  go_wp2_with (go_at_call 25; (with_reducible refine (rtake4 _ _ _ _ _ (r2.ext hx4) (by omega) hmc2 h4m).mono ?_); rintro e w5 ⟨A3, c3, rfl, l3, m3, x5, r5, fr5⟩; have c6 := blk_cell (i := 6) (F6.out _ x5).out rfl; have ff6 := blk_free (i := 6) (F6.out _ x5).out)
                  go_meet
                  case rel => exact ⟨congrArg Value.bool HG.out.symm, A3, m2 - 4, c3, rfl, l3, by rw [r3_t HG.out]; exact rd_set r5 (fun ad e => by have := fr5 ad e; have := blk_lt K4; show ad.block ≠ g8; omega), by rw [wOf_t HG.out]; exact blk_set (F6.out _ x5).out, (hx4.trans x5).setCell (by rw [HG8.out]; exact Nat.le_refl _) _⟩
              case rest =>
                obtain ⟨rfl, A3, m3, c3, rfl, l3, q3, K6, x6⟩ := hcut
                obtain ⟨w6, rfl⟩ : ∃ z : World, z = wc := ⟨_, rfl⟩
                have K6 : w6.heap[g8]? = some (.cells #[.int .u8 c, .int .u8 a0, .int .u8 a1, .int .u8 a2, .int .u8 a3, .int .u8 a4, .int .u32 (wOf c r), .slice none 0 0] 26 (0, 0)) := K6
                have K06 := (x6.block _ (blk_lt K0')).trans K0'
                have v6 := v1.trans x6
                have hL3 := q3.len
                have hnnD : nn c r = nb (sm c) (mo c) a0 := by unfold nn nbC; rw [HAL.out]; rfl
                have HNN := Lib.hid hnnD; clear hnnD
                have m7 := mo_le c
                obtain ⟨p0, p1⟩ := hal a0 (by simp)
                obtain ⟨f0, f1, f2, f3, f4, f5, f6, f7⟩ := cells8 K6
                have F6K := Lib.hid K6
                have hnb := nb_le (sm c) (mo c) a0 m7
                go_upto_region 21 with (go_at_call 21; (with_reducible refine (many_any _ _ _ _ _ _ _ _ _ _ _ c0 c1 p0 p1).mono ?_); rintro e wM ⟨rfl, xm⟩; rw [show nbC c a0 = nn c r from HNN.out.symm]; clear f0 f1 f2 f3 f4 f5 f6 f7)
                have K6 := (xm.block _ (blk_lt F6K.out)).trans F6K.out
                have K06 := (xm.block _ (blk_lt K06)).trans K06
                have v6 := v6.trans xm
                have x6 := x6.trans xm
                have q3 := q3.ext xm
                rw [← HNN.out] at hnb
                by_cases h5 : (m3 : Int) < nn c r
                · have hE : errOf (c :: r) = some 5 := by
                    show (if (!ok c) = true then some 1 else _) = _
                    rw [HOK.out, if_neg (by simp), if_neg HOKs.out, if_neg H3E.out, if_pos (by omega)]
                  have HE := Lib.hid hE; clear hE
                  go_wp2_with (refine wpList_strow rfl 26 (.tmp 2) (.tmp 78) rfl K06 rfl rfl (by kernel_rfl) rfl (by simp [Value.oneCell']) ?_; intro w9 hg9 hw9)
                  refine bodyPost_ret (results_row2 rfl rfl hg9.out Try.underlying26 rfl (by kernel_rfl)) rfl (.inl ⟨_, HE.out, rfl, v6.of_grown hw9 (fun k hk => by simp at hk; omega)⟩)
                · have hE : errOf (c :: r) = none := by
                    show (if (!ok c) = true then some 1 else _) = _
                    rw [HOK.out, if_neg (by simp), if_neg HOKs.out, if_neg H3E.out, if_neg (by omega)]
                  have HE := Lib.hid hE; clear hE
                  have n0 : (0 : Int) ≤ nn c r := by omega
                  have nc3 : (nn c r : Int) ≤ c3 := by omega
                  have q3' := q3.take (k := nn c r) (by omega)
                  have HNNe := Lib.hid hnb
                  clear hnb HNN
                  generalize hNN : nn c r = NN at *
                  have HNN2 := Lib.hid hNN; clear hNN
                  go_upto_region 24 with (at_builtin; refine wpList_app el24 rfl _ _ rfl (World.ownsRow_lit _ #[] 0 (Nat.le_refl _) (by simp) rfl) rfl ((q3'.ext ((Ext.refl _).alloc _)).shows) rfl (u8s_one _) (le_max (by have := HNNe.out; omega)) (by have := HNNe.out; omega) rfl ((Ext.refl _).alloc _) ?_; intro v7 w7 hown7 x7 hg7 hat7; simp only [Nat.zero_add] at hown7; obtain ⟨A7, c7, rfl, l7, m7', r7, fr7⟩ := own_rdF (bs := (r3 c r).take NN) hown7 q3'.byts; clear hown7 hg7 hat7; have K7 := Lib.hid ((x7.block _ (blk_lt K6)).trans K6); have c77 := blk_cell (i := 7) K7.out rfl; have ff7 := blk_free (i := 7) K7.out)
                  have K8 : (w7.setCell ⟨g8, 7, none⟩ (.slice A7 NN c7)).heap[g8]? = some (.cells #[.int .u8 c, .int .u8 a0, .int .u8 a1, .int .u8 a2, .int .u8 a3, .int .u8 a4, .int .u32 (wOf c r), .slice A7 NN c7] 26 (0, 0)) := blk_set K7.out
                  have h0ne : w.heap.size ≠ g8 := by have := blk_lt K0'; rw [HG8.out] at this; omega
                  have K08 := (Below.heap_setCell w7 ⟨g8, 7, none⟩ (.slice A7 NN c7) w.heap.size h0ne).trans ((x7.block _ (blk_lt K06)).trans K06)
                  have v8 : Ext w (w7.setCell ⟨g8, 7, none⟩ (.slice A7 NN c7)) := (v6.trans x7).setCell hg8 _
                  have r8 := rd_set (p := ⟨g8, 7, none⟩) (v := .slice A7 NN c7) r7 (fun ad e => by have := fr7 ad e; have := blk_lt K6; show ad.block ≠ g8; omega)
                  have frE : ∀ ad, A7 = some ad → w.heap.size ≤ ad.block := fun ad e => Nat.le_trans v6.size (fr7 ad e)
                  have hne9 : ∀ ad, A7 = some ad → some ad.block ≠ some w.heap.size := fun ad e h => by have := fr7 ad e; have := blk_lt K06; simp at h; omega
                  generalize w7.setCell ⟨g8, 7, none⟩ (.slice A7 NN c7) = w8 at *
                  clear c77 ff7 K7 fr7 r7
                  go_wp2_with (first
                    | (refine wpList_ldrow rfl 26 (.tmp 8) rfl K8 rfl Try.underlying26 rfl (by kernel_rfl) ?_)
                    | (refine wpList_strow rfl 26 (.tmp 2) (.tmp 85) rfl K08 rfl rfl (by kernel_rfl) rfl (by simp [Value.oneCell']) ?_; intro w9 hg9 hw9))
                  refine bodyPost_ret (results_row2 rfl rfl hg9.out Try.underlying26 rfl (by kernel_rfl)) rfl (.inr ⟨HE.out, c, r, a0, a1, a2, a3, a4, A7, c7, rfl, HAL.out, by rw [HNN2.out]; rfl, by rw [HNN2.out]; exact l7, m7', v8.of_grown hw9 (fun k hk => by simp at hk; omega), by rw [HNN2.out]; exact r8.grown hw9 hne9, frE⟩)
end Go.Proofs.Ytnfipfgbckbaeaa
