import Derived.Test.YtnbcmlphnllgeaaGT
set_option linter.unusedVariables false
set_option linter.unusedSimpArgs false
namespace Go.Proofs.Ytnbcmlphnllgeaa
open Go.RowKit
theorem wpList_mapi {w : World} {ops : Array Oper} {rest : List Oper} {o : Oper} {a : Act} {Q : Exit → Act → World → Prop} (hw : Region.wanted o (yielded ops a.tmps) = true) (m x y : Operand) (ho : o.op = .mapUpdate 60 m x y)
    {b : Nat} {k : Int} {v : Bool} (hm : a.eval m = .map (some b)) (hx : a.eval x = .int .i64 k) (hy : a.eval y = .bool v) (hL : MapI w b) (hk : (Lit.int .i64 k).wf = true)
    (h : ∀ w', w.grownBy w' (some b) → MapI w' b → wpList Try.prog ops Q rest (a.put o.dst undef) w') : wpList Try.prog ops Q (o :: rest) a w := by
  obtain ⟨w', hrun, gr, hc⟩ := mapi_put hL hk v
  refine BigFrame.wpList_want hw fun _ hK => ?_
  unfold Oper.wp
  simp [execOp, ho, hm, hx, hy, hrun, Result.andThen]
  exact hK _ _ (h w' gr hc)
theorem mk_60 (w : World) : (Instr.makeMap 60 none).run Try.prog w = .ok (.map (some w.heap.size)) (w.alloc (.map #[] 0)) := by
  simp [Instr.makeMap, run_underlying Try.underlying60]
theorem wfi (n : Nat) (h : n < 9223372036854775808) : (Lit.int .i64 (n : Int)).wf = true := by simp [Lit.wf, IntKind.min, IntKind.max, IntKind.bits, IntKind.signed]; omega
/-- the Gather beside the map. -/
structure GM (wo w : World) (g mb n : Nat) (F : Nat → Prop) (ca : List (List Int)) : Prop where
  ga : Gf F w w g [⟨n, false, false, ca⟩]
  mp : MapI w mb
  nf : ¬ F mb
  fw : ∀ b, F b → wo.heap.size ≤ b
  ex : Ext wo w
theorem GM.ext {wo w w1 : World} {g mb n : Nat} {F : Nat → Prop} {ca : List (List Int)} (h : GM wo w g mb n F ca) (x : Ext w w1) : GM wo w1 g mb n F ca :=
  ⟨(h.ga.ext x).re, h.mp.ext x, h.nf, h.fw, h.ex.trans x⟩
theorem gm_take {wo w w1 : World} {g mb n i k : Nat} {F : Nat → Prop} {ca : List (List Int)} {A : Option Addr} (h : GM wo w g mb n F ca) (x : Ext w w1) (hk : k < n) (hn : n ≤ 9) (hc : ca.length < n) (hs : Sh ca) (hi : i < 256) (c : Nat) (hr : Rd w1 A 2 [(i : Int), (k : Int)]) :
    Calls Try.prog 13 #[.pointer (some ⟨g, 0, none⟩), .agg #[.int .u8 4, .int .u8 (k : Int), .slice A 2 c]] w1 fun e w' => ∃ (s : Sm) (els : List (Value × List Int)) (S1 F' : Nat → Prop) (okb : Bool) (ca' cb : List (List Int)),
      e = .returned (.tuple #[.agg s.vals.toArray, .bool okb]) ∧ GM wo w' g mb n F' ca' ∧ Sh ca' ∧ ca'.length < n ∧ SmIs w' S1 s els (if okb then some (0, false, cb) else none) ∧
      (okb = true → cb.length = n ∧ Sh cb ∧ (Wh ca i k → cb[0]? = some [(i : Int), 0])) ∧ (Wh ca i k → (k + 1 < n ∧ Wh ca' i (k + 1)) ∨ (k + 1 = n ∧ okb = true)) := by
  obtain ⟨o, ca', e1, h1, h2, h3, h4⟩ := take_miss (i := i) hk hn hc hs hi
  refine (take_f h.ga x 4 (code := (k : Int)) ⟨by omega, by omega⟩ c hr (by omega)).mono ?_
  rw [e1]
  rintro e w' ⟨s, els, S1, rfl, g1, g2, h5, h6⟩
  have kx : Kept F w w' := g1.1
  have G' : GM wo w' g mb n (fun b => F b ∧ ¬ S1 b) ca' := ⟨g2, h.mp.kept kx h.nf, fun hh => h.nf hh.1, fun b hb => h.fw b hb.1, h.ex.kept kx h.fw⟩
  rcases h3 with rfl | ⟨cb, rfl, h7, h8, h9⟩
  · exact ⟨s, els, S1, _, false, ca', [], rfl, G', h1, h2, h5, (fun h => by cases h), fun hw => (h4 hw).imp id (fun hh => absurd rfl hh.2)⟩
  · exact ⟨s, els, S1, _, true, ca', cb, rfl, G', h1, h2, h5, fun _ => ⟨h7, h8, h9⟩, fun hw => (h4 hw).imp id (fun hh => ⟨hh.1, rfl⟩)⟩
set_option maxRecDepth 100000 in
set_option maxHeartbeats 8000000 in
theorem GatherMissing_law (w : World) (mo mn : Nat) (A3 : Option Addr) (n3 c3 : Nat) (ls : List Int) (hmo : mo < 256) (hmn : mn < 256) (h3 : Rd w A3 n3 ls) (hnc3 : n3 ≤ c3) (hcm3 : c3 ≤ maxLen) :
    Calls Try.prog 5 #[.int .u8 (mo : Int), .int .u8 (mn : Int), .slice A3 n3 c3] w fun e w' => e = .returned (.bool true) ∧ Ext w w' := by
  unfold maxLen at hcm3
  obtain ⟨k0, hk0, hk0T, hk05⟩ : ∃ x : Nat, (mo : Int) % 5 = (x : Int) ∧ (mo : Int).tmod 5 = (x : Int) ∧ x < 5 := ⟨mo % 5, by omega, by rw [Int.tmod_eq_emod_of_nonneg (by omega)]; omega, Nat.mod_lt _ (by omega)⟩
  obtain ⟨rr, hr0, hr0T, hr21⟩ : ∃ x : Nat, (mn : Int) % 21 = (x : Int) ∧ (mn : Int).tmod 21 = (x : Int) ∧ x < 21 := ⟨mn % 21, by omega, by rw [Int.tmod_eq_emod_of_nonneg (by omega)]; omega, Nat.mod_lt _ (by omega)⟩
  obtain ⟨n, hn⟩ : ∃ n, n = k0 + 1 := ⟨_, rfl⟩
  have hnI : (k0 : Int) + 1 = (n : Int) := by omega
  have hn1 : 1 ≤ n := by omega
  have hn9 : n ≤ 5 := by omega
  have uk0 := wri k0 (by omega)
  have un := wri n (by omega)
  have urr := wri rr (by omega)
  have HP := Lib.hid h3
  clear h3 hn hk05 hmo hmn
  have hmk : ∀ W : World, (Instr.makeSlice 43 (.int .i64 (n : Int)) (.int .i64 (n : Int))).run Try.prog W = .ok (.slice (some ⟨W.heap.size, 0, none⟩) n n) (W.alloc (.cells (madeCells #[.slice none 0 0] n) 96)) := mk_43 n (by omega)
  go_enter Try.func5, Try.ntmps5
  go_upto_region 3 with (go_at_call 9; (refine (shown_any _).mono ?_); rintro e w1 ⟨rfl, x1⟩)
  obtain ⟨wa, hwa⟩ : ∃ V, V = w1.alloc (.cells (madeCells #[.slice none 0 0] n) 96) := ⟨_, rfl⟩
  have xa : Ext w1 wa := by rw [hwa]; exact (Ext.refl _).alloc _
  have hsa : wa.heap.size = w1.heap.size + 1 := by rw [hwa]; exact Array.size_push _
  obtain ⟨wb, hwb⟩ : ∃ V, V = wa.alloc (.cells (lsN (some ⟨w1.heap.size, 0, none⟩) n).vals.toArray 45) := ⟨_, rfl⟩
  have xb : Ext wa wb := by rw [hwb]; exact (Ext.refl _).alloc _
  have shb : Shows wb 8 (some ⟨w1.heap.size + 1, 0, none⟩) 1 (lss [lsN (some ⟨w1.heap.size, 0, none⟩) n]) := by rw [hwb, ← hsa]; exact ls_new _ _
  have HC := Lib.hid (new_f 1 shb rfl (by omega) (fun x hx => by simp at hx; subst hx; exact ⟨⟨Nat.le_refl _, le_max (n := n) (by omega)⟩, by show n ≤ 100000; omega⟩))
  clear shb hsa
  go_upto_region 4 with (go_at_call 11; go_loud (rw [← hwa, show wa.alloc (.cells #[.int .i64 0, .slice (some ⟨w1.heap.size, 0, none⟩) n n, .bool false, .int .u8 0, .int .u8 0, .int .u8 0, .bool false, .bool false] 45) = wb from hwb.symm]; (refine HC.out.mono ?_)); rintro e w2 ⟨g, rfl, x2, G2⟩)
  clear hmk hwa hwb hk0 hk0T
  have hmk := mk_60
  obtain ⟨w3, hw3⟩ : ∃ V, V = w2.alloc (.map #[] 0) := ⟨_, rfl⟩
  have x3 : Ext w2 w3 := by rw [hw3]; exact (Ext.refl _).alloc _
  have k3 : w3.heap[w2.heap.size]? = some (.map #[] 0) := by rw [hw3]; exact heap_alloc_new _ _
  go_upto_region 5 with (fail)
  rw [← hw3]
  obtain ⟨mb, hmb⟩ : ∃ z, z = w2.heap.size := ⟨_, rfl⟩
  rw [← hmb] at k3 ⊢
  have HM3 := Lib.hid (show MapI w3 mb from ⟨_, _, k3, by simp⟩)
  have HX3 := Lib.hid (x1.trans (xa.trans (xb.trans (x2.trans x3))))
  have HG3 := Lib.hid (And.intro (G2.re.wr (Kept.of_ext (F := fun _ => False) x3) (fun _ _ h => h.elim)) (And.intro (x1.trans (xa.trans xb)).size (And.intro x2.size (And.intro hmb x3.size))))
  have HB3 := Lib.hid (blk_lt k3)
  clear hw3 k3 hmb G2 x1 x2 x3 xa xb hnI uk0 hmk
  obtain ⟨m, hm⟩ : ∃ m, m = min n3 50 := ⟨_, rfl⟩
  have hmin : (if (50 : Int) < n3 then (50 : Int) else n3) = m := by split <;> omega
  have hmin2 : (if 50 < n3 then (50 : Int) else n3) = m := by split <;> omega
  have hm50 : m ≤ 50 := by omega
  have hmn : m ≤ n3 := by omega
  have hmc : m ≤ c3 := by omega
  have hmcI : (m : Int) ≤ c3 := by omega
  clear hm
  go_upto_region 6 with (fail)
  clear hmin hmin2
  go_loopw [39] (fun v wr => ∃ j : Nat, v = .int .i64 (j : Int) ∧ j ≤ m ∧ MapI wr mb ∧ Kept (fun b => b = mb) w3 wr) (fun v _ => m - (intOf v).toNat)
  case atStart => exact ⟨0, rfl, Nat.zero_le _, HM3.out, Kept.refl _ _⟩
  case round =>
    obtain ⟨j, rfl, hj, M, kr⟩ := hrel
    obtain ⟨wo, rfl⟩ : ∃ z : World, z = wr := ⟨_, rfl⟩
    by_cases hjl : j < m
    · have hjI : (j : Int) < m := by omega
      have hlow : ∀ b, b < w.heap.size → ¬ b = mb := fun b hb e => by have := HG3.out.2.1; have := HG3.out.2.2.1; have := HG3.out.2.2.2.1; omega
      obtain ⟨b1, o1, hA1, hb1, hc1⟩ := (Rd.keptN HP.out HX3.out kr hlow).cell (k := j) (by omega)
      obtain ⟨ci, hci⟩ : ∃ ci : Nat, ls.getD j 0 = ci := ⟨(ls.getD j 0).toNat, by have := (HP.out.byts.getD j).1; omega⟩
      have hci8 : ci < 256 := by have := (HP.out.byts.getD j).2; omega
      rw [hci] at hc1
      subst hA1
      have uci := wri ci (by omega)
      have HWF := Lib.hid (show (Lit.int .i64 (ci : Int)).wf = true from wfi ci (by omega))
      have HK := Lib.hid (And.intro M kr)
      clear hci hlow M kr
      go_wp2_with (refine wpList_mapi rfl _ _ _ rfl rfl rfl rfl HK.out.1 HWF.out ?_; intro w5 gr5 M5)
      go_roundw
      case rel => exact ⟨j + 1, by go_num, by omega, M5, HK.out.2.trans' (.of_grown gr5 (fun b e => by injection e with e; exact e.symm))⟩
      case measure => simp [intOf]; omega
    · obtain rfl : j = m := by omega
      have HS : ∃ F, GM w wo g mb n F [] := by
        have s := kr.size
        refine ⟨_, HG3.out.1.wr kr (fun b _ h hf => ?_), M, fun h => ?_, fun b hb => ?_, HX3.out.kept kr (fun b h => ?_)⟩
        · have := HG3.out.2.2.2; subst h; exact hf.2 ⟨by omega, HB3.out⟩
        · have := HG3.out.2.2.2; exact h.1.2 ⟨by omega, HB3.out⟩
        · have := HG3.out.2.1; have := hb.1.1; omega
        · have := HG3.out.2; omega
      have HGM := Lib.hid HS
      clear HS M kr
      go_upto_region 12 with (fail)
      go_loopw [13, 50] (fun gv v wr => ∃ (i gt : Nat) (F : Nat → Prop) (ca : List (List Int)), gv = .int .i64 (gt : Int) ∧ v = .int .i64 (i : Int) ∧ i ≤ rr ∧ gt ≤ i * 5 ∧ GM w wr g mb n F ca ∧ Sh ca ∧ ca.length < n) (fun _ v _ => rr - (intOf v).toNat)
      case atStart => obtain ⟨F, h⟩ := HGM.out; exact ⟨0, 0, F, [], rfl, rfl, Nat.zero_le _, Nat.zero_le _, h, Sh.nil, by simp; omega⟩
      case round =>
        obtain ⟨i, gt, F, ca, rfl, rfl, hi, hgt, G, hS, hca⟩ := hrel
        obtain ⟨wi, rfl⟩ : ∃ z : World, z = wr := ⟨_, rfl⟩
        have HG := Lib.hid (And.intro G (And.intro hS hca))
        clear G hS hca
        by_cases hil : i < rr
        · have hiI : (i : Int) < rr := by omega
          have ui8 := wr8 (i := i) (by omega)
          go_upto_region 16 with (fail)
          go_loopw [13, 15, 54] (fun gv bv v wr => ∃ (k gt : Nat) (wh : Bool) (F : Nat → Prop) (ca : List (List Int)), gv = .int .i64 (gt : Int) ∧ bv = .bool wh ∧ v = .int .i64 (k : Int) ∧ k ≤ n ∧ gt ≤ i * 5 + k ∧ GM w wr g mb n F ca ∧ Sh ca ∧ ca.length < n ∧ (wh = true → (k < n ∧ Wh ca i k) ∨ (k = n ∧ 1 ≤ gt))) (fun _ _ v _ => n - (intOf v).toNat)
          case atStart => exact ⟨0, gt, true, F, ca, rfl, rfl, rfl, Nat.zero_le _, by omega, HG.out.1, HG.out.2.1, HG.out.2.2, fun _ => .inl ⟨by omega, fun h => absurd h (by omega)⟩⟩
          case round =>
            obtain ⟨k, gt, wh, F, ca, rfl, rfl, rfl, hk, hgt, G, hS, hca, hwh⟩ := hrel
            obtain ⟨wq, rfl⟩ : ∃ z : World, z = wr := ⟨_, rfl⟩
            have HG := Lib.hid (And.intro G (And.intro hS (And.intro hca hwh)))
            clear G hS hca hwh
            by_cases hkl : k < n
            · have hkI : (k : Int) < n := by omega
              have uk8 := wr8 (i := k) (by omega)
              obtain ⟨p, hp⟩ : ∃ p, p = i * n := ⟨_, rfl⟩
              have hp5 : p ≤ 200 := by rw [hp]; exact Nat.le_trans (Nat.mul_le_mul (show i ≤ 20 by omega) (show n ≤ 5 by omega)) (by omega)
              have hpI : (i : Int) * (n : Int) = (p : Int) := by rw [hp]; simp
              obtain ⟨pk, hpk⟩ : ∃ z, z = p + k := ⟨_, rfl⟩
              have hpkI : (p : Int) + (k : Int) = (pk : Int) := by omega
              have up := wri p (by omega)
              have upk := wri pk (by omega)
              obtain ⟨gone, hgone⟩ := mapi_get HG.out.1.mp (wfi pk (by omega))
              clear hp hpk
              go_upto_if 63 with (fail)
              rcases gone with _ | _
              · clear hgone
                obtain ⟨w5, hw5⟩ : ∃ V, V = wq.alloc (.cells #[.int .u8 (i : Int), .int .u8 (k : Int)] 5) := ⟨_, rfl⟩
                have x5 : Ext wq w5 := by rw [hw5]; exact (Ext.refl _).alloc _
                have r5 : Rd w5 (some ⟨wq.heap.size, 0, none⟩) 2 [(i : Int), (k : Int)] := by rw [hw5]; exact rd_new (cs := [(i : Int), (k : Int)]) 5 rfl (by intro b hb; simp at hb; rcases hb with rfl | rfl <;> omega)
                have HC5 := Lib.hid (gm_take (i := i) (k := k) HG.out.1 x5 hkl (by omega) HG.out.2.2.1 HG.out.2.1 (by omega) 2 r5)
                clear r5 x5
                go_upto_region 21 with (first
                  | (go_at_call 13; go_loud (rw [← hw5]; (with_reducible refine (HC5.out).mono ?_)); rintro e w6 ⟨s6, els6, S6, F6, okb, ca6, cb6, rfl, G6, hS6, hca6, hs6, hok6, hwh6⟩)
                  | refine wpList_stnew rfl 35 _ _ rfl rfl s6.vals rfl rfl size35 rfl (sm_one hs6) ?_)
                have HG6 := Lib.hid (And.intro G6 (And.intro hS6 (And.intro hca6 (And.intro hok6 (And.intro hwh6 hs6)))))
                obtain ⟨w7, hw7⟩ : ∃ V, V = w6.alloc (.cells s6.vals.toArray 35) := ⟨_, rfl⟩
                have x7 : Ext w6 w7 := by rw [hw7]; exact (Ext.refl _).alloc _
                have k7 : w7.heap[w6.heap.size]? = some (.cells s6.vals.toArray 35 (0, 0)) := by rw [hw7]; exact heap_alloc_new _ _
                rw [← hw7]
                have HX7 := Lib.hid x7
                have HK7 := Lib.hid k7
                clear G6 hS6 hca6 hok6 hwh6 hs6 hw7 x7 k7 hw5
                rcases okb with _ | _
                · go_wp2_with (fail)
                  go_roundw
                  case rel => exact ⟨k + 1, gt, wh, F6, ca6, by go_num, rfl, by go_num, by omega, by omega, HG6.out.1.ext HX7.out, HG6.out.2.1, HG6.out.2.2.1, fun h => by
                    rcases HG.out.2.2.2 h with ⟨_, h2⟩ | ⟨h2, _⟩
                    · rcases HG6.out.2.2.2.2.1 h2 with h3 | ⟨_, h3⟩
                      · exact .inl h3
                      · cases h3
                    · omega⟩
                  case measure => simp [intOf]; omega
                · obtain ⟨hl6, hSc, hw0⟩ := HG6.out.2.2.2.1 rfl
                  have hs := HG6.out.2.2.2.2.2
                  rw [if_pos rfl] at hs
                  obtain ⟨A6, c6, hv6, hB6, he6, hle6⟩ := sm_vals hs
                  rw [hl6] at hle6
                  have k70 := HK7.out
                  rw [hv6, hle6] at k70
                  have k7 : w7.heap[w6.heap.size]? = some (.cells #[.int .i64 0, .bool false, .slice A6 n c6] 35 (0, 0)) := k70
                  rw [hle6] at hB6
                  have hB7 := hB6.ext HX7.out
                  obtain ⟨y0, hy0⟩ : ∃ y, els6[0]? = some y := ⟨_, List.getElem?_eq_getElem (by omega)⟩
                  have hy0c : cb6[0]? = some y0.2 := by rw [← he6, List.getElem?_map, hy0]; rfl
                  obtain ⟨i0, hi0, hy0e⟩ := hSc 0 y0.2 hy0c
                  obtain ⟨ga, ca', ea, pa, A0, c0', ev0, hc0, _, rd0⟩ := hB7.at_ hy0
                  have ea' : A6 = some ⟨ga, 0, none⟩ := by injection ea
                  clear ea
                  subst ea'
                  have pa' : w7.cell? ⟨ga, 0, none⟩ = some (.slice A0 2 c0') := by rw [pa, ev0, hy0e]; rfl
                  rw [hy0e] at rd0 hc0
                  obtain ⟨b0, o0, hA0, _, hcc⟩ := rd0.cell (k := 0) (by simp)
                  subst hA0
                  have hcc' : w7.cell? ⟨b0, o0, none⟩ = some (.int .u8 (i0 : Int)) := hcc
                  have hc02 : 2 ≤ c0' := hc0
                  have f1 := blk_cell (i := 1) (v := .bool false) k7 rfl
                  have f2 := blk_cell (i := 2) (v := .slice (some ⟨ga, 0, none⟩) n c6) k7 rfl
                  obtain ⟨gt1, hgt1⟩ : ∃ z, z = gt + 1 := ⟨_, rfl⟩
                  have hgI : (gt : Int) + 1 = (gt1 : Int) := by omega
                  have ug1 := wri gt1 (by omega)
                  have hn0I : (0 : Int) < n := by omega
                  have HY := Lib.hid (And.intro hB7 (And.intro he6 (And.intro hle6 (And.intro hSc hgt1))))
                  have HW0 := Lib.hid (show wh = true → i0 = i from fun h => by
                    rcases HG.out.2.2.2 h with ⟨_, h2⟩ | ⟨h2, _⟩
                    · have := hw0 h2
                      rw [hy0c, hy0e] at this
                      injection this with this
                      injection this with this _
                      omega
                    · omega)
                  clear hs hv6 hB6 he6 hle6 k70 hB7 hy0 hy0c hSc hw0 pa hcc hc0 ev0 hy0e hgt1 k7 hl6
                  go_upto_region 27 with (fail)
                  go_loopw [97] (fun v wr => ∃ j : Nat, v = .int .i64 (j : Int) ∧ j ≤ n ∧ wr = w7) (fun v _ => n - (intOf v).toNat)
                  case atStart => exact ⟨0, rfl, Nat.zero_le _, by first | trivial | rfl⟩
                  case round =>
                    obtain ⟨j, rfl, hj, hwr⟩ := hrel
                    rw [hwr]
                    clear hwr
                    by_cases hjl : j < n
                    · have hjI : (j : Int) < n := by omega
                      obtain ⟨y, hy⟩ : ∃ y, els6[j]? = some y := ⟨_, List.getElem?_eq_getElem (by have := HY.out.2.2.1; omega)⟩
                      have hyc : cb6[j]? = some y.2 := by rw [← HY.out.2.1, List.getElem?_map, hy]; rfl
                      obtain ⟨ij, hij, hye⟩ := HY.out.2.2.2.1 j y.2 hyc
                      obtain ⟨gb, cb', eb, pb, Aj, cj', evj, hcj, _, rdj⟩ := HY.out.1.at_ hy
                      have e1 : ga = gb := by injection eb with e _ _; injection e with e; injection e
                      clear eb
                      subst e1
                      have pb' : w7.cell? ⟨ga, j, none⟩ = some (.slice Aj 2 cj') := by rw [pb, evj, hye]; rfl
                      rw [hye] at rdj hcj
                      obtain ⟨bj, oj, hAj, _, hcjj⟩ := rdj.cell (k := 1) (by simp)
                      subst hAj
                      have hcj1 : w7.cell? ⟨bj, oj + 1, none⟩ = some (.int .u8 (j : Int)) := hcjj
                      have hcj2 : 2 ≤ cj' := hcj
                      have uj := wri j (by omega)
                      clear hy hyc hye pb evj hcj rdj hcjj
                      go_wp2_with (fail)
                      go_roundw
                      case rel => exact ⟨j + 1, by go_num, by omega, by first | trivial | rfl⟩
                      case measure => simp [intOf]; omega
                    · have hjI : ¬ (j : Int) < n := by omega
                      rcases hwv : wh with _ | _
                      · clear hwv
                        go_wp2_with (fail)
                        go_roundw
                        case rel => exact ⟨k + 1, gt1, false, F6, ca6, by go_num, rfl, by go_num, by omega, by have := HY.out.2.2.2.2; omega, HG6.out.1.ext HX7.out, HG6.out.2.1, HG6.out.2.2.1, fun h => by cases h⟩
                        case measure => simp [intOf]; omega
                      · have hcc2 : w7.cell? ⟨b0, o0, none⟩ = some (.int .u8 (i : Int)) := by rw [← HW0.out hwv]; exact hcc'
                        have HWV := Lib.hid hwv
                        clear hcc' hwv
                        go_wp2_with (fail)
                        go_roundw
                        case rel => exact ⟨k + 1, gt1, true, F6, ca6, by go_num, rfl, by go_num, by omega, by have := HY.out.2.2.2.2; omega, HG6.out.1.ext HX7.out, HG6.out.2.1, HG6.out.2.2.1, fun _ => by
                          have hg := HY.out.2.2.2.2
                          rcases HG.out.2.2.2 HWV.out with ⟨_, h2⟩ | ⟨h2, _⟩
                          · rcases HG6.out.2.2.2.2.1 h2 with h3 | ⟨h3, _⟩
                            · exact .inl h3
                            · exact .inr ⟨h3, by omega⟩
                          · omega⟩
                        case measure => simp [intOf]; omega
              · clear hgone
                go_wp2_with (fail)
                go_roundw
                case rel => exact ⟨k + 1, gt, false, F, ca, by go_num, rfl, by go_num, by omega, by omega, HG.out.1, HG.out.2.1, HG.out.2.2.1, fun h => by cases h⟩
                case measure => simp [intOf]; omega
            · obtain rfl : k = n := by omega
              rcases wh with _ | _
              · go_wp2_with (fail)
                go_roundw
                case rel => exact ⟨i + 1, gt, F, ca, by go_num, by go_num, by omega, by omega, HG.out.1, HG.out.2.1, HG.out.2.2.1⟩
                case measure => simp [intOf]; omega
              · have hg1 : 1 ≤ gt := by rcases HG.out.2.2.2 rfl with h | h <;> omega
                obtain ⟨gt1, hgt1⟩ : ∃ z, gt = z + 1 := ⟨gt - 1, by omega⟩
                have hgI : (gt : Int) - 1 = (gt1 : Int) := by omega
                have ug1 := wri gt1 (by omega)
                have HQ := Lib.hid hgt1
                clear hgt1
                go_wp2_with (fail)
                go_roundw
                case rel => exact ⟨i + 1, gt1, F, ca, by go_num, by go_num, by omega, by have := HQ.out; omega, HG.out.1, HG.out.2.1, HG.out.2.2.1⟩
                case measure => simp [intOf]; omega
        · obtain rfl : i = rr := by omega
          have hg0 : (0 : Int) ≤ gt := by omega
          go_wp2
          go_ret
          exact ⟨by simp, HG.out.1.ex⟩
theorem GatherMissing_all (w : World) (a0 a1 : Int) (A2 : Option Addr) (n2 c2 : Nat) (ls : List Int) (l0 : 0 ≤ a0) (h0 : a0 < 256) (l1 : 0 ≤ a1) (h1 : a1 < 256) (h2 : Rd w A2 n2 ls) (hnc2 : n2 ≤ c2) (hcm2 : c2 ≤ maxLen) :
    Calls Try.prog 5 #[.int .u8 a0, .int .u8 a1, .slice A2 n2 c2] w fun e w' => e = .returned (.bool true) ∧ Ext w w' := by
  obtain ⟨b0, rfl⟩ := Int.eq_ofNat_of_zero_le l0
  obtain ⟨b1, rfl⟩ := Int.eq_ofNat_of_zero_le l1
  exact GatherMissing_law w b0 b1 A2 n2 c2 ls (by omega) (by omega) h2 hnc2 hcm2
end Go.Proofs.Ytnbcmlphnllgeaa
