import Derived.Test.YtnbcmlphnllgeaaGN
import Derived.Test.YtnbcmlphnllgeaaGL
set_option linter.unusedVariables false
set_option linter.unusedSimpArgs false
namespace Go.Proofs.Ytnbcmlphnllgeaa
open Go.RowKit
def lit (kind code : Int) : Rp := ⟨kind, code, none, 0, 0, []⟩
def oneG : Gp := ⟨1, false, false, []⟩
theorem findG_ones : ∀ {n t : Nat}, t < n → findG (List.replicate n oneG) t = some (t, 0, true)
  | 0, _, h => by omega
  | n + 1, 0, _ => rfl
  | n + 1, t + 1, h => by
    rw [List.replicate_succ]
    unfold findG
    rw [if_neg (by show ¬ t + 1 < 1; omega), show t + 1 - oneG.tables = t from rfl, findG_ones (by omega)]
    rfl
theorem take_ones {n t : Nat} (h : t < n) (hn : n ≤ 9) (lo : Bool) (bs : List Int) : takeG (List.replicate n oneG) 4 (if lo then ((t + 64 : Nat) : Int) else (t : Int)) bs = (some (t, lo, [bs]), List.replicate n oneG) := by
  have ht : tabG (if lo then ((t + 64 : Nat) : Int) else (t : Int)) = t := by
    unfold tabG
    cases lo <;> simp <;> omega
  have ho : overG (if lo then ((t + 64 : Nat) : Int) else (t : Int)) = lo := by
    unfold overG
    cases lo <;> simp <;> omega
  unfold takeG
  rw [if_neg (by simp), ht, findG_ones h, ho]
  have hg : (List.replicate n oneG).getD t ⟨0, false, false, []⟩ = oneG := by
    rw [List.getD_eq_getElem?_getD, List.getElem?_replicate, if_pos h]; rfl
  simp only [hg]
  have hs : (List.replicate n oneG).set t { oneG with lost := false, came := [] } = List.replicate n oneG := by
    apply List.ext_getElem?
    intro j
    rw [List.getElem?_set]
    by_cases hj : t = j
    · subst hj
      simp [h, oneG]
    · simp [hj]
  show (if (1 : Nat) < 1 then _ else _) = _
  rw [if_neg (by omega)]
  rw [show (stepG oneG 0 lo bs) = (lo, [bs]) from rfl, hs]
theorem Rd.keptN {F : Nat → Prop} {w w1 w2 : World} {A : Option Addr} {n : Nat} {bs : List Int} (h : Rd w A n bs) (x : Ext w w1) (k : Kept F w1 w2) (hF : ∀ b, b < w.heap.size → ¬ F b) : Rd w2 A n bs := by
  rcases Nat.eq_zero_or_pos n with h0 | h0
  · have hb : bs = [] := List.eq_nil_of_length_eq_zero (by rw [h.len, h0])
    rw [h0, hb]
    exact Rd.nil
  · obtain ⟨ad, e, hl, _⟩ := h.at_ h0
    exact (h.ext x).kept k (fun ad' e' hf => by rw [e] at e'; injection e' with e'; subst e'; exact hF _ hl hf)
theorem slb_one {w1 : World} {g nr cr : Nat} {Ar : Option Addr} {br : List Int} (kb : w1.heap[g]? = some (.cells #[.slice Ar nr cr] 30 (0, 0))) (hr : Rd w1 Ar nr br) : SlB w1 (some ⟨g, 0, none⟩) [(.slice Ar nr cr, br)] := by
  refine ⟨?_, fun x hx => ?_⟩
  · show Shows w1 1 (some ⟨g, 0, none⟩) 1 [.slice Ar nr cr]
    exact ⟨rfl, fun _ => ⟨_, rfl, blk_lt kb, World.news_of_block kb⟩⟩
  · simp at hx
    subst hx
    have hl := hr.len
    subst hl
    exact ⟨Ar, cr, rfl, hr⟩
theorem mk_one (w : World) : (Instr.makeSlice 43 (.int .i64 1) (.int .i64 1)).run Try.prog w = .ok (.slice (some ⟨w.heap.size, 0, none⟩) 1 1) (w.alloc (.cells (madeCells #[.slice none 0 0] 1) 96)) := mk_43 1 (by omega) w
set_option maxRecDepth 100000 in
set_option maxHeartbeats 8000000 in
theorem GatherOne_law (w : World) (mo : Nat) (A1 : Option Addr) (n1 c1 : Nat) (ls : List Int) (A2 : Option Addr) (n2 c2 : Nat) (bl : List Bv) (A3 : Option Addr) (n3 c3 : Nat) (ov : List Bool) (hmo : mo < 256) (h1 : Rd w A1 n1 ls) (hnc1 : n1 ≤ c1) (hcm1 : c1 ≤ maxLen)
    (h2 : Shows w 1 A2 n2 (bvs bl)) (hn2 : n2 = bl.length) (hok2 : ∀ x ∈ bl, x.ok w) (hnc2 : n2 ≤ c2) (hcm2 : c2 ≤ maxLen) (h3 : Shows w 1 A3 n3 (bools ov)) (hn3 : n3 = ov.length) (hnc3 : n3 ≤ c3) (hcm3 : c3 ≤ maxLen) :
    Calls Try.prog 7 #[.int .u8 (mo : Int), .slice A1 n1 c1, .slice A2 n2 c2, .slice A3 n3 c3] w fun e w' => e = .returned (.bool true) ∧ Ext w w' := by
  unfold maxLen at hcm1 hcm2 hcm3
  obtain ⟨k0, hk0, hk0T, hk09⟩ : ∃ x : Nat, (mo : Int) % 9 = (x : Int) ∧ (mo : Int).tmod 9 = (x : Int) ∧ x < 9 := ⟨mo % 9, by omega, by rw [Int.tmod_eq_emod_of_nonneg (by omega)]; omega, Nat.mod_lt _ (by omega)⟩
  obtain ⟨n, hn⟩ : ∃ n, n = k0 + 1 := ⟨_, rfl⟩
  have hnI : (k0 : Int) + 1 = (n : Int) := by omega
  have hn1 : 1 ≤ n := by omega
  have hn9 : n ≤ 9 := by omega
  have uk0 := wri k0 (by omega)
  have un := wri n (by omega)
  have HP := Lib.hid (And.intro h1 (And.intro h2 (And.intro hn2 (And.intro hok2 (And.intro h3 hn3)))))
  clear h1 h2 hn2 hok2 h3 hn3 hn hk09 hmo
  go_enter Try.func7, Try.ntmps7
  go_upto_region 2 with (go_at_call 9; (refine (shown_any _).mono ?_); rintro e w1 ⟨rfl, x1⟩)
  go_upto_region 5 with (fail)
  clear hk0 hk0T hnI uk0 un
  have hmk := mk_one
  go_loopw [11, 25] (fun lv v wr => ∃ (k : Nat) (M : List Ls), v = .int .i64 (k : Int) ∧ k ≤ n ∧ M.length = k ∧ wr.ownsRow w1.heap.size 45 8 lv k (lss M) ∧ M.map newGp = List.replicate k oneG ∧ (∀ x ∈ M, x.ok ∧ x.n ≤ 100000) ∧ Ext w1 wr) (fun _ v _ => n - (intOf v).toNat)
  case atStart => exact ⟨0, [], rfl, Nat.zero_le _, rfl, ⟨rfl, .inl ⟨rfl, rfl⟩⟩, rfl, by simp, Ext.refl _⟩
  case round =>
    obtain ⟨k, M, rfl, hk, hM, own, hgp, hMok, xr⟩ := hrel
    obtain ⟨wo, rfl⟩ : ∃ z : World, z = wr := ⟨_, rfl⟩
    have HM := Lib.hid (And.intro hM (And.intro own (And.intro hgp hMok)))
    clear hM own hgp hMok
    by_cases hlt : k < n
    · have hkI : (k : Int) < n := by omega
      obtain ⟨w4, hw4⟩ : ∃ V, V = wo.alloc (.cells (madeCells #[.slice none 0 0] 1) 96) := ⟨_, rfl⟩
      have x4 : Ext wo w4 := by rw [hw4]; exact (Ext.refl _).alloc _
      have hs4 : w4.heap.size = wo.heap.size + 1 := by rw [hw4]; exact Array.size_push _
      obtain ⟨w5, hw5⟩ : ∃ V, V = w4.alloc (.cells #[.int .i64 0, .slice (some ⟨wo.heap.size, 0, none⟩) 1 1, .bool false, .int .u8 0, .int .u8 0, .int .u8 0, .bool false, .bool false] 45) := ⟨_, rfl⟩
      have x5 : Ext w4 w5 := by rw [hw5]; exact (Ext.refl _).alloc _
      have sh5 : Shows w5 8 (some ⟨wo.heap.size + 1, 0, none⟩) 1 (lss [lsN (some ⟨wo.heap.size, 0, none⟩) 1]) := by rw [hw5, ← hs4]; exact shows_ls rfl
      have own5 := own_ext HM.out.2.1 (x4.trans x5)
      have hbase : w1.heap.size ≤ w5.heap.size := Nat.le_trans xr.size (x4.trans x5).size
      clear hs4
      go_wp2_with (at_builtin; go_loud (rw [← hw4, ← hw5]; refine wpList_appB el22 rfl _ _ rfl own5 rfl sh5 rfl (lss_one _) (le_max (by omega)) (by omega) hbase ?_; intro v9 w9 own9 gr9 at9))
      have HX := Lib.hid (And.intro own9 (Ext.of_grown (xr.trans (x4.trans x5)) gr9 (fun b e => (HM.out.2.1.lt b e).1)))
      clear own9 gr9 at9 own5 sh5 hw4 hw5
      go_roundw
      case rel => exact ⟨k + 1, M ++ [lsN (some ⟨wo.heap.size, 0, none⟩) 1], by go_num, by omega, by rw [List.length_append, HM.out.1]; rfl, by rw [lss_app]; exact HX.out.1, by rw [List.map_append, HM.out.2.2.1, List.replicate_succ']; rfl, fun x hx => by
        rcases List.mem_append.1 hx with hx | hx
        · exact HM.out.2.2.2 x hx
        · simp at hx; subst hx; exact ⟨⟨Nat.le_refl _, le_max (n := 1) (by omega)⟩, by show 1 ≤ 100000; omega⟩, HX.out.2⟩
      case measure => simp [intOf]; omega
    · obtain rfl : k = n := by omega
      clear hmk
      obtain ⟨A4, c4, rfl, _, _, _⟩ := own_form HM.out.2.1
      go_upto_region 9 with (go_at_call 11; (refine (new_f c4 (Shows.of_own HM.out.2.1) HM.out.1.symm (by omega) HM.out.2.2.2).mono ?_); rw [HM.out.2.2.1]; rintro e w5 ⟨g, rfl, x5, G5⟩)
      have HG5 := Lib.hid (And.intro G5 (x1.trans (xr.trans x5)))
      have HLE := Lib.hid (show w.heap.size ≤ wo.heap.size from (x1.trans xr).size)
      clear G5 x5
      obtain ⟨m, hm⟩ : ∃ m, m = min n1 40 := ⟨_, rfl⟩
      have hmin : (if (40 : Int) < n1 then (40 : Int) else n1) = m := by split <;> omega
      have hmin2 : (if 40 < n1 then (40 : Int) else n1) = m := by split <;> omega
      have hm40 : m ≤ 40 := by omega
      have hmn : m ≤ n1 := by omega
      have hmc : m ≤ c1 := by omega
      have hmcI : (m : Int) ≤ c1 := by omega
      clear hm
      go_upto_region 10 with (fail)
      clear hmin hmin2
      go_loopw [41] (fun v wr => ∃ (i : Nat) (F : Nat → Prop), v = .int .i64 (i : Int) ∧ i ≤ m ∧ Gf F wr wr g (List.replicate k oneG) ∧ (∀ b, F b → wo.heap.size ≤ b) ∧ Ext w wr) (fun v _ => m - (intOf v).toNat)
      case atStart => exact ⟨0, _, rfl, Nat.zero_le _, HG5.out.1, fun b hb => hb, HG5.out.2⟩
      case round =>
        obtain ⟨i, F, rfl, hi, G, hF, xw⟩ := hrel
        obtain ⟨wq, rfl⟩ : ∃ z : World, z = wr := ⟨_, rfl⟩
        have HG := Lib.hid (And.intro G hF)
        clear G hF
        by_cases hil : i < m
        · have hiI : (i : Int) < m := by omega
          obtain ⟨b1, o1, hA1, hb1, hc1⟩ := (HP.out.1.ext xw).cell (k := i) (by omega)
          obtain ⟨ci, hci⟩ : ∃ ci : Nat, ls.getD i 0 = ci := ⟨(ls.getD i 0).toNat, by have := (HP.out.1.byts.getD i).1; omega⟩
          have hci8 : ci < 256 := by have := (HP.out.1.byts.getD i).2; omega
          rw [hci] at hc1
          subst hA1
          obtain ⟨t, ht, htT, htk⟩ : ∃ x : Nat, (ci : Int) % k = (x : Int) ∧ (ci : Int).tmod k = (x : Int) ∧ x < k := ⟨ci % k, by omega, by rw [Int.tmod_eq_emod_of_nonneg (by omega)]; omega, Nat.mod_lt _ (by omega)⟩
          have hk0 : ¬ ((k : Int) = 0) := by omega
          have hk0b : ((k : Int) == 0) = false := by simp; omega
          have hk0n : ¬ (k = 0) := by omega
          have uk8 := wr8 (i := k) (by omega)
          have ut8 := wr8 (i := t) (by omega)
          have HT := Lib.hid (And.intro ht (And.intro htT htk))
          have HNZ := Lib.hid (And.intro hk0 (And.intro hk0b hk0n))
          clear hci htk
          obtain ⟨w6, hw6⟩ : ∃ V, V = wq.alloc (.cells (lit 4 (t : Int)).vals.toArray 32) := ⟨_, rfl⟩
          have k6 : w6.heap[wq.heap.size]? = some (.cells #[.int .u8 4, .int .u8 (t : Int), .slice none 0 0] 32 (0, 0)) := by rw [hw6]; exact heap_alloc_new _ _
          have x6 : Ext wq w6 := by rw [hw6]; exact (Ext.refl _).alloc _
          go_upto_if 54 with (refine wpList_stnew rfl 32 _ _ rfl rfl (lit 4 (t : Int)).vals rfl rfl (by kernel_rfl) rfl (rp_one _) ?_)
          rw [← hw6]
          clear hw6 hc1
          obtain ⟨rb, hrb⟩ : ∃ z, z = wq.heap.size := ⟨_, rfl⟩
          rw [← hrb] at k6 ⊢
          have HRB := Lib.hid hrb
          have HK6 := Lib.hid (And.intro k6 x6)
          clear hrb k6
          go_cut [] (fun wx => ∃ Ar nr cr br, wx.heap[rb]? = some (.cells #[.int .u8 4, .int .u8 (t : Int), .slice Ar nr cr] 32 (0, 0)) ∧ Rd w Ar nr br ∧ nr ≤ 7 ∧ Kept (fun b => b = rb) w6 wx)
          case first =>
            by_cases hib : i < n2
            · have hibI : (i : Int) < n2 := by omega
              obtain ⟨z, hz⟩ : ∃ z, bl[i]? = some z := ⟨_, List.getElem?_eq_getElem (by have := HP.out.2.2.1; omega)⟩
              have hbv : (bvs bl)[i]? = some (.slice z.A z.n z.c) := by have := flat_at bv_len bl i z 0 _ hz rfl; simpa [bvs] using this
              have hzo := HP.out.2.2.2.1 z (List.mem_of_getElem? hz)
              obtain ⟨b2, o2, u2, hA2, _, hu2, hc2⟩ := (HP.out.2.1.ext (xw.trans HK6.out.2)).cell (k := i) hib
              rw [hbv] at hu2
              injection hu2 with hu2
              subst hu2 hA2
              obtain ⟨kb, hkb⟩ : ∃ kb, kb = min z.n 7 := ⟨_, rfl⟩
              have hzc := hzo.le
              have hzm := hzo.cm
              unfold maxLen at hzm
              have hmin7 : (if (7 : Int) < z.n then (7 : Int) else z.n) = kb := by split <;> omega
              have hmin8 : (if 7 < z.n then (7 : Int) else (z.n : Int)) = kb := by split <;> omega
              have hkbc : kb ≤ z.c := by omega
              have hkbcI : (kb : Int) ≤ z.c := by omega
              have HZ := Lib.hid (And.intro hc2 (And.intro (show kb ≤ z.n ∧ kb ≤ 7 by omega) hzo))
              have qr := blk_cell (i := 2) (v := .slice none 0 0) HK6.out.1 rfl
              have fr := blk_free (i := 2) HK6.out.1
              clear hz hbv hzo hc2 hkb hzc hzm
              go_upto_region 14 with (fail)
              refine wp_regionL (Kept (fun b => b = rb) w6) (Ext w6) 12 (by kernel_rfl) (Kept.of_ext (Ext.refl _).drew) ((Ext.refl _).drew) (fun hL => ?_)
              have hP := hL.1
              have hE : Ext w6 (World.drew w6) := (Ext.refl _).drew
              obtain ⟨wD1, hwD⟩ : ∃ V, V = World.drew w6 := ⟨_, rfl⟩
              rw [← hwD] at hL hP hE ⊢
              clear hwD
              refine wpAnyL_takeP (i := 0) (oi := { dst := some 55, op := Op.move (Operand.tmp 2), type := 33, pos := "law.go:178", after := #[], guard := none }) (v := ?vv2_14_0) rfl (by kernel_rfl) (by kernel_rfl) (by kernel_rfl) (by kernel_rfl) (fun _ _ _ h => h) (Or.inl ⟨by rfl, ?yy2_14_0⟩) hL (fun hL => ?_)
              case yy2_14_0 => (intro W hx; go_simp; try with_reducible rfl)
              simp only [Act.put, List.setIfInBounds_toArray, List.set_cons_zero, List.set_cons_succ]
              refine wpAnyL_takeP (i := 1) (oi := { dst := some 56, op := Op.move (Operand.tmp 13), type := 3, pos := "law.go:178", after := #[], guard := none }) (v := ?vv3_14_1) rfl (by kernel_rfl) (by kernel_rfl) (by kernel_rfl) (by kernel_rfl) (fun _ _ _ h => h) (Or.inl ⟨by rfl, ?yy3_14_1⟩) hL (fun hL => ?_)
              case yy3_14_1 => (intro W hx; go_simp; try with_reducible rfl)
              simp only [Act.put, List.setIfInBounds_toArray, List.set_cons_zero, List.set_cons_succ]
              refine wpAnyL_takeP (i := 2) (oi := { dst := some 57, op := Op.indexAddr 33 (Operand.tmp 55) (Operand.tmp 56), type := 0, pos := "law.go:178", after := #[{ on := 0, ground := Ground.data }, { on := 1, ground := Ground.data }], guard := none }) (v := ?vv4_14_2) rfl (by kernel_rfl) (by kernel_rfl) (by kernel_rfl) (by kernel_rfl) (fun _ _ _ h => h) (Or.inl ⟨by rfl, ?yy4_14_2⟩) hL (fun hL => ?_)
              case yy4_14_2 => (intro W hx; go_simp; try with_reducible rfl)
              simp only [Act.put, List.setIfInBounds_toArray, List.set_cons_zero, List.set_cons_succ]
              refine wpAnyL_takeB (i := 3) [10, 12] (oi := { dst := some 58, op := Op.load 30 (Operand.tmp 57), type := 30, pos := "law.go:178", after := #[{ on := 2, ground := Ground.data }], guard := none }) (v := ?vv5_14_3) rfl (by kernel_rfl) (by kernel_rfl) (by kernel_rfl) (by kernel_rfl) (fun _ _ _ h => h) (by kernel_rfl) (Or.inl ⟨by rfl, ?yy5_14_3⟩) hL (fun hL => ?_)
              case yy5_14_3 => (intro W hx; have q1 := cell_ext hx.2 HZ.out.1; go_simp; try with_reducible rfl)
              simp only [Act.put, List.setIfInBounds_toArray, List.set_cons_zero, List.set_cons_succ]
              refine wpAnyL_takeP (i := 4) (oi := { dst := some 59, op := Op.move (Operand.tmp 2), type := 33, pos := "law.go:178", after := #[], guard := none }) (v := ?vv6_14_4) rfl (by kernel_rfl) (by kernel_rfl) (by kernel_rfl) (by kernel_rfl) (fun _ _ _ h => h) (Or.inl ⟨by rfl, ?yy6_14_4⟩) hL (fun hL => ?_)
              case yy6_14_4 => (intro W hx; go_simp; try with_reducible rfl)
              simp only [Act.put, List.setIfInBounds_toArray, List.set_cons_zero, List.set_cons_succ]
              refine wpAnyL_takeP (i := 5) (oi := { dst := some 60, op := Op.move (Operand.tmp 13), type := 3, pos := "law.go:178", after := #[], guard := none }) (v := ?vv7_14_5) rfl (by kernel_rfl) (by kernel_rfl) (by kernel_rfl) (by kernel_rfl) (fun _ _ _ h => h) (Or.inl ⟨by rfl, ?yy7_14_5⟩) hL (fun hL => ?_)
              case yy7_14_5 => (intro W hx; go_simp; try with_reducible rfl)
              simp only [Act.put, List.setIfInBounds_toArray, List.set_cons_zero, List.set_cons_succ]
              refine wpAnyL_takeP (i := 6) (oi := { dst := some 61, op := Op.indexAddr 33 (Operand.tmp 59) (Operand.tmp 60), type := 0, pos := "law.go:178", after := #[{ on := 4, ground := Ground.data }, { on := 5, ground := Ground.data }], guard := none }) (v := ?vv8_14_6) rfl (by kernel_rfl) (by kernel_rfl) (by kernel_rfl) (by kernel_rfl) (fun _ _ _ h => h) (Or.inl ⟨by rfl, ?yy8_14_6⟩) hL (fun hL => ?_)
              case yy8_14_6 => (intro W hx; go_simp; try with_reducible rfl)
              simp only [Act.put, List.setIfInBounds_toArray, List.set_cons_zero, List.set_cons_succ]
              refine wpAnyL_takeB (i := 7) [8, 9, 10, 12] (oi := { dst := some 62, op := Op.load 30 (Operand.tmp 61), type := 30, pos := "law.go:178", after := #[{ on := 6, ground := Ground.data }], guard := none }) (v := ?vv9_14_7) rfl (by kernel_rfl) (by kernel_rfl) (by kernel_rfl) (by kernel_rfl) (fun _ _ _ h => h) (by kernel_rfl) (Or.inl ⟨by rfl, ?yy9_14_7⟩) hL (fun hL => ?_)
              case yy9_14_7 => (intro W hx; have q1 := cell_ext hx.2 HZ.out.1; go_simp; try with_reducible rfl)
              simp only [Act.put, List.setIfInBounds_toArray, List.set_cons_zero, List.set_cons_succ]
              refine wpAnyL_takeP (i := 8) (oi := { dst := some 63, op := Op.call { callee := Callee.builtin Builtin.len, args := #[Operand.tmp 62], argTypes := #[30] }, type := 3, pos := "law.go:178", after := #[{ on := 7, ground := Ground.data }], guard := none }) (v := ?vv10_14_8) rfl (by kernel_rfl) (by kernel_rfl) (by kernel_rfl) (by kernel_rfl) (fun _ _ _ h => h) (Or.inl ⟨by rfl, ?yy10_14_8⟩) hL (fun hL => ?_)
              case yy10_14_8 => (intro W hx; go_simp; try with_reducible rfl)
              simp only [Act.put, List.setIfInBounds_toArray, List.set_cons_zero, List.set_cons_succ]
              refine wpAnyL_takeP (i := 9) (oi := { dst := some 64, op := Op.call { callee := Callee.builtin Builtin.min, args := #[Operand.tmp 63, Operand.const (Value.int IntKind.i64 7)], argTypes := #[3, 3] }, type := 3, pos := "law.go:178", after := #[{ on := 8, ground := Ground.data }], guard := none }) (v := ?vv11_14_9) rfl (by kernel_rfl) (by kernel_rfl) (by kernel_rfl) (by kernel_rfl) (fun _ _ _ h => h) (Or.inl ⟨by rfl, ?yy11_14_9⟩) hL (fun hL => ?_)
              case yy11_14_9 => (intro W hx; go_simp; try with_reducible rfl)
              simp only [Act.put, List.setIfInBounds_toArray, List.set_cons_zero, List.set_cons_succ]
              refine wpAnyL_takeP (i := 10) (oi := { dst := some 65, op := Op.slice 30 (Operand.tmp 58) none (some (Operand.tmp 64)) none, type := 30, pos := "law.go:178", after := #[{ on := 3, ground := Ground.data }, { on := 9, ground := Ground.data }], guard := none }) (v := ?vv12_14_10) rfl (by kernel_rfl) (by kernel_rfl) (by kernel_rfl) (by kernel_rfl) (fun _ _ _ h => h) (Or.inl ⟨by rfl, ?yy12_14_10⟩) hL (fun hL => ?_)
              case yy12_14_10 => (intro W hx; go_simp; try with_reducible rfl)
              simp only [Act.put, List.setIfInBounds_toArray, List.set_cons_zero, List.set_cons_succ]
              refine wpAnyL_takeP (i := 11) (oi := { dst := some 66, op := Op.fieldAddr 32 (Operand.tmp 15) 2, type := 0, pos := "law.go:178", after := #[{ on := 0, ground := Ground.phase }, { on := 1, ground := Ground.phase }, { on := 2, ground := Ground.phase }, { on := 3, ground := Ground.phase }, { on := 4, ground := Ground.phase }, { on := 5, ground := Ground.phase }, { on := 6, ground := Ground.phase }, { on := 7, ground := Ground.phase }, { on := 8, ground := Ground.phase }, { on := 9, ground := Ground.phase }, { on := 10, ground := Ground.phase }], guard := none }) (v := ?vv13_14_11) rfl (by kernel_rfl) (by kernel_rfl) (by kernel_rfl) (by kernel_rfl) (fun _ _ _ h => h) (Or.inl ⟨by rfl, ?yy13_14_11⟩) hL (fun hL => ?_)
              case yy13_14_11 => (intro W hx; go_simp; try with_reducible rfl)
              simp only [Act.put, List.setIfInBounds_toArray, List.set_cons_zero, List.set_cons_succ]
              refine wpAnyL_ready (rs := [12]) (by kernel_rfl) (by simp) (AllReadyL.cons rfl (fun K hK => ?_) AllReadyL.nil)
              rw [if_pos (by rfl)]
              refine wp_stset (o := { dst := none, op := Op.store 30 (Operand.tmp 66) (Operand.tmp 65), type := 0, pos := "law.go:178", after := #[{ on := 11, ground := Ground.data }, { on := 10, ground := Ground.data }, { on := 0, ground := Ground.phase }, { on := 1, ground := Ground.phase }, { on := 2, ground := Ground.phase }, { on := 3, ground := Ground.phase }, { on := 4, ground := Ground.phase }, { on := 5, ground := Ground.phase }, { on := 6, ground := Ground.phase }, { on := 7, ground := Ground.phase }, { on := 8, ground := Ground.phase }, { on := 9, ground := Ground.phase }, { on := 10, ground := Ground.phase }], guard := none }) (v := .slice z.A kb z.c) 30 _ _ rfl (cell_ext hE qr) (blk_free ((hE.block _ (blk_lt HK6.out.1)).trans HK6.out.1)) rfl rfl size30 rfl (fun c e => by cases e) ?_; obtain ⟨w8, hw8, x8⟩ : ∃ V, V = World.setCell wD1 ⟨rb, 2, none⟩ (.slice z.A kb z.c) ∧ (wD1).grownBy V (some rb) := ⟨_, rfl, set_grown _ _ _ _⟩; rw [← hw8]; have k8 : w8.heap[rb]? = some (.cells #[.int .u8 4, .int .u8 (t : Int), .slice z.A kb z.c] 32 (0, 0)) := (by rw [hw8]; exact blk_set ((hE.block _ (blk_lt HK6.out.1)).trans HK6.out.1)); clear hw8
              simp only [Act.put]
              replace hP := hP.trans' (Kept.of_grown x8 (fun b e => by injection e with e; exact e.symm))
              clear hE
              clear hL
              refine hK.out _ _ ⟨hP, fun e => absurd e (by simp)⟩ (fun hL => ?_)
              clear hK K
              refine wpAnyL_done (by kernel_rfl) ?_ _
              have HK8 := Lib.hid (And.intro k8 hP)
              clear k8
              go_wp2_with (fail)
              go_meet
              case rel => exact ⟨z.A, kb, z.c, z.bs.take kb, HK8.out.1, HZ.out.2.2.rd.take HZ.out.2.1.1, HZ.out.2.1.2, HK8.out.2⟩
            · have hibI : ¬ (i : Int) < n2 := by omega
              go_wp2_with (fail)
              go_meet
              case rel => exact ⟨none, 0, 0, [], HK6.out.1, Rd.nil, by omega, Kept.refl _ _⟩
          case rest =>
            obtain ⟨Ar, nr, cr, br, k8, r8, hnr, kp8⟩ := hcut
            obtain ⟨w8, rfl⟩ : ∃ z : World, z = wc := ⟨_, rfl⟩
            have HK8 := Lib.hid (And.intro k8 (And.intro r8 kp8))
            have x8 : Ext w w8 := (xw.trans HK6.out.2).kept kp8 (fun b hb => by have := HRB.out; have := xw.size; omega)
            clear k8 r8 kp8
            obtain ⟨lo, hlo⟩ : ∃ z, z = (decide (i < n3) && ov.getD i false) := ⟨_, rfl⟩
            have HLO := Lib.hid hlo
            clear hlo
            go_upto_region 15 with (fail)
            go_cut [16] (fun v16 wx => v16 = .bool lo ∧ wx = w8)
            case first =>
              by_cases hi3 : i < n3
              · have hi3I : (i : Int) < n3 := by omega
                obtain ⟨bo, hbo⟩ : ∃ z, ov[i]? = some z := ⟨_, List.getElem?_eq_getElem (by have := HP.out.2.2.2.2.2; omega)⟩
                have hbv : (bools ov)[i]? = some (.bool bo) := by have := flat_at (vals := fun b : Bool => [.bool b]) (k := 1) (fun _ => rfl) ov i bo 0 _ hbo rfl; simpa [bools] using this
                obtain ⟨b3, o3, u3, hA3, _, hu3, hc3⟩ := (HP.out.2.2.2.2.1.ext x8).cell (k := i) hi3
                rw [hbv] at hu3
                injection hu3 with hu3
                subst hu3 hA3
                have HLB := Lib.hid (show lo = bo by rw [HLO.out, decide_eq_true hi3, List.getD_eq_getElem?_getD, hbo]; rfl)
                clear hbo hbv
                go_wp2_with (fail)
                go_meet
                case rel => exact ⟨by rw [HLB.out], rfl⟩
              · have hi3I : ¬ (i : Int) < n3 := by omega
                have HLB := Lib.hid (show lo = false by rw [HLO.out, decide_eq_false hi3]; rfl)
                go_wp2_with (fail)
                go_meet
                case rel => exact ⟨by rw [HLB.out], rfl⟩
            case rest =>
              obtain ⟨rfl, hwc⟩ := hcut
              rw [hwc]
              clear hwc
              obtain ⟨cd, hcd⟩ : ∃ z : Int, z = if lo then ((t + 64 : Nat) : Int) else (t : Int) := ⟨_, rfl⟩
              have HCD := Lib.hid hcd
              clear hcd
              go_upto_if 77 with (fail)
              have q1 := blk_cell (i := 1) (v := .int .u8 (t : Int)) HK8.out.1 rfl
              have f1 := blk_free (i := 1) HK8.out.1
              go_cut [16] (fun v16 wx => v16 = .bool lo ∧ wx.heap[rb]? = some (.cells #[.int .u8 4, .int .u8 cd, .slice Ar nr cr] 32 (0, 0)) ∧ Kept (fun b => b = rb) w8 wx)
              case first =>
                rcases hlo : lo with _ | _
                · have HL2 := Lib.hid hlo
                  clear hlo
                  go_wp2_with (fail)
                  go_meet
                  case rel => exact ⟨by rw [HL2.out], by rw [HCD.out, HL2.out]; exact HK8.out.1, Kept.refl _ _⟩
                · have HL2 := Lib.hid hlo
                  obtain ⟨z64, hz64⟩ : ∃ z, z = t + 64 := ⟨_, rfl⟩
                  have ut64 := wr8 (i := z64) (by have := HT.out.2.2; omega)
                  have ht64 : (t : Int) + 64 = (z64 : Int) := by omega
                  have HZ64 := Lib.hid (show cd = (z64 : Int) by rw [HCD.out, HL2.out, hz64]; rfl)
                  clear hlo hz64
                  go_wp2_with (fail)
                  go_meet
                  case rel => exact ⟨by rw [HL2.out], by rw [HZ64.out]; exact blk_set HK8.out.1, Kept.of_set _ rfl⟩
              case rest =>
                obtain ⟨rfl, k9, kp9⟩ := hcut
                obtain ⟨w9, rfl⟩ : ∃ z : World, z = wc := ⟨_, rfl⟩
                clear q1 f1
                have x9 : Ext w w9 := x8.kept kp9 (fun b hb => by have := HRB.out; have := xw.size; omega)
                have HX9 := Lib.hid (And.intro x9 (HK8.out.2.1.ext x9))
                -- the Gather beside r
                have G9 : ∃ F9, Gf F9 w9 w9 g (List.replicate k oneG) ∧ (∀ b, F9 b → wo.heap.size ≤ b) ∧ ¬ F9 rb := by
                  have s6 := HK6.out.2.size
                  have s8 := HK8.out.2.2.size
                  have hlt6 := blk_lt HK6.out.1
                  have g6 := HG.out.1.wr (Kept.of_ext (F := fun _ => False) HK6.out.2) (fun _ _ h => h.elim)
                  have hr6 : ¬ (F rb ∧ ¬ (wq.heap.size ≤ rb ∧ rb < w6.heap.size)) := fun h => h.2 ⟨Nat.le_of_eq HRB.out.symm, hlt6⟩
                  have g8 := g6.wr HK8.out.2.2 (fun b _ e => by rw [e]; exact hr6)
                  have g9 := g8.wr kp9 (fun b _ e h => by rw [e] at h; exact hr6 h.1)
                  exact ⟨_, g9, fun b hb => HG.out.2 b hb.1.1.1, fun h => hr6 h.1.1⟩
                obtain ⟨F9, G9, hF9, hr9⟩ := G9
                have HG9 := Lib.hid (And.intro G9 (And.intro hF9 hr9))
                have HK9 := Lib.hid k9
                clear G9 hF9 hr9 x9 x8 kp9
                have HTK := take_ones HT.out.2.2 hn9 lo br
                rw [← HCD.out] at HTK
                replace HTK := Lib.hid HTK
                have hcdb : 0 ≤ cd ∧ cd < 256 := by rw [HCD.out]; have := HT.out.2.2; cases lo <;> simp <;> omega
                have HCB := Lib.hid hcdb
                clear hcdb
                go_upto_region 19 with (first
                  | (go_at_call 13; (refine (take_f HG9.out.1 (Ext.refl _) 4 (code := cd) HCB.out cr HX9.out.2 (by omega)).mono ?_); rw [HTK.out]; rintro e w10 ⟨s10, els10, S10, rfl, G10, -, hs10, -⟩)
                  | refine wpList_ldrow rfl 32 (.tmp 15) rfl k9 rfl Try.underlying32 rfl (by kernel_rfl) ?_
                  | refine wpList_stnew rfl 35 _ _ rfl rfl s10.vals rfl rfl size35 rfl (sm_one hs10) ?_)
                obtain ⟨A10, c10, hv10, hB10, he10, hl10⟩ := sm_vals hs10
                have HS10 := Lib.hid (And.intro hB10 (And.intro he10 hl10))
                rw [hv10]
                obtain ⟨w11, hw11⟩ : ∃ V, V = w10.alloc (.cells #[.int .i64 (t : Int), .bool lo, .slice A10 els10.length c10] 35) := ⟨_, rfl⟩
                have x11 : Ext w10 w11 := by rw [hw11]; exact (Ext.refl _).alloc _
                have k11 : w11.heap[w10.heap.size]? = some (.cells #[.int .i64 (t : Int), .bool lo, .slice A10 els10.length c10] 35 (0, 0)) := by rw [hw11]; exact heap_alloc_new _ _
                have k9r := (x11.block _ (blk_lt (G10.1.blk HK9.out HG9.out.2.2))).trans (G10.1.blk HK9.out HG9.out.2.2)
                have q2 := blk_cell (i := 2) (v := .slice Ar nr cr) k9r rfl
                have HQ := Lib.hid (And.intro k11 q2)
                have HG11 := Lib.hid ((G10.ext x11).re)
                have HX11 := Lib.hid (HX9.out.1.kept G10.1 (fun b hb => Nat.le_trans HLE.out (HG9.out.2.1 b hb)) |>.trans x11)
                have HX10 := Lib.hid x11
                rw [← hw11]
                clear hw11 hv10 hB10 he10 hl10 hs10 k11 k9r q2 G10 x11 k9
                obtain ⟨hk0, hk0b, hk0n⟩ := HNZ.out
                have uci := wri ci (by omega)
                have HL1 := Lib.hid (show (1 : Nat) = [(Value.slice Ar nr cr, br)].length from rfl)
                have HL2 := Lib.hid (show els10.length ≤ 100000 by have := HS10.out.2.2; simp at this; omega)
                have HE10 := Lib.hid (show els10.map (·.2) = [(Value.slice Ar nr cr, br)].map (·.2) by rw [HS10.out.2.1]; rfl)
                go_upto_region 19 with (fail)
                refine wp_region_held_drew (S := Ext w11) (by kernel_rfl) ((Ext.refl _).drew) (fun hHeld => ?_)
                obtain ⟨wD14, hwD⟩ : ∃ V, V = World.drew w11 := ⟨_, rfl⟩
                rw [← hwD]
                clear hHeld
                have zz0 : Ext w11 wD14 := by rw [hwD]; exact (Ext.refl _).drew
                clear hwD
                refine wpAnyH_imp (S' := Ext wD14) (fun W h => Ext.trans zz0 h) _ _ _ _ ?_
                have hHeld := Ext.refl wD14
                refine wpAnyH_take (i := 0) (oi := { dst := some 88, op := Op.move (Operand.tmp 18), type := 4, pos := "law.go:185", after := #[], guard := none }) (v := ?vv15_19_0) rfl (by kernel_rfl) (by kernel_rfl) (by kernel_rfl) (fun _ _ _ h => h) (Or.inl ⟨by rfl, ?yy15_19_0⟩) hHeld ?_
                case yy15_19_0 => (intro W hx; go_simp; try with_reducible rfl)
                simp only [Act.put, List.setIfInBounds_toArray, List.set_cons_zero, List.set_cons_succ]
                refine wpAnyH_take (i := 1) (oi := { dst := some 89, op := Op.unOp UnOp.not 4 (Operand.tmp 88), type := 4, pos := "law.go:185", after := #[{ on := 0, ground := Ground.data }], guard := none }) (v := ?vv16_19_1) rfl (by kernel_rfl) (by kernel_rfl) (by kernel_rfl) (fun _ _ _ h => h) (Or.inl ⟨by rfl, ?yy16_19_1⟩) hHeld ?_
                case yy16_19_1 => (intro W hx; go_simp; try with_reducible rfl)
                simp only [Act.put, List.setIfInBounds_toArray, List.set_cons_zero, List.set_cons_succ]
                refine wpAnyH_take (i := 2) (oi := { dst := some 90, op := Op.move (Operand.tmp 89), type := 4, pos := "law.go:185", after := #[{ on := 1, ground := Ground.data }], guard := none }) (v := ?vv17_19_2) rfl (by kernel_rfl) (by kernel_rfl) (by kernel_rfl) (fun _ _ _ h => h) (Or.inl ⟨by rfl, ?yy17_19_2⟩) hHeld ?_
                case yy17_19_2 => (intro W hx; go_simp; try with_reducible rfl)
                simp only [Act.put, List.setIfInBounds_toArray, List.set_cons_zero, List.set_cons_succ]
                refine wpAnyH_take (i := 3) (oi := { dst := some 91, op := Op.load 35 (Operand.tmp 17), type := 35, pos := "law.go:185", after := #[{ on := 2, ground := Ground.guard }], guard := some (2, false) }) (v := ?vv18_19_3) rfl (by kernel_rfl) (by kernel_rfl) (by kernel_rfl) (fun _ _ _ h => h) (Or.inl ⟨by rfl, ?yy18_19_3⟩) hHeld ?_
                case yy18_19_3 => (intro W hx; have hz := zz0.trans hx; have q1 := HQ.out.1; have q2 := (hz.block _ (blk_lt q1)).trans q1; obtain ⟨f0, f1, f2⟩ : W.cell? ⟨w10.heap.size, 0, none⟩ = some (.int .i64 (t : Int)) ∧ W.cell? ⟨w10.heap.size, 1, none⟩ = some (.bool lo) ∧ W.cell? ⟨w10.heap.size, 2, none⟩ = some (.slice A10 els10.length c10) := ⟨blk_cell q2 rfl, blk_cell q2 rfl, blk_cell q2 rfl⟩; go_simp; try with_reducible rfl)
                simp only [Act.put, List.setIfInBounds_toArray, List.set_cons_zero, List.set_cons_succ]
                refine wpAnyH_take (i := 4) (oi := { dst := some 92, op := Op.move (Operand.tmp 14), type := 5, pos := "law.go:185", after := #[{ on := 2, ground := Ground.guard }], guard := some (2, false) }) (v := ?vv19_19_4) rfl (by kernel_rfl) (by kernel_rfl) (by kernel_rfl) (fun _ _ _ h => h) (Or.inl ⟨by rfl, ?yy19_19_4⟩) hHeld ?_
                case yy19_19_4 => (intro W hx; go_simp; try with_reducible rfl)
                simp only [Act.put, List.setIfInBounds_toArray, List.set_cons_zero, List.set_cons_succ]
                refine wpAnyH_take (i := 5) (oi := { dst := some 93, op := Op.convert 5 3 (Operand.tmp 92), type := 3, pos := "law.go:185", after := #[{ on := 4, ground := Ground.data }, { on := 2, ground := Ground.guard }], guard := some (2, false) }) (v := ?vv20_19_5) rfl (by kernel_rfl) (by kernel_rfl) (by kernel_rfl) (fun _ _ _ h => h) (Or.inl ⟨by rfl, ?yy20_19_5⟩) hHeld ?_
                case yy20_19_5 => (intro W hx; go_simp; try with_reducible rfl)
                simp only [Act.put, List.setIfInBounds_toArray, List.set_cons_zero, List.set_cons_succ]
                refine wpAnyH_take (i := 6) (oi := { dst := some 94, op := Op.move (Operand.tmp 10), type := 3, pos := "law.go:185", after := #[{ on := 2, ground := Ground.guard }], guard := some (2, false) }) (v := ?vv21_19_6) rfl (by kernel_rfl) (by kernel_rfl) (by kernel_rfl) (fun _ _ _ h => h) (Or.inl ⟨by rfl, ?yy21_19_6⟩) hHeld ?_
                case yy21_19_6 => (intro W hx; go_simp; try with_reducible rfl)
                simp only [Act.put, List.setIfInBounds_toArray, List.set_cons_zero, List.set_cons_succ]
                refine wpAnyH_take (i := 7) (oi := { dst := some 95, op := Op.binOp BinOp.rem 3 (Operand.tmp 93) (Operand.tmp 94) 3, type := 3, pos := "law.go:185", after := #[{ on := 5, ground := Ground.data }, { on := 6, ground := Ground.data }, { on := 2, ground := Ground.guard }], guard := some (2, false) }) (v := ?vv22_19_7) rfl (by kernel_rfl) (by kernel_rfl) (by kernel_rfl) (fun _ _ _ h => h) (Or.inl ⟨by rfl, ?yy22_19_7⟩) hHeld ?_
                case yy22_19_7 => (intro W hx; go_simp; try with_reducible rfl)
                simp only [Act.put, List.setIfInBounds_toArray, List.set_cons_zero, List.set_cons_succ]
                refine wpAnyH_take (i := 8) (oi := { dst := some 96, op := Op.move (Operand.tmp 16), type := 4, pos := "law.go:185", after := #[{ on := 2, ground := Ground.guard }], guard := some (2, false) }) (v := ?vv23_19_8) rfl (by kernel_rfl) (by kernel_rfl) (by kernel_rfl) (fun _ _ _ h => h) (Or.inl ⟨by rfl, ?yy23_19_8⟩) hHeld ?_
                case yy23_19_8 => (intro W hx; go_simp; try with_reducible rfl)
                simp only [Act.put, List.setIfInBounds_toArray, List.set_cons_zero, List.set_cons_succ]
                refine wpAnyH_take (i := 9) (oi := { dst := some 97, op := Op.fieldAddr 32 (Operand.tmp 15) 2, type := 0, pos := "law.go:185", after := #[{ on := 2, ground := Ground.guard }], guard := some (2, false) }) (v := ?vv24_19_9) rfl (by kernel_rfl) (by kernel_rfl) (by kernel_rfl) (fun _ _ _ h => h) (Or.inl ⟨by rfl, ?yy24_19_9⟩) hHeld ?_
                case yy24_19_9 => (intro W hx; go_simp; try with_reducible rfl)
                simp only [Act.put, List.setIfInBounds_toArray, List.set_cons_zero, List.set_cons_succ]
                refine wpAnyH_take (i := 10) (oi := { dst := some 98, op := Op.load 30 (Operand.tmp 97), type := 30, pos := "law.go:185", after := #[{ on := 9, ground := Ground.data }, { on := 2, ground := Ground.guard }], guard := some (2, false) }) (v := ?vv25_19_10) rfl (by kernel_rfl) (by kernel_rfl) (by kernel_rfl) (fun _ _ _ h => h) (Or.inl ⟨by rfl, ?yy25_19_10⟩) hHeld ?_
                case yy25_19_10 => (intro W hx; have hz := zz0.trans hx; have q1 := cell_ext hz HQ.out.2; go_simp; try with_reducible rfl)
                simp only [Act.put, List.setIfInBounds_toArray, List.set_cons_zero, List.set_cons_succ]
                refine wpAnyH_ready (rs := [11]) (by kernel_rfl) (by simp) (AllReadyH.cons rfl (fun K hK => ?_) AllReadyH.nil)
                go_simp
                obtain ⟨wB, hw⟩ : ∃ V, V = World.alloc wD14 (.cells #[.slice Ar nr cr] 30) := ⟨_, rfl⟩
                rw [← hw]
                have xb : Ext wD14 wB := by rw [hw]; exact (Ext.refl _).alloc _
                have kb : (World.heap wB)[(World.heap wD14).size]? = some (.cells #[.slice Ar nr cr] 30) := by rw [hw]; exact heap_alloc_new _ _
                clear hw
                refine hK.out _ _ xb (fun hHeld => ?_)
                clear hK K
                refine wpAnyH_imp (S' := Ext wB) (fun W h => Ext.trans xb h) _ _ _ _ ?_
                replace hHeld := Ext.refl wB
                have zz1 := zz0.trans xb
                have slb := slb_one kb (HK8.out.2.1.ext (HX11.out.trans zz1)); have sla := (SlB.of_bl HS10.out.1).ext (HX10.out.trans zz1)
                refine wpAnyH_take (i := 12) (oi := { dst := some 100, op := Op.build 35 #[(0, Operand.tmp 95), (1, Operand.tmp 96), (2, Operand.tmp 99)], type := 35, pos := "law.go:185", after := #[{ on := 7, ground := Ground.data }, { on := 8, ground := Ground.data }, { on := 11, ground := Ground.data }, { on := 2, ground := Ground.guard }], guard := some (2, false) }) (v := ?vv26_19_12) rfl (by kernel_rfl) (by kernel_rfl) (by kernel_rfl) (fun _ _ _ h => h) (Or.inl ⟨by rfl, ?yy26_19_12⟩) hHeld ?_
                case yy26_19_12 => (intro W hx; go_simp; try with_reducible rfl)
                simp only [Act.put, List.setIfInBounds_toArray, List.set_cons_zero, List.set_cons_succ]
                refine wpAnyH_ready (rs := [13]) (by kernel_rfl) (by simp) (AllReadyH.cons rfl (fun K hK => ?_) AllReadyH.nil)
                go_simp
                go_wp2_with (go_at_call 15; go_loud ((with_reducible refine (same_sl (i := t) (lo := lo) c10 1 sla slb rfl HL1.out HL2.out HE10.out).mono ?_)); rintro e w13 ⟨rfl, x13⟩)
                refine hK.out _ _ x13 (fun hHeld => ?_)
                clear hK K
                refine wpAnyH_imp (S' := Ext w13) (fun W h => Ext.trans x13 h) _ _ _ _ ?_
                replace hHeld := Ext.refl w13
                have zz2 := zz1.trans x13
                refine wpAnyH_take (i := 14) (oi := { dst := some 102, op := Op.unOp UnOp.not 4 (Operand.tmp 101), type := 4, pos := "law.go:185", after := #[{ on := 13, ground := Ground.data }, { on := 2, ground := Ground.guard }], guard := some (2, false) }) (v := ?vv27_19_14) rfl (by kernel_rfl) (by kernel_rfl) (by kernel_rfl) (fun _ _ _ h => h) (Or.inl ⟨by rfl, ?yy27_19_14⟩) hHeld ?_
                case yy27_19_14 => (intro W hx; go_simp; try with_reducible rfl)
                simp only [Act.put, List.setIfInBounds_toArray, List.set_cons_zero, List.set_cons_succ]
                refine wpAnyH_take (i := 15) (oi := { dst := some 103, op := Op.pick (Operand.tmp 90) (Operand.const (Value.bool true)) (Operand.tmp 102), type := 4, pos := "law.go:185", after := #[{ on := 2, ground := Ground.data }, { on := 14, ground := Ground.data }], guard := none }) (v := ?vv28_19_15) rfl (by kernel_rfl) (by kernel_rfl) (by kernel_rfl) (fun _ _ _ h => h) (Or.inl ⟨by rfl, ?yy28_19_15⟩) hHeld ?_
                case yy28_19_15 => (intro W hx; go_simp; try with_reducible rfl)
                simp only [Act.put, List.setIfInBounds_toArray, List.set_cons_zero, List.set_cons_succ]
                refine wpAnyH_done (by kernel_rfl) ?_ _
                have zend := zz2.trans hHeld
                go_wp2
                go_roundw
                case rel => exact ⟨i + 1, F9, by go_num, by omega, (HG11.out.ext zend).re, HG9.out.2.1, HX11.out.trans zend⟩
                case measure => simp [intOf]; omega
        · obtain rfl : i = m := by omega
          go_wp2
          go_ret
          exact ⟨rfl, xw⟩
theorem GatherOne_all (w : World) (a0 : Int) (A1 : Option Addr) (n1 c1 : Nat) (ls : List Int) (A2 : Option Addr) (n2 c2 : Nat) (bl : List Bv) (A3 : Option Addr) (n3 c3 : Nat) (ov : List Bool) (l0 : 0 ≤ a0) (h0 : a0 < 256) (h1 : Rd w A1 n1 ls) (hnc1 : n1 ≤ c1) (hcm1 : c1 ≤ maxLen)
    (h2 : Shows w 1 A2 n2 (bvs bl)) (hn2 : n2 = bl.length) (hok2 : ∀ x ∈ bl, x.ok w) (hnc2 : n2 ≤ c2) (hcm2 : c2 ≤ maxLen) (h3 : Shows w 1 A3 n3 (bools ov)) (hn3 : n3 = ov.length) (hnc3 : n3 ≤ c3) (hcm3 : c3 ≤ maxLen) :
    Calls Try.prog 7 #[.int .u8 a0, .slice A1 n1 c1, .slice A2 n2 c2, .slice A3 n3 c3] w fun e w' => e = .returned (.bool true) ∧ Ext w w' := by
  obtain ⟨b0, rfl⟩ := Int.eq_ofNat_of_zero_le l0
  exact GatherOne_law w b0 A1 n1 c1 ls A2 n2 c2 bl A3 n3 c3 ov (by omega) h1 hnc1 hcm1 h2 hn2 hok2 hnc2 hcm2 h3 hn3 hnc3 hcm3
end Go.Proofs.Ytnbcmlphnllgeaa
