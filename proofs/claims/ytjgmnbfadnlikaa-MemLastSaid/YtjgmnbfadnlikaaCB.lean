import Derived.Test.YtjgmnbfadnlikaaCA
set_option linter.unusedVariables false
set_option linter.unusedSimpArgs false
namespace Go.Proofs.Ytjgmnbfadnlikaa
open Go.RowKit
theorem lenOf {α : Type} {l : List α} {k : Nat} (h : k < l.length) : (l.take (k + 1)).length = k + 1 := by simp; omega
set_option maxRecDepth 100000 in
set_option maxHeartbeats 4000000 in
theorem clone_any {w : World} {g0 : Nat} {s : MS} {va0 : Tg → Value} {T0 : Nat → Option Tg} (h : MemC w g0 s va0 T0) : Calls Try.prog 21 #[.pointer (some ⟨g0, 0, none⟩)] w fun e w' => ∃ g va T, e = .returned (.pointer (some ⟨g, 0, none⟩)) ∧ Ext w w' ∧ MemC w' g s va T ∧ ∀ b t, T b = some t → w.heap.size ≤ b := by
  obtain ⟨rA, rc, sA, sc, hrv, hsv, K0⟩ := h.row2
  obtain ⟨k0, k1⟩ := cells2 K0
  have hram := h.ram
  rw [hrv] at hram
  have rram : Rd w rA s.ram.length s.ram := ⟨Shows.of_own hram, h.ok.rb⟩
  have hr1024 := h.ok.r
  have hn4 := h.ok.n
  have HH := Lib.hid h
  have HR := Lib.hid rram
  have HSV := Lib.hid hsv
  have HK0 := Lib.hid K0
  obtain ⟨rn, hrn⟩ : ∃ rn, rn = s.ram.length := ⟨_, rfl⟩
  obtain ⟨sn, hsn⟩ : ∃ sn, sn = s.segs.length := ⟨_, rfl⟩
  rw [← hrn, ← hsn] at K0
  rw [← hrn] at HR k0
  rw [← hsn] at k1 hn4
  have HN := Lib.hid (And.intro hrn hsn)
  have hrn1 : rn ≤ 1024 := by omega
  clear h hrv hsv hram rram hr1024 hrn hsn
  go_enter Try.func21, Try.ntmps21
  go_upto_region 4 with (go_at_call 31; (refine (cl_any _ HR.out (by omega)).mono ?_); rintro e w1 ⟨v1, rfl, x1, o1⟩; obtain ⟨A1, c1, rfl, _, _⟩ := own_form o1)
  obtain ⟨w2, hw2⟩ : ∃ V, V = w1.alloc (.cells #[.slice A1 rn c1, .slice none 0 0] 62) := ⟨_, rfl⟩
  have K2 : w2.heap[w1.heap.size]? = some (.cells #[.slice A1 rn c1, .slice none 0 0] 62 (0, 0)) := by rw [hw2]; exact heap_alloc_new _ _
  have x2 : Ext w1 w2 := by rw [hw2]; exact (Ext.refl _).alloc _
  rw [← hw2]
  clear hw2 k0 k1
  have o2 : w2.ownsRow 0 5 1 (.slice A1 rn c1) s.ram.length (u8s s.ram) := by rw [← HN.out.1]; exact own_base (own_ext o1 x2) (Nat.zero_le _)
  have S0 := mem_first (g := w1.heap.size) (ram := s.ram) K2 o2 (fun b e => by have := own_lt o1 e; omega) HH.out.ok.r HH.out.ok.rb
  have hb0 : ∀ b t, (if b = w1.heap.size then some ((0, 0, 0) : Tg) else if Value.ownBlock (.slice A1 rn c1) = some b then some (1, 0, 0) else none) = some t → w.heap.size ≤ b := by
    intro b t hb
    by_cases e : b = w1.heap.size
    · have := x1.size; omega
    · by_cases e2 : Value.ownBlock (.slice A1 rn c1) = some b
      · exact (o1.lt b e2).1
      · simp [e, e2] at hb
  obtain ⟨g, hgE⟩ : ∃ g, g = w1.heap.size := ⟨_, rfl⟩
  rw [← hgE] at S0 hb0 ⊢
  have S0 : MemC w2 g (s.pre 0) _ _ := S0
  have x02 := x1.trans x2
  have HS0 := Lib.hid S0
  have HB0 := Lib.hid hb0
  clear S0 hb0 o1 o2 K2 x1 x2 hgE
  obtain ⟨f0, f1⟩ := cells2 ((x02.block _ (blk_lt K0)).trans K0)
  go_upto_region 5 with (fail)
  clear f0 f1
  go_loopw [23] (fun v wr => ∃ (k : Nat) (va : Tg → Value) (T : Nat → Option Tg), v = .int .i64 k ∧ k ≤ sn ∧ MemC wr g (s.pre k) va T ∧ (∀ b t, T b = some t → w.heap.size ≤ b) ∧ Ext w wr) (fun v _ => sn - (intOf v).toNat)
  case atStart => exact ⟨0, _, _, rfl, Nat.zero_le _, HS0.out, HB0.out, x02⟩
  case round =>
    clear HS0 HB0 x02
    obtain ⟨k, va, T, rfl, hk, M, hT, xr⟩ := hrel
    obtain ⟨wo, rfl⟩ : ∃ z : World, z = wr := ⟨_, rfl⟩
    by_cases hlt : k < sn
    · have hkn : (k : Int) < sn := by omega
      obtain ⟨q, hq⟩ : ∃ q, s.segs[k]? = some q := ⟨_, List.getElem?_eq_getElem (by rw [← HN.out.2]; exact hlt)⟩
      have hqk := HH.out.ok.g q (List.mem_of_getElem? hq)
      have hO := HH.out.ext xr
      obtain ⟨sg, sc', P0, pc0, e, hP0, _, m0, m1, m2, _, _⟩ := hO.at_ hq
      rw [HSV.out] at e
      injection e with e1 e2 e3
      subst e1
      clear e2 e3
      obtain ⟨np, hnp⟩ : ∃ np, np = q.pages.length := ⟨_, rfl⟩
      have hr : wo.rangeAt sg (k * 3) [.slice P0 np pc0, .int .i64 (q.a : Int), .int .i64 (q.x : Int)] := by
        intro j u hj
        match j, hj with
        | 0, hj => simp at hj; subst hj; rw [hnp]; exact m0
        | 1, hj => simp at hj; subst hj; exact m1
        | 2, hj => simp at hj; subst hj; exact m2
        | n + 3, hj => simp at hj
      have p1 : 1 ≤ np := by rw [hnp]; exact hqk.p1
      have p4 : np ≤ 4 := by rw [hnp]; exact hqk.p2
      have HM := Lib.hid M
      have HT := Lib.hid hT
      have HX := Lib.hid xr
      have HQ := Lib.hid (And.intro hq (And.intro hnp hP0))
      clear M hT hq hnp hP0 m0 m1 m2 hO hqk
      go_upto_region 7 with (first | refine wpList_load_mid rfl 64 _ rfl _ _ rfl [.slice P0 np pc0, .int .i64 (q.a : Int), .int .i64 (q.x : Int)] _ hr Try.underlying64 rfl size64 ?_ | refine wpList_stnew rfl 64 _ _ rfl rfl [.slice P0 np pc0, .int .i64 (q.a : Int), .int .i64 (q.x : Int)] rfl rfl size64 rfl one3 ?_)
      obtain ⟨w5, hw5⟩ : ∃ V, V = wo.alloc (.cells ([.slice P0 np pc0, .int .i64 (q.a : Int), .int .i64 (q.x : Int)] : List Value).toArray 64) := ⟨_, rfl⟩
      have k5 : w5.heap[wo.heap.size]? = some (.cells #[.slice P0 np pc0, .int .i64 (q.a : Int), .int .i64 (q.x : Int)] 64 (0, 0)) := by rw [hw5]; exact heap_alloc_new _ _
      have x5 : Ext wo w5 := by rw [hw5]; exact (Ext.refl _).alloc _
      rw [← hw5]
      clear hw5 hr
      obtain ⟨m0, m1, m2⟩ := cells3 k5
      have p0 : (0 : Int) ≤ np := by omega
      go_upto_region 8 with (at_make; refine wpList_make1 el23 rfl rfl _ _ rfl rfl rfl p0 (by omega) (by omega) ?_; intro w6 hg6 x6 hs6)
      have hg6' : w6.heap[w5.heap.size]? = some (.cells (List.replicate np (.slice none 0 0)).toArray 37 (0, 0)) := by have := hg6.out; simpa using this
      have hk' : (s.pre k).segs.length = k := pre_len (by rw [← HN.out.2]; omega)
      have A0 := own_row0 (x := x6) (HM.out.ext x5).O (n := np) (P := w5.heap.size) (Nat.le_refl _) hs6 (nils_own hg6' (by omega))
      rw [hk'] at A0
      obtain ⟨P, hP⟩ : ∃ P, P = w5.heap.size := ⟨_, rfl⟩
      rw [← hP] at A0 ⊢
      have HA0 := Lib.hid A0
      have HK := Lib.hid k5
      have hg0 := Lib.hid (show (fun t => if t = (3, k, 0) then Value.slice (some ⟨P, 0, none⟩) np np else va t) (0, 0, 0) = .slice (some ⟨g, 0, none⟩) 1 1 from by simp; exact HM.out.g0)
      have hbT : ∀ b t, (if b = P then some ((3, k, 0) : Tg) else T b) = some t → w.heap.size ≤ b := by
        intro b t hb
        have s5 := x5.size
        have sr := HX.out.size
        by_cases e : b = P
        · omega
        · simp only [if_neg e] at hb; exact HT.out b t hb
      have HBT := Lib.hid hbT
      have HP := Lib.hid hP
      clear A0 k5 hg6 hg6' hs6 hbT hP m0 m1 m2
      obtain ⟨m0, m1, m2⟩ := cells3 ((x6.block _ (blk_lt HK.out)).trans HK.out)
      go_upto_region 9 with (fail)
      clear m0 m1 m2
      go_loopw [34] (fun v wq => ∃ (c : Nat) (vb : Tg → Value) (Tb : Nat → Option Tg), v = .int .i64 c ∧ c ≤ np ∧ Own wq vb Tb (nspec (s.pre k) vb k np c (q.pages.take c)) ∧ vb (3, k, 0) = .slice (some ⟨P, 0, none⟩) np np ∧ vb (0, 0, 0) = .slice (some ⟨g, 0, none⟩) 1 1 ∧ (∀ b t, Tb b = some t → w.heap.size ≤ b) ∧ Ext w5 wq) (fun v _ => np - (intOf v).toNat)
      case atStart => exact ⟨0, _, _, rfl, Nat.zero_le _, HA0.out, by simp, hg0.out, HBT.out, x6⟩
      case round =>
        clear HA0 hg0 HBT
        obtain ⟨c, vb, Tb, rfl, hc, A, hv3, hv0, hTb, xq⟩ := hrel
        obtain ⟨wi, rfl⟩ : ∃ z : World, z = wr := ⟨_, rfl⟩
        by_cases hct : c < np
        · have hcn : (c : Int) < np := by omega
          obtain ⟨p, hp⟩ : ∃ p, q.pages[c]? = some p := ⟨_, List.getElem?_eq_getElem (by rw [← HQ.out.2.1]; exact hct)⟩
          have hOi := HH.out.ext (HX.out.trans (x5.trans xq))
          obtain ⟨PB, cc, u, hPv, _, _, hu, hcell⟩ := own_at (hOi.pg HQ.out.1) (k := c) (by rw [← HQ.out.2.1]; exact hct)
          rw [pgRow_get _ _ _ (by rw [← HQ.out.2.1]; exact hct)] at hu
          injection hu with hu
          subst hu
          rw [HQ.out.2.2] at hPv
          injection hPv with e1 e2 e3
          subst e1
          clear e2 e3
          have hby := hOi.by_ HQ.out.1 hp
          obtain ⟨A4, c4, hv4, _, _⟩ := own_form hby
          rw [hv4] at hcell hby
          have hqk := HH.out.ok.g q (List.mem_of_getElem? HQ.out.1)
          have hpl := hqk.pl _ (List.mem_of_getElem? hp)
          have rp : Rd wi A4 p.length p := ⟨Shows.of_own hby, hqk.pb _ (List.mem_of_getElem? hp)⟩
          have hpl2 : 1 ≤ p.length ∧ p.length ≤ 256 := by have := hqk.l1; have := hqk.l2; omega
          have HRP := Lib.hid rp
          have HPL := Lib.hid hpl2
          have HA := Lib.hid A
          have H3 := Lib.hid hv3
          have H0 := Lib.hid hv0
          have HTb := Lib.hid hTb
          have HPP := Lib.hid hp
          clear A hv3 hv0 hTb hqk hpl rp hby hv4 hOi hp hpl2
          go_upto_region 12 with (go_at_call 31; (refine (cl_any _ HRP.out (by have := HPL.out; omega)).mono ?_); rintro e w7 ⟨v7, rfl, x7, o7⟩; obtain ⟨vc, Tc, A7, hc3, hc0, hc4, hTc⟩ := page_put hk' HA.out (by rw [List.length_take]; have := HQ.out.2.1; omega) H3.out H0.out x7 HPL.out.1 o7 HTb.out (by have := HX.out.size; have := x5.size; have := xq.size; omega); obtain ⟨⟨u7, hcell7⟩, hfz7⟩ := lay_facts A7 hc3 hct; obtain ⟨B7, c7, rfl, _, _⟩ := o7.form (by have := HPL.out; omega); have HA7 := Lib.hid A7; have HC := Lib.hid (And.intro hc3 (And.intro hc0 (And.intro hc4 hTc))); clear A7 hc3 hc0 hc4 hTc)
          go_wp2
          go_roundw
          case rel => exact ⟨c + 1, vc, Tc, by go_num, by omega, by rw [List.take_add_one, HPP.out]; exact lay_new hk' HA7.out HC.out.1 hct HC.out.2.2.1, HC.out.1, HC.out.2.1, HC.out.2.2.2, (xq.trans x7).setCell (by rw [HP.out]; exact Nat.le_refl _) _⟩
          case measure => simp [intOf]; omega
        · obtain rfl : c = np := by omega
          have hap := A
          rw [show q.pages.take c = q.pages from by rw [HQ.out.2.1, List.take_length]] at hap
          have kk4 : k < 4 := by omega
          obtain ⟨rA2, rc2, sA2, sc2, hsv, hrv, KG, own7⟩ := nobj hk' hap hv0
          have k5i := (xq.block _ (blk_lt HK.out)).trans HK.out
          have HA := Lib.hid hap
          have H3 := Lib.hid hv3
          have H0 := Lib.hid hv0
          have HTb := Lib.hid hTb
          have HSG := Lib.hid hsv
          have HOK := Lib.hid (show ((s.pre k).add q).ok by rw [pre_add HQ.out.1]; exact pre_ok HH.out.ok _)
          have HLN := Lib.hid (show q.pages.length = c from HQ.out.2.1.symm)
          have XI := HX.out.trans (x5.trans xq)
          have hFS : ∀ b, Value.ownBlock (.slice sA2 k sc2) = some b → Tb b ≠ none := fun b e => by
            have := HA.out.tag (2, 0, 0) _ (by rw [nspec_other _ _ _ _ _ _ (by simp) (by simp)]; rfl) b (by rw [HSG.out]; exact e)
            rw [this]; simp
          have hFG : Tb g ≠ none := by
            have := HA.out.tag (0, 0, 0) _ (by rw [nspec_other _ _ _ _ _ _ (by simp) (by simp)]; rfl) g (by rw [H0.out]; rfl)
            rw [this]; simp
          have HFF := Lib.hid (And.intro hFS hFG)
          have OW7 := Lib.hid own7
          clear A hap hv3 hv0 hTb hsv hrv hFS hFG own7
          go_upto_region 13 with (fail)
          refine wp_regionL (Kept (fun b => Tb b ≠ none) wi) (Ext wi) 10 (by kernel_rfl) (Kept.of_ext (Ext.refl _).drew) ((Ext.refl _).drew) (fun hL => ?_)
          have hP := hL.1
          have hE : Ext wi (World.drew wi) := (Ext.refl _).drew
          obtain ⟨wD1, hwD⟩ : ∃ V, V = World.drew wi := ⟨_, rfl⟩
          rw [← hwD] at hL hP hE ⊢
          clear hwD
          refine wpAnyL_takeP (i := 0) (oi := { dst := some 45, op := Op.move (Operand.tmp 3), type := 28, pos := "mem.go:177", after := #[], guard := none }) (v := ?vv2_13_0) rfl (by kernel_rfl) (by kernel_rfl) (by kernel_rfl) (by kernel_rfl) (fun _ _ _ h => h) (Or.inl ⟨by rfl, ?yy2_13_0⟩) hL (fun hL => ?_)
          case yy2_13_0 => (intro W hx; go_simp; try with_reducible rfl)
          simp only [Act.put, List.setIfInBounds_toArray, List.set_cons_zero, List.set_cons_succ]
          refine wpAnyL_takeP (i := 1) (oi := { dst := some 46, op := Op.move (Operand.tmp 3), type := 28, pos := "mem.go:177", after := #[], guard := none }) (v := ?vv3_13_1) rfl (by kernel_rfl) (by kernel_rfl) (by kernel_rfl) (by kernel_rfl) (fun _ _ _ h => h) (Or.inl ⟨by rfl, ?yy3_13_1⟩) hL (fun hL => ?_)
          case yy3_13_1 => (intro W hx; go_simp; try with_reducible rfl)
          simp only [Act.put, List.setIfInBounds_toArray, List.set_cons_zero, List.set_cons_succ]
          refine wpAnyL_takeP (i := 2) (oi := { dst := some 47, op := Op.nilCheck (Operand.tmp 46), type := 0, pos := "mem.go:177", after := #[{ on := 1, ground := Ground.data }], guard := none }) (v := ?vv4_13_2) rfl (by kernel_rfl) (by kernel_rfl) (by kernel_rfl) (by kernel_rfl) (fun _ _ _ h => h) (Or.inl ⟨by rfl, ?yy4_13_2⟩) hL (fun hL => ?_)
          case yy4_13_2 => (intro W hx; go_simp; try with_reducible rfl)
          simp only [Act.put, List.setIfInBounds_toArray, List.set_cons_zero, List.set_cons_succ]
          refine wpAnyL_takeP (i := 3) (oi := { dst := some 48, op := Op.fieldAddr 62 (Operand.tmp 47) 1, type := 0, pos := "mem.go:177", after := #[{ on := 2, ground := Ground.data }], guard := none }) (v := ?vv5_13_3) rfl (by kernel_rfl) (by kernel_rfl) (by kernel_rfl) (by kernel_rfl) (fun _ _ _ h => h) (Or.inl ⟨by rfl, ?yy5_13_3⟩) hL (fun hL => ?_)
          case yy5_13_3 => (intro W hx; go_simp; try with_reducible rfl)
          simp only [Act.put, List.setIfInBounds_toArray, List.set_cons_zero, List.set_cons_succ]
          refine wpAnyL_takeB (i := 4) [10] (oi := { dst := some 49, op := Op.load 60 (Operand.tmp 48), type := 60, pos := "mem.go:177", after := #[{ on := 3, ground := Ground.data }], guard := none }) (v := ?vv6_13_4) rfl (by kernel_rfl) (by kernel_rfl) (by kernel_rfl) (by kernel_rfl) (fun _ _ _ h => h) (by kernel_rfl) (Or.inl ⟨by rfl, ?yy6_13_4⟩) hL (fun hL => ?_)
          case yy6_13_4 => (intro W hx; obtain ⟨e0, e1⟩ := cells2 ((hx.2.block _ (blk_lt KG)).trans KG); go_simp; try with_reducible rfl)
          simp only [Act.put, List.setIfInBounds_toArray, List.set_cons_zero, List.set_cons_succ]
          refine wpAnyL_takeP (i := 5) (oi := { dst := some 50, op := Op.move (Operand.tmp 6), type := 23, pos := "mem.go:177", after := #[], guard := none }) (v := ?vv7_13_5) rfl (by kernel_rfl) (by kernel_rfl) (by kernel_rfl) (by kernel_rfl) (fun _ _ _ h => h) (Or.inl ⟨by rfl, ?yy7_13_5⟩) hL (fun hL => ?_)
          case yy7_13_5 => (intro W hx; go_simp; try with_reducible rfl)
          simp only [Act.put, List.setIfInBounds_toArray, List.set_cons_zero, List.set_cons_succ]
          refine wpAnyL_takeP (i := 6) (oi := { dst := some 51, op := Op.fieldAddr 64 (Operand.tmp 5) 1, type := 0, pos := "mem.go:177", after := #[], guard := none }) (v := ?vv8_13_6) rfl (by kernel_rfl) (by kernel_rfl) (by kernel_rfl) (by kernel_rfl) (fun _ _ _ h => h) (Or.inl ⟨by rfl, ?yy8_13_6⟩) hL (fun hL => ?_)
          case yy8_13_6 => (intro W hx; go_simp; try with_reducible rfl)
          simp only [Act.put, List.setIfInBounds_toArray, List.set_cons_zero, List.set_cons_succ]
          refine wpAnyL_takeB (i := 7) [8, 9, 10] (oi := { dst := some 52, op := Op.load 56 (Operand.tmp 51), type := 56, pos := "mem.go:177", after := #[{ on := 6, ground := Ground.data }], guard := none }) (v := ?vv9_13_7) rfl (by kernel_rfl) (by kernel_rfl) (by kernel_rfl) (by kernel_rfl) (fun _ _ _ h => h) (by kernel_rfl) (Or.inl ⟨by rfl, ?yy9_13_7⟩) hL (fun hL => ?_)
          case yy9_13_7 => (intro W hx; obtain ⟨e0, e1, e2⟩ := cells3 ((hx.2.block _ (blk_lt k5i)).trans k5i); go_simp; try with_reducible rfl)
          simp only [Act.put, List.setIfInBounds_toArray, List.set_cons_zero, List.set_cons_succ]
          refine wpAnyL_takeP (i := 8) (oi := { dst := some 53, op := Op.build 64 #[(0, Operand.tmp 50), (1, Operand.tmp 52)], type := 64, pos := "mem.go:177", after := #[{ on := 5, ground := Ground.data }, { on := 7, ground := Ground.data }], guard := none }) (v := ?vv10_13_8) rfl (by kernel_rfl) (by kernel_rfl) (by kernel_rfl) (by kernel_rfl) (fun _ _ _ h => h) (Or.inl ⟨by rfl, ?yy10_13_8⟩) hL (fun hL => ?_)
          case yy10_13_8 => (intro W hx; go_simp; try with_reducible rfl)
          simp only [Act.put, List.setIfInBounds_toArray, List.set_cons_zero, List.set_cons_succ]
          refine wpAnyL_ready (rs := [9]) (by kernel_rfl) (by simp) (AllReadyL.cons rfl (fun K hK => ?_) AllReadyL.nil)
          go_simp
          obtain ⟨w8, hw⟩ : ∃ V, V = World.alloc wD1 (.cells #[.slice (some ⟨P, 0, none⟩) c c, .int .i64 (q.a : Int), .int .i64 (q.x : Int)] 64) := ⟨_, rfl⟩
          rw [← hw]
          have xb : Ext wD1 w8 := by rw [hw]; exact (Ext.refl _).alloc _
          have kb : (World.heap w8)[(World.heap wD1).size]? = some (.cells #[.slice (some ⟨P, 0, none⟩) c c, .int .i64 (q.a : Int), .int .i64 (q.x : Int)] 64) := by rw [hw]; exact heap_alloc_new _ _
          have sh8 : Shows w8 3 (some ⟨(World.heap wD1).size, 0, none⟩) 1 [.slice (some ⟨P, 0, none⟩) c c, .int .i64 (q.a : Int), .int .i64 (q.x : Int)] := by rw [hw]; exact shows3 rfl
          clear hw
          replace hE := hE.trans xb
          replace hP := hP.then xb
          clear hL
          refine hK.out _ _ ⟨hP, fun e => hE⟩ (fun hL => ?_)
          clear hK K
          refine wpAnyL_ready (rs := [10]) (by kernel_rfl) (by simp) (AllReadyL.cons rfl (fun K hK => ?_) AllReadyL.nil)
          rw [if_pos (by rfl)]
          have xE : Ext wi w8 := hE; refine wp_appB (o := { dst := some 55, op := Op.call { callee := Callee.builtin Builtin.append, args := #[Operand.tmp 49, Operand.tmp 54], argTypes := #[60, 60] }, type := 60, pos := "mem.go:177", after := #[{ on := 4, ground := Ground.data }, { on := 9, ground := Ground.data }], guard := none }) el60 _ _ rfl (own_ext OW7.out hE) rfl sh8 rfl one3 (le_max (by omega)) (by omega) (Nat.zero_le _) ?_; intro v9 w9 own9 gr9 at9; obtain ⟨B9, c9, rfl, _, _⟩ := own9.form (by omega); obtain ⟨va9, T9, ⟨hfz9, u9, hcell9⟩, M9, hT9⟩ := mem_addK hk' (HA.out.ext xE) H0.out H3.out HOK.out HLN.out HSG.out own9 gr9 at9; have HM9 := Lib.hid M9; clear M9
          simp only [Act.put, List.setIfInBounds_toArray, List.set_cons_zero, List.set_cons_succ]
          replace hP := hP.trans' (Kept.of_grown gr9 (fun b e => HFF.out.1 b e))
          clear hE
          clear hL
          refine hK.out _ _ ⟨hP, fun e => absurd e (by simp)⟩ (fun hL => ?_)
          clear hK K
          refine wpAnyL_takeP (i := 11) (oi := { dst := some 56, op := Op.nilCheck (Operand.tmp 45), type := 0, pos := "mem.go:177", after := #[{ on := 0, ground := Ground.data }, { on := 0, ground := Ground.phase }, { on := 1, ground := Ground.phase }, { on := 2, ground := Ground.phase }, { on := 3, ground := Ground.phase }, { on := 4, ground := Ground.phase }, { on := 5, ground := Ground.phase }, { on := 6, ground := Ground.phase }, { on := 7, ground := Ground.phase }, { on := 8, ground := Ground.phase }, { on := 9, ground := Ground.phase }, { on := 10, ground := Ground.phase }], guard := none }) (v := ?vv11_13_11) rfl (by kernel_rfl) (by kernel_rfl) (by kernel_rfl) (by kernel_rfl) (fun _ _ _ h => h) (Or.inl ⟨by rfl, ?yy11_13_11⟩) hL (fun hL => ?_)
          case yy11_13_11 => (intro W hx; go_simp; try with_reducible rfl)
          simp only [Act.put, List.setIfInBounds_toArray, List.set_cons_zero, List.set_cons_succ]
          refine wpAnyL_takeP (i := 12) (oi := { dst := some 57, op := Op.fieldAddr 62 (Operand.tmp 56) 1, type := 0, pos := "mem.go:177", after := #[{ on := 11, ground := Ground.data }, { on := 0, ground := Ground.phase }, { on := 1, ground := Ground.phase }, { on := 2, ground := Ground.phase }, { on := 3, ground := Ground.phase }, { on := 4, ground := Ground.phase }, { on := 5, ground := Ground.phase }, { on := 6, ground := Ground.phase }, { on := 7, ground := Ground.phase }, { on := 8, ground := Ground.phase }, { on := 9, ground := Ground.phase }, { on := 10, ground := Ground.phase }], guard := none }) (v := ?vv12_13_12) rfl (by kernel_rfl) (by kernel_rfl) (by kernel_rfl) (by kernel_rfl) (fun _ _ _ h => h) (Or.inl ⟨by rfl, ?yy12_13_12⟩) hL (fun hL => ?_)
          case yy12_13_12 => (intro W hx; go_simp; try with_reducible rfl)
          simp only [Act.put, List.setIfInBounds_toArray, List.set_cons_zero, List.set_cons_succ]
          refine wpAnyL_ready (rs := [13]) (by kernel_rfl) (by simp) (AllReadyL.cons rfl (fun K hK => ?_) AllReadyL.nil)
          rw [if_pos (by rfl)]
          refine wp_stset (o := { dst := none, op := Op.store 60 (Operand.tmp 57) (Operand.tmp 55), type := 0, pos := "mem.go:177", after := #[{ on := 12, ground := Ground.data }, { on := 10, ground := Ground.data }, { on := 10, ground := Ground.chain }, { on := 0, ground := Ground.phase }, { on := 1, ground := Ground.phase }, { on := 2, ground := Ground.phase }, { on := 3, ground := Ground.phase }, { on := 4, ground := Ground.phase }, { on := 5, ground := Ground.phase }, { on := 6, ground := Ground.phase }, { on := 7, ground := Ground.phase }, { on := 8, ground := Ground.phase }, { on := 9, ground := Ground.phase }, { on := 10, ground := Ground.phase }], guard := none }) (v := .slice (some ⟨B9, 0, none⟩) (k + 1) c9) 60 _ _ rfl hcell9 hfz9 rfl rfl size60 rfl (fun c e => by cases e) ?_; obtain ⟨w10, hw10, gr10⟩ : ∃ V, V = World.setCell w9 ⟨g, 1, none⟩ (.slice (some ⟨B9, 0, none⟩) (k + 1) c9) ∧ w9.grownBy V (some g) := ⟨_, rfl, set_grown _ _ _ _⟩; rw [← hw10]
          simp only [Act.put]
          replace hP := hP.trans' (Kept.of_grown gr10 (fun b e => by injection e with e; subst e; exact HFF.out.2))
          clear hL
          refine hK.out _ _ ⟨hP, fun e => absurd e (by simp)⟩ (fun hL => ?_)
          clear hK K
          refine wpAnyL_done (by kernel_rfl) ?_ _
          rw [← hw10] at HM9
          clear hw10
          go_wp2
          go_roundw
          case rel => exact ⟨k + 1, va9, T9, by go_num, by omega, by rw [← pre_add HQ.out.1]; exact HM9.out, fun b t hb => (hT9 b t hb).elim (fun h => by obtain ⟨t', ht'⟩ := Option.ne_none_iff_exists'.1 h; exact HTb.out b t' ht') (fun h => by have := XI.size; have := xE.size; omega), XI.kept hP (fun b hb => by obtain ⟨t', ht'⟩ := Option.ne_none_iff_exists'.1 hb; exact HTb.out b t' ht')⟩
          case measure => simp [intOf]; omega
    · obtain rfl : k = sn := by omega
      have HM := Lib.hid M
      have HT := Lib.hid hT
      clear M hT
      go_wp2
      go_ret
      exact ⟨g, va, T, rfl, xr, by have := HM.out; rw [HN.out.2, pre_all] at this; exact this, HT.out⟩
end Go.Proofs.Ytjgmnbfadnlikaa
