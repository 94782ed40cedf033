import Derived.Test.YtpjficfmmfdbjaaVE
set_option linter.unusedVariables false
set_option linter.unusedSimpArgs false
namespace Go.Proofs.Ytpjficfmmfdbjaa
open Go.RowKit
theorem wpList_ldrowG {P : Program} {w : World} {ops : Array Oper} {rest : List Oper} {o : Oper} {a : Act} {Q : Exit → Act → World → Prop} (hw : Region.wanted o (yielded ops a.tmps) = true) (ty : TypeId) (x : Operand) (ho : o.op = .load ty x)
    {g : Nat} {cs : Array Value} {t : TypeId} {fr : Nat × Nat} (hg : w.heap[g]? = some (.cells cs t fr)) (hx : a.eval x = .pointer (some ⟨g, 0, none⟩)) {d : TypeDesc}
    (hu : P.underlying ty = some d) (hd : (match d with | .struct _ | .array _ _ => true | _ => false) = true) (hi : (P.info? ty).map (·.size) = some cs.size)
    (h : wpList P ops Q rest (a.put o.dst (.agg cs)) w) : wpList P ops Q (o :: rest) a w :=
  BigFrame.wpList_want hw fun _ hK => wp_load_row ty x ho g hx t cs fr d hg hu hd hi (hK _ _ h)
theorem sys_set : ∀ {M : List Sy} {k : Nat} {y y' : Sy} {r : Nat} {u : Value}, M[k]? = some y → r < 8 → y'.vals = y.vals.set r u → (sys M).set (k * 8 + r) u = sys (M.set k y')
  | [], _, _, _, _, _, h, _, _ => by simp at h
  | x :: M, 0, y, y', r, u, h, hr, hv => by
    simp at h
    subst h
    simp only [sys, List.flatMap_cons, List.set_cons_zero, Nat.zero_mul, Nat.zero_add]
    rw [List.set_append_left _ _ (by rw [sy_len]; exact hr), hv]
  | x :: M, k + 1, y, y', r, u, h, hr, hv => by
    have ih := sys_set (M := M) (k := k) (by simpa using h) hr hv
    simp only [sys] at ih
    simp only [sys, List.flatMap_cons, List.set_cons_succ]
    rw [List.set_append_right _ _ (by rw [sy_len]; omega), sy_len, ← ih, show (k + 1) * 8 + r - 8 = k * 8 + r by omega]
theorem name_ne {y : Sy} (h : y.may = true) : y.s ≠ ⟨#[]⟩ := by
  intro e
  unfold Sy.may mayS nameB at h
  rw [e, show (⟨#[]⟩ : ByteArray).size = 0 from rfl] at h
  simp at h
/-- a row of names of one's own, whatever they are. -/
def Row (w : World) (g n c : Nat) : Prop := ∃ M : List Sy, M.length = n ∧ w.ownsRow 0 24 8 (.slice (some ⟨g, 0, none⟩) n c) n (sys M)
theorem row_at {w : World} {g n c k : Nat} (h : Row w g n c) (hk : k < n) : ∃ y : Sy, w.cell? ⟨g, k * 8, none⟩ = some (.string y.s) ∧ w.cell? ⟨g, k * 8 + 2, none⟩ = some (.int .u32 y.aa) ∧ w.frozen? ⟨g, k * 8, none⟩ = false ∧
    ∀ (s : ByteArray) (z : Int), ((w.setCell ⟨g, k * 8, none⟩ (.string s)).cell? ⟨g, k * 8 + 2, none⟩ = some (.int .u32 y.aa) ∧ (w.setCell ⟨g, k * 8, none⟩ (.string s)).frozen? ⟨g, k * 8 + 2, none⟩ = false) ∧
      Row ((w.setCell ⟨g, k * 8, none⟩ (.string s)).setCell ⟨g, k * 8 + 2, none⟩ (.int .u32 z)) g n c := by
  obtain ⟨M, hM, own⟩ := h
  obtain ⟨y, hy⟩ : ∃ y, M[k]? = some y := ⟨_, List.getElem?_eq_getElem (by omega)⟩
  have c0 := flat_at sy_len M k y 0 _ hy rfl
  have c2 := flat_at sy_len M k y 2 _ hy rfl
  obtain ⟨g1, c1, e, own1, _, f1, k1, _⟩ := own_set own (i := k * 8 + 0) (by omega) (.string ⟨#[]⟩)
  obtain ⟨g2, c3, e2, _, _, f2, k2, _⟩ := own_set own (i := k * 8 + 2) (by omega) (.string ⟨#[]⟩)
  injection e with e _ _
  injection e with e
  injection e with e
  subst e
  injection e2 with e2 _ _
  injection e2 with e2
  injection e2 with e2
  subst e2
  rw [show (sys M)[k * 8 + 0]? = some (.string y.s) from c0] at k1
  rw [show (sys M)[k * 8 + 2]? = some (.int .u32 y.aa) from c2] at k2
  simp only [Nat.add_zero] at k1 f1
  refine ⟨y, k1, k2, f1, fun s z => ?_⟩
  obtain ⟨g3, c4, e3, own3, _, _, _, _⟩ := own_set own (i := k * 8 + 0) (by omega) (.string s)
  injection e3 with e3 _ _
  injection e3 with e3
  injection e3 with e3
  subst e3
  simp only [Nat.add_zero] at own3
  rw [show (sys M).set (k * 8) (.string s) = sys (M.set k { y with s := s }) from sys_set (r := 0) hy (by omega) rfl] at own3
  have hy3 : (M.set k { y with s := s })[k]? = some { y with s := s } := by rw [List.getElem?_set]; simp; omega
  have d2 := flat_at sy_len (M.set k { y with s := s }) k _ 2 _ hy3 rfl
  obtain ⟨g5, c6, e5, own5, _, f5, k5, _⟩ := own_set own3 (i := k * 8 + 2) (by omega) (.int .u32 z)
  injection e5 with e5 _ _
  injection e5 with e5
  injection e5 with e5
  subst e5
  rw [show (sys (M.set k { y with s := s }))[k * 8 + 2]? = some (.int .u32 y.aa) from d2] at k5
  rw [show (sys (M.set k { y with s := s })).set (k * 8 + 2) (.int .u32 z) = sys ((M.set k { y with s := s }).set k { y with s := s, aa := z }) from sys_set (r := 2) hy3 (by omega) rfl] at own5
  exact ⟨⟨k5, f5⟩, _, by simp [hM], own5⟩
set_option maxRecDepth 100000 in
set_option maxHeartbeats 8000000 in
theorem SymOwn_law (w : World) (A : Option Addr) (n c : Nat) (l : List Sy) (hs : Shows w 8 A n (sys l)) (hn : n = l.length) (hnc : n ≤ c) (hcm : c ≤ maxLen) (hok : ∀ y ∈ l, y.ok) :
    Calls Try.prog 8 #[.slice A n c] w fun e w' => e = .returned (.bool true) ∧ Ext w w' := by
  have HF := Lib.hid (fun W (x : Ext w W) => few_any (hs.ext x) hn hnc hcm hok)
  have HO := Lib.hid (cuts_ok hok)
  obtain ⟨L, hL⟩ : ∃ L, L = cuts l := ⟨_, rfl⟩
  have hL70 : L.length ≤ 70 := by rw [hL, cuts_len]; omega
  rw [← hL] at HF HO
  clear hs hn hnc hcm hok hL
  obtain ⟨ln, hln⟩ : ∃ z, z = L.length := ⟨_, rfl⟩
  have hl70 : ln ≤ 70 := by omega
  have HLN := Lib.hid hln
  clear hln hL70
  by_cases hE : newE L = 0
  · have HE := Lib.hid hE
    clear hE
    go_enter Try.func8, Try.ntmps8
    go_upto_region 2 with (go_at_call 14; (refine (shown_any _).mono ?_); rintro e w1 ⟨rfl, x1⟩)
    go_upto_region 3 with (go_at_call 9; (refine (HF.out _ x1).mono ?_); rintro e w2 ⟨v2, rfl, x2, own2⟩; obtain ⟨A2, c2, rfl, hc2, hm2, _⟩ := own_form own2)
    have HW2 := Lib.hid own2
    have HX2 := Lib.hid (x1.trans x2)
    clear own2
    go_upto_region 4 with (go_at_call 17; (refine (new_any (Shows.of_own HW2.out) rfl HO.out).mono ?_); rw [HE.out]; rintro e w3 ⟨p, rfl, x3, hT3, -⟩)
    obtain ⟨g, rfl, T3⟩ := hT3 trivial
    have HT3 := Lib.hid T3
    clear hT3 T3
    go_upto_region 6 with (first
      | (go_at_call 19; (refine (find_nil _ _).mono ?_); rintro e w4 ⟨rfl, x4⟩)
      | refine wpList_stnew rfl 24 _ _ rfl rfl zsy.vals rfl rfl size24 rfl (sy_one zsy) ?_)
    obtain ⟨w5, hw5⟩ : ∃ V, V = w4.alloc (.cells zsy.vals.toArray 24) := ⟨_, rfl⟩
    have x5 : Ext w4 w5 := by rw [hw5]; exact (Ext.refl _).alloc _
    rw [← hw5]
    clear hw5
    have HX5 := Lib.hid (x3.trans (x4.trans x5))
    have HSH := Lib.hid (Shows.of_own HW2.out)
    have hll : L.length ≤ 70 := by have := HLN.out; omega
    go_upto_region 9 with (at_builtin; refine wpList_app el26' rfl _ _ rfl (World.ownsRow_made w5 #[] 0 (Nat.le_refl _) (by simp) rfl) rfl ((HSH.out.ext HX5.out).ext ((Ext.refl w5).alloc _)) rfl (sys_one _) (le_max (by omega)) (by omega) rfl ((Ext.refl w5).alloc _) ?_; intro v9 w9 own9 x9 hg9 hat9; simp only [List.nil_append, Nat.zero_add] at own9)
    have HO9 := Lib.hid own9
    have HX9 := Lib.hid (HX2.out.trans (HX5.out.trans x9))
    have HT9 := Lib.hid (HT3.out.ext (x4.trans (x5.trans x9)))
    have HW9 := Lib.hid (own_ext HW2.out (HX5.out.trans x9))
    have H95 := Lib.hid (show w2.heap.size ≤ w5.heap.size from HX5.out.size)
    obtain ⟨A9, c9, rfl, hc9, hm9, _⟩ := own_form own9
    clear own9 hg9 hat9 hm2 hm9 hll
    rw [← HLN.out]
    rw [← HLN.out] at hc2 hc9
    go_upto_region 10 with (fail)
    go_loopw [59] (fun v wr => ∃ k : Nat, v = .int .i64 k ∧ k ≤ ln ∧ Kept (fun b => Value.ownBlock (.slice A2 ln c2) = some b) w9 wr ∧ (∀ gx, A2 = some ⟨gx, 0, none⟩ → Row wr gx ln c2)) (fun v _ => ln - (intOf v).toNat)
    case atStart => exact ⟨0, rfl, Nat.zero_le _, Kept.refl _ _, fun gx e => ⟨L, HLN.out.symm, by have := own_base HW9.out (Nat.zero_le _); rw [← HLN.out, e] at this; exact this⟩⟩
    case round =>
      obtain ⟨k, rfl, hk, kp, hrow⟩ := hrel
      obtain ⟨wo, rfl⟩ : ∃ z : World, z = wr := ⟨_, rfl⟩
      have HKP := Lib.hid kp
      clear kp
      by_cases hlt : k < ln
      · have hkn : (k : Int) < ln := by omega
        obtain ⟨gx, c6, e6, _, _⟩ := HW9.out.form (by have := HLN.out; omega)
        injection e6 with e6 _ _
        subst e6
        obtain ⟨y, q0, q2, f0, hnew⟩ := row_at (hrow gx rfl) hlt
        obtain ⟨z, hz⟩ : ∃ z, IntKind.u32.wrap (y.aa + 1) = z := ⟨_, rfl⟩
        obtain ⟨⟨q2b, f2b⟩, _⟩ := hnew ⟨#[111, 116, 104, 101, 114]⟩ z
        have HN := Lib.hid (fun z => (hnew ⟨#[111, 116, 104, 101, 114]⟩ z).2)
        clear hnew hrow
        go_upto_region 13 with (fail)
        obtain ⟨w6, hw6⟩ : ∃ V, V = (wo.setCell ⟨gx, k * 8, none⟩ (.string ⟨#[111, 116, 104, 101, 114]⟩)).setCell ⟨gx, k * 8 + 2, none⟩ (.int .u32 z) := ⟨_, rfl⟩
        have HR6 := Lib.hid (show Row w6 gx ln c2 by rw [hw6]; exact HN.out z)
        have HK6 := Lib.hid (show Kept (fun b => Value.ownBlock (.slice (some ⟨gx, 0, none⟩) ln c2) = some b) w9 w6 by
          rw [hw6]
          exact (HKP.out.trans' (Kept.of_set _ rfl)).trans' (Kept.of_set _ rfl))
        rw [← hw6]
        clear hw6 q0 q2 f0 q2b f2b hz
        go_wp2
        go_roundw
        case rel => exact ⟨k + 1, by go_num, by omega, HK6.out, fun g' e => by injection e with e; injection e with e; subst e; exact HR6.out⟩
        case measure => simp [intOf]; omega
      · obtain rfl : k = ln := by omega
        have HT10 := Lib.hid (HT9.out.kept HKP.out (fun b hb _ hF => by
          have := (HW2.out.lt b (by rw [← HLN.out]; exact hF)).2
          omega))
        have HO10 := Lib.hid (own_keptF HO9.out HKP.out (fun b hb hF => by
          have h1 := (HO9.out.lt b hb).1
          have h2 := (HW2.out.lt b (by rw [← HLN.out]; exact hF)).2
          have := H95.out
          omega))
        have HX10 := Lib.hid (HX9.out.kept HKP.out (fun b hF => by
          have h1 := (HW2.out.lt b (by rw [← HLN.out]; exact hF)).1
          have := x1.size
          omega))
        clear hrow
        go_upto_region 15 with (fail)
        go_loopw [79] (fun v wr => ∃ j : Nat, v = .int .i64 j ∧ j ≤ k ∧ Ext wo wr) (fun v _ => k - (intOf v).toNat)
        case atStart => exact ⟨0, rfl, Nat.zero_le _, Ext.refl _⟩
        case round =>
          obtain ⟨j, rfl, hj, xr⟩ := hrel
          obtain ⟨wq, rfl⟩ : ∃ z : World, z = wr := ⟨_, rfl⟩
          by_cases hjl : j < k
          · have hjI : (j : Int) < k := by omega
            obtain ⟨y, hy⟩ : ∃ y, L[j]? = some y := ⟨_, List.getElem?_eq_getElem (by have := HLN.out; omega)⟩
            have h0 := newE_0 HE.out
            have hmem := List.mem_of_getElem? hy
            have HFY := Lib.hid (And.intro (findS_yes h0.2.2 hmem) (And.intro (HO.out y hmem).s (show y.may = true from List.all_eq_true.1 h0.2.1 y hmem)))
            have hso := Shows.of_own (own_ext HO10.out xr)
            rw [← HLN.out] at hso
            obtain ⟨b5, o5, hA', hb5, hr⟩ := Shows.row sy_len (by omega) hso HLN.out hy
            subst hA'
            clear hy h0 hmem hso
            go_upto_region 17 with (first | refine wpList_load_mid rfl 24 _ rfl _ _ rfl y.vals _ hr Try.underlying24 rfl size24 ?_ | refine wpList_stnew rfl 24 _ _ rfl rfl y.vals rfl rfl size24 rfl (sy_one y) ?_)
            obtain ⟨wa, hwa⟩ : ∃ V, V = wq.alloc (.cells y.vals.toArray 24) := ⟨_, rfl⟩
            have ka : wa.heap[wq.heap.size]? = some (.cells y.vals.toArray 24 (0, 0)) := by rw [hwa]; exact heap_alloc_new _ _
            have xa : Ext wq wa := by rw [hwa]; exact (Ext.refl _).alloc _
            rw [← hwa]
            clear hwa hr
            have m0 : wa.cell? ⟨wq.heap.size, 0, none⟩ = some (.string y.s) := blk_cell ka rfl
            have HKA := Lib.hid ka
            clear ka
            go_upto_region 18 with (first
              | (go_at_call 19; (refine (find_any (HT10.out.ext (xr.trans xa)) HFY.out.2.1).mono ?_); rw [HFY.out.1]; rintro e wb ⟨rfl, xb⟩)
              | refine wpList_stnew rfl 24 _ _ rfl rfl y.vals rfl rfl size24 rfl (sy_one y) ?_)
            obtain ⟨wc, hwc⟩ : ∃ V, V = wb.alloc (.cells y.vals.toArray 24) := ⟨_, rfl⟩
            have kc : wc.heap[wb.heap.size]? = some (.cells y.vals.toArray 24 (0, 0)) := by rw [hwc]; exact heap_alloc_new _ _
            have xc : Ext wb wc := by rw [hwc]; exact (Ext.refl _).alloc _
            rw [← hwc]
            clear hwc m0
            have kac := ((xb.trans xc).block _ (blk_lt HKA.out)).trans HKA.out
            have hne := run_neY y
            go_wp2_with (first
              | (go_at_call 15; (refine (may_sy y _ HFY.out.2.1).mono ?_); rw [HFY.out.2.2]; rintro e wd ⟨rfl, xd⟩)
              | refine wpList_ldrowG rfl 24 (.tmp 14) rfl kc rfl Try.underlying24 rfl size24 ?_
              | refine wpList_ldrowG rfl 24 (.tmp 13) rfl kac rfl Try.underlying24 rfl size24 ?_)
            go_roundw
            case rel => exact ⟨j + 1, by go_num, by omega, xr.trans (xa.trans (xb.trans (xc.trans xd)))⟩
            case measure => simp [intOf]; omega
          · obtain rfl : j = k := by omega
            have h0 := newE_0 HE.out
            have hl64 : (j : Int) ≤ 64 := by have := HLN.out; omega
            have HNO := Lib.hid (show findS L ⟨#[]⟩ = (zsy, false) from findS_no (fun hm => by
              obtain ⟨y, hy, e⟩ := List.mem_map.1 hm
              exact name_ne (List.all_eq_true.1 h0.2.1 y hy) e))
            clear h0
            go_upto_region 22 with (first
              | (go_at_call 19; (refine (find_any (s := ⟨#[]⟩) (HT10.out.ext xr) (Nat.zero_le _)).mono ?_); rw [HNO.out]; rintro e wb ⟨rfl, xb⟩)
              | refine wpList_stnew rfl 24 _ _ rfl rfl zsy.vals rfl rfl size24 rfl (sy_one zsy) ?_)
            obtain ⟨wc, hwc⟩ : ∃ V, V = wb.alloc (.cells zsy.vals.toArray 24) := ⟨_, rfl⟩
            have xc : Ext wb wc := by rw [hwc]; exact (Ext.refl _).alloc _
            rw [← hwc]
            clear hwc
            go_wp2
            go_ret
            exact ⟨by simp, HX10.out.trans (xr.trans (xb.trans xc))⟩
  · have hc3 := newE_cases L
    obtain ⟨ev, hev⟩ : ∃ e, e = newE L := ⟨_, rfl⟩
    rw [← hev] at hc3 hE
    have HEV := Lib.hid hev
    clear hev
    rcases hc3 with h | rfl | rfl | rfl
    · exact absurd h hE
    all_goals
      go_enter Try.func8, Try.ntmps8
      go_upto_region 2 with (go_at_call 14; (refine (shown_any _).mono ?_); rintro e w1 ⟨rfl, x1⟩)
      go_upto_region 3 with (go_at_call 9; (refine (HF.out _ x1).mono ?_); rintro e w2 ⟨v2, rfl, x2, own2⟩; obtain ⟨A2, c2, rfl, hc2, hm2, _⟩ := own_form own2)
      go_upto_region 4 with (go_at_call 17; (refine (new_any (Shows.of_own own2) rfl HO.out).mono ?_); rw [← HEV.out]; rintro e w3 ⟨p, rfl, x3, -, hT3⟩)
      obtain rfl := hT3 (by decide)
      clear hT3 own2 hm2
      go_upto_region 6 with (first
        | (go_at_call 19; (refine (find_nil _ _).mono ?_); rintro e w4 ⟨rfl, x4⟩)
        | refine wpList_stnew rfl 24 _ _ rfl rfl zsy.vals rfl rfl size24 rfl (sy_one zsy) ?_)
      obtain ⟨w5, hw5⟩ : ∃ V, V = w4.alloc (.cells zsy.vals.toArray 24) := ⟨_, rfl⟩
      have x5 : Ext w4 w5 := by rw [hw5]; exact (Ext.refl _).alloc _
      rw [← hw5]
      clear hw5
      go_wp2
      go_ret
      exact ⟨by simp, x1.trans (x2.trans (x3.trans (x4.trans x5)))⟩
end Go.Proofs.Ytpjficfmmfdbjaa
