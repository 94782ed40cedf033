import Derived.Test.YtdhdkjiphapliaaG
set_option linter.unusedVariables false
set_option linter.unusedSimpArgs false
namespace Go.Proofs.Ytdhdkjiphapliaa
open Go.RowKit
def P1 : Pk := ⟨0, 1, []⟩
def base4 : List Bool := [false, false, false, false]
def lostA (k m x : Nat) : List Bool := if k < m then base4.set x true else base4
def fillQ (k i x : Nat) : QS := ⟨k, List.replicate (min i k) P1, lostA k i x⟩
theorem lostA_len (k m x : Nat) : (lostA k m x).length = 4 := by unfold lostA; split <;> simp [base4]
theorem put_one {k x : Nat} {l : List Pk} {lost : List Bool} (code : Int) (hx : x < 4) (hc : code < 64) : (⟨k, l, lost⟩ : QS).put x [⟨0, code, []⟩] = if k < l.length + 1 then (false, ⟨k, l, lost.set x true⟩) else (true, ⟨k, l ++ [⟨0, if lost.getD x false then code + 64 else code, []⟩], lost.set x false⟩) := by
  unfold QS.put
  have hs : samp [⟨0, code, []⟩] = true := by simp [samp, hc]
  rw [if_neg (fun h => h.elim (fun h => h (by omega)) (fun h => by rw [hs] at h; cases h))]
  simp only [List.length_singleton, Int.toNat_natCast]
  split
  · rfl
  · simp only [mark]
    cases lost.getD x false <;> rfl
theorem fill_put (k i : Nat) {x : Nat} (hx : x < 4) : (fillQ k i x).put x [⟨0, 1, []⟩] = (decide (i < k), fillQ k (i + 1) x) := by
  unfold fillQ
  rw [put_one 1 hx (by decide)]
  have hbb : base4.set x false = base4 := by
    rcases (show x = 0 ∨ x = 1 ∨ x = 2 ∨ x = 3 by omega) with rfl | rfl | rfl | rfl <;> rfl
  have hbt : (base4.set x true).set x true = base4.set x true := by simp
  have hbg : base4.getD x false = false := by
    rcases (show x = 0 ∨ x = 1 ∨ x = 2 ∨ x = 3 by omega) with rfl | rfl | rfl | rfl <;> rfl
  rw [List.length_replicate]
  by_cases h : i < k
  · rw [if_neg (by omega), decide_eq_true h]
    have h1 : lostA k i x = base4 := by unfold lostA; rw [if_neg (by omega)]
    have h2 : lostA k (i + 1) x = base4 := by unfold lostA; rw [if_neg (by omega)]
    rw [h1, h2, hbg, hbb, show min (i + 1) k = min i k + 1 by omega, List.replicate_succ']
    rfl
  · rw [if_pos (by omega), decide_eq_false h]
    have h2 : lostA k (i + 1) x = base4.set x true := by unfold lostA; rw [if_pos (by omega)]
    have h1 : (lostA k i x).set x true = base4.set x true := by
      unfold lostA
      split
      · exact hbt
      · rfl
    rw [h1, h2, show min (i + 1) k = min i k by omega]
def drainQ (k m x t : Nat) : QS := ⟨k, List.replicate (min m k - t) P1, lostA k m x⟩
theorem fill_zero (k x : Nat) : fillQ k 0 x = .new k := by
  unfold fillQ QS.new lostA
  rw [if_neg (by omega), Nat.zero_min]
  rfl
theorem drain_zero (k m x : Nat) : fillQ k m x = drainQ k m x 0 := rfl
theorem drain_next (k m x t : Nat) : (drainQ k m x t).next = drainQ k m x (t + 1) := by
  unfold QS.next drainQ
  simp only
  rw [List.tail_replicate]
  rfl
theorem lost_y {k m x y : Nat} (hx : x < 4) (hy : y < 4) (h : x ≠ y) : (lostA k m x).getD y false = false := by
  unfold lostA
  split
  · rw [List.getD_eq_getElem?_getD, List.getElem?_set, if_neg h]
    rcases (show y = 0 ∨ y = 1 ∨ y = 2 ∨ y = 3 by omega) with rfl | rfl | rfl | rfl <;> rfl
  · rcases (show y = 0 ∨ y = 1 ∨ y = 2 ∨ y = 3 by omega) with rfl | rfl | rfl | rfl <;> rfl
theorem lost_x {k m x y : Nat} (hx : x < 4) (h : x ≠ y) : ((lostA k m x).set y false).getD x false = decide (k < m) := by
  rw [List.getD_eq_getElem?_getD, List.getElem?_set, if_neg (fun e => h e.symm), ← List.getD_eq_getElem?_getD]
  unfold lostA
  by_cases hk : k < m
  · rw [if_pos hk, decide_eq_true hk, List.getD_eq_getElem?_getD, List.getElem?_set, if_pos rfl, if_pos (by simp [base4]; omega)]
    rfl
  · rw [if_neg hk, decide_eq_false hk]
    rcases (show x = 0 ∨ x = 1 ∨ x = 2 ∨ x = 3 by omega) with rfl | rfl | rfl | rfl <;> rfl
/-- a queue beside a block that came later than its own. -/
def Qx (w0 w : World) (g : Nat) (s : QS) (b : Nat) : Prop := Ext w0 w ∧ ∃ rs va T, QuC w 54 g s rs va T ∧ (∀ b t, T b = some t → w0.heap.size ≤ b) ∧ T b = none ∧ b < w.heap.size
theorem Qx.of {w0 w w1 : World} {g : Nat} {s : QS} {b : Nat} (h : Qb w0 w g s) (x : Ext w w1) (h1 : w.heap.size ≤ b) (h2 : b < w1.heap.size) : Qx w0 w1 g s b := by
  obtain ⟨x0, rs, va, T, h3, h4⟩ := h
  refine ⟨x0.trans x, rs, va, T, h3.ext x, h4, ?_, h2⟩
  rcases e : T b with _ | t
  · rfl
  · have := h3.O.lt b t e; omega
theorem Qx.qb {w0 w : World} {g : Nat} {s : QS} {b : Nat} (h : Qx w0 w g s b) : Qb w0 w g s := by
  obtain ⟨x0, rs, va, T, h3, h4, _, _⟩ := h
  exact ⟨x0, rs, va, T, h3, h4⟩
theorem next_oneX {w0 w : World} {g : Nat} {s : QS} {b : Nat} (h : Qx w0 w g s b) {p : Pk} {l : List Pk} (hp : s.l = p :: l) : Calls Try.prog 14 #[.pointer (some ⟨g, 0, none⟩)] w fun e w' => ∃ r : Rp, r.pk = p ∧ e = .returned (.tuple #[.agg r.vals.toArray, .bool true]) ∧ Qx w0 w' g s.next b ∧ w'.heap[b]? = w.heap[b]? := by
  obtain ⟨x0, rs, va, T, h2, h3, h4, h5⟩ := h
  refine (next_some h2 hp).mono ?_
  rintro e w' ⟨r, a1, a2, _, _, h7⟩
  have hb := qb_of (rs := rs) (va := va) x0 h3 h7
  obtain ⟨rs', va', T', b1, b2, b3, _⟩ := h7
  refine ⟨r, a1, a2, ⟨hb.1, rs', va', T', b1, fun c t hc => ?_, ?_, Nat.lt_of_lt_of_le h5 b2.size⟩, b2.block b h5 (by simp [h4])⟩
  · rcases b3 c t hc with h | h
    · obtain ⟨t', ht'⟩ := Option.ne_none_iff_exists'.1 h
      exact h3 c t' ht'
    · exact Nat.le_trans x0.size h
  · rcases e : T' b with _ | t
    · rfl
    · rcases b3 b t e with h | h
      · exact absurd h4 h
      · omega
set_option maxRecDepth 100000 in
set_option maxHeartbeats 8000000 in
theorem QueueLists_law (w : World) (a b mn mo : Nat) (ha : a < 256) (hb : b < 256) (hmn : mn < 256) (hmo : mo < 256) : Calls Try.prog 6 #[.int .u8 (a : Int), .int .u8 (b : Int), .int .u8 (mn : Int), .int .u8 (mo : Int)] w fun e w' => e = .returned (.bool true) ∧ Ext w w' := by
  obtain ⟨x, hx, hxT, hxN, hx4⟩ : ∃ x : Nat, (a : Int) % 4 = (x : Int) ∧ (a : Int).tmod 4 = (x : Int) ∧ a % 4 = x ∧ x < 4 := ⟨a % 4, by omega, by rw [Int.tmod_eq_emod_of_nonneg (by omega)]; omega, rfl, Nat.mod_lt _ (by omega)⟩
  obtain ⟨y, hy, hyT, hyN, hy4⟩ : ∃ x : Nat, (b : Int) % 4 = (x : Int) ∧ (b : Int).tmod 4 = (x : Int) ∧ b % 4 = x ∧ x < 4 := ⟨b % 4, by omega, by rw [Int.tmod_eq_emod_of_nonneg (by omega)]; omega, rfl, Nat.mod_lt _ (by omega)⟩
  obtain ⟨m, hm, hmT, hmN, hm10⟩ : ∃ x : Nat, (mn : Int) % 10 = (x : Int) ∧ (mn : Int).tmod 10 = (x : Int) ∧ mn % 10 = x ∧ x < 10 := ⟨mn % 10, by omega, by rw [Int.tmod_eq_emod_of_nonneg (by omega)]; omega, rfl, Nat.mod_lt _ (by omega)⟩
  obtain ⟨k0, hk0, hk0T, hk0N, hk08⟩ : ∃ x : Nat, (mo : Int) % 8 = (x : Int) ∧ (mo : Int).tmod 8 = (x : Int) ∧ mo % 8 = x ∧ x < 8 := ⟨mo % 8, by omega, by rw [Int.tmod_eq_emod_of_nonneg (by omega)]; omega, rfl, Nat.mod_lt _ (by omega)⟩
  obtain ⟨k, hk⟩ : ∃ k, k = k0 + 1 := ⟨_, rfl⟩
  have hkI : (k0 : Int) + 1 = (k : Int) := by omega
  have hk1 : 1 ≤ k := by omega
  have hk8 : k ≤ 8 := by omega
  have bx : x < 9223372036854775808 := by omega
  have by_ : y < 9223372036854775808 := by omega
  have bm : m < 9223372036854775808 := by omega
  have bk0 : k0 < 9223372036854775808 := by omega
  have bk : k < 9223372036854775808 := by omega
  clear ha hb hmn hmo hk hk08 hxN hyN hmN hk0N
  by_cases hxy : x = y
  · subst hxy
    clear hm hmT hk0 hk0T hkI by_ bm bk0 bk
    have ux := wri x bx
    clear bx
    go_enter Try.func6, Try.ntmps6
    go_upto_region 2 with (go_at_call 8; (refine (shown_any _).mono ?_); rintro e w1 ⟨rfl, x1⟩)
    go_wp2
    go_ret
    exact ⟨rfl, x1⟩
  · have hne : ((x : Int) == (y : Int)) = false := by simp; omega
    have hne2 : ¬ ((x : Int) = (y : Int)) := by omega
    have HXY := Lib.hid hxy
    clear hxy
    have ux := wri x bx
    have uy := wri y by_
    have um := wri m bm
    have uk0 := wri k0 bk0
    have uk := wri k bk
    clear bx by_ bm bk0 bk
    go_enter Try.func6, Try.ntmps6
    go_upto_region 2 with (go_at_call 8; (refine (shown_any _).mono ?_); rintro e w1 ⟨rfl, x1⟩)
    go_upto_region 5 with (fail)
    clear hx hxT hy hyT hne hne2
    have HK1 := Lib.hid (And.intro hk1 (show k ≤ 64 from Nat.le_trans hk8 (by decide)))
    go_upto_region 7 with (go_at_call 9; (refine (new_b HK1.out.1 HK1.out.2 _).mono ?_); rintro e w2 ⟨g, rfl, Q2⟩)
    have HQ2 := Lib.hid Q2
    clear Q2 hk0 hk0T hkI uk0 uk
    go_upto_region 10 with (fail)
    clear um ux uy
    go_loopw [52] (fun v wr => ∃ (i : Nat), v = .int .i64 i ∧ i ≤ m ∧ Qb w1 wr g (fillQ k i x)) (fun v _ => m - (intOf v).toNat)
    case atStart => exact ⟨0, rfl, Nat.zero_le _, by rw [fill_zero]; exact HQ2.out⟩
    case round =>
      obtain ⟨i, rfl, hi, Q⟩ := hrel
      obtain ⟨wo, rfl⟩ : ∃ z : World, z = wr := ⟨_, rfl⟩
      have HQ := Lib.hid Q
      clear Q
      by_cases hlt : i < m
      · have him : (i : Int) < m := by omega
        by_cases hik : i < k
        · have hikI : (i : Int) < k := by omega
          have hd : decide (i < k) = true := decide_eq_true hik
          go_wp2_with (go_at_call 12; (refine (put_l1 HQ.out x 1 (by decide) rfl).mono ?_); rw [fill_put k i hx4, hd]; rintro e w3 ⟨rfl, Q3⟩; have HQ3 := Lib.hid Q3; clear Q3)
          go_roundw
          case rel => exact ⟨i + 1, by go_num, by omega, HQ3.out⟩
          case measure => simp [intOf]; omega
        · have hikI : ¬ (i : Int) < k := by omega
          have hd : decide (i < k) = false := decide_eq_false hik
          go_wp2_with (go_at_call 12; (refine (put_l1 HQ.out x 1 (by decide) rfl).mono ?_); rw [fill_put k i hx4, hd]; rintro e w3 ⟨rfl, Q3⟩; have HQ3 := Lib.hid Q3; clear Q3)
          go_roundw
          case rel => exact ⟨i + 1, by go_num, by omega, HQ3.out⟩
          case measure => simp [intOf]; omega
      · obtain rfl : i = m := by omega
        have um := wri i (by omega)
        go_upto_region 16 with (fail)
        clear um
        go_loopw [68] (fun v wr => ∃ (t : Nat), v = .int .i64 t ∧ t ≤ i ∧ Qb w1 wr g (drainQ k i x t)) (fun v _ => i - (intOf v).toNat)
        case atStart => exact ⟨0, rfl, Nat.zero_le _, by rw [← drain_zero]; exact HQ.out⟩
        case round =>
          obtain ⟨t, rfl, ht, Q⟩ := hrel
          obtain ⟨wi, rfl⟩ : ∃ z : World, z = wr := ⟨_, rfl⟩
          have HD := Lib.hid Q
          clear Q
          by_cases htl : t < i
          · have htm : (t : Int) < i := by omega
            by_cases h0 : min i k - t = 0
            · have HN := Lib.hid (next_none HD.out (show (drainQ k i x t).l = [] by unfold drainQ; rw [h0]; rfl))
              have HS := Lib.hid (show drainQ k i x t = drainQ k i x (t + 1) by unfold drainQ; rw [h0, show min i k - (t + 1) = 0 by omega])
              clear h0
              go_wp2_with (go_at_call 14; (refine HN.out.mono ?_); rintro e w3 ⟨rfl, -, Q3⟩; rw [HS.out] at Q3; have HQ3 := Lib.hid Q3; clear Q3)
              go_roundw
              case rel => exact ⟨t + 1, by go_num, by omega, HQ3.out⟩
              case measure => simp [intOf]; omega
            · obtain ⟨z, hz⟩ : ∃ z, min i k - t = z + 1 := ⟨min i k - t - 1, by omega⟩
              have HN := Lib.hid (next_one HD.out (p := P1) (l := List.replicate z P1) (show (drainQ k i x t).l = _ by unfold drainQ; rw [hz]; rfl))
              clear h0 hz
              go_wp2_with (go_at_call 14; (refine HN.out.mono ?_); rintro e w3 ⟨r3, -, rfl, -, Q3⟩; rw [drain_next] at Q3; have HQ3 := Lib.hid Q3; clear Q3)
              go_roundw
              case rel => exact ⟨t + 1, by go_num, by omega, HQ3.out⟩
              case measure => simp [intOf]; omega
          · obtain rfl : t = i := by omega
            have he : drainQ k t x t = ⟨k, [], lostA k t x⟩ := by unfold drainQ; rw [show min t k - t = 0 by omega]; rfl
            have hq := HD.out
            rw [he] at hq
            have HE := Lib.hid hq
            have hp1 : (⟨k, [], lostA k t x⟩ : QS).put y [⟨0, 2, []⟩] = (true, ⟨k, [⟨0, 2, []⟩], (lostA k t x).set y false⟩) := by
              rw [put_one 2 hy4 (by decide), if_neg (by simp; omega), lost_y hx4 hy4 HXY.out]
              rfl
            have HP1 := Lib.hid hp1
            have htm : (t : Int) < 10 := by omega
            have htb := wri t (by omega)
            clear hq he hp1
            by_cases hk2 : 1 < k
            · have hk2I : (1 : Int) < k := by omega
              obtain ⟨cd, hcd⟩ : ∃ cd : Int, cd = if decide (k < t) then 65 else 1 := ⟨_, rfl⟩
              have hp2 : (⟨k, [⟨0, 2, []⟩], (lostA k t x).set y false⟩ : QS).put x [⟨0, 1, []⟩] = (true, ⟨k, [⟨0, 2, []⟩, ⟨0, cd, []⟩], ((lostA k t x).set y false).set x false⟩) := by
                rw [put_one 1 hx4 (by decide), if_neg (by simp; omega), lost_x hx4 HXY.out, hcd]
                rfl
              have HP2 := Lib.hid hp2
              have HCD := Lib.hid hcd
              clear hp2 hcd
              go_upto_region 20 with (first
                | (go_at_call 12; (refine (put_l1 HO.out x 1 (by decide) rfl).mono ?_); rw [HP2.out]; rintro e w4 ⟨rfl, Q4⟩)
                | (go_at_call 12; (refine (put_l1 HE.out y 2 (by decide) rfl).mono ?_); rw [HP1.out]; rintro e w3 ⟨rfl, Q3⟩; have HO := Lib.hid Q3; clear Q3))
              have HQ4 := Lib.hid Q4
              clear Q4
              go_upto_region 21 with (first | (go_at_call 14; (refine (next_one HQ4.out rfl).mono ?_); rintro e w5 ⟨r5, hr5, rfl, -, Q5⟩; have HR5 := Lib.hid hr5; have HQ5 := Lib.hid Q5; clear Q5 hr5) | refine wpList_stnew rfl 38 _ _ rfl rfl r5.vals rfl rfl size38 rfl (rp_one r5) ?_)
              obtain ⟨w6, hw6⟩ : ∃ V, V = w5.alloc (.cells r5.vals.toArray 38) := ⟨_, rfl⟩
              have k6 : w6.heap[w5.heap.size]? = some (.cells r5.vals.toArray 38 (0, 0)) := by rw [hw6]; exact heap_alloc_new _ _
              have x6 : Ext w5 w6 := by rw [hw6]; exact (Ext.refl _).alloc _
              rw [← hw6]
              have HX6 := Lib.hid (Qx.of HQ5.out x6 (Nat.le_refl _) (blk_lt k6))
              have HK6 := Lib.hid k6
              have HR52 := Lib.hid (show r5.code = 2 from congrArg Pk.code HR5.out)
              clear hw6 k6
              go_upto_region 22 with (first | (go_at_call 14; (refine (next_oneX HX6.out rfl).mono ?_); rintro e w7 ⟨r7, hr7, rfl, Q7, hb7⟩; have HR7 := Lib.hid hr7; have HQ7 := Lib.hid Q7; have HB7 := Lib.hid hb7; clear Q7 hr7 hb7) | refine wpList_stnew rfl 38 _ _ rfl rfl r7.vals rfl rfl size38 rfl (rp_one r7) ?_)
              obtain ⟨w8, hw8⟩ : ∃ V, V = w7.alloc (.cells r7.vals.toArray 38) := ⟨_, rfl⟩
              have k8 : w8.heap[w7.heap.size]? = some (.cells r7.vals.toArray 38 (0, 0)) := by rw [hw8]; exact heap_alloc_new _ _
              have x8 : Ext w7 w8 := by rw [hw8]; exact (Ext.refl _).alloc _
              have c8 : w8.cell? ⟨w7.heap.size, 1, none⟩ = some (.int .u8 cd) := by rw [← show r7.code = cd from congrArg Pk.code HR7.out]; exact blk_cell k8 rfl
              have k6' := (x8.block _ (blk_lt (HB7.out.trans HK6.out))).trans (HB7.out.trans HK6.out)
              have c6 : w8.cell? ⟨w5.heap.size, 1, none⟩ = some (.int .u8 2) := by rw [← HR52.out]; exact blk_cell k6' rfl
              rw [← hw8]
              clear hw8 k8 k6'
              by_cases hkt : k < t
              · have hktI : (k : Int) < t := by omega
                obtain rfl : cd = 65 := by rw [HCD.out, decide_eq_true hkt]; rfl
                go_wp2
                go_ret
                exact ⟨by simp, x1.trans (HQ7.out.1.trans x8)⟩
              · have hktI : ¬ (k : Int) < t := by omega
                obtain rfl : cd = 1 := by rw [HCD.out, decide_eq_false hkt]; rfl
                go_wp2
                go_ret
                exact ⟨by simp, x1.trans (HQ7.out.1.trans x8)⟩
            · have hk2I : ¬ (1 : Int) < k := by omega
              go_upto_region 20 with (go_at_call 12; (refine (put_l1 HE.out y 2 (by decide) rfl).mono ?_); rw [HP1.out]; rintro e w3 ⟨rfl, Q3⟩)
              have HQ4 := Lib.hid Q3
              clear Q3
              go_upto_region 21 with (first | (go_at_call 14; (refine (next_one HQ4.out rfl).mono ?_); rintro e w5 ⟨r5, hr5, rfl, -, Q5⟩; have HR5 := Lib.hid hr5; have HQ5 := Lib.hid Q5; clear Q5 hr5) | refine wpList_stnew rfl 38 _ _ rfl rfl r5.vals rfl rfl size38 rfl (rp_one r5) ?_)
              obtain ⟨w6, hw6⟩ : ∃ V, V = w5.alloc (.cells r5.vals.toArray 38) := ⟨_, rfl⟩
              have k6 : w6.heap[w5.heap.size]? = some (.cells r5.vals.toArray 38 (0, 0)) := by rw [hw6]; exact heap_alloc_new _ _
              have x6 : Ext w5 w6 := by rw [hw6]; exact (Ext.refl _).alloc _
              rw [← hw6]
              have HX6 := Lib.hid (Qx.of HQ5.out x6 (Nat.le_refl _) (blk_lt k6))
              have HK6 := Lib.hid k6
              have HR52 := Lib.hid (show r5.code = 2 from congrArg Pk.code HR5.out)
              clear hw6 k6
              go_upto_region 22 with (first | (go_at_call 14; (refine (next_none HX6.out.qb rfl).mono ?_); rintro e w7 ⟨rfl, x7, Q7⟩; have HQ7 := Lib.hid Q7; clear Q7) | refine wpList_stnew rfl 38 _ _ rfl rfl Rp.zero.vals rfl rfl size38 rfl (rp_one Rp.zero) ?_)
              obtain ⟨w8, hw8⟩ : ∃ V, V = w7.alloc (.cells Rp.zero.vals.toArray 38) := ⟨_, rfl⟩
              have x8 : Ext w7 w8 := by rw [hw8]; exact (Ext.refl _).alloc _
              have k6' := ((x7.trans x8).block _ (blk_lt HK6.out)).trans HK6.out
              have c6 : w8.cell? ⟨w5.heap.size, 1, none⟩ = some (.int .u8 2) := by rw [← HR52.out]; exact blk_cell k6' rfl
              rw [← hw8]
              clear hw8 k6'
              by_cases hkt : k < t
              · have hktI : (k : Int) < t := by omega
                go_wp2
                go_ret
                exact ⟨by simp; omega, x1.trans (HQ7.out.1.trans x8)⟩
              · have hktI : ¬ (k : Int) < t := by omega
                go_wp2
                go_ret
                exact ⟨by simp; omega, x1.trans (HQ7.out.1.trans x8)⟩
theorem QueueLists_all (w : World) (a0 a1 a2 a3 : Int) (l0 : 0 ≤ a0) (h0 : a0 < 256) (l1 : 0 ≤ a1) (h1 : a1 < 256) (l2 : 0 ≤ a2) (h2 : a2 < 256) (l3 : 0 ≤ a3) (h3 : a3 < 256) : Calls Try.prog 6 #[.int .u8 a0, .int .u8 a1, .int .u8 a2, .int .u8 a3] w fun e w' => e = .returned (.bool true) ∧ Ext w w' := by
  obtain ⟨b0, rfl⟩ := Int.eq_ofNat_of_zero_le l0
  obtain ⟨b1, rfl⟩ := Int.eq_ofNat_of_zero_le l1
  obtain ⟨b2, rfl⟩ := Int.eq_ofNat_of_zero_le l2
  obtain ⟨b3, rfl⟩ := Int.eq_ofNat_of_zero_le l3
  exact QueueLists_law w b0 b1 b2 b3 (by omega) (by omega) (by omega) (by omega)
end Go.Proofs.Ytdhdkjiphapliaa
