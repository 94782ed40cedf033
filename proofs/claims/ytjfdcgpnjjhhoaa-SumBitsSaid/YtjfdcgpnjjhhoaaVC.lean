import Derived.Test.YtjfdcgpnjjhhoaaVB
import Derived.Test.YtjfdcgpnjjhhoaaJ
import Derived.RegionTactic
set_option linter.unusedVariables false
set_option linter.unusedSimpArgs false
namespace Go.Proofs.Ytjfdcgpnjjhhoaa
open Go.RowKit
theorem rd_cur {W : World} {g m : Nat} {cur : Array Value} {t : TypeId} {fr : Nat × Nat} {ys : List Int} (K : W.heap[g]? = some (.cells cur t fr)) (h : cur.toList.take m = u8s ys) (hb : Byts ys) (hl : ys.length = m) : Rd W (some ⟨g, 0, none⟩) m ys :=
  ⟨⟨by simp [u8s, hl], fun _ => ⟨_, rfl, blk_lt K, fun j u hu => cells_of_blk (off := 0) K j u (by
    rw [← h] at hu
    rw [List.drop_zero]
    rw [List.getElem?_take] at hu
    split at hu
    · exact hu
    · cases hu)⟩⟩, hb⟩
theorem cur_at {cur : Array Value} {m q : Nat} {ys : List Int} (h : cur.toList.take m = u8s ys) (hl : ys.length = m) (hq : q < m) : cur[q]? = some (.int .u8 (ys.getD q 0)) := by
  have e : (cur.toList.take m)[q]? = some (.int .u8 (ys.getD q 0)) := by
    rw [h]
    simp [u8s, List.getElem?_map, List.getElem?_eq_getElem (show q < ys.length by omega), List.getD_eq_getElem?_getD]
  rw [List.getElem?_take, if_pos hq] at e
  simpa using e
theorem cur_set {cur : Array Value} {m q : Nat} {ys : List Int} {b : Int} (h : cur.toList.take m = u8s ys) : (cur.setIfInBounds q (.int .u8 b)).toList.take m = u8s (ys.set q b) := by
  rw [Array.toList_setIfInBounds, List.take_set, h]
  simp [u8s, List.map_set]
theorem pow_256 {b : Nat} (h : b < 8) : (2 : Int) ^ b % 256 = ((2 ^ b : Nat) : Int) := by
  have : 2 ^ b < 256 := Nat.lt_of_lt_of_le (Nat.pow_lt_pow_right (by omega) h) (by decide)
  have e : (2 : Int) ^ b = ((2 ^ b : Nat) : Int) := by simp
  rw [e, show (256 : Int) = ((256 : Nat) : Int) by rfl, ← Int.natCast_emod, Nat.mod_eq_of_lt this]
theorem flip_form8 (ys : List Int) (j : Nat) : flip 8 ys j = ys.set (j / 8) (bits .xor .u8 (ys[j / 8]?.getD 0) ((2 : Int) ^ (7 - j % 8) % 256)) := by
  unfold flip; rw [pow_256 (by omega), if_pos rfl, List.getD_eq_getElem?_getD]
theorem flip_form7 (ys : List Int) (j : Nat) : flip 7 ys j = ys.set (j / 8) (bits .xor .u8 (ys[j / 8]?.getD 0) ((2 : Int) ^ (j % 8) % 256)) := by
  unfold flip; rw [pow_256 (by omega), if_neg (by omega), List.getD_eq_getElem?_getD]
theorem flip_form9 (ys : List Int) (j : Nat) : flip 9 ys j = ys.set (j / 8) (bits .xor .u8 (ys[j / 8]?.getD 0) ((2 : Int) ^ (j % 8) % 256)) := by
  unfold flip; rw [pow_256 (by omega), if_neg (by omega), List.getD_eq_getElem?_getD]
def Burst (k : Int) (xs ys : List Int) (m first i T : Nat) (t : Bool) : Prop := ys.length = m ∧ Byts ys ∧ T < 2 ^ i ∧ t = decide (T ≠ 0) ∧ bigN (ys.map (cv k)) = bigN (xs.map (cv k)) ^^^ (T <<< first)
theorem Burst.start {k : Int} {xs : List Int} {m first : Nat} (hl : xs.length = m) (hb : Byts xs) : Burst k xs xs m first 0 0 false := ⟨hl, hb, by decide, rfl, by simp⟩
theorem Burst.skip {k : Int} {xs ys : List Int} {m first i T : Nat} {t : Bool} (h : Burst k xs ys m first i T t) : Burst k xs ys m first (i + 1) T t := ⟨h.1, h.2.1, Nat.lt_of_lt_of_le h.2.2.1 (Nat.pow_le_pow_right (by omega) (by omega)), h.2.2.2⟩
theorem Burst.flip {k : Int} {xs ys : List Int} {m first i T : Nat} {t : Bool} (h : Burst k xs ys m first i T t) (hj : first + i < 8 * m) : Burst k xs (flip k ys (first + i)) m first (i + 1) (T ^^^ 2 ^ i) true := by
  obtain ⟨h1, h2, h3, h4, h5⟩ := h
  obtain ⟨f1, f2, f3⟩ := flip_facts k h2 (j := first + i) (by omega)
  obtain ⟨b1, b2⟩ := burst_step h3
  exact ⟨by rw [f2, h1], f1, b1, by simp [b2], by rw [f3, h5, burst_eq]⟩
theorem Burst.tells {k : Int} (hk : k = 7 ∨ k = 8 ∨ k = 9) {y : Way} (hy : wayK k = some y) {xs ys : List Int} {m first T : Nat} {t : Bool} (h : Burst k xs ys m first (wd k) T t) (hl : xs.length = m) (hx : Byts xs) (hf : first ≤ 8 * m) : ∃ a b, sumV y true xs = a ∧ sumV y false ys = b ∧ (t = false ∧ a = b ∨ t = true ∧ a ≠ b) := by
  obtain ⟨h1, h2, h3, h4, h5⟩ := h
  have e := sums_tell hk hy hx h2 (by omega) h3 (by omega) h5 true false
  refine ⟨_, _, rfl, rfl, ?_⟩
  by_cases hT : T = 0
  · exact .inl ⟨by simp [h4, hT], e.2 hT⟩
  · exact .inr ⟨by simp [h4, hT], fun q => hT (e.1 q)⟩
set_option maxRecDepth 100000 in
set_option maxHeartbeats 8000000 in
theorem SumBits_0 (w : World) (kind : Int) (A : Option Addr) (n c : Nat) (bs : List Int) (at_ turns : Int) (k0 : 0 ≤ kind) (k1 : kind < 256) (hkq : kind % 3 = 0) (rdA : Rd w A n bs) (leA : n ≤ c) (cmA : c ≤ maxLen) (a0 : 0 ≤ at_) (a1 : at_ < 65536) (t0 : 0 ≤ turns) (t1 : turns < 4294967296) :
    Calls Try.prog 5 #[.int .u8 kind, .slice A n c, .int .u16 at_, .int .u32 turns] w fun e w' => e = .returned (.bool true) ∧ Ext w w' := by
  have FA := fun W => Lib.hid (few_any A n c W leA cmA)
  have rx := rdA.take (k := min n 300) (by omega)
  obtain ⟨m, hm⟩ : ∃ m, m = min n 300 := ⟨_, rfl⟩
  rw [← hm] at rx FA
  have hm3 : m ≤ 300 := by omega
  have hmc : m ≤ c := by omega
  clear rdA hm
  generalize bs.take m = xs at *
  have lX := Lib.hid rx.len
  have ht3 : kind.tmod 3 = 0 := by rw [Int.tmod_eq_emod_of_nonneg k0, hkq]
  have HY : Hid (wayK 7 = some ⟨1, 0, 28, 40961, 0⟩) := rfl
  have LIT := fun W : World => blk_cell (i := 0) (heap_alloc_new W (.cells #[.int .u8 7, .int .u8 8, .int .u8 9] 5)) rfl
  by_cases hm0 : m = 0
  · subst hm0
    go_enter Try.func5, Try.ntmps5
    go_upto_region 2 with (go_at_call 12; (refine (shown_any _).mono ?_); rintro e w1 ⟨rfl, x1⟩)
    go_upto_region 4 with (go_at_call 10; (refine ((FA _).out).mono ?_); rintro e w2 ⟨rfl, rfl⟩)
    go_wp2
    go_ret
    exact ⟨rfl, x1.trans ((Ext.refl _).alloc _)⟩
  have hmp : 0 < m := by omega
  have hmI : (0 : Int) < m := by omega
  have hme : ((m : Int) == 0) = false := by simp; omega
  have h8e : ((8 * (m : Int)) == 0) = false := by simp; omega
  obtain ⟨first, hfirst⟩ : ∃ f : Nat, at_ % (8 * (m : Int)) = f := ⟨(at_ % (8 * (m : Int))).toNat, by have := Int.emod_nonneg at_ (show 8 * (m : Int) ≠ 0 by omega); omega⟩
  have hfl : first < 8 * m := by have := Int.emod_lt_of_pos at_ (show 0 < 8 * (m : Int) by omega); omega
  have hft : at_.tmod (8 * (m : Int)) = first := by rw [Int.tmod_eq_emod_of_nonneg a0, hfirst]
  go_enter Try.func5, Try.ntmps5
  go_upto_region 2 with (go_at_call 12; (refine (shown_any _).mono ?_); rintro e w1 ⟨rfl, x1⟩)
  go_upto_region 4 with (go_at_call 10; (refine ((FA _).out).mono ?_); rintro e w2 ⟨rfl, rfl⟩)
  obtain ⟨w3, hw3⟩ : ∃ W, W = w1.alloc (.cells #[.int .u8 7, .int .u8 8, .int .u8 9] 5) := ⟨_, rfl⟩
  have x3 : Ext w1 w3 := by rw [hw3]; exact (Ext.refl _).alloc _
  rw [← hw3]
  clear hw3 LIT
  have rx3 := rx.ext (x1.trans x3)
  go_upto_region 10 with (at_builtin; refine wpList_app el22 rfl _ _ rfl (World.ownsRow_lit _ #[] 0 (Nat.le_refl _) (by simp) rfl) rfl ((rx3.ext ((Ext.refl _).alloc _)).shows) rfl (u8s_one _) (le_max (by omega)) (by omega) rfl ((Ext.refl _).alloc _) ?_; intro v5 w5 own5 x5 hg5 hat5; clear hg5 hat5)
  simp only [Nat.zero_add] at own5 
  rcases own5.2 with ⟨_, h0⟩ | ⟨g, cap, cur0, rfl, hbg, hgd, lcap, mcap, hsz, htk⟩
  · omega
  have hbase : w3.heap.size ≤ g := by simpa using hbg
  clear own5 hbg
  have x13 := x1.trans x3
  go_wp2
  go_loopw [15, 16, 17, 18, 47] (fun v15 _ _ _ v47 wr => ∃ (i T : Nat) (t : Bool) (ys : List Int) (cur : Array Value), v47 = .int .i64 i ∧ i ≤ 16 ∧ v15 = .bool t ∧ Hid (wr.heap[g]? = some (.cells cur 5 (0, 0))) ∧ Hid (cur.toList.take m = u8s ys) ∧ Hid (Burst 7 xs ys m first i T t) ∧ Ext w3 wr) (fun _ _ _ _ i _ => 16 - (intOf i).toNat)
  case atStart => exact ⟨0, 0, false, xs, cur0, rfl, by omega, rfl, hgd, by show _ = _; simpa using htk, Burst.start lX.out rx.byts, x5⟩
  case round =>
    obtain ⟨i, T, t, ys, cur, rfl, hi, rfl, hgr, hcur, hB, xr⟩ := hrel
    clear hgd htk hsz x5
    by_cases hlt : i < 16
    · have hltI : (i : Int) < 16 := by omega
      obtain ⟨j, hj⟩ : ∃ j, j = first + i := ⟨_, rfl⟩
      have hjI : (first : Int) + (i : Int) = (j : Int) := by omega
      have hj63 : j < 5000 := by omega
      obtain ⟨q, hq⟩ : ∃ q, q = j / 8 := ⟨_, rfl⟩
      obtain ⟨b, hb⟩ : ∃ b, b = j % 8 := ⟨_, rfl⟩
      have hqI : (j : Int).tdiv 8 = q := by rw [Int.tdiv_eq_ediv_of_nonneg (by omega)]; omega
      have hqI2 : (j : Int) / 8 = q := by omega
      have hbI : (j : Int).tmod 8 = b := by rw [Int.tmod_eq_emod_of_nonneg (by omega)]; omega
      have hbI2 : (j : Int) % 8 = b := by omega
      have hb8 : b < 8 := by omega
      have HJ := Lib.hid hj
      have HQ := Lib.hid hq
      have HB := Lib.hid hb
      have hge : (i : Int).toNat = i := rfl
      clear hj hq hb
      rcases hbit : (bits .and .u32 (turns / 2 ^ i) 1 == 0) with _ | _
      · by_cases hend : 8 * m ≤ j
        · have hendI : (8 * (m : Int)) ≤ j := by omega
          go_wp2
          go_roundw
          case rel => exact ⟨i + 1, T, t, ys, cur, by go_num, by omega, rfl, hgr, hcur, hB.out.skip, xr⟩
          case measure => simp [intOf]; omega
        · have hendI : (j : Int) < 8 * (m : Int) := by omega
          have hqm : q < m := by have := HQ.out; omega
          have hqmI : (q : Int) < m := by omega
          have HF : Hid (flip 7 ys (first + i) = ys.set q (bits .xor .u8 (ys[q]?.getD 0) (2 ^ b % 256))) := by show _ = _; rw [HQ.out, HB.out, HJ.out]; exact flip_form7 ys _
          have z0 := blk_cell hgr.out (cur_at hcur.out hB.out.1 hqm)
          have zf := blk_free (i := q) hgr.out
          go_upto_region 20 with (fail)
          go_region
          go_wp2
          go_roundw
          case rel => exact ⟨i + 1, T ^^^ 2 ^ i, true, flip 7 ys (first + i), _, by go_num, by omega, rfl, (by show _ = _; exact blk_set hgr.out), (by show _ = _; rw [HF.out]; exact cur_set hcur.out), hB.out.flip (by omega), (Ext.setCell xr (show w3.heap.size ≤ (⟨g, q, none⟩ : Addr).block from hbase) _).drew⟩
          case measure => simp [intOf]; omega
      · go_wp2
        go_roundw
        case rel => exact ⟨i + 1, T, t, ys, cur, by go_num, by omega, rfl, hgr, hcur, hB.out.skip, xr⟩
        case measure => simp [intOf]; omega
    · obtain rfl : i = 16 := by omega
      obtain ⟨a, b, ea, eb, hab⟩ := hB.out.tells (by omega) HY.out lX.out rx.byts (by omega)
      have EA := Lib.hid ea
      have EB := Lib.hid eb
      have R := rd_cur hgr.out hcur.out hB.out.2.1 hB.out.1
      have R3 := rx3.ext xr
      have HAB := Lib.hid hab
      clear ea eb hab hcur hB hgr
      go_upto_region 24 with (go_at_call 9; (refine (of_any _ _ _ _ _ _ _ R3 (by omega) hmc cmA _ HY.out (Nat.mod_one _)).mono ?_); rintro e w20 ⟨rfl, x20⟩; rw [EA.out])
      go_upto_region 25 with (go_at_call 9; (refine (of_any _ _ _ _ _ _ _ (R.ext x20) (by omega) lcap mcap _ HY.out (Nat.mod_one _)).mono ?_); rintro e w21 ⟨rfl, x21⟩; rw [EB.out])
      have xx := x1.trans (x3.trans (xr.trans (x20.trans x21)))
      rcases HAB.out with ⟨rfl, rfl⟩ | ⟨rfl, hne⟩
      · go_wp2
        go_ret
        exact ⟨by simp, xx⟩
      · have hneb : (a != b) = true := by simpa using hne
        go_wp2
        go_ret
        exact ⟨by simp [hne], xx⟩
set_option maxRecDepth 100000 in
set_option maxHeartbeats 8000000 in
theorem SumBits_1 (w : World) (kind : Int) (A : Option Addr) (n c : Nat) (bs : List Int) (at_ turns : Int) (k0 : 0 ≤ kind) (k1 : kind < 256) (hkq : kind % 3 = 1) (rdA : Rd w A n bs) (leA : n ≤ c) (cmA : c ≤ maxLen) (a0 : 0 ≤ at_) (a1 : at_ < 65536) (t0 : 0 ≤ turns) (t1 : turns < 4294967296) :
    Calls Try.prog 5 #[.int .u8 kind, .slice A n c, .int .u16 at_, .int .u32 turns] w fun e w' => e = .returned (.bool true) ∧ Ext w w' := by
  have FA := fun W => Lib.hid (few_any A n c W leA cmA)
  have rx := rdA.take (k := min n 300) (by omega)
  obtain ⟨m, hm⟩ : ∃ m, m = min n 300 := ⟨_, rfl⟩
  rw [← hm] at rx FA
  have hm3 : m ≤ 300 := by omega
  have hmc : m ≤ c := by omega
  clear rdA hm
  generalize bs.take m = xs at *
  have lX := Lib.hid rx.len
  have ht3 : kind.tmod 3 = 1 := by rw [Int.tmod_eq_emod_of_nonneg k0, hkq]
  have HY : Hid (wayK 8 = some ⟨1, 65535, 29, 4129, 0⟩) := rfl
  have LIT := fun W : World => blk_cell (i := 1) (heap_alloc_new W (.cells #[.int .u8 7, .int .u8 8, .int .u8 9] 5)) rfl
  by_cases hm0 : m = 0
  · subst hm0
    go_enter Try.func5, Try.ntmps5
    go_upto_region 2 with (go_at_call 12; (refine (shown_any _).mono ?_); rintro e w1 ⟨rfl, x1⟩)
    go_upto_region 4 with (go_at_call 10; (refine ((FA _).out).mono ?_); rintro e w2 ⟨rfl, rfl⟩)
    go_wp2
    go_ret
    exact ⟨rfl, x1.trans ((Ext.refl _).alloc _)⟩
  have hmp : 0 < m := by omega
  have hmI : (0 : Int) < m := by omega
  have hme : ((m : Int) == 0) = false := by simp; omega
  have h8e : ((8 * (m : Int)) == 0) = false := by simp; omega
  obtain ⟨first, hfirst⟩ : ∃ f : Nat, at_ % (8 * (m : Int)) = f := ⟨(at_ % (8 * (m : Int))).toNat, by have := Int.emod_nonneg at_ (show 8 * (m : Int) ≠ 0 by omega); omega⟩
  have hfl : first < 8 * m := by have := Int.emod_lt_of_pos at_ (show 0 < 8 * (m : Int) by omega); omega
  have hft : at_.tmod (8 * (m : Int)) = first := by rw [Int.tmod_eq_emod_of_nonneg a0, hfirst]
  go_enter Try.func5, Try.ntmps5
  go_upto_region 2 with (go_at_call 12; (refine (shown_any _).mono ?_); rintro e w1 ⟨rfl, x1⟩)
  go_upto_region 4 with (go_at_call 10; (refine ((FA _).out).mono ?_); rintro e w2 ⟨rfl, rfl⟩)
  obtain ⟨w3, hw3⟩ : ∃ W, W = w1.alloc (.cells #[.int .u8 7, .int .u8 8, .int .u8 9] 5) := ⟨_, rfl⟩
  have x3 : Ext w1 w3 := by rw [hw3]; exact (Ext.refl _).alloc _
  rw [← hw3]
  clear hw3 LIT
  have rx3 := rx.ext (x1.trans x3)
  go_upto_region 10 with (at_builtin; refine wpList_app el22 rfl _ _ rfl (World.ownsRow_lit _ #[] 0 (Nat.le_refl _) (by simp) rfl) rfl ((rx3.ext ((Ext.refl _).alloc _)).shows) rfl (u8s_one _) (le_max (by omega)) (by omega) rfl ((Ext.refl _).alloc _) ?_; intro v5 w5 own5 x5 hg5 hat5; clear hg5 hat5)
  simp only [Nat.zero_add] at own5 
  rcases own5.2 with ⟨_, h0⟩ | ⟨g, cap, cur0, rfl, hbg, hgd, lcap, mcap, hsz, htk⟩
  · omega
  have hbase : w3.heap.size ≤ g := by simpa using hbg
  clear own5 hbg
  have x13 := x1.trans x3
  go_wp2
  go_loopw [15, 16, 17, 18, 47] (fun v15 _ _ _ v47 wr => ∃ (i T : Nat) (t : Bool) (ys : List Int) (cur : Array Value), v47 = .int .i64 i ∧ i ≤ 16 ∧ v15 = .bool t ∧ Hid (wr.heap[g]? = some (.cells cur 5 (0, 0))) ∧ Hid (cur.toList.take m = u8s ys) ∧ Hid (Burst 8 xs ys m first i T t) ∧ Ext w3 wr) (fun _ _ _ _ i _ => 16 - (intOf i).toNat)
  case atStart => exact ⟨0, 0, false, xs, cur0, rfl, by omega, rfl, hgd, by show _ = _; simpa using htk, Burst.start lX.out rx.byts, x5⟩
  case round =>
    obtain ⟨i, T, t, ys, cur, rfl, hi, rfl, hgr, hcur, hB, xr⟩ := hrel
    clear hgd htk hsz x5
    by_cases hlt : i < 16
    · have hltI : (i : Int) < 16 := by omega
      obtain ⟨j, hj⟩ : ∃ j, j = first + i := ⟨_, rfl⟩
      have hjI : (first : Int) + (i : Int) = (j : Int) := by omega
      have hj63 : j < 5000 := by omega
      obtain ⟨q, hq⟩ : ∃ q, q = j / 8 := ⟨_, rfl⟩
      obtain ⟨b, hb⟩ : ∃ b, b = j % 8 := ⟨_, rfl⟩
      have hqI : (j : Int).tdiv 8 = q := by rw [Int.tdiv_eq_ediv_of_nonneg (by omega)]; omega
      have hqI2 : (j : Int) / 8 = q := by omega
      have hbI : (j : Int).tmod 8 = b := by rw [Int.tmod_eq_emod_of_nonneg (by omega)]; omega
      have hbI2 : (j : Int) % 8 = b := by omega
      have hb8 : b < 8 := by omega
      have HJ := Lib.hid hj
      have HQ := Lib.hid hq
      have HB := Lib.hid hb
      have hge : (i : Int).toNat = i := rfl
      clear hj hq hb
      rcases hbit : (bits .and .u32 (turns / 2 ^ i) 1 == 0) with _ | _
      · by_cases hend : 8 * m ≤ j
        · have hendI : (8 * (m : Int)) ≤ j := by omega
          go_wp2
          go_roundw
          case rel => exact ⟨i + 1, T, t, ys, cur, by go_num, by omega, rfl, hgr, hcur, hB.out.skip, xr⟩
          case measure => simp [intOf]; omega
        · have hendI : (j : Int) < 8 * (m : Int) := by omega
          have hqm : q < m := by have := HQ.out; omega
          have hqmI : (q : Int) < m := by omega
          have HF : Hid (flip 8 ys (first + i) = ys.set q (bits .xor .u8 (ys[q]?.getD 0) (2 ^ (7 - b) % 256))) := by show _ = _; rw [HQ.out, HB.out, HJ.out]; exact flip_form8 ys _
          have z0 := blk_cell hgr.out (cur_at hcur.out hB.out.1 hqm)
          have zf := blk_free (i := q) hgr.out
          go_upto_region 20 with (fail)
          go_region
          go_wp2
          go_roundw
          case rel => exact ⟨i + 1, T ^^^ 2 ^ i, true, flip 8 ys (first + i), _, by go_num, by omega, rfl, (by show _ = _; exact blk_set hgr.out), (by show _ = _; rw [HF.out]; exact cur_set hcur.out), hB.out.flip (by omega), (Ext.setCell xr (show w3.heap.size ≤ (⟨g, q, none⟩ : Addr).block from hbase) _).drew⟩
          case measure => simp [intOf]; omega
      · go_wp2
        go_roundw
        case rel => exact ⟨i + 1, T, t, ys, cur, by go_num, by omega, rfl, hgr, hcur, hB.out.skip, xr⟩
        case measure => simp [intOf]; omega
    · obtain rfl : i = 16 := by omega
      obtain ⟨a, b, ea, eb, hab⟩ := hB.out.tells (by omega) HY.out lX.out rx.byts (by omega)
      have EA := Lib.hid ea
      have EB := Lib.hid eb
      have R := rd_cur hgr.out hcur.out hB.out.2.1 hB.out.1
      have R3 := rx3.ext xr
      have HAB := Lib.hid hab
      clear ea eb hab hcur hB hgr
      go_upto_region 24 with (go_at_call 9; (refine (of_any _ _ _ _ _ _ _ R3 (by omega) hmc cmA _ HY.out (Nat.mod_one _)).mono ?_); rintro e w20 ⟨rfl, x20⟩; rw [EA.out])
      go_upto_region 25 with (go_at_call 9; (refine (of_any _ _ _ _ _ _ _ (R.ext x20) (by omega) lcap mcap _ HY.out (Nat.mod_one _)).mono ?_); rintro e w21 ⟨rfl, x21⟩; rw [EB.out])
      have xx := x1.trans (x3.trans (xr.trans (x20.trans x21)))
      rcases HAB.out with ⟨rfl, rfl⟩ | ⟨rfl, hne⟩
      · go_wp2
        go_ret
        exact ⟨by simp, xx⟩
      · have hneb : (a != b) = true := by simpa using hne
        go_wp2
        go_ret
        exact ⟨by simp [hne], xx⟩
set_option maxRecDepth 100000 in
set_option maxHeartbeats 8000000 in
theorem SumBits_2 (w : World) (kind : Int) (A : Option Addr) (n c : Nat) (bs : List Int) (at_ turns : Int) (k0 : 0 ≤ kind) (k1 : kind < 256) (hkq : kind % 3 = 2) (rdA : Rd w A n bs) (leA : n ≤ c) (cmA : c ≤ maxLen) (a0 : 0 ≤ at_) (a1 : at_ < 65536) (t0 : 0 ≤ turns) (t1 : turns < 4294967296) :
    Calls Try.prog 5 #[.int .u8 kind, .slice A n c, .int .u16 at_, .int .u32 turns] w fun e w' => e = .returned (.bool true) ∧ Ext w w' := by
  have FA := fun W => Lib.hid (few_any A n c W leA cmA)
  have rx := rdA.take (k := min n 300) (by omega)
  obtain ⟨m, hm⟩ : ∃ m, m = min n 300 := ⟨_, rfl⟩
  rw [← hm] at rx FA
  have hm3 : m ≤ 300 := by omega
  have hmc : m ≤ c := by omega
  clear rdA hm
  generalize bs.take m = xs at *
  have lX := Lib.hid rx.len
  have ht3 : kind.tmod 3 = 2 := by rw [Int.tmod_eq_emod_of_nonneg k0, hkq]
  have HY : Hid (wayK 9 = some ⟨1, 4294967295, 28, 3988292384, 4294967295⟩) := rfl
  have LIT := fun W : World => blk_cell (i := 2) (heap_alloc_new W (.cells #[.int .u8 7, .int .u8 8, .int .u8 9] 5)) rfl
  by_cases hm0 : m = 0
  · subst hm0
    go_enter Try.func5, Try.ntmps5
    go_upto_region 2 with (go_at_call 12; (refine (shown_any _).mono ?_); rintro e w1 ⟨rfl, x1⟩)
    go_upto_region 4 with (go_at_call 10; (refine ((FA _).out).mono ?_); rintro e w2 ⟨rfl, rfl⟩)
    go_wp2
    go_ret
    exact ⟨rfl, x1.trans ((Ext.refl _).alloc _)⟩
  have hmp : 0 < m := by omega
  have hmI : (0 : Int) < m := by omega
  have hme : ((m : Int) == 0) = false := by simp; omega
  have h8e : ((8 * (m : Int)) == 0) = false := by simp; omega
  obtain ⟨first, hfirst⟩ : ∃ f : Nat, at_ % (8 * (m : Int)) = f := ⟨(at_ % (8 * (m : Int))).toNat, by have := Int.emod_nonneg at_ (show 8 * (m : Int) ≠ 0 by omega); omega⟩
  have hfl : first < 8 * m := by have := Int.emod_lt_of_pos at_ (show 0 < 8 * (m : Int) by omega); omega
  have hft : at_.tmod (8 * (m : Int)) = first := by rw [Int.tmod_eq_emod_of_nonneg a0, hfirst]
  go_enter Try.func5, Try.ntmps5
  go_upto_region 2 with (go_at_call 12; (refine (shown_any _).mono ?_); rintro e w1 ⟨rfl, x1⟩)
  go_upto_region 4 with (go_at_call 10; (refine ((FA _).out).mono ?_); rintro e w2 ⟨rfl, rfl⟩)
  obtain ⟨w3, hw3⟩ : ∃ W, W = w1.alloc (.cells #[.int .u8 7, .int .u8 8, .int .u8 9] 5) := ⟨_, rfl⟩
  have x3 : Ext w1 w3 := by rw [hw3]; exact (Ext.refl _).alloc _
  rw [← hw3]
  clear hw3 LIT
  have rx3 := rx.ext (x1.trans x3)
  go_upto_region 10 with (at_builtin; refine wpList_app el22 rfl _ _ rfl (World.ownsRow_lit _ #[] 0 (Nat.le_refl _) (by simp) rfl) rfl ((rx3.ext ((Ext.refl _).alloc _)).shows) rfl (u8s_one _) (le_max (by omega)) (by omega) rfl ((Ext.refl _).alloc _) ?_; intro v5 w5 own5 x5 hg5 hat5; clear hg5 hat5)
  simp only [Nat.zero_add] at own5 
  rcases own5.2 with ⟨_, h0⟩ | ⟨g, cap, cur0, rfl, hbg, hgd, lcap, mcap, hsz, htk⟩
  · omega
  have hbase : w3.heap.size ≤ g := by simpa using hbg
  clear own5 hbg
  have x13 := x1.trans x3
  go_wp2
  go_loopw [15, 16, 17, 18, 47] (fun v15 _ _ _ v47 wr => ∃ (i T : Nat) (t : Bool) (ys : List Int) (cur : Array Value), v47 = .int .i64 i ∧ i ≤ 32 ∧ v15 = .bool t ∧ Hid (wr.heap[g]? = some (.cells cur 5 (0, 0))) ∧ Hid (cur.toList.take m = u8s ys) ∧ Hid (Burst 9 xs ys m first i T t) ∧ Ext w3 wr) (fun _ _ _ _ i _ => 32 - (intOf i).toNat)
  case atStart => exact ⟨0, 0, false, xs, cur0, rfl, by omega, rfl, hgd, by show _ = _; simpa using htk, Burst.start lX.out rx.byts, x5⟩
  case round =>
    obtain ⟨i, T, t, ys, cur, rfl, hi, rfl, hgr, hcur, hB, xr⟩ := hrel
    clear hgd htk hsz x5
    by_cases hlt : i < 32
    · have hltI : (i : Int) < 32 := by omega
      obtain ⟨j, hj⟩ : ∃ j, j = first + i := ⟨_, rfl⟩
      have hjI : (first : Int) + (i : Int) = (j : Int) := by omega
      have hj63 : j < 5000 := by omega
      obtain ⟨q, hq⟩ : ∃ q, q = j / 8 := ⟨_, rfl⟩
      obtain ⟨b, hb⟩ : ∃ b, b = j % 8 := ⟨_, rfl⟩
      have hqI : (j : Int).tdiv 8 = q := by rw [Int.tdiv_eq_ediv_of_nonneg (by omega)]; omega
      have hqI2 : (j : Int) / 8 = q := by omega
      have hbI : (j : Int).tmod 8 = b := by rw [Int.tmod_eq_emod_of_nonneg (by omega)]; omega
      have hbI2 : (j : Int) % 8 = b := by omega
      have hb8 : b < 8 := by omega
      have HJ := Lib.hid hj
      have HQ := Lib.hid hq
      have HB := Lib.hid hb
      have hge : (i : Int).toNat = i := rfl
      clear hj hq hb
      rcases hbit : (bits .and .u32 (turns / 2 ^ i) 1 == 0) with _ | _
      · by_cases hend : 8 * m ≤ j
        · have hendI : (8 * (m : Int)) ≤ j := by omega
          go_wp2
          go_roundw
          case rel => exact ⟨i + 1, T, t, ys, cur, by go_num, by omega, rfl, hgr, hcur, hB.out.skip, xr⟩
          case measure => simp [intOf]; omega
        · have hendI : (j : Int) < 8 * (m : Int) := by omega
          have hqm : q < m := by have := HQ.out; omega
          have hqmI : (q : Int) < m := by omega
          have HF : Hid (flip 9 ys (first + i) = ys.set q (bits .xor .u8 (ys[q]?.getD 0) (2 ^ b % 256))) := by show _ = _; rw [HQ.out, HB.out, HJ.out]; exact flip_form9 ys _
          have z0 := blk_cell hgr.out (cur_at hcur.out hB.out.1 hqm)
          have zf := blk_free (i := q) hgr.out
          go_upto_region 20 with (fail)
          go_region
          go_wp2
          go_roundw
          case rel => exact ⟨i + 1, T ^^^ 2 ^ i, true, flip 9 ys (first + i), _, by go_num, by omega, rfl, (by show _ = _; exact blk_set hgr.out), (by show _ = _; rw [HF.out]; exact cur_set hcur.out), hB.out.flip (by omega), (Ext.setCell xr (show w3.heap.size ≤ (⟨g, q, none⟩ : Addr).block from hbase) _).drew⟩
          case measure => simp [intOf]; omega
      · go_wp2
        go_roundw
        case rel => exact ⟨i + 1, T, t, ys, cur, by go_num, by omega, rfl, hgr, hcur, hB.out.skip, xr⟩
        case measure => simp [intOf]; omega
    · obtain rfl : i = 32 := by omega
      obtain ⟨a, b, ea, eb, hab⟩ := hB.out.tells (by omega) HY.out lX.out rx.byts (by omega)
      have EA := Lib.hid ea
      have EB := Lib.hid eb
      have R := rd_cur hgr.out hcur.out hB.out.2.1 hB.out.1
      have R3 := rx3.ext xr
      have HAB := Lib.hid hab
      clear ea eb hab hcur hB hgr
      go_upto_region 24 with (go_at_call 9; (refine (of_any _ _ _ _ _ _ _ R3 (by omega) hmc cmA _ HY.out (Nat.mod_one _)).mono ?_); rintro e w20 ⟨rfl, x20⟩; rw [EA.out])
      go_upto_region 25 with (go_at_call 9; (refine (of_any _ _ _ _ _ _ _ (R.ext x20) (by omega) lcap mcap _ HY.out (Nat.mod_one _)).mono ?_); rintro e w21 ⟨rfl, x21⟩; rw [EB.out])
      have xx := x1.trans (x3.trans (xr.trans (x20.trans x21)))
      rcases HAB.out with ⟨rfl, rfl⟩ | ⟨rfl, hne⟩
      · go_wp2
        go_ret
        exact ⟨by simp, xx⟩
      · have hneb : (a != b) = true := by simpa using hne
        go_wp2
        go_ret
        exact ⟨by simp [hne], xx⟩
theorem SumBits_law (w : World) (kind : Int) (A : Option Addr) (n c : Nat) (bs : List Int) (at_ turns : Int) (k0 : 0 ≤ kind) (k1 : kind < 256) (rdA : Rd w A n bs) (leA : n ≤ c) (cmA : c ≤ maxLen) (a0 : 0 ≤ at_) (a1 : at_ < 65536) (t0 : 0 ≤ turns) (t1 : turns < 4294967296) :
    Calls Try.prog 5 #[.int .u8 kind, .slice A n c, .int .u16 at_, .int .u32 turns] w fun e w' => e = .returned (.bool true) ∧ Ext w w' := by
  rcases (by omega : kind % 3 = 0 ∨ kind % 3 = 1 ∨ kind % 3 = 2) with h | h | h
  · exact SumBits_0 w kind A n c bs at_ turns k0 k1 h rdA leA cmA a0 a1 t0 t1
  · exact SumBits_1 w kind A n c bs at_ turns k0 k1 h rdA leA cmA a0 a1 t0 t1
  · exact SumBits_2 w kind A n c bs at_ turns k0 k1 h rdA leA cmA a0 a1 t0 t1
end Go.Proofs.Ytjfdcgpnjjhhoaa
