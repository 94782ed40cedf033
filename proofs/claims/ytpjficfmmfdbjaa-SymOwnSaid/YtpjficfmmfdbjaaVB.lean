import Derived.Test.YtpjficfmmfdbjaaVA
set_option linter.unusedVariables false
set_option linter.unusedSimpArgs false
namespace Go.Proofs.Ytpjficfmmfdbjaa
open Go.RowKit
def cuts (l : List Sy) : List Sy := (l.take 70).map Sy.cut
theorem cuts_succ {l : List Sy} {k : Nat} {y : Sy} (h : l[k]? = some y) (hk : k < 70) : cuts (l.take (k + 1)) = cuts (l.take k) ++ [y.cut] := by
  unfold cuts
  rw [List.take_take, List.take_take, show min 70 (k + 1) = k + 1 by omega, show min 70 k = k by omega, List.take_add_one, h]
  simp
theorem cuts_stay {l : List Sy} {k : Nat} (hk : ¬ k < 70) : cuts (l.take (k + 1)) = cuts (l.take k) := by
  unfold cuts
  rw [List.take_take, List.take_take, show min 70 (k + 1) = 70 by omega, show min 70 k = 70 by omega]
theorem cuts_len (l : List Sy) : (cuts l).length = min 70 l.length := by simp [cuts]
set_option maxRecDepth 100000 in
set_option maxHeartbeats 4000000 in
theorem few_any {w : World} {A : Option Addr} {n : Nat} {c : Nat} {l : List Sy} (hs : Shows w 8 A n (sys l)) (hn : n = l.length) (hnc : n ≤ c) (hcm : c ≤ maxLen) (hok : ∀ y ∈ l, y.ok) :
    Calls Try.prog 9 #[.slice A n c] w fun e w' => ∃ v, e = .returned v ∧ Ext w w' ∧ w'.ownsRow w.heap.size 24 8 v (cuts l).length (sys (cuts l)) := by
  have HL := Lib.hid (And.intro hs (And.intro hn hok))
  have hnm : (n : Int) < 9223372036854775808 := by unfold maxLen at hcm; omega
  clear hs hn hok hnc hcm
  go_enter Try.func9, Try.ntmps9
  go_upto_region 3 with (fail)
  go_loopw [3, 8] (fun lv v wr => ∃ k : Nat, v = .int .i64 k ∧ k ≤ n ∧ Ext w wr ∧ wr.ownsRow w.heap.size 24 8 lv (cuts (l.take k)).length (sys (cuts (l.take k)))) (fun _ v _ => n - (intOf v).toNat)
  case atStart => exact ⟨0, rfl, Nat.zero_le _, Ext.refl _, ⟨rfl, .inl ⟨rfl, rfl⟩⟩⟩
  case round =>
    obtain ⟨k, rfl, hk, xr, own⟩ := hrel
    obtain ⟨wo, rfl⟩ : ∃ z : World, z = wr := ⟨_, rfl⟩
    have HO := Lib.hid own
    clear own
    by_cases hlt : k < n
    · have hkn : (k : Int) < n := by omega
      obtain ⟨y, hy⟩ : ∃ y, l[k]? = some y := ⟨_, List.getElem?_eq_getElem (by have := HL.out.2.1; omega)⟩
      obtain ⟨b, o, hA', hb, hr⟩ := Shows.row sy_len (by omega) (HL.out.1.ext xr) HL.out.2.1 hy
      have HY := Lib.hid (And.intro hy (HL.out.2.2 y (List.mem_of_getElem? hy)))
      subst hA'
      clear hy
      go_upto_region 5 with (first | refine wpList_load_mid rfl 24 _ rfl _ _ rfl y.vals _ hr Try.underlying24 rfl size24 ?_ | refine wpList_stnew rfl 24 _ _ rfl rfl y.vals rfl rfl size24 rfl (sy_one y) ?_)
      obtain ⟨w4, hw4⟩ : ∃ V, V = wo.alloc (.cells y.vals.toArray 24) := ⟨_, rfl⟩
      have k4 : w4.heap[wo.heap.size]? = some (.cells #[.string y.s, .int .u8 y.ar, .int .u32 y.aa, .int .i64 y.wd, .bool y.bg, .bool y.sg, .int .i32 y.mu, .int .i32 y.ad] 24 (0, 0)) := by rw [hw4]; exact heap_alloc_new _ _
      have x4 : Ext wo w4 := by rw [hw4]; exact (Ext.refl _).alloc _
      rw [← hw4]
      clear hw4 hr
      have HK4 := Lib.hid k4
      clear k4
      by_cases h70 : (k : Int) < 70
      · have h70N : k < 70 := by omega
        have f0 : w4.frozen? ⟨wo.heap.size, 0, none⟩ = false := blk_free HK4.out
        have c0 : w4.cell? ⟨wo.heap.size, 0, none⟩ = some (.string y.s) := blk_cell HK4.out rfl
        have hsz := HY.out.2.s
        unfold maxLen at hsz
        have hcl : (cuts (l.take k)).length ≤ 70 := by rw [cuts_len]; omega
        have key : ∀ w6 : World, w6 = w4.setCell ⟨wo.heap.size, 0, none⟩ (.string (cut40 y.s)) → w6.heap[wo.heap.size]? = some (.cells #[.string (cut40 y.s), .int .u8 y.ar, .int .u32 y.aa, .int .i64 y.wd, .bool y.bg, .bool y.sg, .int .i32 y.mu, .int .i32 y.ad] 24 (0, 0)) ∧ Ext wo w6 := fun w6 e => ⟨by rw [e]; exact blk_set HK4.out, by rw [e]; exact x4.setCell (Nat.le_refl _) _⟩
        have HK := Lib.hid key
        clear key
        by_cases hl : y.s.size ≤ 40
        · have HC := Lib.hid (cut_le hl)
          go_upto_region 7 with (fail)
          rw [← HC.out]
          obtain ⟨w6, hw6⟩ : ∃ V, V = w4.setCell ⟨wo.heap.size, 0, none⟩ (.string (cut40 y.s)) := ⟨_, rfl⟩
          have k6 := (HK.out w6 hw6).1
          have X6 := Lib.hid (HK.out w6 hw6).2
          rw [← hw6]
          clear hw6 c0 f0
          obtain ⟨w7, hw7⟩ : ∃ V, V = w6.alloc (.cells #[.string (cut40 y.s), .int .u8 y.ar, .int .u32 y.aa, .int .i64 y.wd, .bool y.bg, .bool y.sg, .int .i32 y.mu, .int .i32 y.ad] 24) := ⟨_, rfl⟩
          have x7 : Ext w6 w7 := by rw [hw7]; exact (Ext.refl _).alloc _
          have sh7 : Shows w7 8 (some ⟨w6.heap.size, 0, none⟩) 1 (sys [y.cut]) := by rw [hw7]; exact shows_sy rfl
          have own7 := own_ext HO.out (X6.out.trans x7)
          have hbase : w.heap.size ≤ w7.heap.size := Nat.le_trans xr.size (X6.out.trans x7).size
          go_wp2_with (first | refine wpList_ldrow rfl 24 (.tmp 5) rfl k6 rfl Try.underlying24 rfl (by kernel_rfl) ?_ | (at_builtin; go_loud (rw [← hw7]; refine wpList_appB el26' rfl _ _ rfl own7 rfl sh7 rfl (sys_one _) (le_max (by omega)) (by omega) hbase ?_; intro v9 w9 own9 gr9 at9)))
          have HX := Lib.hid (And.intro own9 (Ext.of_grown (xr.trans (X6.out.trans x7)) gr9 (fun b e => (HO.out.lt b e).1)))
          clear own9 gr9 at9 own7 sh7 hw7 k6
          go_roundw
          case rel => exact ⟨k + 1, by go_num, by omega, HX.out.2, by rw [cuts_succ HY.out.1 h70N, List.length_append, sys_app]; exact HX.out.1⟩
          case measure => simp [intOf]; omega
        · have HC := Lib.hid (cut_gt hl)
          go_upto_region 7 with (fail)
          rw [← HC.out]
          obtain ⟨w6, hw6⟩ : ∃ V, V = w4.setCell ⟨wo.heap.size, 0, none⟩ (.string (cut40 y.s)) := ⟨_, rfl⟩
          have k6 := (HK.out w6 hw6).1
          have X6 := Lib.hid (HK.out w6 hw6).2
          rw [← hw6]
          clear hw6 c0 f0
          obtain ⟨w7, hw7⟩ : ∃ V, V = w6.alloc (.cells #[.string (cut40 y.s), .int .u8 y.ar, .int .u32 y.aa, .int .i64 y.wd, .bool y.bg, .bool y.sg, .int .i32 y.mu, .int .i32 y.ad] 24) := ⟨_, rfl⟩
          have x7 : Ext w6 w7 := by rw [hw7]; exact (Ext.refl _).alloc _
          have sh7 : Shows w7 8 (some ⟨w6.heap.size, 0, none⟩) 1 (sys [y.cut]) := by rw [hw7]; exact shows_sy rfl
          have own7 := own_ext HO.out (X6.out.trans x7)
          have hbase : w.heap.size ≤ w7.heap.size := Nat.le_trans xr.size (X6.out.trans x7).size
          go_wp2_with (first | refine wpList_ldrow rfl 24 (.tmp 5) rfl k6 rfl Try.underlying24 rfl (by kernel_rfl) ?_ | (at_builtin; go_loud (rw [← hw7]; refine wpList_appB el26' rfl _ _ rfl own7 rfl sh7 rfl (sys_one _) (le_max (by omega)) (by omega) hbase ?_; intro v9 w9 own9 gr9 at9)))
          have HX := Lib.hid (And.intro own9 (Ext.of_grown (xr.trans (X6.out.trans x7)) gr9 (fun b e => (HO.out.lt b e).1)))
          clear own9 gr9 at9 own7 sh7 hw7 k6
          go_roundw
          case rel => exact ⟨k + 1, by go_num, by omega, HX.out.2, by rw [cuts_succ HY.out.1 h70N, List.length_append, sys_app]; exact HX.out.1⟩
          case measure => simp [intOf]; omega
      · have h70N : ¬ k < 70 := by omega
        go_wp2
        go_roundw
        case rel => exact ⟨k + 1, by go_num, by omega, xr.trans x4, by rw [cuts_stay h70N]; exact own_ext HO.out x4⟩
        case measure => simp [intOf]; omega
    · obtain rfl : k = n := by omega
      have ho := HO.out
      rw [HL.out.2.1, List.take_length] at ho
      have HO2 := Lib.hid ho
      clear ho
      go_wp2
      go_ret
      exact ⟨_, rfl, xr, HO2.out⟩
end Go.Proofs.Ytpjficfmmfdbjaa
