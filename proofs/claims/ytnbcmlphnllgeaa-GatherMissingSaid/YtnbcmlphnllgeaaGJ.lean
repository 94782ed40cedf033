import Derived.Test.YtnbcmlphnllgeaaGI
set_option linter.unusedVariables false
set_option linter.unusedSimpArgs false
namespace Go.Proofs.Ytnbcmlphnllgeaa
open Go.RowKit
def Ls.cut (x : Ls) : Ls := { x with n := min x.n 20 }
def cutsL (l : List Ls) : List Ls := (l.take 6).map Ls.cut
theorem cuts_succ {l : List Ls} {k : Nat} {y : Ls} (h : l[k]? = some y) (hk : k < 6) : cutsL (l.take (k + 1)) = cutsL (l.take k) ++ [y.cut] := by
  unfold cutsL
  rw [List.take_take, List.take_take, show min 6 (k + 1) = k + 1 by omega, show min 6 k = k by omega, List.take_add_one, h]
  simp
theorem cuts_stay {l : List Ls} {k : Nat} (hk : ¬ k < 6) : cutsL (l.take (k + 1)) = cutsL (l.take k) := by
  unfold cutsL
  rw [List.take_take, List.take_take, show min 6 (k + 1) = 6 by omega, show min 6 k = 6 by omega]
theorem cuts_len (l : List Ls) : (cutsL l).length = min 6 l.length := by simp [cutsL]
theorem cuts_ok {l : List Ls} (h : ∀ x ∈ l, x.ok) : ∀ x ∈ cutsL l, x.ok ∧ x.n ≤ 20 := by
  intro x hx
  obtain ⟨y, hy, rfl⟩ := List.mem_map.1 hx
  have := h y (List.mem_of_mem_take hy)
  exact ⟨⟨Nat.le_trans (Nat.min_le_left _ _) this.le, this.cm⟩, Nat.min_le_right _ _⟩
theorem shows_ls {w : World} {y : Ls} {cs : Array Value} {t : TypeId} (h : cs = y.vals.toArray) : Shows (w.alloc (.cells cs t)) 8 (some ⟨w.heap.size, 0, none⟩) 1 (lss [y]) := by
  subst h
  exact ls_new _ _
set_option maxRecDepth 100000 in
set_option maxHeartbeats 4000000 in
theorem few_any {w : World} {A : Option Addr} {n : Nat} {c : Nat} {l : List Ls} (hs : Shows w 8 A n (lss l)) (hn : n = l.length) (hnc : n ≤ c) (hcm : c ≤ maxLen) (hok : ∀ y ∈ l, y.ok) :
    Calls Try.prog 10 #[.slice A n c] w fun e w' => ∃ v, e = .returned v ∧ Ext w w' ∧ w'.ownsRow w.heap.size 45 8 v (cutsL l).length (lss (cutsL l)) := by
  have HL := Lib.hid (And.intro hs (And.intro hn hok))
  have hnm : (n : Int) < 9223372036854775808 := by unfold maxLen at hcm; omega
  clear hs hn hok hnc hcm
  go_enter Try.func10, Try.ntmps10
  go_upto_region 3 with (fail)
  go_loopw [3, 8] (fun lv v wr => ∃ k : Nat, v = .int .i64 k ∧ k ≤ n ∧ Ext w wr ∧ wr.ownsRow w.heap.size 45 8 lv (cutsL (l.take k)).length (lss (cutsL (l.take k)))) (fun _ v _ => n - (intOf v).toNat)
  case atStart => exact ⟨0, rfl, Nat.zero_le _, Ext.refl _, ⟨rfl, .inl ⟨rfl, rfl⟩⟩⟩
  case round =>
    obtain ⟨k, rfl, hk, xr, own⟩ := hrel
    obtain ⟨wo, rfl⟩ : ∃ z : World, z = wr := ⟨_, rfl⟩
    have HO := Lib.hid own
    clear own
    by_cases hlt : k < n
    · have hkn : (k : Int) < n := by omega
      obtain ⟨y, hy⟩ : ∃ y, l[k]? = some y := ⟨_, List.getElem?_eq_getElem (by have := HL.out.2.1; omega)⟩
      obtain ⟨b, o, hA', hb, hr⟩ := Shows.row ls_len (by omega) (HL.out.1.ext xr) HL.out.2.1 hy
      have HY := Lib.hid (And.intro hy (HL.out.2.2 y (List.mem_of_getElem? hy)))
      subst hA'
      clear hy
      go_upto_region 5 with (first | refine wpList_load_mid rfl 45 _ rfl _ _ rfl y.vals _ hr Try.underlying45 rfl size45 ?_ | refine wpList_stnew rfl 45 _ _ rfl rfl y.vals rfl rfl size45 rfl (ls_one y) ?_)
      obtain ⟨w4, hw4⟩ : ∃ V, V = wo.alloc (.cells y.vals.toArray 45) := ⟨_, rfl⟩
      have k4 : w4.heap[wo.heap.size]? = some (.cells #[.int .i64 y.first, .slice y.A y.n y.c, .bool y.stim, .int .u8 y.ev, .int .u8 y.pre, .int .u8 y.pri, .bool y.on, .bool y.ch] 45 (0, 0)) := by rw [hw4]; exact heap_alloc_new _ _
      have x4 : Ext wo w4 := by rw [hw4]; exact (Ext.refl _).alloc _
      rw [← hw4]
      clear hw4 hr
      have HK4 := Lib.hid k4
      clear k4
      by_cases h70 : (k : Int) < 6
      · have h70N : k < 6 := by omega
        have f0 : w4.frozen? ⟨wo.heap.size, 1, none⟩ = false := blk_free HK4.out
        have c0 : w4.cell? ⟨wo.heap.size, 1, none⟩ = some (.slice y.A y.n y.c) := blk_cell HK4.out rfl
        have hyc := HY.out.2.le
        have hym := HY.out.2.cm
        unfold maxLen at hym
        obtain ⟨kb, hkb⟩ : ∃ kb, kb = min y.n 20 := ⟨_, rfl⟩
        have hmin : (if (20 : Int) < y.n then (20 : Int) else y.n) = kb := by split <;> omega
        have hmin2 : (if 20 < y.n then (20 : Int) else (y.n : Int)) = kb := by split <;> omega
        have hkc : kb ≤ y.c := by omega
        have hkcI : (kb : Int) ≤ y.c := by omega
        have hcl : (cutsL (l.take k)).length ≤ 6 := by rw [cuts_len]; omega
        have HKB := Lib.hid hkb
        clear hkb
        go_upto_region 7 with (fail)
        obtain ⟨w6, hw6⟩ : ∃ V, V = w4.setCell ⟨wo.heap.size, 1, none⟩ (.slice y.A kb y.c) := ⟨_, rfl⟩
        have k6 : w6.heap[wo.heap.size]? = some (.cells #[.int .i64 y.first, .slice y.A kb y.c, .bool y.stim, .int .u8 y.ev, .int .u8 y.pre, .int .u8 y.pri, .bool y.on, .bool y.ch] 45 (0, 0)) := by rw [hw6]; exact blk_set HK4.out
        have X6 := Lib.hid (show Ext wo w6 by rw [hw6]; exact x4.setCell (Nat.le_refl _) _)
        rw [← hw6]
        clear hw6 c0 f0 hmin hmin2 hkcI
        obtain ⟨w7, hw7⟩ : ∃ V, V = w6.alloc (.cells #[.int .i64 y.first, .slice y.A kb y.c, .bool y.stim, .int .u8 y.ev, .int .u8 y.pre, .int .u8 y.pri, .bool y.on, .bool y.ch] 45) := ⟨_, rfl⟩
        have x7 : Ext w6 w7 := by rw [hw7]; exact (Ext.refl _).alloc _
        have sh7 : Shows w7 8 (some ⟨w6.heap.size, 0, none⟩) 1 (lss [y.cut]) := by rw [hw7]; exact shows_ls (by rw [HKB.out]; rfl)
        have own7 := own_ext HO.out (X6.out.trans x7)
        have hbase : w.heap.size ≤ w7.heap.size := Nat.le_trans xr.size (X6.out.trans x7).size
        go_wp2_with (first | refine wpList_ldrow rfl 45 (.tmp 5) rfl k6 rfl Try.underlying45 rfl (by kernel_rfl) ?_ | (at_builtin; go_loud (rw [← hw7]; refine wpList_appB el22 rfl _ _ rfl own7 rfl sh7 rfl (lss_one _) (le_max (by omega)) (by omega) hbase ?_; intro v9 w9 own9 gr9 at9)))
        have HX := Lib.hid (And.intro own9 (Ext.of_grown (xr.trans (X6.out.trans x7)) gr9 (fun b e => (HO.out.lt b e).1)))
        clear own9 gr9 at9 own7 sh7 hw7 k6
        go_roundw
        case rel => exact ⟨k + 1, by go_num, by omega, HX.out.2, by rw [cuts_succ HY.out.1 h70N, List.length_append, lss_app]; exact HX.out.1⟩
        case measure => simp [intOf]; omega
      · have h70N : ¬ k < 6 := by omega
        go_wp2
        go_roundw
        case rel => exact ⟨k + 1, by go_num, by omega, xr.trans x4, by rw [cuts_stay h70N]; exact own_ext HO.out x4⟩
        case measure => simp [intOf]; omega
    · obtain rfl : k = n := by omega
      have ho := HO.out
      rw [HL.out.2.1, List.take_length] at ho
      have HO2 := Lib.hid ho
      clear ho
      go_wp2
      go_ret
      exact ⟨_, rfl, xr, HO2.out⟩
end Go.Proofs.Ytnbcmlphnllgeaa
