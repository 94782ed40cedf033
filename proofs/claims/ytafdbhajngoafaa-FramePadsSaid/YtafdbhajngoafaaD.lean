import Derived.Test.YtafdbhajngoafaaC
set_option linter.unusedVariables false
namespace Go.Proofs.Ytafdbhajngoafaa
open Go.RowKit
theorem rmake_no1 (id : Int) (ext : Bool) (A : Option Addr) (n c : Nat) (w : World) (h : ¬ id < idsI ext) :
    Calls Try.prog 12 #[.int .u32 id, .bool ext, .slice A n c] w fun e w' => e = .returned (.tuple #[.agg #[.int .u32 0, .bool false, .int .i64 0, .int .u8 0, .int .u8 0, .int .u8 0, .int .u8 0, .int .u8 0, .int .u8 0, .int .u8 0, .int .u8 0], .int .i64 1]) ∧ Ext w w' := by
  have hd : decide (id < idsI ext) = false := by simpa using h
  go_enter Try.func12, Try.ntmps12
  go_wp2_with (go_at_call 24; (with_reducible refine (known_any _ _ _).mono ?_); rintro e w1 ⟨rfl, rfl⟩)
  refine bodyPost_ret (results_row2 rfl rfl (blk_new rfl) Try.underlying26 rfl (by kernel_rfl)) rfl ⟨rfl, (Ext.refl _).alloc _⟩
theorem rmake_no3 (id : Int) (ext : Bool) (A : Option Addr) (n c : Nat) (w : World) (h : id < idsI ext) (hn : (8 : Int) < n) :
    Calls Try.prog 12 #[.int .u32 id, .bool ext, .slice A n c] w fun e w' => e = .returned (.tuple #[.agg #[.int .u32 0, .bool false, .int .i64 0, .int .u8 0, .int .u8 0, .int .u8 0, .int .u8 0, .int .u8 0, .int .u8 0, .int .u8 0, .int .u8 0], .int .i64 3]) ∧ Ext w w' := by
  go_enter Try.func12, Try.ntmps12
  go_wp2_with (go_at_call 24; (with_reducible refine (known_any _ _ _).mono ?_); rintro e w1 ⟨rfl, rfl⟩)
  refine bodyPost_ret (results_row2 rfl rfl (blk_new rfl) Try.underlying26 rfl (by kernel_rfl)) rfl ⟨rfl, (Ext.refl _).alloc _⟩
theorem padZ_step (bs : List Int) (k : Nat) (hk : k < bs.length) (h8 : bs.length ≤ 8) : (padZ (bs.take k)).set k (bs.getD k 0) = padZ (bs.take (k + 1)) := by
  have e1 : (bs.take k).length = k := by simp; omega
  have e2 : (bs.take (k + 1)).length = k + 1 := by simp; omega
  unfold padZ
  rw [e1, e2, List.set_append_right _ _ (by omega), e1, Nat.sub_self, show 8 - k = (8 - (k + 1)) + 1 by omega, List.replicate_succ, List.set_cons_zero, List.take_succ_eq_append_getElem hk, List.append_assoc]
  simp [List.getD, List.getElem?_eq_getElem hk]
theorem rmake_any (id : Int) (ext : Bool) (A : Option Addr) (n c : Nat) (bs : List Int) (w : World) (hr : Rd w A n bs) (h : id < idsI ext) (hn : (n : Int) ≤ 8) :
    Calls Try.prog 12 #[.int .u32 id, .bool ext, .slice A n c] w fun e w' => ∃ x0 x1 x2 x3 x4 x5 x6 x7, padZ bs = [x0, x1, x2, x3, x4, x5, x6, x7] ∧ e = .returned (.tuple #[.agg #[.int .u32 id, .bool ext, .int .i64 n, .int .u8 x0, .int .u8 x1, .int .u8 x2, .int .u8 x3, .int .u8 x4, .int .u8 x5, .int .u8 x6, .int .u8 x7], .int .i64 0]) ∧ Ext w w' := by
  have hn0 : (0 : Int) ≤ n := by omega
  have hl := hr.len
  go_enter Try.func12, Try.ntmps12
  go_wp2_with (first
    | (go_at_call 24; (with_reducible refine (known_any _ _ _).mono ?_); rintro e w1 ⟨rfl, rfl⟩))
  go_loopw [9] (fun i wr => ∃ k : Nat, k ≤ n ∧ i = .int .i64 k ∧ Ext (w.alloc (.cells #[.int .u32 0, .bool false, .int .i64 0, .int .u8 0, .int .u8 0, .int .u8 0, .int .u8 0, .int .u8 0, .int .u8 0, .int .u8 0, .int .u8 0] 26)) wr ∧ Hid (wr.heap[w.heap.size + 1]? = some (.cells (frC id ext n (padZ (bs.take k))) 26 (0, 0)))) (fun i _ => n - (intOf i).toNat)
  case atStart => exact ⟨0, by omega, rfl, (Ext.refl _).alloc _, blk_new (by simp)⟩
  case round =>
    obtain ⟨k, hk, rfl, hx, hrow⟩ := hrel
    have hxw : Ext w wr := ((Ext.refl _).alloc _).trans hx
    by_cases hlt : (k : Int) < n
    · have hst := Lib.hid (padZ_step bs k (by omega) (by omega))
      obtain ⟨bb, off, rfl, _, hcell⟩ := (hr.ext hxw).cell (k := k) (by omega)
      have k0 : (0 : Int) ≤ k := by omega
      have hc3 := blk_cell hrow.out (frC_get id ext n (padZ (bs.take k)) k (by rw [padZ_len (by simp; omega)]; omega))
      have hf := blk_free (i := 3 + k) hrow.out
      generalize bs.getD k 0 = x at *
      generalize (padZ (bs.take k)).getD k 0 = y at *
      have k8 : (k : Int) < 8 := by omega
      go_wp2
      go_roundw
      case rel => exact ⟨k + 1, by omega, by go_num, hx.setCell (by simp) _, by rw [← hst.out, ← frC_set]; exact blk_set hrow.out⟩
      case measure => simp [intOf]; omega
    · obtain rfl : k = n := by omega
      rw [List.take_of_length_le (by omega)] at hrow
      obtain ⟨x0, x1, x2, x3, x4, x5, x6, x7, hX⟩ := list8 (padZ_len (bs := bs) (by omega))
      rw [hX] at hrow
      have HX := Lib.hid hX; clear hX
      have hr4 : wr.heap[w.heap.size + 1]? = some (.cells (#[.int .u32 id, .bool ext, .int .i64 k, .int .u8 x0, .int .u8 x1, .int .u8 x2, .int .u8 x3, .int .u8 x4, .int .u8 x5, .int .u8 x6, .int .u8 x7]) 26 (0, 0)) := hrow.out
      have hz : wr.heap[w.heap.size]? = some (.cells #[.int .u32 0, .bool false, .int .i64 0, .int .u8 0, .int .u8 0, .int .u8 0, .int .u8 0, .int .u8 0, .int .u8 0, .int .u8 0, .int .u8 0] 26 (0, 0)) := blk_of hx
      clear hrow
      go_wp2_with (first
        | (refine wpList_ldrow rfl 26 (.tmp 8) rfl hr4 rfl Try.underlying26 rfl (by kernel_rfl) ?_)
        | (refine wpList_strow rfl 26 (.tmp 6) (.tmp 37) rfl hz rfl rfl (by kernel_rfl) rfl (all1 trivial) ?_; intro w5 hg5 hw5))
      refine bodyPost_ret (results_row2 rfl rfl hg5.out Try.underlying26 rfl (by kernel_rfl)) rfl ⟨x0, x1, x2, x3, x4, x5, x6, x7, HX.out, rfl, hxw.of_grown hw5 (fun k hk => by simp at hk; omega)⟩

/-- Pad. -/
def padW (bs : List Int) (L : Nat) (x : Int) : List Int := bs.take L ++ List.replicate (8 - L) x
theorem padW_step (bs : List Int) (hl : bs.length = 8) (L k : Nat) (x : Int) (h1 : L ≤ k) (h2 : k < 8) : ((bs.take L ++ List.replicate (k - L) x) ++ bs.drop k).set k x = (bs.take L ++ List.replicate (k + 1 - L) x) ++ bs.drop (k + 1) := by
  have e1 : (bs.take L ++ List.replicate (k - L) x).length = k := by simp; omega
  rw [List.set_append_right _ _ (by omega), e1, Nat.sub_self, List.drop_eq_getElem_cons (by omega : k < bs.length), List.set_cons_zero, show k + 1 - L = (k - L) + 1 by omega, List.replicate_succ']
  simp
def padTo (bs : List Int) (L k : Nat) (x : Int) : List Int := (bs.take L ++ List.replicate (k - L) x) ++ bs.drop k
theorem padTo_len (bs : List Int) (hl : bs.length = 8) (L k : Nat) (x : Int) (h1 : L ≤ k) (h2 : k ≤ 8) : (padTo bs L k x).length = 8 := by simp [padTo]; omega
theorem padTo_end (bs : List Int) (hl : bs.length = 8) (L : Nat) (x : Int) : padTo bs L 8 x = padW bs L x := by simp [padTo, padW, List.drop_eq_nil_of_le (by omega : bs.length ≤ 8)]
theorem results_row1 {P : Program} {w : World} {fn : Func} {p : Tmp} {ty : TypeId} (h : fn.results = #[.cell p ty]) {tmps : Array Value} {g : Nat} {t : TypeId} {cs : Array Value} {fr : Nat × Nat} {d : TypeDesc}
    (hp : tmps.getD p undef = .pointer (some ⟨g, 0, none⟩)) (hg : w.heap[g]? = some (.cells cs t fr))
    (hu : P.underlying ty = some d) (hd : (match d with | .struct _ | .array _ _ => true | _ => false) = true) (hi : (P.info? ty).map (·.size) = some cs.size) :
    (results fn tmps).run P w = .ok (.agg cs) w := results_cell_row h tmps w g t cs fr d hp hg hu hd hi
theorem pad_no (id : Int) (ext : Bool) (len : Int) (b0 b1 b2 b3 b4 b5 b6 b7 : Int) (x : Int) (w : World) (hm : mayB id ext len [b0, b1, b2, b3, b4, b5, b6, b7] = false) :
    Calls Try.prog 18 #[.agg #[.int .u32 id, .bool ext, .int .i64 len, .int .u8 b0, .int .u8 b1, .int .u8 b2, .int .u8 b3, .int .u8 b4, .int .u8 b5, .int .u8 b6, .int .u8 b7], .int .u8 x] w fun e w' => e = .returned (.agg #[.int .u32 id, .bool ext, .int .i64 len, .int .u8 b0, .int .u8 b1, .int .u8 b2, .int .u8 b3, .int .u8 b4, .int .u8 b5, .int .u8 b6, .int .u8 b7]) ∧ Ext w w' := by
  go_enter Try.func18, Try.ntmps18
  go_wp2_with (first
    | (go_at_call 14; (with_reducible refine (may_any _ _ _ _ _ _ _ _ _ _ _ _).mono ?_); rintro e w1 ⟨rfl, x1⟩; have hrow : w1.heap[w.heap.size]? = some (.cells #[.int .u32 id, .bool ext, .int .i64 len, .int .u8 b0, .int .u8 b1, .int .u8 b2, .int .u8 b3, .int .u8 b4, .int .u8 b5, .int .u8 b6, .int .u8 b7] 26 (0, 0)) := blk_of (((Ext.refl _).alloc _).trans x1); have hz : w1.heap[w.heap.size + 1]? = some (.cells #[.int .u32 0, .bool false, .int .i64 0, .int .u8 0, .int .u8 0, .int .u8 0, .int .u8 0, .int .u8 0, .int .u8 0, .int .u8 0, .int .u8 0] 26 (0, 0)) := (x1.block _ (by simp)).trans (blk_new (by simp)))
    | (refine wpList_ldrow rfl 26 (.tmp 2) rfl hrow rfl Try.underlying26 rfl (by kernel_rfl) ?_)
    | (refine wpList_strow rfl 26 (.tmp 4) (.tmp 9) rfl hz rfl rfl (by kernel_rfl) rfl (all1 trivial) ?_; intro w5 hg5 hw5))
  refine bodyPost_ret (results_row1 rfl rfl hg5.out Try.underlying26 rfl (by kernel_rfl)) rfl ⟨rfl, ((((Ext.refl _).alloc _).alloc _).trans x1).of_grown hw5 (fun k hk => by simp at hk; omega)⟩
theorem rpad_no (id : Int) (ext : Bool) (len : Int) (b0 b1 b2 b3 b4 b5 b6 b7 : Int) (x : Int) (w : World) (hm : mayB id ext len [b0, b1, b2, b3, b4, b5, b6, b7] = false) :
    Calls Try.prog 19 #[.agg #[.int .u32 id, .bool ext, .int .i64 len, .int .u8 b0, .int .u8 b1, .int .u8 b2, .int .u8 b3, .int .u8 b4, .int .u8 b5, .int .u8 b6, .int .u8 b7], .int .u8 x] w fun e w' => e = .returned (.agg #[.int .u32 id, .bool ext, .int .i64 len, .int .u8 b0, .int .u8 b1, .int .u8 b2, .int .u8 b3, .int .u8 b4, .int .u8 b5, .int .u8 b6, .int .u8 b7]) ∧ Ext w w' := by
  go_enter Try.func19, Try.ntmps19
  go_wp2_with (first
    | (go_at_call 15; (with_reducible refine (rmay_any _ _ _ _ _ _ _ _ _ _ _ _).mono ?_); rintro e w1 ⟨rfl, x1⟩; have hrow : w1.heap[w.heap.size]? = some (.cells #[.int .u32 id, .bool ext, .int .i64 len, .int .u8 b0, .int .u8 b1, .int .u8 b2, .int .u8 b3, .int .u8 b4, .int .u8 b5, .int .u8 b6, .int .u8 b7] 26 (0, 0)) := blk_of (((Ext.refl _).alloc _).trans x1); have hz : w1.heap[w.heap.size + 1]? = some (.cells #[.int .u32 0, .bool false, .int .i64 0, .int .u8 0, .int .u8 0, .int .u8 0, .int .u8 0, .int .u8 0, .int .u8 0, .int .u8 0, .int .u8 0] 26 (0, 0)) := (x1.block _ (by simp)).trans (blk_new (by simp)))
    | (refine wpList_ldrow rfl 26 (.tmp 2) rfl hrow rfl Try.underlying26 rfl (by kernel_rfl) ?_)
    | (refine wpList_strow rfl 26 (.tmp 4) (.tmp 9) rfl hz rfl rfl (by kernel_rfl) rfl (all1 trivial) ?_; intro w5 hg5 hw5))
  refine bodyPost_ret (results_row1 rfl rfl hg5.out Try.underlying26 rfl (by kernel_rfl)) rfl ⟨rfl, ((((Ext.refl _).alloc _).alloc _).trans x1).of_grown hw5 (fun k hk => by simp at hk; omega)⟩
theorem pad_any (id : Int) (ext : Bool) (L : Nat) (b0 b1 b2 b3 b4 b5 b6 b7 : Int) (x : Int) (w : World) (hm : mayB id ext L [b0, b1, b2, b3, b4, b5, b6, b7] = true) :
    Calls Try.prog 18 #[.agg #[.int .u32 id, .bool ext, .int .i64 L, .int .u8 b0, .int .u8 b1, .int .u8 b2, .int .u8 b3, .int .u8 b4, .int .u8 b5, .int .u8 b6, .int .u8 b7], .int .u8 x] w fun e w' => ∃ y0 y1 y2 y3 y4 y5 y6 y7, padW [b0, b1, b2, b3, b4, b5, b6, b7] L x = [y0, y1, y2, y3, y4, y5, y6, y7] ∧ e = .returned (.agg #[.int .u32 id, .bool ext, .int .i64 8, .int .u8 y0, .int .u8 y1, .int .u8 y2, .int .u8 y3, .int .u8 y4, .int .u8 y5, .int .u8 y6, .int .u8 y7]) ∧ Ext w w' := by
  have hL8 : (L : Int) ≤ 8 := by simp [mayB] at hm; omega
  have hL0 : (0 : Int) ≤ L := by omega
  go_enter Try.func18, Try.ntmps18
  go_wp2_with (first
    | (go_at_call 14; (with_reducible refine (may_any _ _ _ _ _ _ _ _ _ _ _ _).mono ?_); rintro e w1 ⟨rfl, x1⟩; have hrow : w1.heap[w.heap.size]? = some (.cells #[.int .u32 id, .bool ext, .int .i64 L, .int .u8 b0, .int .u8 b1, .int .u8 b2, .int .u8 b3, .int .u8 b4, .int .u8 b5, .int .u8 b6, .int .u8 b7] 26 (0, 0)) := blk_of (((Ext.refl _).alloc _).trans x1); have hz : Hid (w1.heap[w.heap.size + 1]? = some (.cells #[.int .u32 0, .bool false, .int .i64 0, .int .u8 0, .int .u8 0, .int .u8 0, .int .u8 0, .int .u8 0, .int .u8 0, .int .u8 0, .int .u8 0] 26 (0, 0))) := (x1.block _ (by simp)).trans (blk_new (by simp)); have f2 : w1.cell? ⟨w.heap.size, 2, none⟩ = some (.int .i64 L) := blk_cell hrow rfl))
  go_loopw [5] (fun i wr => ∃ k : Nat, L ≤ k ∧ k ≤ 8 ∧ i = .int .i64 k ∧ Ext w wr ∧ Hid (wr.heap[w.heap.size]? = some (.cells (frC id ext L (padTo [b0, b1, b2, b3, b4, b5, b6, b7] L k x)) 26 (0, 0))) ∧ Hid (wr.heap[w.heap.size + 1]? = some (.cells #[.int .u32 0, .bool false, .int .i64 0, .int .u8 0, .int .u8 0, .int .u8 0, .int .u8 0, .int .u8 0, .int .u8 0, .int .u8 0, .int .u8 0] 26 (0, 0)))) (fun i _ => 8 - (intOf i).toNat)
  case atStart => exact ⟨L, by omega, by omega, rfl, (((Ext.refl _).alloc _).alloc _).trans x1, by rw [show padTo [b0, b1, b2, b3, b4, b5, b6, b7] L L x = [b0, b1, b2, b3, b4, b5, b6, b7] by simp [padTo]]; exact hrow, hz⟩
  case round =>
    obtain ⟨k, hk1, hk2, rfl, hx, hro, hzo⟩ := hrel
    clear hrow hz f2
    by_cases hlt : (k : Int) < 8
    · have hst := Lib.hid (padW_step [b0, b1, b2, b3, b4, b5, b6, b7] rfl L k x hk1 (by omega))
      have k0 : (0 : Int) ≤ k := by omega
      have hc3 := blk_cell hro.out (frC_get id ext L (padTo [b0, b1, b2, b3, b4, b5, b6, b7] L k x) k (by rw [padTo_len _ rfl _ _ _ hk1 hk2]; omega))
      have hf := blk_free (i := 3 + k) hro.out
      generalize (padTo [b0, b1, b2, b3, b4, b5, b6, b7] L k x).getD k 0 = y at *
      go_wp2
      go_roundw
      case rel => exact ⟨k + 1, by omega, by omega, by go_num, hx.setCell (by simp) _, by rw [padTo, ← hst.out, ← frC_set]; exact blk_set hro.out, (Below.heap_setCell _ _ _ _ (by simp)).trans hzo.out⟩
      case measure => simp [intOf]; omega
    · obtain rfl : k = 8 := by omega
      rw [padTo_end _ rfl] at hro
      obtain ⟨y0, y1, y2, y3, y4, y5, y6, y7, hX⟩ := list8 (l := padW [b0, b1, b2, b3, b4, b5, b6, b7] L x) (by simp [padW]; omega)
      rw [hX] at hro
      have HX := Lib.hid hX; clear hX
      have hr5 : wr.heap[w.heap.size]? = some (.cells #[.int .u32 id, .bool ext, .int .i64 L, .int .u8 y0, .int .u8 y1, .int .u8 y2, .int .u8 y3, .int .u8 y4, .int .u8 y5, .int .u8 y6, .int .u8 y7] 26 (0, 0)) := hro.out
      have f2 : wr.cell? ⟨w.heap.size, 2, none⟩ = some (.int .i64 L) := blk_cell hr5 rfl
      have ff := blk_free (i := 2) hr5
      have hr4 : (wr.setCell ⟨w.heap.size, 2, none⟩ (.int .i64 8)).heap[w.heap.size]? = some (.cells #[.int .u32 id, .bool ext, .int .i64 8, .int .u8 y0, .int .u8 y1, .int .u8 y2, .int .u8 y3, .int .u8 y4, .int .u8 y5, .int .u8 y6, .int .u8 y7] 26 (0, 0)) := blk_set hr5
      have hz4 : (wr.setCell ⟨w.heap.size, 2, none⟩ (.int .i64 8)).heap[w.heap.size + 1]? = some (.cells #[.int .u32 0, .bool false, .int .i64 0, .int .u8 0, .int .u8 0, .int .u8 0, .int .u8 0, .int .u8 0, .int .u8 0, .int .u8 0, .int .u8 0] 26 (0, 0)) := (Below.heap_setCell _ _ _ _ (by simp)).trans hzo.out
      have HR4 := Lib.hid hr4; clear hr4 hr5
      have HZ4 := Lib.hid hz4; clear hz4
      go_wp2_with (first
        | (refine wpList_ldrow rfl 26 (.tmp 2) rfl HR4.out rfl Try.underlying26 rfl (by kernel_rfl) ?_)
        | (refine wpList_strow rfl 26 (.tmp 4) (.tmp 21) rfl HZ4.out rfl rfl (by kernel_rfl) rfl (all1 trivial) ?_; intro w5 hg5 hw5))
      refine bodyPost_ret (results_row1 rfl rfl hg5.out Try.underlying26 rfl (by kernel_rfl)) rfl ⟨y0, y1, y2, y3, y4, y5, y6, y7, HX.out, rfl, (hx.setCell (by simp) _).of_grown hw5 (fun k hk => by simp at hk; omega)⟩
theorem rpad_any (id : Int) (ext : Bool) (L : Nat) (b0 b1 b2 b3 b4 b5 b6 b7 : Int) (x : Int) (w : World) (hm : mayB id ext L [b0, b1, b2, b3, b4, b5, b6, b7] = true) :
    Calls Try.prog 19 #[.agg #[.int .u32 id, .bool ext, .int .i64 L, .int .u8 b0, .int .u8 b1, .int .u8 b2, .int .u8 b3, .int .u8 b4, .int .u8 b5, .int .u8 b6, .int .u8 b7], .int .u8 x] w fun e w' => ∃ y0 y1 y2 y3 y4 y5 y6 y7, padW [b0, b1, b2, b3, b4, b5, b6, b7] L x = [y0, y1, y2, y3, y4, y5, y6, y7] ∧ e = .returned (.agg #[.int .u32 id, .bool ext, .int .i64 8, .int .u8 y0, .int .u8 y1, .int .u8 y2, .int .u8 y3, .int .u8 y4, .int .u8 y5, .int .u8 y6, .int .u8 y7]) ∧ Ext w w' := by
  have hL8 : (L : Int) ≤ 8 := by simp [mayB] at hm; omega
  have hL0 : (0 : Int) ≤ L := by omega
  go_enter Try.func19, Try.ntmps19
  go_wp2_with (first
    | (go_at_call 15; (with_reducible refine (rmay_any _ _ _ _ _ _ _ _ _ _ _ _).mono ?_); rintro e w1 ⟨rfl, x1⟩; have hrow : w1.heap[w.heap.size]? = some (.cells #[.int .u32 id, .bool ext, .int .i64 L, .int .u8 b0, .int .u8 b1, .int .u8 b2, .int .u8 b3, .int .u8 b4, .int .u8 b5, .int .u8 b6, .int .u8 b7] 26 (0, 0)) := blk_of (((Ext.refl _).alloc _).trans x1); have hz : Hid (w1.heap[w.heap.size + 1]? = some (.cells #[.int .u32 0, .bool false, .int .i64 0, .int .u8 0, .int .u8 0, .int .u8 0, .int .u8 0, .int .u8 0, .int .u8 0, .int .u8 0, .int .u8 0] 26 (0, 0))) := (x1.block _ (by simp)).trans (blk_new (by simp)); have f2 : w1.cell? ⟨w.heap.size, 2, none⟩ = some (.int .i64 L) := blk_cell hrow rfl))
  go_loopw [5] (fun i wr => ∃ k : Nat, L ≤ k ∧ k ≤ 8 ∧ i = .int .i64 k ∧ Ext w wr ∧ Hid (wr.heap[w.heap.size]? = some (.cells (frC id ext L (padTo [b0, b1, b2, b3, b4, b5, b6, b7] L k x)) 26 (0, 0))) ∧ Hid (wr.heap[w.heap.size + 1]? = some (.cells #[.int .u32 0, .bool false, .int .i64 0, .int .u8 0, .int .u8 0, .int .u8 0, .int .u8 0, .int .u8 0, .int .u8 0, .int .u8 0, .int .u8 0] 26 (0, 0)))) (fun i _ => 8 - (intOf i).toNat)
  case atStart => exact ⟨L, by omega, by omega, rfl, (((Ext.refl _).alloc _).alloc _).trans x1, by rw [show padTo [b0, b1, b2, b3, b4, b5, b6, b7] L L x = [b0, b1, b2, b3, b4, b5, b6, b7] by simp [padTo]]; exact hrow, hz⟩
  case round =>
    obtain ⟨k, hk1, hk2, rfl, hx, hro, hzo⟩ := hrel
    clear hrow hz f2
    by_cases hlt : (k : Int) < 8
    · have hst := Lib.hid (padW_step [b0, b1, b2, b3, b4, b5, b6, b7] rfl L k x hk1 (by omega))
      have k0 : (0 : Int) ≤ k := by omega
      have hc3 := blk_cell hro.out (frC_get id ext L (padTo [b0, b1, b2, b3, b4, b5, b6, b7] L k x) k (by rw [padTo_len _ rfl _ _ _ hk1 hk2]; omega))
      have hf := blk_free (i := 3 + k) hro.out
      generalize (padTo [b0, b1, b2, b3, b4, b5, b6, b7] L k x).getD k 0 = y at *
      go_wp2
      go_roundw
      case rel => exact ⟨k + 1, by omega, by omega, by go_num, hx.setCell (by simp) _, by rw [padTo, ← hst.out, ← frC_set]; exact blk_set hro.out, (Below.heap_setCell _ _ _ _ (by simp)).trans hzo.out⟩
      case measure => simp [intOf]; omega
    · obtain rfl : k = 8 := by omega
      rw [padTo_end _ rfl] at hro
      obtain ⟨y0, y1, y2, y3, y4, y5, y6, y7, hX⟩ := list8 (l := padW [b0, b1, b2, b3, b4, b5, b6, b7] L x) (by simp [padW]; omega)
      rw [hX] at hro
      have HX := Lib.hid hX; clear hX
      have hr5 : wr.heap[w.heap.size]? = some (.cells #[.int .u32 id, .bool ext, .int .i64 L, .int .u8 y0, .int .u8 y1, .int .u8 y2, .int .u8 y3, .int .u8 y4, .int .u8 y5, .int .u8 y6, .int .u8 y7] 26 (0, 0)) := hro.out
      have f2 : wr.cell? ⟨w.heap.size, 2, none⟩ = some (.int .i64 L) := blk_cell hr5 rfl
      have ff := blk_free (i := 2) hr5
      have hr4 : (wr.setCell ⟨w.heap.size, 2, none⟩ (.int .i64 8)).heap[w.heap.size]? = some (.cells #[.int .u32 id, .bool ext, .int .i64 8, .int .u8 y0, .int .u8 y1, .int .u8 y2, .int .u8 y3, .int .u8 y4, .int .u8 y5, .int .u8 y6, .int .u8 y7] 26 (0, 0)) := blk_set hr5
      have hz4 : (wr.setCell ⟨w.heap.size, 2, none⟩ (.int .i64 8)).heap[w.heap.size + 1]? = some (.cells #[.int .u32 0, .bool false, .int .i64 0, .int .u8 0, .int .u8 0, .int .u8 0, .int .u8 0, .int .u8 0, .int .u8 0, .int .u8 0, .int .u8 0] 26 (0, 0)) := (Below.heap_setCell _ _ _ _ (by simp)).trans hzo.out
      have HR4 := Lib.hid hr4; clear hr4 hr5
      have HZ4 := Lib.hid hz4; clear hz4
      go_wp2_with (first
        | (refine wpList_ldrow rfl 26 (.tmp 2) rfl HR4.out rfl Try.underlying26 rfl (by kernel_rfl) ?_)
        | (refine wpList_strow rfl 26 (.tmp 4) (.tmp 21) rfl HZ4.out rfl rfl (by kernel_rfl) rfl (all1 trivial) ?_; intro w5 hg5 hw5))
      refine bodyPost_ret (results_row1 rfl rfl hg5.out Try.underlying26 rfl (by kernel_rfl)) rfl ⟨y0, y1, y2, y3, y4, y5, y6, y7, HX.out, rfl, (hx.setCell (by simp) _).of_grown hw5 (fun k hk => by simp at hk; omega)⟩
end Go.Proofs.Ytafdbhajngoafaa
