import Derived.Test.YtafdbhajngoafaaA
set_option linter.unusedVariables false
namespace Go.Proofs.Ytafdbhajngoafaa
open Go.RowKit
def frC (id : Int) (ext : Bool) (len : Int) (bs : List Int) : Array Value := (.int .u32 id :: .bool ext :: .int .i64 len :: u8s bs).toArray
theorem frC_get (id : Int) (ext : Bool) (len : Int) (bs : List Int) (k : Nat) (hk : k < bs.length) : (frC id ext len bs)[3 + k]? = some (.int .u8 (bs.getD k 0)) := by
  simp [frC, u8s, show 3 + k = k + 1 + 1 + 1 by omega, List.getElem?_eq_getElem hk, List.getD]
theorem frC_set (id : Int) (ext : Bool) (len : Int) (bs : List Int) (k : Nat) (x : Int) : (frC id ext len bs).setIfInBounds (3 + k) (.int .u8 x) = frC id ext len (bs.set k x) := by
  simp [frC, u8s, show 3 + k = k + 1 + 1 + 1 by omega, List.map_set]
theorem list8 {α : Type} : ∀ {l : List α}, l.length = 8 → ∃ x0 x1 x2 x3 x4 x5 x6 x7, l = [x0, x1, x2, x3, x4, x5, x6, x7]
  | [x0, x1, x2, x3, x4, x5, x6, x7], _ => ⟨x0, x1, x2, x3, x4, x5, x6, x7, rfl⟩
theorem cells11 {w : World} {g : Nat} {t : TypeId} {fr : Nat × Nat} {x0 x1 x2 x3 x4 x5 x6 x7 x8 x9 xa : Value} (h : w.heap[g]? = some (.cells #[x0, x1, x2, x3, x4, x5, x6, x7, x8, x9, xa] t fr)) :
    w.cell? ⟨g, 0, none⟩ = some x0 ∧ w.cell? ⟨g, 1, none⟩ = some x1 ∧ w.cell? ⟨g, 2, none⟩ = some x2 ∧ w.cell? ⟨g, 3, none⟩ = some x3 ∧ w.cell? ⟨g, 4, none⟩ = some x4 ∧ w.cell? ⟨g, 5, none⟩ = some x5 ∧ w.cell? ⟨g, 6, none⟩ = some x6 ∧ w.cell? ⟨g, 7, none⟩ = some x7 ∧ w.cell? ⟨g, 8, none⟩ = some x8 ∧ w.cell? ⟨g, 9, none⟩ = some x9 ∧ w.cell? ⟨g, 10, none⟩ = some xa := by
  refine ⟨?_, ?_, ?_, ?_, ?_, ?_, ?_, ?_, ?_, ?_, ?_⟩ <;> (rw [cell_of_row _ _ _ _ _ _ h]; rfl)

def zerosFrom (bs : List Int) (a k : Nat) : Prop := ∀ j, a ≤ j → j < k → bs.getD j 0 = 0
theorem mayB_of (id : Int) (ext : Bool) (L : Nat) (bs : List Int) (hl : bs.length = 8) (hL : L ≤ 8) (hid : id < idsI ext) (hz : zerosFrom bs L 8) : mayB id ext L bs = true := by
  simp only [mayB, Bool.and_eq_true, decide_eq_true_eq, List.all_eq_true]
  refine ⟨⟨⟨hid, by omega⟩, by omega⟩, fun x hx => ?_⟩
  obtain ⟨j, hj, rfl⟩ := List.getElem_of_mem hx
  have hj' : L + j < bs.length := by simp at hj; omega
  have := hz (L + j) (by omega) (by omega)
  simp [List.getD, List.getElem?_eq_getElem hj'] at this
  simp [this]
theorem mayB_not (id : Int) (ext : Bool) (L : Nat) (bs : List Int) (k : Nat) (hk : k < bs.length) (hL : L ≤ k) (h : bs.getD k 0 ≠ 0) : mayB id ext L bs = false := by
  rw [Bool.eq_false_iff]
  intro hm
  simp only [mayB, Bool.and_eq_true, decide_eq_true_eq, List.all_eq_true] at hm
  apply h
  have := hm.2 (bs.getD k 0) (by
    rw [Int.toNat_natCast]
    refine List.mem_iff_getElem.2 ⟨k - L, by simp; omega, ?_⟩
    simp [List.getD, List.getElem?_eq_getElem hk, show L + (k - L) = k by omega])
  simpa using this

theorem rmay_any (id : Int) (ext : Bool) (len : Int) (b0 b1 b2 b3 b4 b5 b6 b7 : Int) (w : World) :
    Calls Try.prog 15 #[.agg #[.int .u32 id, .bool ext, .int .i64 len, .int .u8 b0, .int .u8 b1, .int .u8 b2, .int .u8 b3, .int .u8 b4, .int .u8 b5, .int .u8 b6, .int .u8 b7]] w fun e w' => e = .returned (.bool (mayB id ext len [b0, b1, b2, b3, b4, b5, b6, b7])) ∧ Ext w w' := by
  obtain ⟨I, hI⟩ : ∃ I, I = idsI ext := ⟨_, rfl⟩
  have ci : ∀ W, Calls Try.prog 24 #[.int .u32 id, .bool ext] W fun e w' => e = .returned (.bool (decide (id < I))) ∧ W = w' := fun W => by rw [hI]; exact known_any id ext W
  have CI := Lib.hid ci; clear ci
  have HI := Lib.hid hI; clear hI
  by_cases h1 : id < I
  · by_cases h2 : len < 0
    · go_enter Try.func15, Try.ntmps15
      go_wp2_with (go_at_call 24; (with_reducible refine (CI.out _).mono ?_); rintro e w1 ⟨rfl, rfl⟩)
      go_ret
      exact ⟨by rw [mayB, ← HI.out]; simp; intros; omega, (Ext.refl _).alloc _⟩
    · by_cases h3 : 8 < len
      · go_enter Try.func15, Try.ntmps15
        go_wp2_with (go_at_call 24; (with_reducible refine (CI.out _).mono ?_); rintro e w1 ⟨rfl, rfl⟩)
        go_ret
        exact ⟨by rw [mayB, ← HI.out]; simp; intros; omega, (Ext.refl _).alloc _⟩
      · obtain ⟨L, rfl⟩ : ∃ L : Nat, len = L := ⟨len.toNat, by omega⟩
        have hL8 : L ≤ 8 := by omega
        clear h2
        go_enter Try.func15, Try.ntmps15
        go_wp2_with (go_at_call 24; (with_reducible refine (CI.out _).mono ?_); rintro e w1 ⟨rfl, rfl⟩)
        go_loopw [3] (fun i wr => ∃ k : Nat, L ≤ k ∧ k ≤ 8 ∧ i = .int .i64 k ∧ zerosFrom [b0, b1, b2, b3, b4, b5, b6, b7] L k ∧ Ext (w.alloc (.cells (#[.int .u32 id, .bool ext, .int .i64 L, .int .u8 b0, .int .u8 b1, .int .u8 b2, .int .u8 b3, .int .u8 b4, .int .u8 b5, .int .u8 b6, .int .u8 b7]) 26)) wr) (fun i _ => 8 - (intOf i).toNat)
        case atStart => exact ⟨L, by omega, by omega, rfl, fun j h h' => by omega, Ext.refl _⟩
        case round =>
          obtain ⟨k, hk1, hk2, rfl, hz, hx⟩ := hrel
          have hrow : wr.heap[w.heap.size]? = some (.cells (frC id ext L [b0, b1, b2, b3, b4, b5, b6, b7]) 26 (0, 0)) := blk_of hx
          by_cases hlt : (k : Int) < 8
          · have hc := blk_cell hrow (frC_get id ext L [b0, b1, b2, b3, b4, b5, b6, b7] k (by simp; omega))
            have hb0 : (0 : Int) ≤ k := by omega
            clear hrow
            obtain ⟨x, hx2⟩ : ∃ x, x = ([b0, b1, b2, b3, b4, b5, b6, b7]).getD k 0 := ⟨_, rfl⟩
            rw [← hx2] at hc
            have HX := Lib.hid hx2; clear hx2
            have HZ := Lib.hid hz; clear hz
            by_cases hx0 : x = 0
            · have hx1 : (x != 0) = false := by simp [hx0]
              have HX0 := Lib.hid hx0; clear hx0
              go_wp2
              go_roundw
              case rel => exact ⟨k + 1, by omega, by omega, by go_num, fun j h h' => (by
                rcases Nat.lt_or_ge j k with g | g
                · exact HZ.out j h g
                · obtain rfl : j = k := by omega
                  rw [← HX.out]; exact HX0.out), hx⟩
              case measure => simp [intOf]; omega
            · have hx1 : (x != 0) = true := by simp [hx0]
              have HX0 := Lib.hid hx0; clear hx0
              go_wp2
              go_ret
              refine ⟨?_, ((Ext.refl _).alloc _).trans hx⟩
              rw [mayB_not id ext L [b0, b1, b2, b3, b4, b5, b6, b7] k (by simp; omega) hk1 (by rw [← HX.out]; exact HX0.out)]
              rfl
          · obtain rfl : k = 8 := by omega
            go_wp2
            go_ret
            refine ⟨?_, ((Ext.refl _).alloc _).trans hx⟩
            rw [mayB_of id ext L [b0, b1, b2, b3, b4, b5, b6, b7] rfl (by omega) (by rw [← HI.out]; exact h1) hz]
            rfl
  · go_enter Try.func15, Try.ntmps15
    go_wp2_with (go_at_call 24; (with_reducible refine (CI.out _).mono ?_); rintro e w1 ⟨rfl, rfl⟩)
    go_ret
    exact ⟨by rw [mayB, ← HI.out]; simp; intros; omega, (Ext.refl _).alloc _⟩

/-- frame.Bytes. -/
theorem el23 : Elem Try.prog 23 5 1 1 (.int .u8 0) := Elem.mk' Try.underlying23 (by kernel_rfl) rfl (by omega)
theorem bytes_no (id : Int) (ext : Bool) (len : Int) (b0 b1 b2 b3 b4 b5 b6 b7 : Int) (w : World) (hm : mayB id ext len [b0, b1, b2, b3, b4, b5, b6, b7] = false) :
    Calls Try.prog 16 #[.agg #[.int .u32 id, .bool ext, .int .i64 len, .int .u8 b0, .int .u8 b1, .int .u8 b2, .int .u8 b3, .int .u8 b4, .int .u8 b5, .int .u8 b6, .int .u8 b7]] w fun e w' => e = .returned (.slice none 0 0) ∧ Ext w w' := by
  go_enter Try.func16, Try.ntmps16
  go_wp2_with (go_at_call 14; (with_reducible refine (may_any _ _ _ _ _ _ _ _ _ _ _ _).mono ?_); rintro e w1 ⟨rfl, x1⟩)
  go_ret
  exact ⟨rfl, ((Ext.refl _).alloc _).trans x1⟩
theorem rbytes_no (id : Int) (ext : Bool) (len : Int) (b0 b1 b2 b3 b4 b5 b6 b7 : Int) (w : World) (hm : mayB id ext len [b0, b1, b2, b3, b4, b5, b6, b7] = false) :
    Calls Try.prog 17 #[.agg #[.int .u32 id, .bool ext, .int .i64 len, .int .u8 b0, .int .u8 b1, .int .u8 b2, .int .u8 b3, .int .u8 b4, .int .u8 b5, .int .u8 b6, .int .u8 b7]] w fun e w' => e = .returned (.slice none 0 0) ∧ Ext w w' := by
  go_enter Try.func17, Try.ntmps17
  go_wp2_with (go_at_call 15; (with_reducible refine (rmay_any _ _ _ _ _ _ _ _ _ _ _ _).mono ?_); rintro e w1 ⟨rfl, x1⟩)
  go_ret
  exact ⟨rfl, ((Ext.refl _).alloc _).trans x1⟩
theorem bytes_any (id : Int) (ext : Bool) (L : Nat) (b0 b1 b2 b3 b4 b5 b6 b7 : Int) (w : World) (hb : Byts [b0, b1, b2, b3, b4, b5, b6, b7]) (hm : mayB id ext L [b0, b1, b2, b3, b4, b5, b6, b7] = true) :
    Calls Try.prog 16 #[.agg #[.int .u32 id, .bool ext, .int .i64 L, .int .u8 b0, .int .u8 b1, .int .u8 b2, .int .u8 b3, .int .u8 b4, .int .u8 b5, .int .u8 b6, .int .u8 b7]] w fun e w' => ∃ A c, e = .returned (.slice A L c) ∧ L ≤ c ∧ c ≤ maxLen ∧ Ext w w' ∧ Rd w' A L (([b0, b1, b2, b3, b4, b5, b6, b7]).take L) := by
  have hL8 : (L : Int) ≤ 8 := by simp [mayB] at hm; omega
  have hL0 : (0 : Int) ≤ L := by omega
  go_enter Try.func16, Try.ntmps16
  go_wp2_with (first
    | (go_at_call 14; (with_reducible refine (may_any _ _ _ _ _ _ _ _ _ _ _ _).mono ?_); rintro e w1 ⟨rfl, x1⟩; have hrow := blk_of x1; have f2 : w1.cell? ⟨w.heap.size, 2, none⟩ = some (.int .i64 L) := blk_cell hrow rfl)
    | (at_make; refine wpList_make1 el23 rfl rfl _ _ rfl rfl rfl hL0 (by omega) (by omega) ?_; intro w2 hg2 x2 hs2)
    | (refine wpList_copy_splice rfl (.tmp 10) (.tmp 12) 23 23 rfl 5 Try.underlying23 (by kernel_rfl) _ _ _ _ _ _ rfl rfl w1.heap.size 0 _ 5 hg2.out (((#[.int .u32 id, .bool ext, .int .i64 L, .int .u8 b0, .int .u8 b1, .int .u8 b2, .int .u8 b3, .int .u8 b4, .int .u8 b5, .int .u8 b6, .int .u8 b7]).toList.drop 3).take L) (by show _ = min 8 L; simp; omega) (fun hp => ⟨rfl, ⟨w.heap.size, 3, none⟩, rfl, fun j v hj => cells_of_blk (blk_of (x1.trans x2)) j v (get_take hj)⟩) (by simp; omega) (fun v hv => by have := List.mem_of_mem_drop (List.mem_of_mem_take hv); simp at this; rcases this with rfl | rfl | rfl | rfl | rfl | rfl | rfl | rfl | rfl | rfl | rfl <;> rfl) w.heap.size w (((Ext.refl _).alloc _).trans (x1.trans x2)) (by have := x1.size; simp at this; omega) ?_; intro w4 hg4 hb4))
  go_ret
  have hr : w4.heap[w1.heap.size]? = some (.cells (u8s (([b0, b1, b2, b3, b4, b5, b6, b7]).take L)).toArray 5 (0, 0)) := by
    have := hg4.out
    rw [this]
    have e : ∀ (Z cs : List Value), Z.length = cs.length → splice Z 0 cs = cs := fun Z cs h => by simp [splice, h]
    rw [e _ _ (by simp; omega)]
    simp [u8s, List.map_take]
  refine ⟨_, L, rfl, Nat.le_refl _, le_max (by omega), hb4, ⟨⟨by simp [u8s]; omega, fun h => ⟨_, rfl, ?_, ?_⟩⟩, fun y hy => hb y (List.mem_of_mem_take hy)⟩⟩
  · exact (Array.getElem?_eq_some_iff.1 hr).1
  · exact cells_of_blk (off := 0) hr
theorem rbytes_any (id : Int) (ext : Bool) (L : Nat) (b0 b1 b2 b3 b4 b5 b6 b7 : Int) (w : World) (hb : Byts [b0, b1, b2, b3, b4, b5, b6, b7]) (hm : mayB id ext L [b0, b1, b2, b3, b4, b5, b6, b7] = true) :
    Calls Try.prog 17 #[.agg #[.int .u32 id, .bool ext, .int .i64 L, .int .u8 b0, .int .u8 b1, .int .u8 b2, .int .u8 b3, .int .u8 b4, .int .u8 b5, .int .u8 b6, .int .u8 b7]] w fun e w' => ∃ A c, e = .returned (.slice A L c) ∧ L ≤ c ∧ c ≤ maxLen ∧ Ext w w' ∧ Rd w' A L (([b0, b1, b2, b3, b4, b5, b6, b7]).take L) := by
  have hL8 : (L : Int) ≤ 8 := by simp [mayB] at hm; omega
  have hL0 : (0 : Int) ≤ L := by omega
  go_enter Try.func17, Try.ntmps17
  go_wp2_with (go_at_call 15; (with_reducible refine (rmay_any _ _ _ _ _ _ _ _ _ _ _ _).mono ?_); rintro e w1 ⟨rfl, x1⟩)
  go_loopw [3, 4] (fun o i wr => ∃ k : Nat, k ≤ L ∧ i = .int .i64 k ∧ wr.ownsRow w1.heap.size 5 1 o k (u8s (([b0, b1, b2, b3, b4, b5, b6, b7]).take k)) ∧ Ext w1 wr) (fun _ i _ => L - (intOf i).toNat)
  case atStart => exact ⟨0, by omega, rfl, World.ownsRow_nil _ _ _ _, Ext.refl _⟩
  case round =>
    obtain ⟨k, hk, rfl, hown, hx⟩ := hrel
    have hrow : wr.heap[w.heap.size]? = some (.cells (frC id ext L [b0, b1, b2, b3, b4, b5, b6, b7]) 26 (0, 0)) := blk_of (x1.trans hx)
    have f2 : wr.cell? ⟨w.heap.size, 2, none⟩ = some (.int .i64 L) := blk_cell hrow rfl
    have k0 : (0 : Int) ≤ k := by omega
    by_cases hlt : (k : Int) < L
    · have hc := blk_cell hrow (frC_get id ext L [b0, b1, b2, b3, b4, b5, b6, b7] k (by simp; omega))
      have hsn : ([b0, b1, b2, b3, b4, b5, b6, b7]).take (k + 1) = ([b0, b1, b2, b3, b4, b5, b6, b7]).take k ++ [([b0, b1, b2, b3, b4, b5, b6, b7]).getD k 0] := by
        rw [List.take_succ_eq_append_getElem (by simp; omega)]; simp [List.getD, show k < 8 by omega]
      have HS := Lib.hid hsn; clear hsn hrow
      generalize ([b0, b1, b2, b3, b4, b5, b6, b7]).getD k 0 = x at *
      go_wp2_with (at_builtin; refine wpList_app el23 rfl _ _ rfl (hown.alloc _) rfl (Shows.new1 _ _ _) rfl (one1 _ _) (le_max (by omega)) (by omega) rfl (hx.alloc _) ?_; intro v9 w9 hown9 x9 hg9 hat9)
      go_roundw
      case rel => exact ⟨k + 1, by omega, by go_num, by rw [HS.out, u8s_append]; exact hown9, x9⟩
      case measure => simp [intOf]; omega
    · obtain rfl : k = L := by omega
      go_wp2
      go_ret
      obtain ⟨A, c, rfl, h1, h2, h3⟩ := own_rd hown (fun y hy => hb y (List.mem_of_mem_take hy))
      exact ⟨A, c, rfl, h1, h2, ((Ext.refl _).alloc _).trans (x1.trans hx), h3⟩
end Go.Proofs.Ytafdbhajngoafaa
