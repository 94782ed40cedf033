import Derived.Test.YtjdabmadpclbaaaA
set_option linter.unusedVariables false
set_option linter.unusedSimpArgs false
namespace Go.Proofs.Ytjdabmadpclbaaa
open Go.RowKit
def frC (id : Int) (ext : Bool) (len : Int) (bs : List Int) : Array Value := (.int .u32 id :: .bool ext :: .int .i64 len :: u8s bs).toArray
theorem frC_get (id : Int) (ext : Bool) (len : Int) (bs : List Int) (k : Nat) (hk : k < bs.length) : (frC id ext len bs)[3 + k]? = some (.int .u8 (bs.getD k 0)) := by
  simp [frC, u8s, show 3 + k = k + 1 + 1 + 1 by omega, List.getElem?_eq_getElem hk, List.getD]
theorem frC_set (id : Int) (ext : Bool) (len : Int) (bs : List Int) (k : Nat) (x : Int) : (frC id ext len bs).setIfInBounds (3 + k) (.int .u8 x) = frC id ext len (bs.set k x) := by
  simp [frC, u8s, show 3 + k = k + 1 + 1 + 1 by omega, List.map_set]
theorem list8 {α : Type} : ∀ {l : List α}, l.length = 8 → ∃ x0 x1 x2 x3 x4 x5 x6 x7, l = [x0, x1, x2, x3, x4, x5, x6, x7]
  | [x0, x1, x2, x3, x4, x5, x6, x7], _ => ⟨x0, x1, x2, x3, x4, x5, x6, x7, rfl⟩
theorem cells11 {w : World} {g : Nat} {t : TypeId} {fr : Nat × Nat} {x0 x1 x2 x3 x4 x5 x6 x7 x8 x9 xa : Value} (h : w.heap[g]? = some (.cells #[x0, x1, x2, x3, x4, x5, x6, x7, x8, x9, xa] t fr)) :
    w.cell? ⟨g, 0, none⟩ = some x0 ∧ w.cell? ⟨g, 1, none⟩ = some x1 ∧ w.cell? ⟨g, 2, none⟩ = some x2 ∧ w.cell? ⟨g, 3, none⟩ = some x3 ∧ w.cell? ⟨g, 4, none⟩ = some x4 ∧ w.cell? ⟨g, 5, none⟩ = some x5 ∧ w.cell? ⟨g, 6, none⟩ = some x6 ∧ w.cell? ⟨g, 7, none⟩ = some x7 ∧ w.cell? ⟨g, 8, none⟩ = some x8 ∧ w.cell? ⟨g, 9, none⟩ = some x9 ∧ w.cell? ⟨g, 10, none⟩ = some xa := by
  refine ⟨?_, ?_, ?_, ?_, ?_, ?_, ?_, ?_, ?_, ?_, ?_⟩ <;> (rw [cell_of_row _ _ _ _ _ _ h]; rfl)

def zerosFrom (bs : List Int) (a k : Nat) : Prop := ∀ j, a ≤ j → j < k → bs.getD j 0 = 0
theorem mayB_of (id : Int) (ext : Bool) (L : Nat) (bs : List Int) (hl : bs.length = 8) (hL : L ≤ 8) (hid : id < idsI ext) (hz : zerosFrom bs L 8) : mayB id ext L bs = true := by
  simp only [mayB, Bool.and_eq_true, decide_eq_true_eq, List.all_eq_true]
  refine ⟨⟨⟨hid, by omega⟩, by omega⟩, fun x hx => ?_⟩
  obtain ⟨j, hj, rfl⟩ := List.getElem_of_mem hx
  have hj' : L + j < bs.length := by simp at hj; omega
  have := hz (L + j) (by omega) (by omega)
  simp [List.getD, List.getElem?_eq_getElem hj'] at this
  simp [this]
theorem mayB_not (id : Int) (ext : Bool) (L : Nat) (bs : List Int) (k : Nat) (hk : k < bs.length) (hL : L ≤ k) (h : bs.getD k 0 ≠ 0) : mayB id ext L bs = false := by
  rw [Bool.eq_false_iff]
  intro hm
  simp only [mayB, Bool.and_eq_true, decide_eq_true_eq, List.all_eq_true] at hm
  apply h
  have := hm.2 (bs.getD k 0) (by
    rw [Int.toNat_natCast]
    refine List.mem_iff_getElem.2 ⟨k - L, by simp; omega, ?_⟩
    simp [List.getD, List.getElem?_eq_getElem hk, show L + (k - L) = k by omega])
  simpa using this

theorem rmay_any (id : Int) (ext : Bool) (len : Int) (b0 b1 b2 b3 b4 b5 b6 b7 : Int) (w : World) :
    Calls Try.prog 23 #[.agg #[.int .u32 id, .bool ext, .int .i64 len, .int .u8 b0, .int .u8 b1, .int .u8 b2, .int .u8 b3, .int .u8 b4, .int .u8 b5, .int .u8 b6, .int .u8 b7]] w fun e w' => e = .returned (.bool (mayB id ext len [b0, b1, b2, b3, b4, b5, b6, b7])) ∧ Ext w w' := by
  obtain ⟨I, hI⟩ : ∃ I, I = idsI ext := ⟨_, rfl⟩
  have ci : ∀ W, Calls Try.prog 37 #[.int .u32 id, .bool ext] W fun e w' => e = .returned (.bool (decide (id < I))) ∧ W = w' := fun W => by rw [hI]; exact known_any id ext W
  have CI := Lib.hid ci; clear ci
  have HI := Lib.hid hI; clear hI
  by_cases h1 : id < I
  · by_cases h2 : len < 0
    · go_enter Try.func23, Try.ntmps23
      go_wp2_with (go_at_call 37; (with_reducible refine (CI.out _).mono ?_); rintro e w1 ⟨rfl, rfl⟩)
      go_ret
      exact ⟨by rw [mayB, ← HI.out]; simp; intros; omega, (Ext.refl _).alloc _⟩
    · by_cases h3 : 8 < len
      · go_enter Try.func23, Try.ntmps23
        go_wp2_with (go_at_call 37; (with_reducible refine (CI.out _).mono ?_); rintro e w1 ⟨rfl, rfl⟩)
        go_ret
        exact ⟨by rw [mayB, ← HI.out]; simp; intros; omega, (Ext.refl _).alloc _⟩
      · obtain ⟨L, rfl⟩ : ∃ L : Nat, len = L := ⟨len.toNat, by omega⟩
        have hL8 : L ≤ 8 := by omega
        clear h2
        go_enter Try.func23, Try.ntmps23
        go_wp2_with (go_at_call 37; (with_reducible refine (CI.out _).mono ?_); rintro e w1 ⟨rfl, rfl⟩)
        go_loopw [3] (fun i wr => ∃ k : Nat, L ≤ k ∧ k ≤ 8 ∧ i = .int .i64 k ∧ zerosFrom [b0, b1, b2, b3, b4, b5, b6, b7] L k ∧ Ext (w.alloc (.cells (#[.int .u32 id, .bool ext, .int .i64 L, .int .u8 b0, .int .u8 b1, .int .u8 b2, .int .u8 b3, .int .u8 b4, .int .u8 b5, .int .u8 b6, .int .u8 b7]) 34)) wr) (fun i _ => 8 - (intOf i).toNat)
        case atStart => exact ⟨L, by omega, by omega, rfl, fun j h h' => by omega, Ext.refl _⟩
        case round =>
          obtain ⟨k, hk1, hk2, rfl, hz, hx⟩ := hrel
          have hrow : wr.heap[w.heap.size]? = some (.cells (frC id ext L [b0, b1, b2, b3, b4, b5, b6, b7]) 34 (0, 0)) := blk_of hx
          by_cases hlt : (k : Int) < 8
          · have hc := blk_cell hrow (frC_get id ext L [b0, b1, b2, b3, b4, b5, b6, b7] k (by simp; omega))
            have hb0 : (0 : Int) ≤ k := by omega
            clear hrow
            obtain ⟨x, hx2⟩ : ∃ x, x = ([b0, b1, b2, b3, b4, b5, b6, b7]).getD k 0 := ⟨_, rfl⟩
            rw [← hx2] at hc
            have HX := Lib.hid hx2; clear hx2
            have HZ := Lib.hid hz; clear hz
            by_cases hx0 : x = 0
            · have hx1 : (x != 0) = false := by simp [hx0]
              have HX0 := Lib.hid hx0; clear hx0
              go_wp2
              go_roundw
              case rel => exact ⟨k + 1, by omega, by omega, by go_num, fun j h h' => (by
                rcases Nat.lt_or_ge j k with g | g
                · exact HZ.out j h g
                · obtain rfl : j = k := by omega
                  rw [← HX.out]; exact HX0.out), hx⟩
              case measure => simp [intOf]; omega
            · have hx1 : (x != 0) = true := by simp [hx0]
              have HX0 := Lib.hid hx0; clear hx0
              go_wp2
              go_ret
              refine ⟨?_, ((Ext.refl _).alloc _).trans hx⟩
              rw [mayB_not id ext L [b0, b1, b2, b3, b4, b5, b6, b7] k (by simp; omega) hk1 (by rw [← HX.out]; exact HX0.out)]
              rfl
          · obtain rfl : k = 8 := by omega
            go_wp2
            go_ret
            refine ⟨?_, ((Ext.refl _).alloc _).trans hx⟩
            rw [mayB_of id ext L [b0, b1, b2, b3, b4, b5, b6, b7] rfl (by omega) (by rw [← HI.out]; exact h1) hz]
            rfl
  · go_enter Try.func23, Try.ntmps23
    go_wp2_with (go_at_call 37; (with_reducible refine (CI.out _).mono ?_); rintro e w1 ⟨rfl, rfl⟩)
    go_ret
    exact ⟨by rw [mayB, ← HI.out]; simp; intros; omega, (Ext.refl _).alloc _⟩

end Go.Proofs.Ytjdabmadpclbaaa
