import Derived.Test.YtjfdcgpnjjhhoaaI
import Derived.Lib.SlBytesConst
set_option linter.unusedVariables false
set_option linter.unusedSimpArgs false
namespace Go.Proofs.Ytjfdcgpnjjhhoaa
open Go.RowKit
theorem few_any (A : Option Addr) (n c : Nat) (w : World) (hn : n ≤ c) (hc : c ≤ maxLen) : Calls Try.prog 10 #[.slice A n c] w fun e w' => e = .returned (.slice A (min n 300) c) ∧ w = w' := by
  unfold maxLen at hc
  go_enter Try.func10, Try.ntmps10
  go_wp2
  all_goals go_ret
  all_goals simp
  all_goals omega
def nine : List Int := [49, 50, 51, 52, 53, 54, 55, 56, 57]
theorem s1 : sumV ⟨1, 0, 27, 255, 0⟩ true nine = 221 := by kernel_rfl
theorem s7 : sumV ⟨1, 0, 28, 40961, 0⟩ true nine = 47933 := by kernel_rfl
theorem s8 : sumV ⟨1, 65535, 29, 4129, 0⟩ true nine = 10673 := by kernel_rfl
theorem s9 : sumV ⟨1, 4294967295, 28, 3988292384, 4294967295⟩ true nine = 3421780262 := by kernel_rfl
theorem rd_blk {W : World} {g : Nat} {cs : List Int} {t : TypeId} {fr : Nat × Nat} (K : W.heap[g]? = some (.cells (u8s cs).toArray t fr)) (h : Byts cs) : Rd W (some ⟨g, 0, none⟩) cs.length cs :=
  ⟨⟨by simp [u8s], fun _ => ⟨_, rfl, blk_lt K, fun j u hu => cells_of_blk (off := 0) K j u (by simpa using hu)⟩⟩, h⟩
theorem cells8 {w : World} {g : Nat} {t : TypeId} {fr : Nat × Nat} {x0 x1 x2 x3 x4 x5 x6 x7 : Value} (h : w.heap[g]? = some (.cells #[x0, x1, x2, x3, x4, x5, x6, x7] t fr)) :
    w.cell? ⟨g, 0, none⟩ = some x0 ∧ w.cell? ⟨g, 1, none⟩ = some x1 ∧ w.cell? ⟨g, 2, none⟩ = some x2 ∧ w.cell? ⟨g, 3, none⟩ = some x3 ∧ w.cell? ⟨g, 4, none⟩ = some x4 ∧ w.cell? ⟨g, 5, none⟩ = some x5 ∧ w.cell? ⟨g, 6, none⟩ = some x6 ∧ w.cell? ⟨g, 7, none⟩ = some x7 :=
  ⟨blk_cell h rfl, blk_cell h rfl, blk_cell h rfl, blk_cell h rfl, blk_cell h rfl, blk_cell h rfl, blk_cell h rfl, blk_cell h rfl⟩
theorem cells2 {w : World} {g : Nat} {t : TypeId} {fr : Nat × Nat} {x0 x1 : Value} (h : w.heap[g]? = some (.cells #[x0, x1] t fr)) : w.cell? ⟨g, 0, none⟩ = some x0 ∧ w.cell? ⟨g, 1, none⟩ = some x1 := ⟨blk_cell h rfl, blk_cell h rfl⟩
set_option maxHeartbeats 2000000 in
theorem shown_any (w : World) : Calls Try.prog 12 #[] w fun e w' => e = .returned (.bool true) ∧ Ext w w' := by
  have kc := fun (w : World) (C : Array Value) (n c : Nat) => Lib.run_convert_bytes_const (P := Try.prog) w 22 5 C n c Try.underlying22 Try.underlying5
  have hb9 : Byts nine := by intro b hb; simp [nine] at hb; omega
  go_enter Try.func12, Try.ntmps12
  go_upto_region 2 with (fail)
  obtain ⟨w1, hw1⟩ : ∃ W, W = w.alloc (.cells #[.int .u8 49, .int .u8 50, .int .u8 51, .int .u8 52, .int .u8 53, .int .u8 54, .int .u8 55, .int .u8 56, .int .u8 57] 5 (9, 10)) := ⟨_, rfl⟩
  have x1 : Ext w w1 := by rw [hw1]; exact (Ext.refl _).alloc _
  have R1 : Rd w1 (some ⟨w.heap.size, 0, none⟩) 9 nine := by rw [hw1]; exact rd_blk (cs := nine) (heap_alloc_new _ _) hb9
  rw [← hw1]
  clear hw1
  go_upto_region 3 with (fail)
  obtain ⟨w2, hw2⟩ : ∃ W, W = w1.alloc (.cells #[.int .u32 1, .int .u32 221, .int .u32 7, .int .u32 47933, .int .u32 8, .int .u32 10673, .int .u32 9, .int .u32 3421780262] 50) := ⟨_, rfl⟩
  have x2 : Ext w1 w2 := by rw [hw2]; exact (Ext.refl _).alloc _
  have K2 : w2.heap[w1.heap.size]? = some (.cells #[.int .u32 1, .int .u32 221, .int .u32 7, .int .u32 47933, .int .u32 8, .int .u32 10673, .int .u32 9, .int .u32 3421780262] 50 (0, 0)) := by rw [hw2]; exact heap_alloc_new _ _
  have R2 := R1.ext x2
  rw [← hw2]
  clear hw2
  go_loopw [3, 4, 5, 14] (fun _ _ _ i wr => ∃ k : Nat, k ≤ 4 ∧ i = .int .i64 k ∧ Ext w2 wr) (fun _ _ _ i _ => 4 - (intOf i).toNat)
  case atStart => exact ⟨0, by omega, rfl, Ext.refl _⟩
  case round =>
    obtain ⟨k, hk, rfl, xr⟩ := hrel
    have hk5 : k = 0 ∨ k = 1 ∨ k = 2 ∨ k = 3 ∨ k = 4 := by omega
    rcases hk5 with rfl | rfl | rfl | rfl | rfl
    · have K3 := (xr.block _ (blk_lt K2)).trans K2
      have R3 := R2.ext xr
      obtain ⟨f0, f1, f2, f3, f4, f5, f6, f7⟩ := cells8 K3
      have HS := Lib.hid s1
      go_wp2_with (go_at_call 9; (refine (of_any 1 _ 9 9 nine true _ (R3.ext ((Ext.refl _).alloc _)) (by omega) (by omega) (le_max (by omega)) ⟨1,0,27,255,0⟩ rfl rfl).mono ?_); rintro e w5 ⟨rfl, x5⟩; rw [HS.out]; have K5 := blk_of x5; obtain ⟨j0, j1⟩ := cells2 K5)
      go_roundw
      case rel => exact ⟨1, by omega, rfl, xr.trans (((Ext.refl _).alloc _).trans x5)⟩
      case measure => simp [intOf]
    · have K3 := (xr.block _ (blk_lt K2)).trans K2
      have R3 := R2.ext xr
      obtain ⟨f0, f1, f2, f3, f4, f5, f6, f7⟩ := cells8 K3
      have HS := Lib.hid s7
      go_wp2_with (go_at_call 9; (refine (of_any 7 _ 9 9 nine true _ (R3.ext ((Ext.refl _).alloc _)) (by omega) (by omega) (le_max (by omega)) ⟨1,0,28,40961,0⟩ rfl rfl).mono ?_); rintro e w5 ⟨rfl, x5⟩; rw [HS.out]; have K5 := blk_of x5; obtain ⟨j0, j1⟩ := cells2 K5)
      go_roundw
      case rel => exact ⟨2, by omega, rfl, xr.trans (((Ext.refl _).alloc _).trans x5)⟩
      case measure => simp [intOf]
    · have K3 := (xr.block _ (blk_lt K2)).trans K2
      have R3 := R2.ext xr
      obtain ⟨f0, f1, f2, f3, f4, f5, f6, f7⟩ := cells8 K3
      have HS := Lib.hid s8
      go_wp2_with (go_at_call 9; (refine (of_any 8 _ 9 9 nine true _ (R3.ext ((Ext.refl _).alloc _)) (by omega) (by omega) (le_max (by omega)) ⟨1,65535,29,4129,0⟩ rfl rfl).mono ?_); rintro e w5 ⟨rfl, x5⟩; rw [HS.out]; have K5 := blk_of x5; obtain ⟨j0, j1⟩ := cells2 K5)
      go_roundw
      case rel => exact ⟨3, by omega, rfl, xr.trans (((Ext.refl _).alloc _).trans x5)⟩
      case measure => simp [intOf]
    · have K3 := (xr.block _ (blk_lt K2)).trans K2
      have R3 := R2.ext xr
      obtain ⟨f0, f1, f2, f3, f4, f5, f6, f7⟩ := cells8 K3
      have HS := Lib.hid s9
      go_wp2_with (go_at_call 9; (refine (of_any 9 _ 9 9 nine true _ (R3.ext ((Ext.refl _).alloc _)) (by omega) (by omega) (le_max (by omega)) ⟨1,4294967295,28,3988292384,4294967295⟩ rfl rfl).mono ?_); rintro e w5 ⟨rfl, x5⟩; rw [HS.out]; have K5 := blk_of x5; obtain ⟨j0, j1⟩ := cells2 K5)
      go_roundw
      case rel => exact ⟨4, by omega, rfl, xr.trans (((Ext.refl _).alloc _).trans x5)⟩
      case measure => simp [intOf]
    · go_wp2
      go_ret
      exact ⟨rfl, x1.trans (x2.trans xr)⟩
set_option maxHeartbeats 2000000 in
theorem SumTells_law (w : World) (kind : Int) (A : Option Addr) (n c : Nat) (bs : List Int) (big : Bool) (rd : Rd w A n bs) (le : n ≤ c) (cm : c ≤ maxLen) :
    Calls Try.prog 3 #[.int .u8 kind, .slice A n c, .bool big] w fun e w' => e = .returned (.bool true) ∧ Ext w w' := by
  have rdm := rd.take (k := min n 300) (by omega)
  have hmc : min n 300 ≤ c := by omega
  have hm3 : min n 300 ≤ 300 := by omega
  have hml : min n 300 ≤ maxLen := by omega
  have FEW := fun W => Lib.hid (few_any A n c W le cm)
  generalize min n 300 = m at *
  generalize bs.take m = ys at rdm
  rcases hy : wayK kind with _ | y
  · have H := Lib.hid hy
    clear hy
    go_enter Try.func3, Try.ntmps3
    go_wp2_with (first
      | (go_at_call 10; (refine ((FEW _).out).mono ?_); rintro e w1 ⟨rfl, rfl⟩)
      | (go_at_call 9; (refine (of_none _ _ _ _ _ _ H.out).mono ?_); rintro e w2 ⟨rfl, x2⟩)
      | (go_at_call 11; (refine (rof_none _ _ _ _ _ _ H.out).mono ?_); rintro e w3 ⟨rfl, x3⟩)
      | (go_at_call 12; (refine (shown_any _).mono ?_); rintro e w4 ⟨rfl, x4⟩)
      | (go_at_call 13; (refine (word_any _ _).mono ?_); rintro e w5 ⟨rfl, x5⟩)
      | (go_at_call 14; (refine (rword_any _ _).mono ?_); rintro e w6 ⟨rfl, rfl⟩))
    go_ret
    exact ⟨by simp, x2.trans (x3.trans (x4.trans x5))⟩
  · have H := Lib.hid hy
    clear hy
    by_cases hm : m % y.word = 0
    · have HM := Lib.hid hm
      clear hm
      go_enter Try.func3, Try.ntmps3
      go_wp2_with (first
        | (go_at_call 10; (refine ((FEW _).out).mono ?_); rintro e w1 ⟨rfl, rfl⟩)
        | (go_at_call 9; (refine (of_any _ _ _ _ _ _ _ rdm (by omega) hmc cm _ H.out HM.out).mono ?_); rintro e w2 ⟨rfl, x2⟩)
        | (go_at_call 11; (refine (rof_any _ _ _ _ _ _ _ (rdm.ext x2) (by omega) hmc cm _ H.out HM.out).mono ?_); rintro e w3 ⟨rfl, x3⟩)
        | (go_at_call 12; (refine (shown_any _).mono ?_); rintro e w4 ⟨rfl, x4⟩)
        | (go_at_call 13; (refine (word_any _ _).mono ?_); rintro e w5 ⟨rfl, x5⟩)
        | (go_at_call 14; (refine (rword_any _ _).mono ?_); rintro e w6 ⟨rfl, rfl⟩))
      go_ret
      exact ⟨by simp, x2.trans (x3.trans (x4.trans x5))⟩
    · have HM := Lib.hid hm
      clear hm
      go_enter Try.func3, Try.ntmps3
      go_wp2_with (first
        | (go_at_call 10; (refine ((FEW _).out).mono ?_); rintro e w1 ⟨rfl, rfl⟩)
        | (go_at_call 9; (refine (of_short _ _ H.out _ _ _ _ _ hml HM.out).mono ?_); rintro e w2 ⟨rfl, x2⟩)
        | (go_at_call 11; (refine (rof_short _ _ H.out _ _ _ _ _ hml HM.out).mono ?_); rintro e w3 ⟨rfl, x3⟩)
        | (go_at_call 12; (refine (shown_any _).mono ?_); rintro e w4 ⟨rfl, x4⟩)
        | (go_at_call 13; (refine (word_any _ _).mono ?_); rintro e w5 ⟨rfl, x5⟩)
        | (go_at_call 14; (refine (rword_any _ _).mono ?_); rintro e w6 ⟨rfl, rfl⟩))
      go_ret
      exact ⟨by simp, x2.trans (x3.trans (x4.trans x5))⟩
end Go.Proofs.Ytjfdcgpnjjhhoaa
