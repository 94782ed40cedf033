import Derived.Test.YtnfipfgbckbaeaaA
set_option linter.unusedVariables false
namespace Go.Proofs.Ytnfipfgbckbaeaa
open Go.RowKit
theorem ret_i {k : IntKind} {a b : Int} (h : a = b) : Ending.returned (.int k a) = .returned (.int k b) := by rw [h]
theorem ret_b {a b : Bool} (h : a = b) : Ending.returned (.bool a) = .returned (.bool b) := by rw [h]
def nb (s m : Nat) (a : Int) : Nat := if s = 0 then m else min a.toNat m
theorem bytesOf_any (s m : Nat) (a : Int) (w : World) (h0 : 0 ≤ a) (h1 : a < 256) (hm : m ≤ 7) (hs : s ≤ 5) :
    Calls Try.prog 19 #[.int .i64 s, .int .i64 m, .int .u8 a] w fun e w' => e = .returned (.int .i64 (nb s m a)) ∧ w = w' := by
  by_cases hz : s = 0
  · subst hz
    go_enter Try.func19, Try.ntmps19
    go_wp2
    go_ret
    exact ⟨by simp [nb], rfl⟩
  · have hb : ((s : Int) == 0) = false := by simp; omega
    go_enter Try.func19, Try.ntmps19
    go_wp2
    all_goals go_ret
    all_goals exact ⟨ret_i (by unfold nb; rw [if_neg hz]; omega), rfl⟩
theorem blk5 {w : World} {g : Nat} {t : TypeId} {a0 a1 a2 a3 a4 : Int} (h : w.heap[g]? = some (.cells #[.int .u8 a0, .int .u8 a1, .int .u8 a2, .int .u8 a3, .int .u8 a4] t (0, 0))) (k : Nat) (hk : k < 5) :
    w.cell? ⟨g, k, none⟩ = some (.int .u8 ([a0, a1, a2, a3, a4].getD k 0)) := by
  refine blk_cell h ?_
  match k, hk with
  | 0, _ => rfl
  | 1, _ => rfl
  | 2, _ => rfl
  | 3, _ => rfl
  | 4, _ => rfl
def behB (s : Nat) (al : List Int) : Bool := (al.drop s).any (· != 0)
theorem beh_t (s k : Nat) (al : List Int) (hl : al.length = 5) (hk : k < 5 - s) (h : al.getD (s + k) 0 ≠ 0) : behB s al = true := by
  unfold behB
  rw [List.any_eq_true]
  refine ⟨al.getD (s + k) 0, ?_, by simpa using h⟩
  have hk' : s + k < al.length := by omega
  have e : al.getD (s + k) 0 = (al.drop s)[k]'(by simp; omega) := by simp [List.getD, List.getElem?_eq_getElem hk']
  rw [e]
  exact List.getElem_mem _
theorem beh_f (s k : Nat) (al : List Int) (hl : al.length = 5) (hk : 5 - s ≤ k) (h : ∀ j, j < k → al.getD (s + j) 0 = 0) : behB s al = false := by
  unfold behB
  rw [List.any_eq_false]
  intro x hx
  obtain ⟨i, hi, rfl⟩ := List.getElem_of_mem hx
  have hi' : i < 5 - s := by simpa [hl] using hi
  have := h i (by omega)
  have hk' : s + i < al.length := by omega
  simp [List.getD, List.getElem?_eq_getElem hk'] at this
  simp [this]
theorem all_succ {al : List Int} {s k : Nat} (h : ∀ j, j < k → al.getD (s + j) 0 = 0) (hx : al.getD (s + k) 0 = 0) : ∀ j, j < k + 1 → al.getD (s + j) 0 = 0 := fun j hj => by
  rcases Nat.lt_or_ge j k with h' | h'
  · exact h j h'
  · obtain rfl : j = k := by omega
    exact hx
theorem behind_any (s : Nat) (a0 a1 a2 a3 a4 : Int) (w : World) (hs : s ≤ 5) :
    Calls Try.prog 18 #[.agg #[.int .u8 a0, .int .u8 a1, .int .u8 a2, .int .u8 a3, .int .u8 a4], .int .i64 s] w fun e w' => e = .returned (.bool (behB s [a0, a1, a2, a3, a4])) ∧ Ext w w' := by
  have s0 : (0 : Int) ≤ s := by omega
  have s5 : (s : Int) ≤ 5 := by omega
  by_cases h5 : s = 5
  · subst h5
    go_enter Try.func18, Try.ntmps18
    go_wp2
    go_loop [6, 10] (fun _ v => v = .int .i64 0) (fun _ _ => 0)
    case atStart => rfl
    case round =>
      subst hrel
      go_wp2
      go_ret
      exact ⟨rfl, (Ext.refl _).alloc _⟩
  · have h5' : ¬ (5 = s) := fun h => h5 h.symm
    go_enter Try.func18, Try.ntmps18
    go_wp2
    go_loop [6, 10] (fun _ v => ∃ k : Nat, k ≤ 5 - s ∧ v = .int .i64 k ∧ Hid (∀ j, j < k → [a0, a1, a2, a3, a4].getD (s + j) 0 = 0)) (fun _ v => (5 - intOf v).toNat)
    case atStart => exact ⟨0, by omega, rfl, Lib.hid fun j hj => absurd hj (by omega)⟩
    case round =>
      obtain ⟨k, hk, rfl, hz⟩ := hrel
      have k0 : (0 : Int) ≤ k := by omega
      by_cases hlt : (k : Int) < 5 - s
      · have hc := blk5 (blk_new (w := w) (n := w.heap.size) rfl) (s + k) (by omega) (a0 := a0) (a1 := a1) (a2 := a2) (a3 := a3) (a4 := a4) (t := 22)
        have ht := fun h => beh_t s k [a0, a1, a2, a3, a4] rfl (by omega) h
        have hs' := fun h => Lib.hid (all_succ hz.out h)
        have HT := Lib.hid ht
        have HS := Lib.hid hs'
        clear ht hs' hz
        generalize [a0, a1, a2, a3, a4].getD (s + k) 0 = x at *
        by_cases hx : x = 0
        · subst hx
          go_wp2
          go_round
          case rel => exact ⟨k + 1, by omega, by go_num, HS.out rfl⟩
          case measure => simp [intOf]; omega
        · have hb : (x != 0) = true := by simpa using hx
          go_wp2
          go_ret
          exact ⟨ret_b (HT.out hx).symm, (Ext.refl _).alloc _⟩
      · have hge : (5 : Int) - s ≤ k := by omega
        go_wp2
        go_ret
        exact ⟨ret_b (beh_f s k [a0, a1, a2, a3, a4] rfl (by omega) hz.out).symm, (Ext.refl _).alloc _⟩
theorem nb_two (s m : Nat) (a : Int) (h : s ≠ 1 → s = 0 ∨ m = 0) : nb s m a = if s = 1 then min m a.toNat else m := by
  unfold nb
  by_cases h1 : s = 1
  · subst h1; simp; omega
  · rcases h h1 with rfl | rfl <;> simp
theorem sm_mo (c : Int) (h0 : 0 ≤ c) (h : sm c ≠ 1) : sm c = 0 ∨ mo c = 0 := by
  by_cases hc : c < 1 ∨ 26 < c
  · exact .inl (sh_out h0 hc).1.symm
  · obtain ⟨n, rfl⟩ := Int.eq_ofNat_of_zero_le h0
    have : ∀ n : Nat, n < 27 → sm (n : Int) ≠ 1 → sm (n : Int) = 0 ∨ mo (n : Int) = 0 := by decide
    exact this n (by omega) h
theorem sm_le (c : Int) : sm c ≤ 5 := by
  unfold sm
  generalize c.toNat = n
  by_cases h : n < 27
  · have : ∀ n : Nat, n < 27 → ([0,1,0,0,0,1,1,2,1,1,0,1,2,1,1,3,2,3,0,1,2,3,3,2,5,2,1] : List Nat).getD n 0 ≤ 5 := by decide
    exact this n h
  · rw [List.getD, List.getElem?_eq_none (show 27 ≤ n by omega)]; simp
theorem mo_le (c : Int) : mo c ≤ 7 := by unfold mo; split <;> (try split) <;> omega
def nbC (c a0 : Int) : Nat := nb (sm c) (mo c) a0
theorem many_any (c a0 a1 a2 a3 a4 W : Int) (A : Option Addr) (n cp : Nat) (w : World) (h0 : 0 ≤ c) (h1 : c < 256) (b0 : 0 ≤ a0) (b1 : a0 < 256) :
    Calls Try.prog 21 #[.agg #[.int .u8 c, .int .u8 a0, .int .u8 a1, .int .u8 a2, .int .u8 a3, .int .u8 a4, .int .u32 W, .slice A n cp]] w fun e w' => e = .returned (.int .i64 (nbC c a0)) ∧ Ext w w' := by
  have hnb := Lib.hid (nb_two (sm c) (mo c) a0 (sm_mo c h0))
  have m7 := mo_le c
  have s5 := sm_le c
  by_cases h : sm c = 1
  · have hb : ((sm c : Int) == 1) = true := by simp [h]
    have H := Lib.hid h; clear h
    go_enter Try.func21, Try.ntmps21
    go_wp2_with (go_at_call 12; (with_reducible refine (rshape_any _ _ h0 h1).mono ?_); rintro e w1 ⟨rfl, rfl⟩)
    all_goals go_ret
    all_goals exact ⟨ret_i (by unfold nbC; rw [hnb.out, if_pos H.out]; omega), (Ext.refl _).alloc _⟩
  · have hb : ((sm c : Int) == 1) = false := by simp; omega
    have H := Lib.hid h; clear h
    go_enter Try.func21, Try.ntmps21
    go_wp2_with (go_at_call 12; (with_reducible refine (rshape_any _ _ h0 h1).mono ?_); rintro e w1 ⟨rfl, rfl⟩)
    go_ret
    exact ⟨ret_i (by unfold nbC; rw [hnb.out, if_neg H.out]), (Ext.refl _).alloc _⟩
end Go.Proofs.Ytnfipfgbckbaeaa
