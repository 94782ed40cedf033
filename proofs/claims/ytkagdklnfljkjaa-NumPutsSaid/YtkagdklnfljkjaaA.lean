import Derived.Test.YtkagdklnfljkjaaBase
namespace Go.Proofs.Ytkagdklnfljkjaa
open Go.RowKit

def isW (n : Int) : Bool := n == 1 || n == 2 || n == 4 || n == 8
theorem isW_iff (n : Int) : isW n = true ↔ n = 1 ∨ n = 2 ∨ n = 4 ∨ n = 8 := by simp [isW, or_assoc]
theorem el22 : Elem Try.prog 22 5 1 1 (.int .u8 0) := Elem.mk' Try.underlying22 (by kernel_rfl) rfl (by omega)

theorem isWidth_any (n : Int) (w : World) : Calls Try.prog 20 #[.int .i64 n] w fun e w' => e = .returned (.bool (isW n)) ∧ w = w' := by
  go_enter Try.func20, Try.ntmps20
  go_wp2
  all_goals go_ret
  all_goals (simp_all [isW])
theorem width_any (n : Int) (w : World) : Calls Try.prog 22 #[.int .i64 n] w fun e w' => e = .returned (.bool (isW n)) ∧ w = w' := by
  go_enter Try.func22, Try.ntmps22
  go_wp2
  all_goals go_ret
  all_goals (simp_all [isW])
def shf (p n : Int) (b : Bool) : Int := if b then 8 * (n - 1 - p) else 8 * p
theorem shf_bd (p n : Int) (b : Bool) (h1 : 0 ≤ p) (h2 : p < n) (h3 : n ≤ 8) : 0 ≤ shf p n b ∧ shf p n b ≤ 56 := by
  unfold shf; split <;> omega
theorem shift_any (p n : Int) (b : Bool) (w : World) (h1 : 0 ≤ p) (h2 : p ≤ 100) (h3 : 0 ≤ n) (h4 : n ≤ 100) : Calls Try.prog 21 #[.int .i64 p, .int .i64 n, .bool b] w fun e w' => e = .returned (.int .i64 (shf p n b)) ∧ w = w' := by
  cases b
  all_goals
    go_enter Try.func21, Try.ntmps21
    go_wp2
    go_ret
    simp [shf]
theorem few_any (A : Option Addr) (n c : Nat) (w : World) (hn : n ≤ c) (hc : c ≤ maxLen) : Calls Try.prog 10 #[.slice A n c] w fun e w' => e = .returned (.slice A (min n 20) c) ∧ w = w' := by
  unfold maxLen at hc
  go_enter Try.func10, Try.ntmps10
  go_wp2
  all_goals go_ret
  all_goals simp
  all_goals omega
theorem clone_any (A : Option Addr) (n c : Nat) (bs : List Int) (w : World) (hr : Rd w A n bs) (hn : n ≤ 1000) : Calls Try.prog 23 #[.slice A n c] w fun e w' => ∃ A' c', e = .returned (.slice A' n c') ∧ n ≤ c' ∧ c' ≤ maxLen ∧ Ext w w' ∧ Rd w' A' n bs := by
  have hnil := fun (W : World) (A : Option Addr) (n c : Nat) => Lib.run_eql_slice_nil W 22 5 A n c 0 0 Try.underlying22
  rcases A with _ | ad
  · obtain rfl : n = 0 := by
      rcases Nat.eq_zero_or_pos n with h | h
      · exact h
      · obtain ⟨_, h, _⟩ := hr.shows.2 h
        cases h
    go_enter Try.func23, Try.ntmps23
    go_wp2
    go_ret
    exact ⟨none, 0, rfl, by omega, by simp, Ext.refl _, hr⟩
  · go_enter Try.func23, Try.ntmps23
    go_wp2_with (at_builtin; refine wpList_app el22 rfl _ _ rfl (World.ownsRow_lit _ #[] 0 (Nat.le_refl _) (by simp) rfl) rfl ((hr.ext ((Ext.refl _).alloc _)).shows) rfl (u8s_one _) (by simp only [maxLen]; omega) (by omega) rfl ((Ext.refl _).alloc _) ?_; intro v1 w1 hown1 hext1 hg1 hat1)
    go_ret
    obtain ⟨A', c', rfl, h1, h2, h3⟩ := own_rd (bs := bs) hown1 hr.byts
    simp only [Nat.zero_add] at *
    exact ⟨A', c', rfl, h1, h2, hext1, h3⟩
def putB (v : Int) (n : Nat) (big : Bool) : List Int := (List.range n).map fun (i : Nat) => v / 2 ^ (shf i n big).toNat % 256
theorem putB_len (v : Int) (n : Nat) (big : Bool) : (putB v n big).length = n := by simp [putB]
theorem putB_byts (v : Int) (n : Nat) (big : Bool) : Byts (putB v n big) := by
  intro b hb
  obtain ⟨i, _, rfl⟩ := List.mem_map.1 hb
  omega
theorem putB_snoc (v : Int) (n k : Nat) (big : Bool) (hk : k < n) : (putB v n big).take (k + 1) = (putB v n big).take k ++ [v / 2 ^ (shf k n big).toNat % 256] := by
  rw [List.take_succ_eq_append_getElem (by rw [putB_len]; exact hk)]
  simp [putB]

theorem put_anyF (A : Option Addr) (n c : Nat) (bs : List Int) (v : Int) (wd : Nat) (big : Bool) (w : World) (hr : Rd w A n bs) (hn : n ≤ 1000) (hw : isW wd = true) (h0 : 0 ≤ v) (h1 : v < 2 ^ 64) :
    Calls Try.prog 9 #[.slice A n c, .int .u64 v, .int .i64 wd, .bool big] w fun e w' => ∃ A' c', e = .returned (.tuple #[.slice A' (n + wd) c', .int .i64 0]) ∧ n + wd ≤ c' ∧ c' ≤ maxLen ∧ Ext w w' ∧ Rd w' A' (n + wd) (bs ++ putB v wd big) ∧ ∀ ad, A' = some ad → w.heap.size ≤ ad.block := by
  have hw1 : (1 : Int) ≤ wd ∧ (wd : Int) ≤ 8 := by rw [isW_iff] at hw; omega
  obtain ⟨hw2, hw3⟩ := hw1
  have HV := Lib.hid h1; clear h1
  go_enter Try.func9, Try.ntmps9
  go_wp2_with (first
    | (go_at_call 20; refine (isWidth_any _ _).mono ?_; rintro e w' ⟨rfl, rfl⟩)
    | (at_make; refine wpList_make0 el22 rfl _ _ rfl rfl rfl (by omega) (by omega) (by omega) (Ext.refl _) ?_; intro v1 w1 hown1 hext1 hg1 hat1)
    | (at_builtin; refine wpList_app el22 rfl _ _ rfl hown1 rfl (hr.ext hext1).shows rfl (u8s_one _) (by simp only [maxLen]; omega) (by omega) rfl hext1 ?_; intro v2 w2 hown2 hext2 hg2 hat2))
  clear hown1 hg1 hat1 hext1 hg2 hat2
  go_loopw [10, 24] (fun o i wr => ∃ k : Nat, k ≤ wd ∧ i = .int .i64 k ∧ wr.ownsRow w.heap.size 5 1 o (n + k) (u8s (bs ++ (putB v wd big).take k)) ∧ Ext w wr) (fun _ i _ => wd - (intOf i).toNat)
  case atStart => exact ⟨0, by omega, rfl, by simpa using hown2, hext2⟩
  case round =>
    obtain ⟨k, hk, rfl, hown3, hext3⟩ := hrel
    clear hown2 hext2
    by_cases hlt : (k : Int) < wd
    · obtain ⟨hs1, hs2⟩ := shf_bd k wd big (by omega) hlt hw3
      have hk0 : 0 ≤ (k : Int) := by omega
      go_wp2_with (first
        | (go_at_call 21; refine (shift_any _ _ _ _ (by omega) (by omega) (by omega) (by omega)).mono ?_; rintro e w' ⟨rfl, rfl⟩)
        | (at_builtin; refine wpList_app el22 rfl _ _ rfl (hown3.alloc _) rfl (Shows.new1 _ _ _) rfl (by intro u hu; simp at hu; subst hu; rfl) (by simp only [maxLen]; omega) (by omega) rfl (hext3.alloc _) ?_; intro v4 w4 hown4 hext4 hg4 hat4))
      go_roundw
      case rel => exact ⟨k + 1, by omega, by go_num, by rw [putB_snoc _ _ _ _ (by omega), ← List.append_assoc, u8s_append]; exact hown4, hext4⟩
      case measure => simp [intOf]; omega
    · go_wp2
      go_ret2
      obtain rfl : k = wd := by omega
      obtain ⟨A', c', rfl, h1, h2, h3, h4⟩ := own_rdF hown3 (hr.byts.append (by rw [List.take_of_length_le (by rw [putB_len]; omega)]; exact putB_byts _ _ _))
      rw [List.take_of_length_le (by rw [putB_len]; omega)] at h3
      exact ⟨A', c', rfl, h1, h2, hext3, h3, h4⟩
theorem put_any (A : Option Addr) (n c : Nat) (bs : List Int) (v : Int) (wd : Nat) (big : Bool) (w : World) (hr : Rd w A n bs) (hn : n ≤ 1000) (hw : isW wd = true) (h0 : 0 ≤ v) (h1 : v < 2 ^ 64) :
    Calls Try.prog 9 #[.slice A n c, .int .u64 v, .int .i64 wd, .bool big] w fun e w' => ∃ A' c', e = .returned (.tuple #[.slice A' (n + wd) c', .int .i64 0]) ∧ n + wd ≤ c' ∧ c' ≤ maxLen ∧ Ext w w' ∧ Rd w' A' (n + wd) (bs ++ putB v wd big) :=
  (put_anyF A n c bs v wd big w hr hn hw h0 h1).mono fun _ _ ⟨A', c', a, b, d, e, f, _⟩ => ⟨A', c', a, b, d, e, f⟩
end Go.Proofs.Ytkagdklnfljkjaa
