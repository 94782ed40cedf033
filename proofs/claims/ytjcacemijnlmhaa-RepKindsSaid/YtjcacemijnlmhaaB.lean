import Derived.Test.YtjcacemijnlmhaaA
set_option linter.unusedVariables false
namespace Go.Proofs.Ytjcacemijnlmhaa
open Go.RowKit
theorem rput_no (kind code : Int) (A : Option Addr) (n c : Nat) (w : World) (hm : mayR kind code n = false) :
    Calls Try.prog 10 #[.agg #[.int .u8 kind, .int .u8 code, .slice A n c]] w fun e w' => e = .returned (.tuple #[.slice none 0 0, .int .i64 1]) ∧ Ext w w' := by
  rcases kinds kind with rfl | rfl | rfl | rfl | ⟨k1, k2, k3, k4⟩
  · by_cases hc : code = 0
    · have h7 : (7 : Int) < n := by simp [mayR, hc] at hm; omega
      subst hc
      go_enter Try.func10, Try.ntmps10
      go_wp2
      go_ret2
      exact ⟨rfl, (Ext.refl _).alloc _⟩
    · have hc' : (code == 0) = false := by simp [hc]
      clear hc
      go_enter Try.func10, Try.ntmps10
      go_wp2
      go_ret2
      exact ⟨rfl, (Ext.refl _).alloc _⟩
  · have h7 : ((n : Int) == 0) = false := by simp [mayR] at hm; simp; omega
    go_enter Try.func10, Try.ntmps10
    go_wp2
    go_ret2
    exact ⟨rfl, (Ext.refl _).alloc _⟩
  · have h7 : (6 : Int) < n := by simp [mayR] at hm; omega
    go_enter Try.func10, Try.ntmps10
    go_wp2
    go_ret2
    exact ⟨rfl, (Ext.refl _).alloc _⟩
  · by_cases hc : code ≤ 191
    · have h7 : (7 : Int) < n := by simp [mayR, hc] at hm; omega
      go_enter Try.func10, Try.ntmps10
      go_wp2
      go_ret2
      exact ⟨rfl, (Ext.refl _).alloc _⟩
    · go_enter Try.func10, Try.ntmps10
      go_wp2
      go_ret2
      exact ⟨rfl, (Ext.refl _).alloc _⟩
  · go_enter Try.func10, Try.ntmps10
    go_wp2
    go_ret2
    exact ⟨rfl, (Ext.refl _).alloc _⟩
theorem rput_yes (kind code : Int) (A : Option Addr) (n c : Nat) (bs : List Int) (w : World) (hr : Rd w A n bs) (h0 : 0 ≤ code) (h1 : code < 256) (hm : mayR kind code n = true) :
    Calls Try.prog 10 #[.agg #[.int .u8 kind, .int .u8 code, .slice A n c]] w fun e w' => ∃ A' c', e = .returned (.tuple #[.slice A' (putR kind code bs).length c', .int .i64 0]) ∧ (putR kind code bs).length ≤ c' ∧ c' ≤ maxLen ∧ Ext w w' ∧ Rd w' A' (putR kind code bs).length (putR kind code bs) := by
  have hl := hr.len
  have hn7 := small hm
  have HL := Lib.hid hl; clear hl
  have hb := putR_byts kind code bs h0 h1 hr.byts
  have hn7' : (n : Int) ≤ 7 := by omega
  rcases kinds kind with rfl | rfl | rfl | rfl | ⟨k1, k2, k3, k4⟩
  · obtain rfl : code = 0 := by simp [mayR] at hm; omega
    go_enter Try.func10, Try.ntmps10
    go_wp2_with (first
      | (at_builtin; refine wpList_app el22 rfl _ _ rfl (own_lit #[.int .u8 255] 1 (by simp) (Nat.le_refl _) (le_max (by omega)) rfl) rfl (hr.ext (((Ext.refl _).alloc _).alloc _)).shows rfl (u8s_one _) (le_max (by omega)) (by omega) rfl ((Ext.refl _).alloc _) ?_; intro v2 w2 hown2 x2 hg2 hat2))
    go_ret2
    obtain ⟨A', c', rfl, l1, l2, l3⟩ := own_put (hd := [255]) hown2 rfl HL.out hb
    exact ⟨A', c', rfl, l1, l2, ((Ext.refl _).alloc _).trans x2, l3⟩
  · obtain rfl : n = 0 := by simp [mayR] at hm; omega
    obtain rfl : bs = [] := List.eq_nil_of_length_eq_zero HL.out
    go_enter Try.func10, Try.ntmps10
    go_wp2
    go_ret2
    exact ⟨_, 2, rfl, by simp [putR, headR], le_max (by omega), ((Ext.refl _).alloc _).alloc _, rd_new (cs := putR 2 code []) 5 (by simp) hb⟩
  · have hn6 : (n : Int) ≤ 6 := by simp [mayR] at hm; omega
    go_enter Try.func10, Try.ntmps10
    go_wp2_with (first
      | (at_builtin; refine wpList_app el22 rfl _ _ rfl (own_lit #[.int .u8 253, .int .u8 code] 2 (by simp) (Nat.le_refl _) (le_max (by omega)) rfl) rfl (hr.ext (((Ext.refl _).alloc _).alloc _)).shows rfl (u8s_one _) (le_max (by omega)) (by omega) rfl ((Ext.refl _).alloc _) ?_; intro v2 w2 hown2 x2 hg2 hat2))
    go_ret2
    obtain ⟨A', c', rfl, l1, l2, l3⟩ := own_put (hd := [253, code]) hown2 rfl HL.out hb
    exact ⟨A', c', rfl, l1, l2, ((Ext.refl _).alloc _).trans x2, l3⟩
  · have hc : code ≤ 191 := by simp [mayR] at hm; omega
    go_enter Try.func10, Try.ntmps10
    go_wp2_with (first
      | (at_builtin; refine wpList_app el22 rfl _ _ rfl (own_lit #[.int .u8 code] 1 (by simp) (Nat.le_refl _) (le_max (by omega)) rfl) rfl (hr.ext (((Ext.refl _).alloc _).alloc _)).shows rfl (u8s_one _) (le_max (by omega)) (by omega) rfl ((Ext.refl _).alloc _) ?_; intro v2 w2 hown2 x2 hg2 hat2))
    go_ret2
    obtain ⟨A', c', rfl, l1, l2, l3⟩ := own_put (hd := [code]) hown2 rfl HL.out hb
    exact ⟨A', c', rfl, l1, l2, ((Ext.refl _).alloc _).trans x2, l3⟩
  · simp [mayR] at hm
    simp_all
theorem code_any (e : Int) (w : World) : Calls Try.prog 12 #[.int .i64 e] w fun r w' => r = .returned (.int .u8 (if e < 0 then 0 else e % 256)) ∧ w = w' := by
  by_cases h : e < 0
  · rw [if_pos h]
    go_enter Try.func12, Try.ntmps12
    go_wp2
    go_ret
    exact ⟨rfl, rfl⟩
  · rw [if_neg h]
    go_enter Try.func12, Try.ntmps12
    go_wp2
    go_ret
    simp
theorem rcode_any (e : Int) (w : World) : Calls Try.prog 13 #[.int .i64 e] w fun r w' => r = .returned (.int .u8 (if e < 0 then 0 else e % 256)) ∧ w = w' := by
  by_cases h : e < 0
  · rw [if_pos h]
    go_enter Try.func13, Try.ntmps13
    go_wp2
    go_ret
    exact ⟨rfl, rfl⟩
  · rw [if_neg h]
    go_enter Try.func13, Try.ntmps13
    go_wp2
    go_ret
    simp
theorem clone_any (A : Option Addr) (n c : Nat) (bs : List Int) (w : World) (hr : Rd w A n bs) (hn : n ≤ 1000) : Calls Try.prog 19 #[.slice A n c] w fun e w' => ∃ A' c', e = .returned (.slice A' n c') ∧ n ≤ c' ∧ c' ≤ maxLen ∧ Ext w w' ∧ Rd w' A' n bs ∧ ∀ ad, A' = some ad → w.heap.size ≤ ad.block := by
  have hnil := fun (W : World) (A : Option Addr) (n c : Nat) => Lib.run_eql_slice_nil W 22 5 A n c 0 0 Try.underlying22
  rcases A with _ | ad
  · obtain rfl : n = 0 := by
      rcases Nat.eq_zero_or_pos n with h | h
      · exact h
      · obtain ⟨_, h, _⟩ := hr.shows.2 h
        cases h
    go_enter Try.func19, Try.ntmps19
    go_wp2
    go_ret
    exact ⟨none, 0, rfl, by omega, by simp, Ext.refl _, hr, fun _ h => by cases h⟩
  · go_enter Try.func19, Try.ntmps19
    go_wp2_with (at_builtin; refine wpList_app el22 rfl _ _ rfl (World.ownsRow_lit _ #[] 0 (Nat.le_refl _) (by simp) rfl) rfl ((hr.ext ((Ext.refl _).alloc _)).shows) rfl (u8s_one _) (le_max (by omega)) (by omega) rfl ((Ext.refl _).alloc _) ?_; intro v1 w1 hown1 hext1 hg1 hat1)
    go_ret
    obtain ⟨A', c', rfl, h1, h2, h3, h4⟩ := own_rdF (bs := bs) hown1 hr.byts
    simp only [Nat.zero_add] at *
    exact ⟨A', c', rfl, h1, h2, hext1, h3, h4⟩
theorem same_any (k c : Int) (A : Option Addr) (n a : Nat) (bs : List Int) (k' c' : Int) (A' : Option Addr) (n' a' : Nat) (bs' : List Int) (w : World) (hr : Rd w A n bs) (hr' : Rd w A' n' bs') :
    Calls Try.prog 16 #[.agg #[.int .u8 k, .int .u8 c, .slice A n a], .agg #[.int .u8 k', .int .u8 c', .slice A' n' a']] w fun e w' => e = .returned (.bool (k == k' && (c == c' && strOfNums bs == strOfNums bs'))) ∧ Ext w w' := by
  have s1 := fun cc => str (c := cc) (hr.ext (((Ext.refl _).alloc (.cells #[.int .u8 k, .int .u8 c, .slice A n a] 24)).alloc (.cells #[.int .u8 k', .int .u8 c', .slice A' n' a'] 24)))
  have s2 := fun cc => str (c := cc) (hr'.ext (((Ext.refl _).alloc (.cells #[.int .u8 k, .int .u8 c, .slice A n a] 24)).alloc (.cells #[.int .u8 k', .int .u8 c', .slice A' n' a'] 24)))
  by_cases h1 : k = k'
  · subst h1
    by_cases h2 : c = c'
    · subst h2
      go_enter Try.func16, Try.ntmps16
      go_wp2

      go_ret
      exact ⟨by simp [beq_toListBytes], ((Ext.refl _).alloc _).alloc _⟩
    · have h3 : (c == c') = false := by simp [h2]
      go_enter Try.func16, Try.ntmps16
      go_wp2
      go_ret
      exact ⟨by simp [h2], ((Ext.refl _).alloc _).alloc _⟩
  · have h3 : (k == k') = false := by simp [h1]
    go_enter Try.func16, Try.ntmps16
    go_wp2
    go_ret
    exact ⟨by simp [h1], ((Ext.refl _).alloc _).alloc _⟩
end Go.Proofs.Ytjcacemijnlmhaa
