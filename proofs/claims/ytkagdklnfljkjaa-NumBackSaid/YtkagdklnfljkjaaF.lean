import Derived.Test.YtkagdklnfljkjaaE
namespace Go.Proofs.Ytkagdklnfljkjaa
open Go.RowKit
theorem putB_get (v : Int) (k : Nat) (big : Bool) (j : Nat) (hj : j < k) : (putB v k big).getD j 0 = v / 2 ^ (shf j k big).toNat % 256 := by
  simp [putB, List.getD, hj]
theorem mirror (v : Int) (k : Nat) (big : Bool) (j : Nat) (hj : j < k) (bs : List Int) (N : Nat) (hN : bs.length = N) : (bs ++ putB v k big).getD (N + k - 1 - j) 0 = (putB v k !big).getD j 0 := by
  rw [putB_get _ _ _ _ hj]
  have e : (bs ++ putB v k big).getD (N + k - 1 - j) 0 = (putB v k big).getD (k - 1 - j) 0 := by
    subst hN
    rw [List.getD_eq_getElem?_getD, List.getD_eq_getElem?_getD, List.getElem?_append_right (by omega)]
    congr 2
    omega
  rw [e, putB_get _ _ _ _ (by omega)]
  congr 3
  unfold shf
  cases big <;> simp <;> omega
theorem takeTo_app (xs ys : List Int) (n : Nat) (big : Bool) : ∀ k, k ≤ xs.length → takeTo (xs ++ ys) n big k = takeTo xs n big k
  | 0, _ => rfl
  | k + 1, h => by
    rw [takeTo, takeTo, takeTo_app xs ys n big k (by omega)]
    congr 2
    rw [List.getD_eq_getElem?_getD, List.getD_eq_getElem?_getD, List.getElem?_append_left (by omega)]
theorem NumBack_law (w : World) (A : Option Addr) (n c : Nat) (bs : List Int) (hr : Rd w A n bs) (hnc : n ≤ c) (hc : c ≤ maxLen) (B : Option Addr) (m d : Nat) (cs : List Int) (hs : Rd w B m cs) (hmd : m ≤ d) (hd : d ≤ maxLen)
    (v : Int) (h0 : 0 ≤ v) (h1 : v < 18446744073709551616) (x : Int) (h4 : 0 ≤ x) (h5 : x < 256) (big : Bool) :
    Calls Try.prog 5 #[.slice A n c, .slice B m d, .int .u64 v, .int .u8 x, .bool big] w fun e w' => e = .returned (.bool true) ∧ Ext w w' := by
  have hr' := hr.take (k := min n 20) (by omega)
  have hs' := hs.take (k := min m 20) (by omega)
  have hm1 : min n 20 ≤ 20 := by omega
  have hm2 : min m 20 ≤ 20 := by omega
  have hmc : min n 20 ≤ c := by omega
  have hmd' : min m 20 ≤ d := by omega
  have HC : Hid (c ≤ maxLen) := hc; clear hc
  have HD : Hid (d ≤ maxLen) := hd; clear hd
  obtain ⟨N, hN⟩ : ∃ N, N = min n 20 := ⟨_, rfl⟩
  obtain ⟨M, hM⟩ : ∃ N, N = min m 20 := ⟨_, rfl⟩
  rw [← hN] at hr' hm1 hmc
  rw [← hM] at hs' hm2 hmd'
  obtain ⟨bs', hbs⟩ : ∃ l, l = bs.take N := ⟨_, rfl⟩
  obtain ⟨cs', hcs⟩ : ∃ l, l = cs.take M := ⟨_, rfl⟩
  rw [← hbs] at hr'
  rw [← hcs] at hs'
  have HN := Lib.hid hN; clear hN
  have HM := Lib.hid hM; clear hM
  clear hr hs hbs hcs
  have fa : ∀ W, Calls Try.prog 10 #[.slice A n c] W fun e w' => e = .returned (.slice A N c) ∧ W = w' := fun W => by rw [HN.out]; exact few_any A n c W hnc HC.out
  have fb : ∀ W, Calls Try.prog 10 #[.slice B m d] W fun e w' => e = .returned (.slice B M d) ∧ W = w' := fun W => by rw [HM.out]; exact few_any B m d W hmd HD.out
  have FA := Lib.hid fa; clear fa
  have FB := Lib.hid fb; clear fb
  obtain ⟨k, hk, hk8, hk1, hx⟩ := wof2 x h4 h5
  have H1 : Hid (v < 2 ^ 64) := h1; clear h1
  go_enter Try.func5, Try.ntmps5
  go_wp2_with (first
      | (go_at_call 14; (with_reducible refine (shown_any _).mono ?_); rintro e w5 ⟨rfl, x5⟩)
      | (go_at_call 10; (with_reducible refine (FA.out _).mono ?_); rintro e w' ⟨rfl, rfl⟩)
      | (go_at_call 9; (with_reducible refine (put_any _ _ _ _ v k big _ (hr'.ext x5) (by omega) hk h0 H1.out).mono ?_); rintro e w1 ⟨A1, c1, rfl, l1, l2, x1, r1⟩)
      | (go_at_call 9; (with_reducible refine (put_any none 0 0 [] v k (!big) _ Rd.nil (by omega) hk h0 H1.out).mono ?_); rintro e w2 ⟨A2, c2, rfl, l3, l4, x2, r2⟩; simp only [Nat.zero_add, List.nil_append] at r2 l3))
  have hra := (hr'.ext (x5.trans (x1.trans x2)))
  have hsb := (hs'.ext (x5.trans (x1.trans x2)))
  have hrp := r1.ext x2
  have htk := hrp.take (k := N) (by omega)
  rw [List.take_left' hr'.len] at htk
  have q1 : ∀ c j, (convert 22 9 (.slice A1 N c)).run Try.prog (w2.drewN j) = .ok (.string (strOfNums bs')) (w2.drewN j) := fun c j => str (htk.ext (Ext.of_drewN _ _))
  have q2 : ∀ c j, (convert 22 9 (.slice A N c)).run Try.prog (w2.drewN j) = .ok (.string (strOfNums bs')) (w2.drewN j) := fun c j => str (hra.ext (Ext.of_drewN _ _))
  have hN0 : (0:Int) ≤ N := by omega
  have hNc : (N : Int) ≤ c1 := by omega
  go_quiet ((go_at_call 10; exact quiet_l (FA.out _)))
  clear q1 q2
  go_wp2_with fail
  go_loopw [78] (fun i wr => ∃ j : Nat, j ≤ k ∧ i = .int .i64 j ∧ Ext w2 wr) (fun i _ => k - (intOf i).toNat)
  case atStart => exact ⟨0, by omega, rfl, Ext.of_drewN _ _⟩
  case round =>
    obtain ⟨j, hj, rfl, x6⟩ := hrel
    by_cases hlt : (j : Int) < k
    · obtain ⟨J, hJ⟩ : ∃ J : Nat, J = N + k - 1 - j := ⟨_, rfl⟩
      have eJ : (N : Int) + k - 1 - j = J := by omega
      have J0 : (0 : Int) ≤ J := by omega
      have J1 : (J : Int) < N + k := by omega
      have j0 : (0 : Int) ≤ j := by omega
      obtain ⟨b1, o1, rfl, _, hc1⟩ := (hrp.ext x6).cell (k := J) (by omega)
      obtain ⟨b2, o2, rfl, _, hc2⟩ := (r2.ext x6).cell (k := j) (by omega)
      rw [hJ, mirror v k big j (by omega) bs' N hr'.len, ← hJ] at hc1
      clear hJ
      go_wp2_with fail
      go_quiet (fail)
      go_wp2
      go_roundw
      case rel => exact ⟨j + 1, by omega, by go_num, x6.drewN _⟩
      case measure => simp [intOf]; omega
    · have hcN : ¬ c1 = N := by omega
      have hdr := hrp.drop (k := N) (cap := c1) (by omega) l1
      rw [if_neg hcN, List.drop_left' hr'.len, show N + k - N = k by omega] at hdr
      replace hdr := hdr.ext x6
      replace hsb := hsb.ext x6
      have hb := Lib.hid (back_eq v k big hk h0 H1.out)
      have ham := and_mask v k hk h0 H1.out
      have eNk : N + k - N = k := by omega
      go_wp2_with (first
        | (go_at_call 12; (with_reducible refine (take_any _ _ _ _ k big _ hrd8 (by omega) lc8 hk (by omega)).mono ?_); rintro e w9 ⟨A9, c9, he, l9, l10, x9, r9⟩; rw [takeTo_app _ _ _ _ _ (by rw [putB_len]; exact Nat.le_refl _), hb.out, List.drop_left' (putB_len _ _ _)] at *; rw [show k + M - k = M by omega] at *; subst he)
        | (go_at_call 10; (with_reducible refine (FA.out _).mono ?_); rintro e w' ⟨rfl, rfl⟩)
        | (go_at_call 10; (with_reducible refine (FB.out _).mono ?_); rintro e w' ⟨rfl, rfl⟩)
        | (at_builtin; refine wpList_app el22 rfl _ _ rfl hown7 rfl (hsb.ext x7).shows rfl (u8s_one _) (by simp only [maxLen]; omega) (by omega) rfl x7 ?_; intro v8 w8 hown8 x8 hg8 hat8; rw [← u8s_append] at hown8; obtain ⟨A8, c8, rfl, lc8, lm8, hrd8⟩ := own_rd hown8 (hdr.byts.append hsb.byts))
        | (at_builtin; refine wpList_app el22 rfl _ _ rfl (World.ownsRow_lit _ #[] 0 (Nat.le_refl _) (by simp) rfl) rfl ((hdr.ext ((Ext.refl _).alloc _)).shows) rfl (u8s_one _) (by simp only [maxLen]; omega) (by omega) rfl ((Ext.refl _).alloc _) ?_; intro v7 w7 hown7 x7 hg7 hat7; simp only [Nat.zero_add, List.nil_append, List.toList_toArray] at hown7))
      have q3 : ∀ c j, (convert 22 9 (.slice A9 M c)).run Try.prog (w9.drewN j) = .ok (.string (strOfNums cs')) (w9.drewN j) := fun c j => str (r9.ext (Ext.of_drewN _ _))
      have q4 : ∀ c j, (convert 22 9 (.slice B M c)).run Try.prog (w9.drewN j) = .ok (.string (strOfNums cs')) (w9.drewN j) := fun c j => str (hsb.ext (x8.trans (x9.trans (Ext.of_drewN _ _))))
      go_quiet (first | (go_at_call 10; exact quiet_l (FB.out _)) | (go_at_call 19; exact quiet_l (mask_any _ _ hk)))
      go_wp2
      go_ret
      exact ⟨rfl, x5.trans (x1.trans (x2.trans (x6.trans (x8.trans (x9.trans (Ext.of_drewN _ _))))))⟩
end Go.Proofs.Ytkagdklnfljkjaa
