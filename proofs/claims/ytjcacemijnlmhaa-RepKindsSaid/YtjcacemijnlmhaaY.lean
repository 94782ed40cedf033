import Derived.Test.YtjcacemijnlmhaaX
set_option linter.unusedVariables false
namespace Go.Proofs.Ytjcacemijnlmhaa
open Go.RowKit
/-- What the put of what was taken is. -/
theorem TK_once {bs B : List Int} {er k cd : Int} (tk : TK bs er k cd B) (hb : Byts bs) (h8 : bs.length ≤ 8) : (er ≠ 0 ∧ k = 0 ∧ cd = 0 ∧ B = []) ∨
    (er = 0 ∧ 0 ≤ cd ∧ cd < 256 ∧ mayR k cd B.length = true ∧ (putR k cd B = bs ∨ (k = 2 ∧ B = [] ∧ 2 < bs.length ∧ putR k cd B = bs.take 2))) := by
  rcases bs with _ | ⟨a, t⟩
  · simp [TK] at tk
    exact .inl ⟨by omega, tk.2.1, tk.2.2.1, tk.2.2.2⟩
  have ha := hb a (by simp)
  have h7 : (t.take 7) = t := List.take_of_length_le (by simp at h8; omega)
  have ht : t.length ≤ 7 := by simpa using h8
  unfold TK at tk
  simp only [List.getD_cons_zero, List.drop_succ_cons, List.drop_zero, h7] at tk
  rcases tk with h | ⟨_, _, rfl, h⟩ | ⟨_, rfl, rfl, rfl, rfl, rfl⟩ | ⟨h2, rfl, rfl, rfl, hc, rfl⟩ | ⟨h2, rfl, rfl, rfl, hc, rfl⟩ | ⟨_, hx, rfl, rfl, rfl, rfl⟩ | ⟨_, _, _, rfl, h⟩
  · simp at h
  · exact .inl ⟨by omega, h⟩
  · exact .inr ⟨rfl, by omega, by omega, by simp [mayR, ht], .inl (by simp [putR, headR])⟩
  · rcases t with _ | ⟨b, t⟩
    · simp at h2
    · have hb' := hb b (by simp)
      simp at hc
      subst hc
      refine .inr ⟨rfl, hb'.1, hb'.2, by simp [mayR], ?_⟩
      rcases t with _ | ⟨c, t⟩
      · exact .inl (by simp [putR, headR])
      · exact .inr ⟨rfl, rfl, by simp, by simp [putR, headR]⟩
  · rcases t with _ | ⟨b, t⟩
    · simp at h2
    · have hb' := hb b (by simp)
      simp at hc
      simp at ht
      have h6 : t.take 6 = t := List.take_of_length_le (by omega)
      have e6 : ((b :: t).drop 1).take 6 = t := by simpa using h6
      rw [e6, hc]
      refine .inr ⟨rfl, hb'.1, hb'.2, by simp [mayR]; omega, .inl (by simp [putR, headR])⟩
  · exact .inr ⟨rfl, ha.1, ha.2, by simp [mayR, ht]; exact hx, .inl (by simp [putR, headR])⟩
  · exact .inl ⟨by omega, h⟩
theorem TK_ex (bs : List Int) (hb : Byts bs) : ∃ er k cd B, TK bs er k cd B := by
  unfold TK
  by_cases h0 : bs.length = 0
  · exact ⟨5, 0, 0, [], .inl ⟨h0, rfl, rfl, rfl, rfl⟩⟩
  by_cases h1 : bs.length = 1 ∧ (bs.getD 0 0 = 254 ∨ bs.getD 0 0 = 253)
  · exact ⟨5, 0, 0, [], .inr (.inl ⟨h1.1, h1.2, rfl, rfl, rfl, rfl⟩)⟩
  by_cases h2 : bs.getD 0 0 = 255
  · exact ⟨0, 1, 0, _, .inr (.inr (.inl ⟨by omega, h2, rfl, rfl, rfl, rfl⟩))⟩
  by_cases h3 : bs.getD 0 0 = 254
  · exact ⟨0, 2, _, _, .inr (.inr (.inr (.inl ⟨by omega, h3, rfl, rfl, rfl, rfl⟩)))⟩
  by_cases h4 : bs.getD 0 0 = 253
  · exact ⟨0, 3, _, _, .inr (.inr (.inr (.inr (.inl ⟨by omega, h4, rfl, rfl, rfl, rfl⟩))))⟩
  by_cases h5 : bs.getD 0 0 ≤ 191
  · exact ⟨0, 4, _, _, .inr (.inr (.inr (.inr (.inr (.inl ⟨by omega, h5, rfl, rfl, rfl, rfl⟩)))))⟩
  by_cases h6 : bs.getD 0 0 < 253
  · exact ⟨1, 0, 0, _, .inr (.inr (.inr (.inr (.inr (.inr ⟨by omega, by omega, h6, rfl, rfl, rfl, rfl⟩)))))⟩
  have : bs.getD 0 0 < 256 := by
    rw [List.getD_eq_getElem?_getD, List.getElem?_eq_getElem (by omega)]
    exact (hb _ (List.getElem_mem _)).2
  omega
theorem put_got (kind code : Int) (A : Option Addr) (n c : Nat) (B P : List Int) (L : Nat) (w : World) (hr : Rd w A n B) (h0 : 0 ≤ code) (h1 : code < 256) (hm : mayR kind code B.length = true) (hP : putR kind code B = P) (hL : P.length = L) :
    Calls Try.prog 8 #[.agg #[.int .u8 kind, .int .u8 code, .slice A n c]] w fun e w' => ∃ A' c', e = .returned (.tuple #[.slice A' L c', .int .i64 0]) ∧ Ext w w' ∧ Rd w' A' L P := by
  subst hP hL
  refine (put_yes kind code A n c B w hr h0 h1 (by rw [← hr.len]; exact hm)).mono fun e w' h => ?_
  obtain ⟨A', c', rfl, _, _, x, r⟩ := h
  exact ⟨A', c', rfl, x, r⟩
set_option maxHeartbeats 1000000 in
theorem RepOnce_law (w : World) (A : Option Addr) (n c : Nat) (bs : List Int) (hr : Rd w A n bs) (hnc : n ≤ c) (hcm : c ≤ maxLen) :
    Calls Try.prog 6 #[.slice A n c] w fun e w' => e = .returned (.bool true) ∧ Ext w w' := by
  by_cases h20 : (8 : Int) < n
  · have hr' := hr.take (k := 8) (by omega)
    have h20c : (8 : Int) ≤ c := by omega
    have h20d : 8 ≤ c := by omega
    have hit : (if (8 : Int) < n then (8 : Int) else n) = 8 := if_pos h20
    obtain ⟨er, k, cd, B, tk0⟩ := TK_ex _ hr'.byts
    have TK0 := Lib.hid tk0; clear tk0
    rcases TK_once TK0.out hr'.byts (by rw [hr'.len]; omega) with ⟨he, rfl, rfl, rfl⟩ | ⟨rfl, d0, d1, hmay, hP | ⟨rfl, rfl, h2l, hP⟩⟩
    · replace he : (er == 0) = false := by simpa using he
      go_enter Try.func6, Try.ntmps6
      go_wp2_with (first
        | (go_at_call 11; (with_reducible refine (shown_any _).mono ?_); rintro e w0 ⟨rfl, x0⟩)
          | (go_at_call 14; (with_reducible refine (take_c _ 8 c _ _ (hr'.ext x0) (by omega) h20d).mono ?_); rintro e w1 ⟨er2, k2, cd2, B2, A1, m1, c1, rfl, tk, x1, r1, _, _⟩; obtain ⟨rfl, rfl, rfl, rfl⟩ := TK.det TK0.out tk; clear tk; have y1 := x0.trans x1; have hlm := r1.len)
        | (go_at_call 8; (with_reducible refine (put_no _ _ _ _ _ _ (by simp [mayR])).mono ?_); rintro e w2 ⟨rfl, x2⟩; have y2 := y1.trans ((((Ext.refl _).alloc _)).trans x2); obtain ⟨f0, f1, f2⟩ := cells3 (blk_of x2)))
      go_ret
      exact ⟨rfl, y2⟩
    · have HL := Lib.hid hr'.len
      have HP := Lib.hid hP; clear hP
      go_enter Try.func6, Try.ntmps6
      go_wp2_with (first
        | (go_at_call 11; (with_reducible refine (shown_any _).mono ?_); rintro e w0 ⟨rfl, x0⟩)
          | (go_at_call 14; (with_reducible refine (take_c _ 8 c _ _ (hr'.ext x0) (by omega) h20d).mono ?_); rintro e w1 ⟨er2, k2, cd2, B2, A1, m1, c1, rfl, tk, x1, r1, _, _⟩; obtain ⟨rfl, rfl, rfl, rfl⟩ := TK.det TK0.out tk; clear tk; have y1 := x0.trans x1; have hlm := r1.len)
        | (go_at_call 8; (with_reducible refine (put_got _ _ _ _ _ _ _ 8 _ (r1.ext ((Ext.refl _).alloc _)) d0 d1 hmay HP.out HL.out).mono ?_); rintro e w2 ⟨A2, cc, rfl, x2, r2⟩; have y2 := y1.trans ((((Ext.refl _).alloc _)).trans x2); obtain ⟨f0, f1, f2⟩ := cells3 (blk_of x2); have s2 := fun j => str (c := cc) (r2.ext (Ext.of_drewN w2 j)); have s1 := fun j => str (c := c) (hr'.ext (y2.drewN j)); skip))
      go_quiet (fail)
      go_wp2
      go_ret
      exact ⟨rfl, y2.drewN _⟩
    · have HP := Lib.hid hP; clear hP
      rw [hr'.len] at h2l
      have h2l' : (2 : Int) < 8 := by omega
      have h2l2 : (2 : Int) ≤ c := by omega
      have HL : Hid ((List.take 2 (List.take 8 bs)).length = 2) := Lib.hid (by rw [List.length_take, hr'.len]; omega)
      have h2 := hr'.take (k := 2) (by omega)
      have H2 := Lib.hid (fun (W : World) (x : Ext w W) (cc : Nat) => str (c := cc) (h2.ext x))
      clear h2
      cases hq : (strOfNums (List.take 2 (List.take 8 bs)) == strOfNums (List.take 8 bs))
      · have hq2 := hq; rw [beq_toListBytes] at hq2
        go_enter Try.func6, Try.ntmps6
        go_wp2_with (first
          | (go_at_call 11; (with_reducible refine (shown_any _).mono ?_); rintro e w0 ⟨rfl, x0⟩)
            | (go_at_call 14; (with_reducible refine (take_c _ 8 c _ _ (hr'.ext x0) (by omega) h20d).mono ?_); rintro e w1 ⟨er2, k2, cd2, B2, A1, m1, c1, rfl, tk, x1, r1, _, _⟩; obtain ⟨rfl, rfl, rfl, rfl⟩ := TK.det TK0.out tk; clear tk; have y1 := x0.trans x1; have hlm := r1.len)
          | (go_at_call 8; (with_reducible refine (put_got _ _ _ _ _ _ _ 2 _ (r1.ext ((Ext.refl _).alloc _)) d0 d1 hmay HP.out HL.out).mono ?_); rintro e w2 ⟨A2, cc, rfl, x2, r2⟩; have y2 := y1.trans ((((Ext.refl _).alloc _)).trans x2); obtain ⟨f0, f1, f2⟩ := cells3 (blk_of x2); have s2 := fun j => str (c := cc) (r2.ext (Ext.of_drewN w2 j)); have s1 := fun j => str (c := c) (hr'.ext (y2.drewN j)); (have s3 := fun j => H2.out _ (y2.drewN j) c)))
        go_quiet (fail)
        go_wp2
        go_ret
        exact ⟨by simp, y2.drewN _⟩
      · have hq2 := hq; rw [beq_toListBytes] at hq2
        go_enter Try.func6, Try.ntmps6
        go_wp2_with (first
          | (go_at_call 11; (with_reducible refine (shown_any _).mono ?_); rintro e w0 ⟨rfl, x0⟩)
            | (go_at_call 14; (with_reducible refine (take_c _ 8 c _ _ (hr'.ext x0) (by omega) h20d).mono ?_); rintro e w1 ⟨er2, k2, cd2, B2, A1, m1, c1, rfl, tk, x1, r1, _, _⟩; obtain ⟨rfl, rfl, rfl, rfl⟩ := TK.det TK0.out tk; clear tk; have y1 := x0.trans x1; have hlm := r1.len)
          | (go_at_call 8; (with_reducible refine (put_got _ _ _ _ _ _ _ 2 _ (r1.ext ((Ext.refl _).alloc _)) d0 d1 hmay HP.out HL.out).mono ?_); rintro e w2 ⟨A2, cc, rfl, x2, r2⟩; have y2 := y1.trans ((((Ext.refl _).alloc _)).trans x2); obtain ⟨f0, f1, f2⟩ := cells3 (blk_of x2); have s2 := fun j => str (c := cc) (r2.ext (Ext.of_drewN w2 j)); have s1 := fun j => str (c := c) (hr'.ext (y2.drewN j)); (have s3 := fun j => H2.out _ (y2.drewN j) c)))
        go_quiet (fail)
        go_wp2
        go_ret
        exact ⟨by simp, y2.drewN _⟩
  · have hr' := hr.take (k := n) (by omega)
    have h20c : (n : Int) ≤ c := by omega
    have h20d : n ≤ c := by omega
    have hit : (if (8 : Int) < n then (8 : Int) else n) = n := if_neg h20
    obtain ⟨er, k, cd, B, tk0⟩ := TK_ex _ hr'.byts
    have TK0 := Lib.hid tk0; clear tk0
    rcases TK_once TK0.out hr'.byts (by rw [hr'.len]; omega) with ⟨he, rfl, rfl, rfl⟩ | ⟨rfl, d0, d1, hmay, hP | ⟨rfl, rfl, h2l, hP⟩⟩
    · replace he : (er == 0) = false := by simpa using he
      go_enter Try.func6, Try.ntmps6
      go_wp2_with (first
        | (go_at_call 11; (with_reducible refine (shown_any _).mono ?_); rintro e w0 ⟨rfl, x0⟩)
          | (go_at_call 14; (with_reducible refine (take_c _ n c _ _ (hr'.ext x0) (by omega) h20d).mono ?_); rintro e w1 ⟨er2, k2, cd2, B2, A1, m1, c1, rfl, tk, x1, r1, _, _⟩; obtain ⟨rfl, rfl, rfl, rfl⟩ := TK.det TK0.out tk; clear tk; have y1 := x0.trans x1; have hlm := r1.len)
        | (go_at_call 8; (with_reducible refine (put_no _ _ _ _ _ _ (by simp [mayR])).mono ?_); rintro e w2 ⟨rfl, x2⟩; have y2 := y1.trans ((((Ext.refl _).alloc _)).trans x2); obtain ⟨f0, f1, f2⟩ := cells3 (blk_of x2)))
      go_ret
      exact ⟨rfl, y2⟩
    · have HL := Lib.hid hr'.len
      have HP := Lib.hid hP; clear hP
      go_enter Try.func6, Try.ntmps6
      go_wp2_with (first
        | (go_at_call 11; (with_reducible refine (shown_any _).mono ?_); rintro e w0 ⟨rfl, x0⟩)
          | (go_at_call 14; (with_reducible refine (take_c _ n c _ _ (hr'.ext x0) (by omega) h20d).mono ?_); rintro e w1 ⟨er2, k2, cd2, B2, A1, m1, c1, rfl, tk, x1, r1, _, _⟩; obtain ⟨rfl, rfl, rfl, rfl⟩ := TK.det TK0.out tk; clear tk; have y1 := x0.trans x1; have hlm := r1.len)
        | (go_at_call 8; (with_reducible refine (put_got _ _ _ _ _ _ _ n _ (r1.ext ((Ext.refl _).alloc _)) d0 d1 hmay HP.out HL.out).mono ?_); rintro e w2 ⟨A2, cc, rfl, x2, r2⟩; have y2 := y1.trans ((((Ext.refl _).alloc _)).trans x2); obtain ⟨f0, f1, f2⟩ := cells3 (blk_of x2); have s2 := fun j => str (c := cc) (r2.ext (Ext.of_drewN w2 j)); have s1 := fun j => str (c := c) (hr'.ext (y2.drewN j)); skip))
      go_quiet (fail)
      go_wp2
      go_ret
      exact ⟨rfl, y2.drewN _⟩
    · have HP := Lib.hid hP; clear hP
      rw [hr'.len] at h2l
      have h2l' : (2 : Int) < n := by omega
      have h2l2 : (2 : Int) ≤ c := by omega
      have HL : Hid ((List.take 2 (List.take n bs)).length = 2) := Lib.hid (by rw [List.length_take, hr'.len]; omega)
      have h2 := hr'.take (k := 2) (by omega)
      have H2 := Lib.hid (fun (W : World) (x : Ext w W) (cc : Nat) => str (c := cc) (h2.ext x))
      clear h2
      cases hq : (strOfNums (List.take 2 (List.take n bs)) == strOfNums (List.take n bs))
      · have hq2 := hq; rw [beq_toListBytes] at hq2
        go_enter Try.func6, Try.ntmps6
        go_wp2_with (first
          | (go_at_call 11; (with_reducible refine (shown_any _).mono ?_); rintro e w0 ⟨rfl, x0⟩)
            | (go_at_call 14; (with_reducible refine (take_c _ n c _ _ (hr'.ext x0) (by omega) h20d).mono ?_); rintro e w1 ⟨er2, k2, cd2, B2, A1, m1, c1, rfl, tk, x1, r1, _, _⟩; obtain ⟨rfl, rfl, rfl, rfl⟩ := TK.det TK0.out tk; clear tk; have y1 := x0.trans x1; have hlm := r1.len)
          | (go_at_call 8; (with_reducible refine (put_got _ _ _ _ _ _ _ 2 _ (r1.ext ((Ext.refl _).alloc _)) d0 d1 hmay HP.out HL.out).mono ?_); rintro e w2 ⟨A2, cc, rfl, x2, r2⟩; have y2 := y1.trans ((((Ext.refl _).alloc _)).trans x2); obtain ⟨f0, f1, f2⟩ := cells3 (blk_of x2); have s2 := fun j => str (c := cc) (r2.ext (Ext.of_drewN w2 j)); have s1 := fun j => str (c := c) (hr'.ext (y2.drewN j)); (have s3 := fun j => H2.out _ (y2.drewN j) c)))
        go_quiet (fail)
        go_wp2
        go_ret
        exact ⟨by simp, y2.drewN _⟩
      · have hq2 := hq; rw [beq_toListBytes] at hq2
        go_enter Try.func6, Try.ntmps6
        go_wp2_with (first
          | (go_at_call 11; (with_reducible refine (shown_any _).mono ?_); rintro e w0 ⟨rfl, x0⟩)
            | (go_at_call 14; (with_reducible refine (take_c _ n c _ _ (hr'.ext x0) (by omega) h20d).mono ?_); rintro e w1 ⟨er2, k2, cd2, B2, A1, m1, c1, rfl, tk, x1, r1, _, _⟩; obtain ⟨rfl, rfl, rfl, rfl⟩ := TK.det TK0.out tk; clear tk; have y1 := x0.trans x1; have hlm := r1.len)
          | (go_at_call 8; (with_reducible refine (put_got _ _ _ _ _ _ _ 2 _ (r1.ext ((Ext.refl _).alloc _)) d0 d1 hmay HP.out HL.out).mono ?_); rintro e w2 ⟨A2, cc, rfl, x2, r2⟩; have y2 := y1.trans ((((Ext.refl _).alloc _)).trans x2); obtain ⟨f0, f1, f2⟩ := cells3 (blk_of x2); have s2 := fun j => str (c := cc) (r2.ext (Ext.of_drewN w2 j)); have s1 := fun j => str (c := c) (hr'.ext (y2.drewN j)); (have s3 := fun j => H2.out _ (y2.drewN j) c)))
        go_quiet (fail)
        go_wp2
        go_ret
        exact ⟨by simp, y2.drewN _⟩
end Go.Proofs.Ytjcacemijnlmhaa
