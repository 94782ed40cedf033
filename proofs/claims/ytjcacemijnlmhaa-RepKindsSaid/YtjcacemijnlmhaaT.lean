import Derived.Test.YtjcacemijnlmhaaS
set_option linter.unusedVariables false
namespace Go.Proofs.Ytjcacemijnlmhaa
open Go.RowKit
theorem take_any : TakesR 14 := by
  intro A n c bs w hr hn hnc
  rcases Nat.eq_zero_or_pos n with rfl | hpos
  · refine (take_0 A c w).mono ?_
    rintro e w' ⟨rfl, x⟩
    exact ⟨5, 0, 0, [], none, 0, 0, rfl, .inl ⟨hr.len, rfl, rfl, rfl, rfl⟩, x, Rd.nil, by omega, le_max (by omega)⟩
  have hl := hr.len
  have hb : 0 ≤ bs.getD 0 0 ∧ bs.getD 0 0 < 256 := by
    rw [List.getD_eq_getElem?_getD, List.getElem?_eq_getElem (by omega)]
    exact hr.byts _ (List.getElem_mem _)
  obtain ⟨x, HX⟩ : ∃ x, x = bs.getD 0 0 := ⟨_, rfl⟩
  rw [← HX] at hb
  by_cases h1 : n = 1 ∧ (x = 254 ∨ x = 253)
  · obtain ⟨rfl, h1⟩ := h1
    refine (take_1 A c bs x w hr (Lib.hid HX) h1).mono ?_
    rintro e w' ⟨rfl, x⟩
    exact ⟨5, 0, 0, [], none, 0, 0, rfl, .inr (.inl ⟨hl, by rw [← HX]; exact h1, rfl, rfl, rfl, rfl⟩), x, Rd.nil, by omega, le_max (by omega)⟩
  by_cases hp : x = 255
  · exact take_P A n c bs w hr hn hnc hpos x (Lib.hid HX) hb.1 hb.2 hp
  by_cases hd : x ≤ 191
  · exact take_D A n c bs w hr hn hnc hpos x (Lib.hid HX) hb.1 hb.2 hd
  by_cases hN : x = 254
  · exact take_N A n c bs w hr hn hnc hpos x (Lib.hid HX) hb.1 hb.2 (by omega) hN
  by_cases hE : x = 253
  · exact take_E A n c bs w hr hn hnc hpos x (Lib.hid HX) hb.1 hb.2 (by omega) hE
  · refine (take_X A n c bs w hr hn hnc hpos x (Lib.hid HX) hb.1 hb.2 (by omega) (by omega)).mono ?_
    rintro e w' ⟨rfl, x1⟩
    exact ⟨1, 0, 0, [], none, 0, 0, rfl, .inr (.inr (.inr (.inr (.inr (.inr ⟨by omega, by omega, by omega, rfl, rfl, rfl, rfl⟩))))), x1, Rd.nil, by omega, le_max (by omega)⟩
theorem rtake_any : TakesR 15 := by
  intro A n c bs w hr hn hnc
  rcases Nat.eq_zero_or_pos n with rfl | hpos
  · refine (rtake_0 A c w).mono ?_
    rintro e w' ⟨rfl, x⟩
    exact ⟨5, 0, 0, [], none, 0, 0, rfl, .inl ⟨hr.len, rfl, rfl, rfl, rfl⟩, x, Rd.nil, by omega, le_max (by omega)⟩
  have hl := hr.len
  have hb : 0 ≤ bs.getD 0 0 ∧ bs.getD 0 0 < 256 := by
    rw [List.getD_eq_getElem?_getD, List.getElem?_eq_getElem (by omega)]
    exact hr.byts _ (List.getElem_mem _)
  obtain ⟨x, HX⟩ : ∃ x, x = bs.getD 0 0 := ⟨_, rfl⟩
  rw [← HX] at hb
  by_cases h1 : n = 1 ∧ (x = 254 ∨ x = 253)
  · obtain ⟨rfl, h1⟩ := h1
    refine (rtake_1 A c bs x w hr (Lib.hid HX) h1).mono ?_
    rintro e w' ⟨rfl, x⟩
    exact ⟨5, 0, 0, [], none, 0, 0, rfl, .inr (.inl ⟨hl, by rw [← HX]; exact h1, rfl, rfl, rfl, rfl⟩), x, Rd.nil, by omega, le_max (by omega)⟩
  by_cases hp : x = 255
  · exact rtake_P A n c bs w hr hn hnc hpos x (Lib.hid HX) hb.1 hb.2 hp
  by_cases hd : x ≤ 191
  · exact rtake_D A n c bs w hr hn hnc hpos x (Lib.hid HX) hb.1 hb.2 hd
  by_cases hN : x = 254
  · exact rtake_N A n c bs w hr hn hnc hpos x (Lib.hid HX) hb.1 hb.2 (by omega) hN
  by_cases hE : x = 253
  · exact rtake_E A n c bs w hr hn hnc hpos x (Lib.hid HX) hb.1 hb.2 (by omega) hE
  · exact rtake_X A n c bs w hr hn hnc hpos x (Lib.hid HX) hb.1 hb.2 (by omega) (by omega)
theorem r12 (W : World) : Rd (W.alloc (.cells #[.int .u8 1, .int .u8 2] 5)) (some ⟨W.heap.size, 0, none⟩) 2 [1, 2] := ⟨Shows.new W [.int .u8 1, .int .u8 2] 5, by intro b hb; simp at hb; omega⟩
theorem r7 (W : World) : Rd (W.alloc (.cells #[.int .u8 7] 5)) (some ⟨W.heap.size, 0, none⟩) 1 [7] := ⟨Shows.new W [.int .u8 7] 5, by intro b hb; simp at hb; omega⟩
theorem put_s1 (A : Option Addr) (cc : Nat) (w : World) (hr : Rd w A 2 [1, 2]) : Calls Try.prog 8 #[.agg #[.int .u8 1, .int .u8 0, .slice A 2 cc]] w fun e w' => ∃ A' c', e = .returned (.tuple #[.slice A' 3 c', .int .i64 0]) ∧ Ext w w' ∧ Rd w' A' 3 [255, 1, 2] :=
  (put_yes 1 0 A 2 cc [1, 2] w hr (by omega) (by omega) (by decide)).mono fun e w' h => by
    obtain ⟨A', c', rfl, _, _, x, r⟩ := h
    exact ⟨A', c', rfl, x, r⟩
theorem put_s2 (A : Option Addr) (cc : Nat) (w : World) (hr : Rd w A 0 []) : Calls Try.prog 8 #[.agg #[.int .u8 2, .int .u8 33, .slice A 0 cc]] w fun e w' => ∃ A' c', e = .returned (.tuple #[.slice A' 2 c', .int .i64 0]) ∧ Ext w w' ∧ Rd w' A' 2 [254, 33] :=
  (put_yes 2 33 A 0 cc [] w hr (by omega) (by omega) (by decide)).mono fun e w' h => by
    obtain ⟨A', c', rfl, _, _, x, r⟩ := h
    exact ⟨A', c', rfl, x, r⟩
theorem put_s3 (A : Option Addr) (cc : Nat) (w : World) (hr : Rd w A 1 [7]) : Calls Try.prog 8 #[.agg #[.int .u8 4, .int .u8 3, .slice A 1 cc]] w fun e w' => ∃ A' c', e = .returned (.tuple #[.slice A' 2 c', .int .i64 0]) ∧ Ext w w' ∧ Rd w' A' 2 [3, 7] :=
  (put_yes 4 3 A 1 cc [7] w hr (by omega) (by omega) (by decide)).mono fun e w' h => by
    obtain ⟨A', c', rfl, _, _, x, r⟩ := h
    exact ⟨A', c', rfl, x, r⟩
theorem shown_any (w : World) : Calls Try.prog 11 #[] w fun e w' => e = .returned (.bool true) ∧ Ext w w' := by
  have k1 : ((strOfNums [255, 1, 2]).toList == [255, 1, 2]) = true := by kernel_rfl
  have k2 : ((strOfNums [254, 33]).toList == [254, 33]) = true := by kernel_rfl
  have k3 : ((strOfNums [3, 7]).toList == [3, 7]) = true := by kernel_rfl
  go_enter Try.func11, Try.ntmps11
  go_wp2_with (first
    | (go_at_call 8; (with_reducible refine (put_s1 _ _ _ (r12 _)).mono ?_); rintro e w1 ⟨A1, c1, rfl, x1, r1⟩)
    | (go_at_call 8; (with_reducible refine (put_s2 _ _ _ Rd.nil).mono ?_); rintro e w2 ⟨A2, c2, rfl, x2, r2⟩)
    | (go_at_call 8; (with_reducible refine (put_s3 _ _ _ (r7 _)).mono ?_); rintro e w3 ⟨A3, c3, rfl, x3, r3⟩; have y3 := ((Ext.refl _).alloc _).trans x3; have s3 := str (c := c3) r3; have s2 := str (c := c2) (r2.ext y3); have s1 := str (c := c1) (r1.ext (x2.trans y3))))
  go_ret
  exact ⟨rfl, ((((Ext.refl _).alloc _).trans x1).trans x2).trans y3⟩
end Go.Proofs.Ytjcacemijnlmhaa
