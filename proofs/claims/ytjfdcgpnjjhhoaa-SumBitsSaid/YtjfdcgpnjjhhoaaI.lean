import Derived.Test.YtjfdcgpnjjhhoaaH
set_option linter.unusedVariables false
set_option linter.unusedSimpArgs false
namespace Go.Proofs.Ytjfdcgpnjjhhoaa
open Go.RowKit
theorem sumV_add (y : Way) (big : Bool) {bs : List Int} (hb : Byts bs) (hw : y.word = 1 ∨ y.word = 2 ∨ y.word = 4) (hf : y.fn = 27) (hs : y.start = 0) (hm : y.m = 255 ∨ y.m = 65535 ∨ y.m = 4294967295) (ht : y.turn = 0) : sumV y big bs = addTo bs y.word big (bs.length / y.word) % (y.m + 1) := by
  unfold sumV
  rw [ht, add_eq y big hb hw hf hs hm]
  rcases hm with h | h | h <;> rw [h] <;> exact xor_zero (by omega) (by omega)
theorem sumV_low (y : Way) (big : Bool) {bs : List Int} (hb : Byts bs) (hy : y.ok) (hw : y.word = 1) (hf : y.fn = 28) : sumV y big bs = bits .xor .u32 (foldTo (halfS y.m) y.start bs bs.length) y.turn := by
  unfold sumV
  rw [hw, Nat.div_one, fold_eq y big bs hw _ (Nat.le_refl _), hf]
  rfl
theorem sumV_high (y : Way) (big : Bool) {bs : List Int} (hb : Byts bs) (hy : y.ok) (hw : y.word = 1) (hf : y.fn = 29) : sumV y big bs = bits .xor .u32 (foldTo (dblS y.m) y.start bs bs.length) y.turn := by
  unfold sumV
  rw [hw, Nat.div_one, fold_eq y big bs hw _ (Nat.le_refl _), hf]
  rfl
theorem rof_1 (A : Option Addr) (n c : Nat) (bs : List Int) (big : Bool) (w : World) (hr : Rd w A n bs) (hn : n ≤ 1000) (hnc : n ≤ c) (hcm : c ≤ maxLen) (hm : n % 1 = 0) :
    Calls Try.prog 11 #[.int .u8 1, .slice A n c, .bool big] w fun e w' => e = .returned (.tuple #[.int .u32 (sumV ⟨1, 0, 27, 255, 0⟩ big bs), .int .i64 0]) ∧ Ext w w' := by
  have H : Hid (wordK 1 = 1) := rfl
  have ht : ((n : Int).tmod 1) = 0 := by have := tmod_nat n 1; rw [hm] at this; exact this
  have HV := Lib.hid (sumV_add ⟨1, 0, 27, 255, 0⟩ big hr.byts (by simp) rfl rfl (by simp) rfl)
  rw [hr.len] at HV
  have hms : n % 1 = 0 := hm
  obtain ⟨a0, a1⟩ := addTo_bd bs 1 big (n / 1)
  have HR := Lib.hid hr
  have HMM := Lib.hid hms
  clear hr hms hm
  have hc := fun W => added_any A n c bs 1 big W
  have HC := Lib.hid hc
  clear hc
  obtain ⟨q, hq⟩ : ∃ q, q = addTo bs 1 big (n / 1) := ⟨_, rfl⟩
  rw [← hq] at a0 a1
  have HQ := Lib.hid hq
  clear hq
  have hq1 : q.tmod 256 = q % 256 := Int.tmod_eq_emod_of_nonneg a0
  go_enter Try.func11, Try.ntmps11
  go_wp2_with (first
    | (go_at_call 14; (refine (rword_any _ _).mono ?_); rintro e w1 ⟨rfl, rfl⟩; rw [H.out])
    | (go_at_call 19; (refine (HC.out _ HR.out hn hnc hcm (by simp) HMM.out).mono ?_); rintro e w2 ⟨rfl, x2⟩; rw [← HQ.out]))
  go_ret2
  refine ⟨?_, x2⟩
  rw [HV.out, ← HQ.out]
  simp <;> omega
theorem rof_2 (A : Option Addr) (n c : Nat) (bs : List Int) (big : Bool) (w : World) (hr : Rd w A n bs) (hn : n ≤ 1000) (hnc : n ≤ c) (hcm : c ≤ maxLen) (hm : n % 1 = 0) :
    Calls Try.prog 11 #[.int .u8 2, .slice A n c, .bool big] w fun e w' => e = .returned (.tuple #[.int .u32 (sumV ⟨1, 0, 27, 65535, 0⟩ big bs), .int .i64 0]) ∧ Ext w w' := by
  have H : Hid (wordK 2 = 1) := rfl
  have ht : ((n : Int).tmod 1) = 0 := by have := tmod_nat n 1; rw [hm] at this; exact this
  have HV := Lib.hid (sumV_add ⟨1, 0, 27, 65535, 0⟩ big hr.byts (by simp) rfl rfl (by simp) rfl)
  rw [hr.len] at HV
  have hms : n % 1 = 0 := hm
  obtain ⟨a0, a1⟩ := addTo_bd bs 1 big (n / 1)
  have HR := Lib.hid hr
  have HMM := Lib.hid hms
  clear hr hms hm
  have hc := fun W => added_any A n c bs 1 big W
  have HC := Lib.hid hc
  clear hc
  obtain ⟨q, hq⟩ : ∃ q, q = addTo bs 1 big (n / 1) := ⟨_, rfl⟩
  rw [← hq] at a0 a1
  have HQ := Lib.hid hq
  clear hq
  have hq1 : q.tmod 65536 = q % 65536 := Int.tmod_eq_emod_of_nonneg a0
  go_enter Try.func11, Try.ntmps11
  go_wp2_with (first
    | (go_at_call 14; (refine (rword_any _ _).mono ?_); rintro e w1 ⟨rfl, rfl⟩; rw [H.out])
    | (go_at_call 19; (refine (HC.out _ HR.out hn hnc hcm (by simp) HMM.out).mono ?_); rintro e w2 ⟨rfl, x2⟩; rw [← HQ.out]))
  go_ret2
  refine ⟨?_, x2⟩
  rw [HV.out, ← HQ.out]
  simp <;> omega
theorem rof_3 (A : Option Addr) (n c : Nat) (bs : List Int) (big : Bool) (w : World) (hr : Rd w A n bs) (hn : n ≤ 1000) (hnc : n ≤ c) (hcm : c ≤ maxLen) (hm : n % 1 = 0) :
    Calls Try.prog 11 #[.int .u8 3, .slice A n c, .bool big] w fun e w' => e = .returned (.tuple #[.int .u32 (sumV ⟨1, 0, 27, 4294967295, 0⟩ big bs), .int .i64 0]) ∧ Ext w w' := by
  have H : Hid (wordK 3 = 1) := rfl
  have ht : ((n : Int).tmod 1) = 0 := by have := tmod_nat n 1; rw [hm] at this; exact this
  have HV := Lib.hid (sumV_add ⟨1, 0, 27, 4294967295, 0⟩ big hr.byts (by simp) rfl rfl (by simp) rfl)
  rw [hr.len] at HV
  have hms : n % 1 = 0 := hm
  obtain ⟨a0, a1⟩ := addTo_bd bs 1 big (n / 1)
  have HR := Lib.hid hr
  have HMM := Lib.hid hms
  clear hr hms hm
  have hc := fun W => added_any A n c bs 1 big W
  have HC := Lib.hid hc
  clear hc
  obtain ⟨q, hq⟩ : ∃ q, q = addTo bs 1 big (n / 1) := ⟨_, rfl⟩
  rw [← hq] at a0 a1
  have HQ := Lib.hid hq
  clear hq
  have hq1 : q.tmod 4294967296 = q % 4294967296 := Int.tmod_eq_emod_of_nonneg a0
  go_enter Try.func11, Try.ntmps11
  go_wp2_with (first
    | (go_at_call 14; (refine (rword_any _ _).mono ?_); rintro e w1 ⟨rfl, rfl⟩; rw [H.out])
    | (go_at_call 19; (refine (HC.out _ HR.out hn hnc hcm (by simp) HMM.out).mono ?_); rintro e w2 ⟨rfl, x2⟩; rw [← HQ.out]))
  go_ret2
  refine ⟨?_, x2⟩
  rw [HV.out, ← HQ.out]
  simp <;> omega
theorem rof_4 (A : Option Addr) (n c : Nat) (bs : List Int) (big : Bool) (w : World) (hr : Rd w A n bs) (hn : n ≤ 1000) (hnc : n ≤ c) (hcm : c ≤ maxLen) (hm : n % 2 = 0) :
    Calls Try.prog 11 #[.int .u8 4, .slice A n c, .bool big] w fun e w' => e = .returned (.tuple #[.int .u32 (sumV ⟨2, 0, 27, 65535, 0⟩ big bs), .int .i64 0]) ∧ Ext w w' := by
  have H : Hid (wordK 4 = 2) := rfl
  have ht : ((n : Int).tmod 2) = 0 := by have := tmod_nat n 2; rw [hm] at this; exact this
  have HV := Lib.hid (sumV_add ⟨2, 0, 27, 65535, 0⟩ big hr.byts (by simp) rfl rfl (by simp) rfl)
  rw [hr.len] at HV
  have hms : n % 2 = 0 := hm
  obtain ⟨a0, a1⟩ := addTo_bd bs 2 big (n / 2)
  have HR := Lib.hid hr
  have HMM := Lib.hid hms
  clear hr hms hm
  have hc := fun W => added_any A n c bs 2 big W
  have HC := Lib.hid hc
  clear hc
  obtain ⟨q, hq⟩ : ∃ q, q = addTo bs 2 big (n / 2) := ⟨_, rfl⟩
  rw [← hq] at a0 a1
  have HQ := Lib.hid hq
  clear hq
  have hq1 : q.tmod 65536 = q % 65536 := Int.tmod_eq_emod_of_nonneg a0
  go_enter Try.func11, Try.ntmps11
  go_wp2_with (first
    | (go_at_call 14; (refine (rword_any _ _).mono ?_); rintro e w1 ⟨rfl, rfl⟩; rw [H.out])
    | (go_at_call 19; (refine (HC.out _ HR.out hn hnc hcm (by simp) HMM.out).mono ?_); rintro e w2 ⟨rfl, x2⟩; rw [← HQ.out]))
  go_ret2
  refine ⟨?_, x2⟩
  rw [HV.out, ← HQ.out]
  simp <;> omega
theorem rof_5 (A : Option Addr) (n c : Nat) (bs : List Int) (big : Bool) (w : World) (hr : Rd w A n bs) (hn : n ≤ 1000) (hnc : n ≤ c) (hcm : c ≤ maxLen) (hm : n % 2 = 0) :
    Calls Try.prog 11 #[.int .u8 5, .slice A n c, .bool big] w fun e w' => e = .returned (.tuple #[.int .u32 (sumV ⟨2, 0, 27, 4294967295, 0⟩ big bs), .int .i64 0]) ∧ Ext w w' := by
  have H : Hid (wordK 5 = 2) := rfl
  have ht : ((n : Int).tmod 2) = 0 := by have := tmod_nat n 2; rw [hm] at this; exact this
  have HV := Lib.hid (sumV_add ⟨2, 0, 27, 4294967295, 0⟩ big hr.byts (by simp) rfl rfl (by simp) rfl)
  rw [hr.len] at HV
  have hms : n % 2 = 0 := hm
  obtain ⟨a0, a1⟩ := addTo_bd bs 2 big (n / 2)
  have HR := Lib.hid hr
  have HMM := Lib.hid hms
  clear hr hms hm
  have hc := fun W => added_any A n c bs 2 big W
  have HC := Lib.hid hc
  clear hc
  obtain ⟨q, hq⟩ : ∃ q, q = addTo bs 2 big (n / 2) := ⟨_, rfl⟩
  rw [← hq] at a0 a1
  have HQ := Lib.hid hq
  clear hq
  have hq1 : q.tmod 4294967296 = q % 4294967296 := Int.tmod_eq_emod_of_nonneg a0
  go_enter Try.func11, Try.ntmps11
  go_wp2_with (first
    | (go_at_call 14; (refine (rword_any _ _).mono ?_); rintro e w1 ⟨rfl, rfl⟩; rw [H.out])
    | (go_at_call 19; (refine (HC.out _ HR.out hn hnc hcm (by simp) HMM.out).mono ?_); rintro e w2 ⟨rfl, x2⟩; rw [← HQ.out]))
  go_ret2
  refine ⟨?_, x2⟩
  rw [HV.out, ← HQ.out]
  simp <;> omega
theorem rof_6 (A : Option Addr) (n c : Nat) (bs : List Int) (big : Bool) (w : World) (hr : Rd w A n bs) (hn : n ≤ 1000) (hnc : n ≤ c) (hcm : c ≤ maxLen) (hm : n % 4 = 0) :
    Calls Try.prog 11 #[.int .u8 6, .slice A n c, .bool big] w fun e w' => e = .returned (.tuple #[.int .u32 (sumV ⟨4, 0, 27, 4294967295, 0⟩ big bs), .int .i64 0]) ∧ Ext w w' := by
  have H : Hid (wordK 6 = 4) := rfl
  have ht : ((n : Int).tmod 4) = 0 := by have := tmod_nat n 4; rw [hm] at this; exact this
  have HV := Lib.hid (sumV_add ⟨4, 0, 27, 4294967295, 0⟩ big hr.byts (by simp) rfl rfl (by simp) rfl)
  rw [hr.len] at HV
  have hms : n % 4 = 0 := hm
  obtain ⟨a0, a1⟩ := addTo_bd bs 4 big (n / 4)
  have HR := Lib.hid hr
  have HMM := Lib.hid hms
  clear hr hms hm
  have hc := fun W => added_any A n c bs 4 big W
  have HC := Lib.hid hc
  clear hc
  obtain ⟨q, hq⟩ : ∃ q, q = addTo bs 4 big (n / 4) := ⟨_, rfl⟩
  rw [← hq] at a0 a1
  have HQ := Lib.hid hq
  clear hq
  have hq1 : q.tmod 4294967296 = q % 4294967296 := Int.tmod_eq_emod_of_nonneg a0
  go_enter Try.func11, Try.ntmps11
  go_wp2_with (first
    | (go_at_call 14; (refine (rword_any _ _).mono ?_); rintro e w1 ⟨rfl, rfl⟩; rw [H.out])
    | (go_at_call 19; (refine (HC.out _ HR.out hn hnc hcm (by simp) HMM.out).mono ?_); rintro e w2 ⟨rfl, x2⟩; rw [← HQ.out]))
  go_ret2
  refine ⟨?_, x2⟩
  rw [HV.out, ← HQ.out]
  simp <;> omega
theorem xor_max {q : Int} (q0 : 0 ≤ q) (q1 : q < 4294967296) : bits .xor .u32 IntKind.u32.max q = bits .xor .u32 q 4294967295 := by
  rw [show IntKind.u32.max = 4294967295 from rfl, u32_xor _ q (by omega) (by omega) q0 q1, u32_xor q _ q0 q1 (by omega) (by omega), Nat.xor_comm]
theorem rof_7 (A : Option Addr) (n c : Nat) (bs : List Int) (big : Bool) (w : World) (hr : Rd w A n bs) (hn : n ≤ 1000) :
    Calls Try.prog 11 #[.int .u8 7, .slice A n c, .bool big] w fun e w' => e = .returned (.tuple #[.int .u32 (sumV ⟨1, 0, 28, 40961, 0⟩ big bs), .int .i64 0]) ∧ Ext w w' := by
  have H : Hid (wordK 7 = 1) := rfl
  have ht : ((n : Int).tmod 1) = 0 := by have := tmod_nat n 1; rw [Nat.mod_one] at this; exact this
  have HV := Lib.hid (sumV_low ⟨1, 0, 28, 40961, 0⟩ big hr.byts (way_ok (kind := 7) rfl) rfl rfl)
  rw [hr.len] at HV
  have HR := Lib.hid hr
  have hbd := foldH_bd (b := 40961) (s := 0) (by omega) (by omega) HR.out.byts n
  clear hr
  obtain ⟨q, hq⟩ : ∃ q, q = foldTo (halfS 40961) 0 bs n := ⟨_, rfl⟩
  rw [← hq] at hbd
  obtain ⟨q0, q1⟩ := hbd
  have HQ := Lib.hid hq
  clear hq
  go_enter Try.func11, Try.ntmps11
  go_wp2_with (first
    | (go_at_call 14; (refine (rword_any _ _).mono ?_); rintro e w1 ⟨rfl, rfl⟩; rw [H.out])
    | (go_at_call 17; (refine (low_any _ _ _ _ _ _ _ HR.out hn (by omega) (by omega)).mono ?_); rintro e w2 ⟨rfl, rfl⟩; rw [← HQ.out]))
  go_ret2
  refine ⟨?_, Ext.refl _⟩
  rw [HV.out, ← HQ.out]
  rw [xor_zero q0 q1]; rfl
theorem rof_9 (A : Option Addr) (n c : Nat) (bs : List Int) (big : Bool) (w : World) (hr : Rd w A n bs) (hn : n ≤ 1000) :
    Calls Try.prog 11 #[.int .u8 9, .slice A n c, .bool big] w fun e w' => e = .returned (.tuple #[.int .u32 (sumV ⟨1, 4294967295, 28, 3988292384, 4294967295⟩ big bs), .int .i64 0]) ∧ Ext w w' := by
  have H : Hid (wordK 9 = 1) := rfl
  have ht : ((n : Int).tmod 1) = 0 := by have := tmod_nat n 1; rw [Nat.mod_one] at this; exact this
  have HV := Lib.hid (sumV_low ⟨1, 4294967295, 28, 3988292384, 4294967295⟩ big hr.byts (way_ok (kind := 9) rfl) rfl rfl)
  rw [hr.len] at HV
  have HR := Lib.hid hr
  have hbd := foldH_bd (b := 3988292384) (s := 4294967295) (by omega) (by omega) HR.out.byts n
  clear hr
  obtain ⟨q, hq⟩ : ∃ q, q = foldTo (halfS 3988292384) 4294967295 bs n := ⟨_, rfl⟩
  rw [← hq] at hbd
  obtain ⟨q0, q1⟩ := hbd
  have HQ := Lib.hid hq
  clear hq
  go_enter Try.func11, Try.ntmps11
  go_wp2_with (first
    | (go_at_call 14; (refine (rword_any _ _).mono ?_); rintro e w1 ⟨rfl, rfl⟩; rw [H.out])
    | (go_at_call 17; (refine (low_any _ _ _ _ _ _ _ HR.out hn (by omega) (by omega)).mono ?_); rintro e w2 ⟨rfl, rfl⟩; rw [← HQ.out]))
  go_ret2
  refine ⟨?_, Ext.refl _⟩
  rw [HV.out, ← HQ.out]
  rw [← xor_max q0 q1]; rfl
theorem rof_8 (A : Option Addr) (n c : Nat) (bs : List Int) (big : Bool) (w : World) (hr : Rd w A n bs) (hn : n ≤ 1000) :
    Calls Try.prog 11 #[.int .u8 8, .slice A n c, .bool big] w fun e w' => e = .returned (.tuple #[.int .u32 (sumV ⟨1, 65535, 29, 4129, 0⟩ big bs), .int .i64 0]) ∧ Ext w w' := by
  have H : Hid (wordK 8 = 1) := rfl
  have ht : ((n : Int).tmod 1) = 0 := by have := tmod_nat n 1; rw [Nat.mod_one] at this; exact this
  have HV := Lib.hid (sumV_high ⟨1, 65535, 29, 4129, 0⟩ big hr.byts (way_ok (kind := 8) rfl) rfl rfl)
  rw [hr.len] at HV
  have HR := Lib.hid hr
  have hbd := foldD_bd (b := 4129) (s := 65535) (by omega) (by omega) HR.out.byts n
  clear hr
  obtain ⟨q, hq⟩ : ∃ q, q = foldTo (dblS 4129) 65535 bs n := ⟨_, rfl⟩
  rw [← hq] at hbd
  obtain ⟨q0, q1⟩ := hbd
  have HQ := Lib.hid hq
  clear hq
  go_enter Try.func11, Try.ntmps11
  go_wp2_with (first
    | (go_at_call 14; (refine (rword_any _ _).mono ?_); rintro e w1 ⟨rfl, rfl⟩; rw [H.out])
    | (go_at_call 18; (refine (high_any _ _ _ _ _ HR.out hn).mono ?_); rintro e w2 ⟨rfl, rfl⟩; rw [← HQ.out]))
  go_ret2
  refine ⟨?_, Ext.refl _⟩
  rw [HV.out, ← HQ.out]
  rw [xor_zero q0 (by omega)]; rfl
theorem rof_any (kind : Int) (A : Option Addr) (n c : Nat) (bs : List Int) (big : Bool) (w : World) (hr : Rd w A n bs) (hn : n ≤ 1000) (hnc : n ≤ c) (hcm : c ≤ maxLen) (y : Way) (hy : wayK kind = some y) (hm : n % y.word = 0) :
    Calls Try.prog 11 #[.int .u8 kind, .slice A n c, .bool big] w fun e w' => e = .returned (.tuple #[.int .u32 (sumV y big bs), .int .i64 0]) ∧ Ext w w' := by
  rcases way_cases hy with ⟨rfl, rfl⟩ | ⟨rfl, rfl⟩ | ⟨rfl, rfl⟩ | ⟨rfl, rfl⟩ | ⟨rfl, rfl⟩ | ⟨rfl, rfl⟩ | ⟨rfl, rfl⟩ | ⟨rfl, rfl⟩ | ⟨rfl, rfl⟩
  · exact rof_1 A n c bs big w hr hn hnc hcm hm
  · exact rof_2 A n c bs big w hr hn hnc hcm hm
  · exact rof_3 A n c bs big w hr hn hnc hcm hm
  · exact rof_4 A n c bs big w hr hn hnc hcm hm
  · exact rof_5 A n c bs big w hr hn hnc hcm hm
  · exact rof_6 A n c bs big w hr hn hnc hcm hm
  · exact rof_7 A n c bs big w hr hn
  · exact rof_9 A n c bs big w hr hn
  · exact rof_8 A n c bs big w hr hn
end Go.Proofs.Ytjfdcgpnjjhhoaa
