import Derived.Test.YtkagdklnfljkjaaB
namespace Go.Proofs.Ytkagdklnfljkjaa
open Go.RowKit

def refTo (bs : List Int) (n : Nat) (big : Bool) : Nat → Int
  | 0 => 0
  | k + 1 => refTo bs n big k * 256 + bs.getD (if big then k else n - 1 - k) 0
theorem refTo_bd {bs : List Int} (hb : Byts bs) (n : Nat) (big : Bool) : ∀ k, 0 ≤ refTo bs n big k ∧ refTo bs n big k < 2 ^ (8 * k)
  | 0 => by simp [refTo]
  | k + 1 => by
    obtain ⟨h1, h2⟩ := refTo_bd hb n big k
    obtain ⟨b1, b2⟩ := hb.getD (if big then k else n - 1 - k)
    rw [refTo, pow8]
    omega
theorem refTo_eq (bs : List Int) (n : Nat) (big : Bool) (hn : isW n = true) : refTo bs n big n = takeTo bs n big n := by
  rw [isW_iff] at hn
  have : n = 1 ∨ n = 2 ∨ n = 4 ∨ n = 8 := by omega
  rcases this with rfl | rfl | rfl | rfl <;> cases big <;> simp [refTo, takeTo, shf] <;> omega
theorem refTo_step {bs : List Int} (hb : Byts bs) (n : Nat) (big : Bool) (k : Nat) (hk : k < n) (hn : n ≤ 8) :
    IntKind.u64.wrap (IntKind.u64.wrap (refTo bs n big k * 256) + bs.getD (if big then k else n - 1 - k) 0) = refTo bs n big (k + 1) := by
  obtain ⟨h1, h2⟩ := refTo_bd hb n big (k + 1)
  have h3 := pow64 (8 * (k + 1)) (by omega)
  rw [IntKind.wrap_u64, IntKind.wrap_u64]
  rw [refTo] at h1 h2 ⊢
  omega
theorem rtake_any (A : Option Addr) (n c : Nat) (bs : List Int) (wd : Nat) (big : Bool) (w : World) (hr : Rd w A n bs) (hn : n ≤ 1000) (hnc : n ≤ c) (hw : isW wd = true) (hle : (wd : Int) ≤ n) :
    Calls Try.prog 13 #[.slice A n c, .int .i64 wd, .bool big] w fun e w' => ∃ A' c', e = .returned (.tuple #[.int .u64 (takeTo bs wd big wd), .slice A' (n - wd) c', .int .i64 0]) ∧ n - wd ≤ c' ∧ c' ≤ maxLen ∧ Ext w w' ∧ Rd w' A' (n - wd) (bs.drop wd) := by
  have hw1 : (1 : Int) ≤ wd ∧ (wd : Int) ≤ 8 := by rw [isW_iff] at hw; omega
  obtain ⟨hw2, hw3⟩ := hw1
  have hlt' : ¬ ((n : Int) < wd) := by omega
  go_enter Try.func13, Try.ntmps13
  go_wp2_with (first
    | (go_at_call 22; refine (width_any _ _).mono ?_; rintro e w' ⟨rfl, rfl⟩))
  go_loop [9, 10] (fun v i => ∃ k : Nat, k ≤ wd ∧ i = .int .i64 k ∧ v = .int .u64 (refTo bs wd big k)) (fun _ i => wd - (intOf i).toNat)
  case atStart => exact ⟨0, by omega, rfl, rfl⟩
  case round =>
    obtain ⟨k, hk, rfl, rfl⟩ := hrel
    by_cases hlt : (k : Int) < wd
    · have hk0 : 0 ≤ (k : Int) := by omega
      obtain ⟨K, hK, hK2⟩ : ∃ K : Nat, K = (if big then k else wd - 1 - k) ∧ (K : Int) < n := ⟨_, rfl, by split <;> omega⟩
      obtain ⟨bb, off, rfl, hb, hcell⟩ := hr.cell (k := K) (by omega)
      obtain ⟨hb1, hb2⟩ := hr.byts.getD K
      have hst := Lib.hid (refTo_step hr.byts wd big k (by omega) (by omega))
      rw [← hK] at hst
      obtain ⟨x, hx⟩ : ∃ x, x = bs.getD K 0 := ⟨_, rfl⟩
      rw [← hx] at hcell hb1 hb2 hst
      obtain ⟨T, hT⟩ : ∃ T, T = refTo bs wd big k := ⟨_, rfl⟩
      rw [← hT] at hst ⊢
      have t1 := refTo_bd hr.byts wd big k
      clear hx hT
      have HK := Lib.hid hK
      cases big
      · have e : ((wd:Int) - 1 - k) = K := by simp at hK; omega
        clear hK
        go_wp2
        go_round
        case rel => exact ⟨k + 1, by omega, by go_num, by rw [← hst.out]⟩
        case measure => simp [intOf]; omega
      · obtain rfl : K = k := by simpa using hK
        clear hK
        go_wp2
        go_round
        case rel => exact ⟨K + 1, by omega, by go_num, by rw [← hst.out]⟩
        case measure => simp [intOf]; omega
    · obtain rfl : k = wd := by omega
      rw [refTo_eq _ _ _ hw]
      have hd := hr.drop (k := k) (cap := c) (by omega) hnc
      by_cases hcap : c = k
      · rw [if_pos hcap] at hd
        go_wp2_with (at_builtin; refine wpList_app el22 rfl _ _ rfl (World.ownsRow_lit _ #[] 0 (Nat.le_refl _) (by simp) rfl) rfl ((hd.ext ((Ext.refl _).alloc _)).shows) rfl (u8s_one _) (by simp only [maxLen]; omega) (by omega) rfl ((Ext.refl _).alloc _) ?_; intro v1 w1 hown1 hext1 hg1 hat1)
        go_ret3
        simp only [Nat.zero_add] at hown1
        obtain ⟨A', c', rfl, h1, h2, h3⟩ := own_rd (bs := bs.drop k) hown1 hd.byts
        exact ⟨A', c', rfl, by omega, h2, hext1, h3⟩
      · rw [if_neg hcap] at hd
        go_wp2_with (at_builtin; refine wpList_app el22 rfl _ _ rfl (World.ownsRow_lit _ #[] 0 (Nat.le_refl _) (by simp) rfl) rfl ((hd.ext ((Ext.refl _).alloc _)).shows) rfl (u8s_one _) (by simp only [maxLen]; omega) (by omega) rfl ((Ext.refl _).alloc _) ?_; intro v1 w1 hown1 hext1 hg1 hat1)
        go_ret3
        simp only [Nat.zero_add] at hown1
        obtain ⟨A', c', rfl, h1, h2, h3⟩ := own_rd (bs := bs.drop k) hown1 hd.byts
        exact ⟨A', c', rfl, by omega, h2, hext1, h3⟩

theorem put_no (A : Option Addr) (n c : Nat) (v wd : Int) (big : Bool) (w : World) (hw : isW wd = false) :
    Calls Try.prog 9 #[.slice A n c, .int .u64 v, .int .i64 wd, .bool big] w fun e w' => e = .returned (.tuple #[.slice none 0 0, .int .i64 1]) ∧ w = w' := by
  go_enter Try.func9, Try.ntmps9
  go_wp2_with (go_at_call 20; refine (isWidth_any _ _).mono ?_; rintro e w' ⟨rfl, rfl⟩)
  go_ret2
  exact ⟨rfl, rfl⟩
theorem rput_no (A : Option Addr) (n c : Nat) (v wd : Int) (big : Bool) (w : World) (hw : isW wd = false) :
    Calls Try.prog 11 #[.slice A n c, .int .u64 v, .int .i64 wd, .bool big] w fun e w' => e = .returned (.tuple #[.slice none 0 0, .int .i64 1]) ∧ w = w' := by
  go_enter Try.func11, Try.ntmps11
  go_wp2_with (go_at_call 22; refine (width_any _ _).mono ?_; rintro e w' ⟨rfl, rfl⟩)
  go_ret2
  exact ⟨rfl, rfl⟩
theorem take_no1 (A : Option Addr) (n c : Nat) (wd : Int) (big : Bool) (w : World) (hw : isW wd = false) :
    Calls Try.prog 12 #[.slice A n c, .int .i64 wd, .bool big] w fun e w' => e = .returned (.tuple #[.int .u64 0, .slice none 0 0, .int .i64 1]) ∧ w = w' := by
  go_enter Try.func12, Try.ntmps12
  go_wp2_with (go_at_call 20; refine (isWidth_any _ _).mono ?_; rintro e w' ⟨rfl, rfl⟩)
  go_ret3
  exact ⟨rfl, rfl⟩
theorem take_no5 (A : Option Addr) (n c : Nat) (wd : Int) (big : Bool) (w : World) (hw : isW wd = true) (hlt : (n : Int) < wd) :
    Calls Try.prog 12 #[.slice A n c, .int .i64 wd, .bool big] w fun e w' => e = .returned (.tuple #[.int .u64 0, .slice none 0 0, .int .i64 5]) ∧ w = w' := by
  go_enter Try.func12, Try.ntmps12
  go_wp2_with (go_at_call 20; refine (isWidth_any _ _).mono ?_; rintro e w' ⟨rfl, rfl⟩)
  go_ret3
  exact ⟨rfl, rfl⟩
theorem rtake_no1 (A : Option Addr) (n c : Nat) (wd : Int) (big : Bool) (w : World) (hw : isW wd = false) :
    Calls Try.prog 13 #[.slice A n c, .int .i64 wd, .bool big] w fun e w' => e = .returned (.tuple #[.int .u64 0, .slice none 0 0, .int .i64 1]) ∧ w = w' := by
  go_enter Try.func13, Try.ntmps13
  go_wp2_with (go_at_call 22; refine (width_any _ _).mono ?_; rintro e w' ⟨rfl, rfl⟩)
  go_ret3
  exact ⟨rfl, rfl⟩
theorem rtake_no5 (A : Option Addr) (n c : Nat) (wd : Int) (big : Bool) (w : World) (hw : isW wd = true) (hlt : (n : Int) < wd) :
    Calls Try.prog 13 #[.slice A n c, .int .i64 wd, .bool big] w fun e w' => e = .returned (.tuple #[.int .u64 0, .slice none 0 0, .int .i64 5]) ∧ w = w' := by
  go_enter Try.func13, Try.ntmps13
  go_wp2_with (go_at_call 22; refine (width_any _ _).mono ?_; rintro e w' ⟨rfl, rfl⟩)
  go_ret3
  exact ⟨rfl, rfl⟩
def sgn (v n : Int) : Int := if n = 1 then (v + 128) % 256 - 128 else if n = 2 then (v + 32768) % 65536 - 32768 else if n = 4 then (v + 2147483648) % 4294967296 - 2147483648 else (v + 9223372036854775808) % 18446744073709551616 - 9223372036854775808
theorem signed_any (v n : Int) (w : World) (hn : isW n = true) (h0 : 0 ≤ v) (h1 : v < 18446744073709551616) : Calls Try.prog 15 #[.int .u64 v, .int .i64 n] w fun e w' => e = .returned (.tuple #[.int .i64 (sgn v n), .bool true]) ∧ w = w' := by
  have H1 := Lib.hid h1; clear h1
  rw [isW_iff] at hn
  rcases hn with rfl | rfl | rfl | rfl
  all_goals
    go_enter Try.func15, Try.ntmps15
    go_wp2
    go_ret2
    have h1 := H1.out
    simp [sgn, IntKind.wrap_u64]
    simp only [wrap64]
    omega
theorem rsigned_any (v n : Int) (w : World) (hn : isW n = true) (h0 : 0 ≤ v) (h1 : v < 18446744073709551616) : Calls Try.prog 16 #[.int .u64 v, .int .i64 n] w fun e w' => e = .returned (.tuple #[.int .i64 (sgn v n), .bool true]) ∧ w = w' := by
  have H1 := Lib.hid h1; clear h1
  rw [isW_iff] at hn
  rcases hn with rfl | rfl | rfl | rfl
  all_goals
    go_enter Try.func16, Try.ntmps16
    go_wp2
    go_ret2
    have h1 := H1.out
    simp [sgn, IntKind.wrap]
    try simp only [wrap64, wrap32]
    try simp [IntKind.signed, IntKind.bits]
    try split
    all_goals omega
theorem signed_no (v n : Int) (w : World) (hn : isW n = false) : Calls Try.prog 15 #[.int .u64 v, .int .i64 n] w fun e w' => e = .returned (.tuple #[.int .i64 0, .bool false]) ∧ w = w' := by
  go_enter Try.func15, Try.ntmps15
  go_wp2_with (go_at_call 20; refine (isWidth_any _ _).mono ?_; rintro e w' ⟨rfl, rfl⟩)
  go_ret2
  exact ⟨rfl, rfl⟩
theorem rsigned_no (v n : Int) (w : World) (hn : isW n = false) : Calls Try.prog 16 #[.int .u64 v, .int .i64 n] w fun e w' => e = .returned (.tuple #[.int .i64 0, .bool false]) ∧ w = w' := by
  simp only [isW, Bool.or_eq_false_iff] at hn
  obtain ⟨⟨⟨a, b⟩, c⟩, d⟩ := hn
  go_enter Try.func16, Try.ntmps16
  go_wp2
  go_ret2
  exact ⟨rfl, rfl⟩
def half (n : Int) : Int := if n = 1 then 128 else if n = 2 then 32768 else if n = 4 then 2147483648 else 9223372036854775808
def fitsB (v n : Int) (s : Bool) : Bool := isW n && (if s then decide (-half n ≤ v ∧ v < half n) else decide (0 ≤ v ∧ v < 2 * half n))
theorem fits_no (v n : Int) (s : Bool) (w : World) (hn : isW n = false) : Calls Try.prog 17 #[.int .i64 v, .int .i64 n, .bool s] w fun e w' => e = .returned (.bool false) ∧ w = w' := by
  go_enter Try.func17, Try.ntmps17
  go_wp2_with (go_at_call 20; refine (isWidth_any _ _).mono ?_; rintro e w' ⟨rfl, rfl⟩)
  go_ret
  exact ⟨rfl, rfl⟩
theorem rfits_no (v n : Int) (s : Bool) (w : World) (hn : isW n = false) : Calls Try.prog 18 #[.int .i64 v, .int .i64 n, .bool s] w fun e w' => e = .returned (.bool false) ∧ w = w' := by
  go_enter Try.func18, Try.ntmps18
  go_wp2_with (go_at_call 22; refine (width_any _ _).mono ?_; rintro e w' ⟨rfl, rfl⟩)
  go_ret
  exact ⟨rfl, rfl⟩
theorem fits_s (v n : Int) (w : World) (hn : isW n = true) (h0 : -9223372036854775808 ≤ v) (h1 : v < 9223372036854775808) : Calls Try.prog 17 #[.int .i64 v, .int .i64 n, .bool true] w fun e w' => e = .returned (.bool (fitsB v n true)) ∧ w = w' := by
  have H0 := Lib.hid h0; clear h0
  have H1 := Lib.hid h1; clear h1
  go_enter Try.func17, Try.ntmps17
  go_wp2_with (first
    | (go_at_call 20; refine (isWidth_any _ _).mono ?_; rintro e w' ⟨rfl, rfl⟩)
    | (go_at_call 15; refine (signed_any _ _ _ hn (by rw [IntKind.wrap_u64]; omega) (by rw [IntKind.wrap_u64]; omega)).mono ?_; rintro e w' ⟨rfl, rfl⟩))
  go_ret
  have h0 := H0.out
  have h1 := H1.out
  rw [isW_iff] at hn
  rcases hn with rfl | rfl | rfl | rfl
  all_goals
    simp [fitsB, half, isW, sgn, IntKind.wrap_u64]
    rw [Bool.eq_iff_iff]
    simp
    omega
theorem fits_u (v n : Int) (w : World) (hn : isW n = true) (h0 : -9223372036854775808 ≤ v) (h1 : v < 9223372036854775808) : Calls Try.prog 17 #[.int .i64 v, .int .i64 n, .bool false] w fun e w' => e = .returned (.bool (fitsB v n false)) ∧ w = w' := by
  have H0 := Lib.hid h0; clear h0
  have H1 := Lib.hid h1; clear h1
  rw [isW_iff] at hn
  rcases hn with rfl | rfl | rfl | rfl
  all_goals
    go_enter Try.func17, Try.ntmps17
    go_wp2
    all_goals go_ret
    all_goals have h0 := H0.out
    all_goals have h1 := H1.out
    all_goals simp [fitsB, half, isW]
    all_goals try omega
def rsSlots (b n : Nat) : Int := 256 ^ n
theorem rfits_any (v n : Int) (s : Bool) (w : World) (hn : isW n = true) (h0 : -9223372036854775808 ≤ v) (h1 : v < 9223372036854775808) : Calls Try.prog 18 #[.int .i64 v, .int .i64 n, .bool s] w fun e w' => e = .returned (.bool (fitsB v n s)) ∧ w = w' := by
  have H0 := Lib.hid h0; clear h0
  have H1 := Lib.hid h1; clear h1
  by_cases h8 : n = 8
  · subst h8
    cases s
    all_goals
      go_enter Try.func18, Try.ntmps18
      go_wp2
      all_goals go_ret
      all_goals have h0 := H0.out
      all_goals have h1 := H1.out
      all_goals simp [fitsB, half, isW]
      all_goals try omega
  · have hn' : n = 1 ∨ n = 2 ∨ n = 4 := by rw [isW_iff] at hn; omega
    have e8 : (n == 8) = false := by simp; exact h8
    have hb : 1 ≤ n ∧ n ≤ 4 := by omega
    obtain ⟨hb1, hb2⟩ := hb
    go_enter Try.func18, Try.ntmps18
    go_wp2_with (go_at_call 22; refine (width_any _ _).mono ?_; rintro e w' ⟨rfl, rfl⟩)
    go_loop [7, 8] (fun a i => ∃ k : Nat, (k : Int) ≤ n ∧ i = .int .i64 k ∧ a = .int .i64 (256 ^ k)) (fun _ i => n.toNat - (intOf i).toNat)
    case atStart => exact ⟨0, by omega, rfl, rfl⟩
    case round =>
      obtain ⟨k, hk, rfl, rfl⟩ := hrel
      by_cases hlt : (k : Int) < n
      · have hk3 : k = 0 ∨ k = 1 ∨ k = 2 ∨ k = 3 := by omega
        go_wp2
        go_round
        case rel => exact ⟨k + 1, by omega, by go_num, by rcases hk3 with rfl | rfl | rfl | rfl <;> simp [wrap64]⟩
        case measure => simp [intOf]; omega
      · obtain ⟨A, hA⟩ : ∃ A : Int, A = 256 ^ k := ⟨_, rfl⟩
        rw [← hA]
        have hA2 : A = 2 * half n ∧ 256 ≤ A ∧ A ≤ 4294967296 := by
          rcases hn' with rfl | rfl | rfl
          · obtain rfl : k = 1 := by omega
            rw [hA]; decide
          · obtain rfl : k = 2 := by omega
            rw [hA]; decide
          · obtain rfl : k = 4 := by omega
            rw [hA]; decide
        obtain ⟨a1, a2, a3⟩ := hA2
        clear hA
        have HA := Lib.hid a1; clear a1
        cases s
        all_goals
          go_wp2
          all_goals go_ret
          all_goals have h0 := H0.out
          all_goals have h1 := H1.out
          all_goals have ha := HA.out
          all_goals simp [fitsB, hn]
          all_goals have e3 : A.tdiv 2 = A / 2 := Int.tdiv_eq_ediv_of_nonneg (by omega)
          all_goals (try simp only [wrap64] at *)
          all_goals (try rw [e3] at *)
          all_goals first | omega | (rw [Bool.eq_iff_iff]; simp; omega)
theorem fits_any (v n : Int) (s : Bool) (w : World) (hn : isW n = true) (h0 : -9223372036854775808 ≤ v) (h1 : v < 9223372036854775808) : Calls Try.prog 17 #[.int .i64 v, .int .i64 n, .bool s] w fun e w' => e = .returned (.bool (fitsB v n s)) ∧ w = w' := by
  cases s
  · exact fits_u v n w hn h0 h1
  · exact fits_s v n w hn h0 h1
theorem mask_any (n : Int) (w : World) (hn : isW n = true) : Calls Try.prog 19 #[.int .i64 n] w fun e w' => e = .returned (.int .u64 (2 * half n - 1)) ∧ w = w' := by
  rw [isW_iff] at hn
  rcases hn with rfl | rfl | rfl | rfl
  all_goals
    go_enter Try.func19, Try.ntmps19
    go_wp2
    go_ret
    simp [half]
theorem shown_str : ((strOfNums (putB 258 2 true)).toList == [1, 2]) = true := by rw [ByteArray.toList_eq]; decide
theorem shown_any (w : World) : Calls Try.prog 14 #[] w fun e w' => e = .returned (.bool true) ∧ Ext w w' := by
  go_enter Try.func14, Try.ntmps14
  go_wp2_with (first
    | (go_at_call 9; refine (put_any none 0 0 [] 258 2 true _ Rd.nil (by omega) rfl (by omega) (by omega)).mono ?_; rintro e w1 ⟨A, c, rfl, h1, h2, h3, h4⟩; have e1 := fun c => run_str (c := c) Try.underlying22 Try.underlying5 Try.underlying9 h4; have e2 : ((strOfNums (putB 258 2 true)).toList == [1, 2]) = true := shown_str)
    | (go_at_call 15; refine (signed_any 255 1 _ rfl (by omega) (by omega)).mono ?_; rintro e w' ⟨rfl, rfl⟩))
  go_ret
  exact ⟨rfl, h3⟩
end Go.Proofs.Ytkagdklnfljkjaa
