import Derived.Test.YtkagdklnfljkjaaA
namespace Go.Proofs.Ytkagdklnfljkjaa
open Go.RowKit

theorem shf_ref (p n : Nat) (b : Bool) (h2 : p < n) : (2:Int) ^ (shf p n b).toNat = 256 ^ (if b then n - 1 - p else p) := by
  have : (shf p n b).toNat = 8 * (if b then n - 1 - p else p) := by
    unfold shf; cases b <;> simp <;> omega
  rw [this, Int.pow_mul]
  rfl
theorem div256 (v : Int) (j : Nat) : v / 256 ^ j / 256 = v / 256 ^ (j + 1) := by
  rw [Int.pow_succ, Int.ediv_ediv_of_nonneg (by exact Int.pow_nonneg (by omega))]
def kOf (p n : Int) (b : Bool) : Int := if b then n - 1 - p else p
def xOf (v : Int) (j : Nat) : Int := v / 256 ^ j
theorem xOf_bd (v : Int) (j : Nat) (h : 0 ≤ v) : 0 ≤ xOf v j := by unfold xOf; exact Int.ediv_nonneg h (Int.pow_nonneg (by omega))

theorem xOf_step (v : Int) (j : Nat) (h : 0 ≤ v) (h1 : v < 2 ^ 64) : IntKind.u64.wrap ((xOf v j).tdiv 256) = xOf v (j + 1) := by
  have h0 := xOf_bd v j h
  have h2 : xOf v j ≤ v := by unfold xOf; exact Int.ediv_le_self _ h
  rw [Int.tdiv_eq_ediv_of_nonneg h0, show xOf v j / 256 = xOf v (j + 1) from div256 v j]
  have h3 := xOf_bd v (j + 1) h
  have h4 : xOf v (j + 1) ≤ v := by unfold xOf; exact Int.ediv_le_self _ h
  simp only [IntKind.wrap, IntKind.signed, IntKind.bits]
  simp
  omega
theorem xOf_last (v : Int) (k wd : Nat) (big : Bool) (hk : k < wd) : xOf v (if big then wd - 1 - k else k) % 256 = v / 2 ^ (shf k wd big).toNat % 256 := by
  rw [shf_ref _ _ _ hk]; rfl

theorem rput_any (A : Option Addr) (n c : Nat) (bs : List Int) (v : Int) (wd : Nat) (big : Bool) (w : World) (hr : Rd w A n bs) (hn : n ≤ 1000) (hw : isW wd = true) (h0 : 0 ≤ v) (h1 : v < 2 ^ 64) :
    Calls Try.prog 11 #[.slice A n c, .int .u64 v, .int .i64 wd, .bool big] w fun e w' => ∃ A' c', e = .returned (.tuple #[.slice A' (n + wd) c', .int .i64 0]) ∧ n + wd ≤ c' ∧ c' ≤ maxLen ∧ Ext w w' ∧ Rd w' A' (n + wd) (bs ++ putB v wd big) := by
  have hw1 : (1 : Int) ≤ wd ∧ (wd : Int) ≤ 8 := by rw [isW_iff] at hw; omega
  obtain ⟨hw2, hw3⟩ := hw1
  have HV := Lib.hid h1; clear h1
  go_enter Try.func11, Try.ntmps11
  go_wp2_with (first
    | (go_at_call 22; refine (width_any _ _).mono ?_; rintro e w' ⟨rfl, rfl⟩)
    | (at_builtin; refine wpList_app el22 rfl _ _ rfl (World.ownsRow_lit _ #[] 0 (Nat.le_refl _) (by simp) rfl) rfl ((hr.ext ((Ext.refl _).alloc _)).shows) rfl (u8s_one _) (by simp only [maxLen]; omega) (by omega) rfl ((Ext.refl _).alloc _) ?_; intro v1 w1 hown1 hext1 hg1 hat1))
  clear hg1 hat1
  go_loopw [10, 11] (fun o i wr => ∃ k : Nat, k ≤ wd ∧ i = .int .i64 k ∧ wr.ownsRow w.heap.size 5 1 o (n + k) (u8s (bs ++ (putB v wd big).take k)) ∧ Ext w wr) (fun _ i _ => wd - (intOf i).toNat)
  case atStart => exact ⟨0, by omega, rfl, by simpa using hown1, hext1⟩
  case round =>
    obtain ⟨k, hk, rfl, hown3, hext3⟩ := hrel
    clear hown1 hext1
    by_cases hlt : (k : Int) < wd
    · have hk0 : 0 ≤ (k : Int) := by omega
      have hsn := Lib.hid (putB_snoc v wd k big (by omega))
      have hsr := Lib.hid (shf_ref k wd big (by omega))
      obtain ⟨K, hK, hK2⟩ : ∃ K : Nat, K = (if big then wd - 1 - k else k) ∧ (K : Int) ≤ 8 := ⟨_, rfl, by split <;> omega⟩
      have HK := Lib.hid hK
      cases big
      · obtain rfl : K = k := by simpa using hK
        clear hK
        go_wp2_with fail
        go_loop [13, 14] (fun x i => ∃ j : Nat, j ≤ K ∧ i = .int .i64 j ∧ x = .int .u64 (xOf v j)) (fun _ i => K - (intOf i).toNat)
        case atStart => exact ⟨0, by omega, rfl, by simp [xOf]⟩
        case round =>
          obtain ⟨j, hj, rfl, rfl⟩ := hrel
          have hx0 := xOf_bd v j h0
          by_cases hlt2 : (j : Int) < K
          · go_wp2
            go_round
            case rel => exact ⟨j + 1, by omega, by go_num, by rw [xOf_step _ _ h0 HV.out]⟩
            case measure => simp [intOf]; omega
          · obtain rfl : j = K := by omega
            go_wp2_with (at_builtin; refine wpList_app el22 rfl _ _ rfl (hown3.alloc _) rfl (Shows.new1 _ _ _) rfl (by intro u hu; simp at hu; subst hu; rfl) (by simp only [maxLen]; omega) (by omega) rfl (hext3.alloc _) ?_; intro v4 w4 hown4 hext4 hg4 hat4)
            go_roundw
            case rel => exact ⟨j + 1, by omega, by go_num, by rw [hsn.out, ← List.append_assoc, u8s_append, ← xOf_last v j wd false (by omega)]; exact hown4, hext4⟩
            case measure => simp [intOf]; omega
      · have e : ((wd:Int) - 1 - k) = K := by have := HK.out; simp at this; omega
        clear hK
        go_wp2_with fail
        go_loop [13, 14] (fun x i => ∃ j : Nat, j ≤ K ∧ i = .int .i64 j ∧ x = .int .u64 (xOf v j)) (fun _ i => K - (intOf i).toNat)
        case atStart => exact ⟨0, by omega, rfl, by simp [xOf]⟩
        case round =>
          obtain ⟨j, hj, rfl, rfl⟩ := hrel
          have hx0 := xOf_bd v j h0
          by_cases hlt2 : (j : Int) < K
          · go_wp2
            go_round
            case rel => exact ⟨j + 1, by omega, by go_num, by rw [xOf_step _ _ h0 HV.out]⟩
            case measure => simp [intOf]; omega
          · obtain rfl : j = K := by omega
            go_wp2_with (at_builtin; refine wpList_app el22 rfl _ _ rfl (hown3.alloc _) rfl (Shows.new1 _ _ _) rfl (by intro u hu; simp at hu; subst hu; rfl) (by simp only [maxLen]; omega) (by omega) rfl (hext3.alloc _) ?_; intro v4 w4 hown4 hext4 hg4 hat4)
            go_roundw
            case rel => exact ⟨k + 1, by omega, by go_num, by rw [hsn.out, ← List.append_assoc, u8s_append, ← xOf_last v k wd true (by omega), if_pos rfl, show wd - 1 - k = j by omega]; exact hown4, hext4⟩
            case measure => simp [intOf]; omega
    · go_wp2
      go_ret2
      obtain rfl : k = wd := by omega
      obtain ⟨A', c', rfl, h1, h2, h3⟩ := own_rd hown3 (hr.byts.append (by rw [List.take_of_length_le (by rw [putB_len]; omega)]; exact putB_byts _ _ _))
      rw [List.take_of_length_le (by rw [putB_len]; omega)] at h3
      exact ⟨A', c', rfl, h1, h2, hext3, h3⟩

def takeTo (bs : List Int) (n : Nat) (big : Bool) : Nat → Int
  | 0 => 0
  | k + 1 => takeTo bs n big k + bs.getD k 0 * 2 ^ (shf k n big).toNat
theorem or_add {a b : Int} (i : Nat) (ha : 0 ≤ a) (ha' : a < 2 ^ 64) (hb : 0 ≤ b) (hb' : b < 2 ^ 64)
    (h : ((∃ m, a = m * 2 ^ i) ∧ b < 2 ^ i) ∨ ((∃ m, b = m * 2 ^ i) ∧ a < 2 ^ i)) : bits .or .u64 a b = a + b := by
  rw [u64_or a b ha (by simpa using ha') hb (by simpa using hb')]
  obtain ⟨x, rfl⟩ := Int.eq_ofNat_of_zero_le ha
  obtain ⟨y, rfl⟩ := Int.eq_ofNat_of_zero_le hb
  simp only [Int.toNat_natCast]
  have key : ∀ (x y : Nat), (∃ m, (x : Int) = m * 2 ^ i) → (y : Int) < 2 ^ i → x ||| y = x + y := by
    intro x y ⟨m, hm⟩ hy
    apply nat_join i
    · have : ((x % 2 ^ i : Nat) : Int) = 0 := by
        rw [Int.natCast_emod, hm]
        simp
      omega
    · have : ((2 ^ i : Nat) : Int) = 2 ^ i := by simp
      omega
  rcases h with ⟨h1, h2⟩ | ⟨h1, h2⟩
  · rw [key x y h1 h2]; simp
  · rw [Nat.or_comm, key y x h1 h2]; simp; omega
theorem pow8 (k : Nat) : (2:Int) ^ (8 * (k + 1)) = 2 ^ (8 * k) * 256 := by
  rw [Nat.mul_add, Int.pow_add]; rfl
theorem shf_t (p n : Nat) (h2 : p < n) : (shf p n true).toNat = 8 * (n - 1 - p) := by unfold shf; simp; omega
theorem shf_f (p n : Nat) : (shf p n false).toNat = 8 * p := by unfold shf; simp; omega
theorem takeTo_f {bs : List Int} (hb : Byts bs) (n : Nat) : ∀ k, 0 ≤ takeTo bs n false k ∧ takeTo bs n false k < 2 ^ (8 * k)
  | 0 => by simp [takeTo]
  | k + 1 => by
    obtain ⟨h1, h2⟩ := takeTo_f hb n k
    obtain ⟨b1, b2⟩ := hb.getD k
    rw [takeTo, shf_f, pow8]
    have hp : (0:Int) < 2 ^ (8 * k) := Int.pow_pos (by omega)
    have h3 : bs.getD k 0 * 2 ^ (8 * k) ≤ 255 * 2 ^ (8 * k) := Int.mul_le_mul_of_nonneg_right (by omega) (by omega)
    have h4 : 0 ≤ bs.getD k 0 * 2 ^ (8 * k) := Int.mul_nonneg b1 (by omega)
    omega
theorem takeTo_t {bs : List Int} (hb : Byts bs) (n : Nat) : ∀ k, k ≤ n → 0 ≤ takeTo bs n true k ∧ takeTo bs n true k + 2 ^ (8 * (n - k)) ≤ 2 ^ (8 * n) ∧ ∃ m, takeTo bs n true k = m * 2 ^ (8 * (n - k))
  | 0, _ => ⟨by simp [takeTo], by simp [takeTo], 0, by simp [takeTo]⟩
  | k + 1, hk => by
    obtain ⟨h1, h2, m, h3⟩ := takeTo_t hb n k (by omega)
    obtain ⟨b1, b2⟩ := hb.getD k
    have e1 : n - k = (n - (k + 1)) + 1 := by omega
    have e2 : n - 1 - k = n - (k + 1) := by omega
    rw [takeTo, shf_t _ _ (by omega), e2]
    rw [e1, pow8] at h2 h3
    have hp : (0:Int) < 2 ^ (8 * (n - (k + 1))) := Int.pow_pos (by omega)
    have h5 : bs.getD k 0 * 2 ^ (8 * (n - (k + 1))) ≤ 255 * 2 ^ (8 * (n - (k + 1))) := Int.mul_le_mul_of_nonneg_right (by omega) (by omega)
    have h4 : 0 ≤ bs.getD k 0 * 2 ^ (8 * (n - (k + 1))) := Int.mul_nonneg b1 (by omega)
    refine ⟨by omega, by omega, m * 256 + bs.getD k 0, ?_⟩
    rw [h3, Int.add_mul, Int.mul_assoc m, Int.mul_comm 256]
theorem pow64 (k : Nat) (h : k ≤ 64) : (2:Int) ^ k ≤ 2 ^ 64 := by
  have : (2:Nat) ^ k ≤ 2 ^ 64 := Nat.pow_le_pow_right (by omega) h
  exact_mod_cast this
theorem takeTo_bd {bs : List Int} (hb : Byts bs) (n : Nat) (big : Bool) (k : Nat) (hk : k ≤ n) (hn : n ≤ 8) : 0 ≤ takeTo bs n big k ∧ takeTo bs n big k < 2 ^ 64 := by
  cases big
  · obtain ⟨h1, h2⟩ := takeTo_f hb n k
    have := pow64 (8 * k) (by omega)
    omega
  · obtain ⟨h1, h2, _⟩ := takeTo_t hb n k hk
    have := pow64 (8 * n) (by omega)
    have hp : (0:Int) < 2 ^ (8 * (n - k)) := Int.pow_pos (by omega)
    omega
theorem takeTo_step {bs : List Int} (hb : Byts bs) (n : Nat) (big : Bool) (k : Nat) (hk : k < n) (hn : n ≤ 8) :
    bits .or .u64 (takeTo bs n big k) (IntKind.u64.wrap (bs.getD k 0 * 2 ^ (shf k n big).toNat)) = takeTo bs n big (k + 1) := by
  obtain ⟨b1, b2⟩ := hb.getD k
  obtain ⟨t1, t2⟩ := takeTo_bd hb n big k (by omega) hn
  obtain ⟨u1, u2⟩ := takeTo_bd hb n big (k + 1) (by omega) hn
  have hp : (0:Int) < 2 ^ (shf k n big).toNat := Int.pow_pos (by omega)
  have h4 : 0 ≤ bs.getD k 0 * 2 ^ (shf k n big).toNat := Int.mul_nonneg b1 (by omega)
  have ew : IntKind.u64.wrap (bs.getD k 0 * 2 ^ (shf k n big).toNat) = bs.getD k 0 * 2 ^ (shf k n big).toNat := by
    rw [IntKind.wrap_u64]
    rw [takeTo] at u2
    apply Int.emod_eq_of_lt h4
    omega
  rw [ew]
  rw [takeTo] at u2 ⊢
  cases big
  · obtain ⟨_, h2⟩ := takeTo_f hb n k
    exact or_add (8 * k) t1 t2 h4 (by omega) (.inr ⟨⟨bs.getD k 0, by rw [shf_f]⟩, h2⟩)
  · obtain ⟨_, _, m, h3⟩ := takeTo_t hb n k (by omega)
    refine or_add (8 * (n - k)) t1 t2 h4 (by omega) (.inl ⟨⟨m, h3⟩, ?_⟩)
    rw [shf_t _ _ hk, show n - k = (n - 1 - k) + 1 by omega, pow8]
    have hq : (0:Int) < 2 ^ (8 * (n - 1 - k)) := Int.pow_pos (by omega)
    have h5 : bs.getD k 0 * 2 ^ (8 * (n - 1 - k)) ≤ 255 * 2 ^ (8 * (n - 1 - k)) := Int.mul_le_mul_of_nonneg_right (by omega) (by omega)
    omega

theorem take_any (A : Option Addr) (n c : Nat) (bs : List Int) (wd : Nat) (big : Bool) (w : World) (hr : Rd w A n bs) (hn : n ≤ 1000) (hnc : n ≤ c) (hw : isW wd = true) (hle : (wd : Int) ≤ n) :
    Calls Try.prog 12 #[.slice A n c, .int .i64 wd, .bool big] w fun e w' => ∃ A' c', e = .returned (.tuple #[.int .u64 (takeTo bs wd big wd), .slice A' (n - wd) c', .int .i64 0]) ∧ n - wd ≤ c' ∧ c' ≤ maxLen ∧ Ext w w' ∧ Rd w' A' (n - wd) (bs.drop wd) := by
  have hw1 : (1 : Int) ≤ wd ∧ (wd : Int) ≤ 8 := by rw [isW_iff] at hw; omega
  obtain ⟨hw2, hw3⟩ := hw1
  have hlt' : ¬ ((n : Int) < wd) := by omega
  go_enter Try.func12, Try.ntmps12
  go_wp2_with (first
    | (go_at_call 20; refine (isWidth_any _ _).mono ?_; rintro e w' ⟨rfl, rfl⟩))
  go_loopw [9, 19] (fun v i wr => ∃ k : Nat, k ≤ wd ∧ i = .int .i64 k ∧ v = .int .u64 (takeTo bs wd big k) ∧ Ext w wr) (fun _ i _ => wd - (intOf i).toNat)
  case atStart => exact ⟨0, by omega, rfl, rfl, Ext.refl _⟩
  case round =>
    obtain ⟨k, hk, rfl, rfl, hext⟩ := hrel
    replace hr := hr.ext hext
    by_cases hlt : (k : Int) < wd
    · obtain ⟨hs1, hs2⟩ := shf_bd k wd big (by omega) hlt hw3
      have hk0 : 0 ≤ (k : Int) := by omega
      have hkn : (k : Int) < n := by omega
      obtain ⟨bb, off, rfl, hb, hcell⟩ := hr.cell (k := k) (by omega)
      obtain ⟨hb1, hb2⟩ := hr.byts.getD k
      obtain ⟨x, hx⟩ : ∃ x, x = bs.getD k 0 := ⟨_, rfl⟩
      rw [← hx] at hcell hb1 hb2
      have HX := Lib.hid hx; clear hx
      obtain ⟨T, hT⟩ : ∃ T, T = takeTo bs wd big k := ⟨_, rfl⟩
      rw [← hT]
      have HT := Lib.hid hT; clear hT
      go_wp2_with fail
      go_quiet ((go_at_call 21; exact quiet_l (shift_any _ _ _ _ (by omega) (by omega) (by omega) (by omega))))
      go_wp2
      go_roundw
      case rel => exact ⟨k + 1, by omega, by go_num, by rw [HT.out, HX.out, takeTo_step hr.byts _ _ _ (by omega) (by omega)], hext.drewN nq⟩
      case measure => simp [intOf]; omega
    · obtain rfl : k = wd := by omega
      have hn' : n - k ≤ 1000 := by omega
      by_cases hcap : c = k
      · have hd := hr.drop (k := k) (cap := c) (by omega) hnc
        rw [if_pos hcap] at hd
        go_wp2_with (go_at_call 23; refine (clone_any _ _ _ _ _ hd hn').mono ?_; rintro e w' ⟨A', c', rfl, h1, h2, h3, h4⟩)
        go_ret3
        exact ⟨A', c', rfl, h1, h2, hext.trans h3, h4⟩
      · have hd := hr.drop (k := k) (cap := c) (by omega) hnc
        rw [if_neg hcap] at hd
        go_wp2_with (go_at_call 23; refine (clone_any _ _ _ _ _ hd hn').mono ?_; rintro e w' ⟨A', c', rfl, h1, h2, h3, h4⟩)
        go_ret3
        exact ⟨A', c', rfl, h1, h2, hext.trans h3, h4⟩
end Go.Proofs.Ytkagdklnfljkjaa
