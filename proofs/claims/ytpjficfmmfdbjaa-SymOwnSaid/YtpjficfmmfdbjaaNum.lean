/-
  Numbers as bytes: what the number layer's functions return, in this seat's numbers.
-/
import Derived.Test.YtpjficfmmfdbjaaBase
set_option linter.unusedVariables false
namespace Go.Proofs.Ytpjficfmmfdbjaa
open Go.RowKit
def isW (n : Int) : Bool := n == 1 || n == 2 || n == 4 || n == 8
theorem isW_iff (n : Int) : isW n = true ↔ n = 1 ∨ n = 2 ∨ n = 4 ∨ n = 8 := by simp [isW, or_assoc]
theorem el22 : Elem Try.prog 25 5 1 1 (.int .u8 0) := Elem.mk' Try.underlying25 (by kernel_rfl) rfl (by omega)
theorem isWidth_any (n : Int) (w : World) : Calls Try.prog 31 #[.int .i64 n] w fun e w' => e = .returned (.bool (isW n)) ∧ w = w' := by
  go_enter Try.func31, Try.ntmps31
  go_wp2
  all_goals go_ret
  all_goals (simp_all [isW])
theorem width_any (n : Int) (w : World) : Calls Try.prog 33 #[.int .i64 n] w fun e w' => e = .returned (.bool (isW n)) ∧ w = w' := by
  go_enter Try.func33, Try.ntmps33
  go_wp2
  all_goals go_ret
  all_goals (simp_all [isW])
def shf (p n : Int) (b : Bool) : Int := if b then 8 * (n - 1 - p) else 8 * p
theorem shf_bd (p n : Int) (b : Bool) (h1 : 0 ≤ p) (h2 : p < n) (h3 : n ≤ 8) : 0 ≤ shf p n b ∧ shf p n b ≤ 56 := by
  unfold shf; split <;> omega
theorem shift_any (p n : Int) (b : Bool) (w : World) (h1 : 0 ≤ p) (h2 : p ≤ 100) (h3 : 0 ≤ n) (h4 : n ≤ 100) : Calls Try.prog 32 #[.int .i64 p, .int .i64 n, .bool b] w fun e w' => e = .returned (.int .i64 (shf p n b)) ∧ w = w' := by
  cases b
  all_goals
    go_enter Try.func32, Try.ntmps32
    go_wp2
    go_ret
    simp [shf]
theorem clone_anyF (A : Option Addr) (n c : Nat) (bs : List Int) (w : World) (hr : Rd w A n bs) (hn : n ≤ 1000) : Calls Try.prog 34 #[.slice A n c] w fun e w' => ∃ A' c', e = .returned (.slice A' n c') ∧ n ≤ c' ∧ c' ≤ maxLen ∧ Ext w w' ∧ Rd w' A' n bs ∧ ∀ ad, A' = some ad → w.heap.size ≤ ad.block := by
  have hnil := fun (W : World) (A : Option Addr) (n c : Nat) => Lib.run_eql_slice_nil W 25 5 A n c 0 0 Try.underlying25
  rcases A with _ | ad
  · obtain rfl : n = 0 := by
      rcases Nat.eq_zero_or_pos n with h | h
      · exact h
      · obtain ⟨_, h, _⟩ := hr.shows.2 h
        cases h
    go_enter Try.func34, Try.ntmps34
    go_wp2
    go_ret
    exact ⟨none, 0, rfl, by omega, by simp, Ext.refl _, hr, fun ad h => by cases h⟩
  · go_enter Try.func34, Try.ntmps34
    go_wp2_with (at_builtin; refine wpList_app el22 rfl _ _ rfl (World.ownsRow_lit _ #[] 0 (Nat.le_refl _) (by simp) rfl) rfl ((hr.ext ((Ext.refl _).alloc _)).shows) rfl (u8s_one _) (by simp only [maxLen]; omega) (by omega) rfl ((Ext.refl _).alloc _) ?_; intro v1 w1 hown1 hext1 hg1 hat1)
    go_ret
    obtain ⟨A', c', rfl, h1, h2, h3, h4⟩ := own_rdF (bs := bs) hown1 hr.byts
    simp only [Nat.zero_add] at *
    exact ⟨A', c', rfl, h1, h2, hext1, h3, h4⟩
theorem clone_any (A : Option Addr) (n c : Nat) (bs : List Int) (w : World) (hr : Rd w A n bs) (hn : n ≤ 1000) : Calls Try.prog 34 #[.slice A n c] w fun e w' => ∃ A' c', e = .returned (.slice A' n c') ∧ n ≤ c' ∧ c' ≤ maxLen ∧ Ext w w' ∧ Rd w' A' n bs := (clone_anyF A n c bs w hr hn).mono fun _ _ ⟨A', c', a, b, d, e, f, _⟩ => ⟨A', c', a, b, d, e, f⟩
def putB (v : Int) (n : Nat) (big : Bool) : List Int := (List.range n).map fun (i : Nat) => v / 2 ^ (shf i n big).toNat % 256
theorem putB_len (v : Int) (n : Nat) (big : Bool) : (putB v n big).length = n := by simp [putB]
theorem putB_byts (v : Int) (n : Nat) (big : Bool) : Byts (putB v n big) := by
  intro b hb
  obtain ⟨i, _, rfl⟩ := List.mem_map.1 hb
  omega
theorem putB_snoc (v : Int) (n k : Nat) (big : Bool) (hk : k < n) : (putB v n big).take (k + 1) = (putB v n big).take k ++ [v / 2 ^ (shf k n big).toNat % 256] := by
  rw [List.take_succ_eq_append_getElem (by rw [putB_len]; exact hk)]
  simp [putB]
theorem put_anyF (A : Option Addr) (n c : Nat) (bs : List Int) (v : Int) (wd : Nat) (big : Bool) (w : World) (hr : Rd w A n bs) (hn : n ≤ 1000) (hw : isW wd = true) (h0 : 0 ≤ v) (h1 : v < 2 ^ 64) :
    Calls Try.prog 23 #[.slice A n c, .int .u64 v, .int .i64 wd, .bool big] w fun e w' => ∃ A' c', e = .returned (.tuple #[.slice A' (n + wd) c', .int .i64 0]) ∧ n + wd ≤ c' ∧ c' ≤ maxLen ∧ Ext w w' ∧ Rd w' A' (n + wd) (bs ++ putB v wd big) ∧ (∀ ad, A' = some ad → w.heap.size ≤ ad.block) ∧ w'.ownsRow w.heap.size 5 1 (.slice A' (n + wd) c') (n + wd) (u8s (bs ++ putB v wd big)) := by
  have hw1 : (1 : Int) ≤ wd ∧ (wd : Int) ≤ 8 := by rw [isW_iff] at hw; omega
  obtain ⟨hw2, hw3⟩ := hw1
  have HV := Lib.hid h1; clear h1
  go_enter Try.func23, Try.ntmps23
  go_wp2_with (first
    | (go_at_call 31; refine (isWidth_any _ _).mono ?_; rintro e w' ⟨rfl, rfl⟩)
    | (at_make; refine wpList_make0 el22 rfl _ _ rfl rfl rfl (by omega) (by omega) (by omega) (Ext.refl _) ?_; intro v1 w1 hown1 hext1 hg1 hat1)
    | (at_builtin; refine wpList_app el22 rfl _ _ rfl hown1 rfl (hr.ext hext1).shows rfl (u8s_one _) (by simp only [maxLen]; omega) (by omega) rfl hext1 ?_; intro v2 w2 hown2 hext2 hg2 hat2))
  clear hown1 hg1 hat1 hext1 hg2 hat2
  go_loopw [10, 24] (fun o i wr => ∃ k : Nat, k ≤ wd ∧ i = .int .i64 k ∧ wr.ownsRow w.heap.size 5 1 o (n + k) (u8s (bs ++ (putB v wd big).take k)) ∧ Ext w wr) (fun _ i _ => wd - (intOf i).toNat)
  case atStart => exact ⟨0, by omega, rfl, by simpa using hown2, hext2⟩
  case round =>
    obtain ⟨k, hk, rfl, hown3, hext3⟩ := hrel
    clear hown2 hext2
    by_cases hlt : (k : Int) < wd
    · obtain ⟨hs1, hs2⟩ := shf_bd k wd big (by omega) hlt hw3
      have hk0 : 0 ≤ (k : Int) := by omega
      go_wp2_with (first
        | (go_at_call 32; refine (shift_any _ _ _ _ (by omega) (by omega) (by omega) (by omega)).mono ?_; rintro e w' ⟨rfl, rfl⟩)
        | (at_builtin; refine wpList_app el22 rfl _ _ rfl (hown3.alloc _) rfl (Shows.new1 _ _ _) rfl (by intro u hu; simp at hu; subst hu; rfl) (by simp only [maxLen]; omega) (by omega) rfl (hext3.alloc _) ?_; intro v4 w4 hown4 hext4 hg4 hat4))
      go_roundw
      case rel => exact ⟨k + 1, by omega, by go_num, by rw [putB_snoc _ _ _ _ (by omega), ← List.append_assoc, u8s_append]; exact hown4, hext4⟩
      case measure => simp [intOf]; omega
    · go_wp2
      go_ret2
      obtain rfl : k = wd := by omega
      obtain ⟨A', c', rfl, h1, h2, h3, h4⟩ := own_rdF hown3 (hr.byts.append (by rw [List.take_of_length_le (by rw [putB_len]; omega)]; exact putB_byts _ _ _))
      rw [List.take_of_length_le (by rw [putB_len]; omega)] at h3 hown3
      exact ⟨A', c', rfl, h1, h2, hext3, h3, h4, hown3⟩
theorem put_any (A : Option Addr) (n c : Nat) (bs : List Int) (v : Int) (wd : Nat) (big : Bool) (w : World) (hr : Rd w A n bs) (hn : n ≤ 1000) (hw : isW wd = true) (h0 : 0 ≤ v) (h1 : v < 2 ^ 64) :
    Calls Try.prog 23 #[.slice A n c, .int .u64 v, .int .i64 wd, .bool big] w fun e w' => ∃ A' c', e = .returned (.tuple #[.slice A' (n + wd) c', .int .i64 0]) ∧ n + wd ≤ c' ∧ c' ≤ maxLen ∧ Ext w w' ∧ Rd w' A' (n + wd) (bs ++ putB v wd big) :=
  (put_anyF A n c bs v wd big w hr hn hw h0 h1).mono fun _ _ ⟨A', c', a, b, d, e, f, _⟩ => ⟨A', c', a, b, d, e, f⟩
theorem shf_ref (p n : Nat) (b : Bool) (h2 : p < n) : (2:Int) ^ (shf p n b).toNat = 256 ^ (if b then n - 1 - p else p) := by
  have : (shf p n b).toNat = 8 * (if b then n - 1 - p else p) := by
    unfold shf; cases b <;> simp <;> omega
  rw [this, Int.pow_mul]
  rfl
theorem div256 (v : Int) (j : Nat) : v / 256 ^ j / 256 = v / 256 ^ (j + 1) := by
  rw [Int.pow_succ, Int.ediv_ediv_of_nonneg (by exact Int.pow_nonneg (by omega))]
def kOf (p n : Int) (b : Bool) : Int := if b then n - 1 - p else p
def xOf (v : Int) (j : Nat) : Int := v / 256 ^ j
theorem xOf_bd (v : Int) (j : Nat) (h : 0 ≤ v) : 0 ≤ xOf v j := by unfold xOf; exact Int.ediv_nonneg h (Int.pow_nonneg (by omega))
theorem xOf_step (v : Int) (j : Nat) (h : 0 ≤ v) (h1 : v < 2 ^ 64) : IntKind.u64.wrap ((xOf v j).tdiv 256) = xOf v (j + 1) := by
  have h0 := xOf_bd v j h
  have h2 : xOf v j ≤ v := by unfold xOf; exact Int.ediv_le_self _ h
  rw [Int.tdiv_eq_ediv_of_nonneg h0, show xOf v j / 256 = xOf v (j + 1) from div256 v j]
  have h3 := xOf_bd v (j + 1) h
  have h4 : xOf v (j + 1) ≤ v := by unfold xOf; exact Int.ediv_le_self _ h
  simp only [IntKind.wrap, IntKind.signed, IntKind.bits]
  simp
  omega
theorem xOf_last (v : Int) (k wd : Nat) (big : Bool) (hk : k < wd) : xOf v (if big then wd - 1 - k else k) % 256 = v / 2 ^ (shf k wd big).toNat % 256 := by
  rw [shf_ref _ _ _ hk]; rfl
theorem rput_own (A : Option Addr) (n c : Nat) (bs : List Int) (v : Int) (wd : Nat) (big : Bool) (w : World) (hr : Rd w A n bs) (hn : n ≤ 1000) (hw : isW wd = true) (h0 : 0 ≤ v) (h1 : v < 2 ^ 64) :
    Calls Try.prog 25 #[.slice A n c, .int .u64 v, .int .i64 wd, .bool big] w fun e w' => ∃ A' c', e = .returned (.tuple #[.slice A' (n + wd) c', .int .i64 0]) ∧ n + wd ≤ c' ∧ c' ≤ maxLen ∧ Ext w w' ∧ Rd w' A' (n + wd) (bs ++ putB v wd big) ∧ w'.ownsRow w.heap.size 5 1 (.slice A' (n + wd) c') (n + wd) (u8s (bs ++ putB v wd big)) := by
  have hw1 : (1 : Int) ≤ wd ∧ (wd : Int) ≤ 8 := by rw [isW_iff] at hw; omega
  obtain ⟨hw2, hw3⟩ := hw1
  have HV := Lib.hid h1; clear h1
  go_enter Try.func25, Try.ntmps25
  go_wp2_with (first
    | (go_at_call 33; refine (width_any _ _).mono ?_; rintro e w' ⟨rfl, rfl⟩)
    | (at_builtin; refine wpList_app el22 rfl _ _ rfl (World.ownsRow_lit _ #[] 0 (Nat.le_refl _) (by simp) rfl) rfl ((hr.ext ((Ext.refl _).alloc _)).shows) rfl (u8s_one _) (by simp only [maxLen]; omega) (by omega) rfl ((Ext.refl _).alloc _) ?_; intro v1 w1 hown1 hext1 hg1 hat1))
  clear hg1 hat1
  go_loopw [10, 11] (fun o i wr => ∃ k : Nat, k ≤ wd ∧ i = .int .i64 k ∧ wr.ownsRow w.heap.size 5 1 o (n + k) (u8s (bs ++ (putB v wd big).take k)) ∧ Ext w wr) (fun _ i _ => wd - (intOf i).toNat)
  case atStart => exact ⟨0, by omega, rfl, by simpa using hown1, hext1⟩
  case round =>
    obtain ⟨k, hk, rfl, hown3, hext3⟩ := hrel
    clear hown1 hext1
    by_cases hlt : (k : Int) < wd
    · have hk0 : 0 ≤ (k : Int) := by omega
      have hsn := Lib.hid (putB_snoc v wd k big (by omega))
      have hsr := Lib.hid (shf_ref k wd big (by omega))
      obtain ⟨K, hK, hK2⟩ : ∃ K : Nat, K = (if big then wd - 1 - k else k) ∧ (K : Int) ≤ 8 := ⟨_, rfl, by split <;> omega⟩
      have HK := Lib.hid hK
      cases big
      · obtain rfl : K = k := by simpa using hK
        clear hK
        go_wp2_with fail
        go_loop [13, 14] (fun x i => ∃ j : Nat, j ≤ K ∧ i = .int .i64 j ∧ x = .int .u64 (xOf v j)) (fun _ i => K - (intOf i).toNat)
        case atStart => exact ⟨0, by omega, rfl, by simp [xOf]⟩
        case round =>
          obtain ⟨j, hj, rfl, rfl⟩ := hrel
          have hx0 := xOf_bd v j h0
          by_cases hlt2 : (j : Int) < K
          · go_wp2
            go_round
            case rel => exact ⟨j + 1, by omega, by go_num, by rw [xOf_step _ _ h0 HV.out]⟩
            case measure => simp [intOf]; omega
          · obtain rfl : j = K := by omega
            go_wp2_with (at_builtin; refine wpList_app el22 rfl _ _ rfl (hown3.alloc _) rfl (Shows.new1 _ _ _) rfl (by intro u hu; simp at hu; subst hu; rfl) (by simp only [maxLen]; omega) (by omega) rfl (hext3.alloc _) ?_; intro v4 w4 hown4 hext4 hg4 hat4)
            go_roundw
            case rel => exact ⟨j + 1, by omega, by go_num, by rw [hsn.out, ← List.append_assoc, u8s_append, ← xOf_last v j wd false (by omega)]; exact hown4, hext4⟩
            case measure => simp [intOf]; omega
      · have e : ((wd:Int) - 1 - k) = K := by have := HK.out; simp at this; omega
        clear hK
        go_wp2_with fail
        go_loop [13, 14] (fun x i => ∃ j : Nat, j ≤ K ∧ i = .int .i64 j ∧ x = .int .u64 (xOf v j)) (fun _ i => K - (intOf i).toNat)
        case atStart => exact ⟨0, by omega, rfl, by simp [xOf]⟩
        case round =>
          obtain ⟨j, hj, rfl, rfl⟩ := hrel
          have hx0 := xOf_bd v j h0
          by_cases hlt2 : (j : Int) < K
          · go_wp2
            go_round
            case rel => exact ⟨j + 1, by omega, by go_num, by rw [xOf_step _ _ h0 HV.out]⟩
            case measure => simp [intOf]; omega
          · obtain rfl : j = K := by omega
            go_wp2_with (at_builtin; refine wpList_app el22 rfl _ _ rfl (hown3.alloc _) rfl (Shows.new1 _ _ _) rfl (by intro u hu; simp at hu; subst hu; rfl) (by simp only [maxLen]; omega) (by omega) rfl (hext3.alloc _) ?_; intro v4 w4 hown4 hext4 hg4 hat4)
            go_roundw
            case rel => exact ⟨k + 1, by omega, by go_num, by rw [hsn.out, ← List.append_assoc, u8s_append, ← xOf_last v k wd true (by omega), if_pos rfl, show wd - 1 - k = j by omega]; exact hown4, hext4⟩
            case measure => simp [intOf]; omega
    · go_wp2
      go_ret2
      obtain rfl : k = wd := by omega
      obtain ⟨A', c', rfl, h1, h2, h3⟩ := own_rd hown3 (hr.byts.append (by rw [List.take_of_length_le (by rw [putB_len]; omega)]; exact putB_byts _ _ _))
      rw [List.take_of_length_le (by rw [putB_len]; omega)] at h3 hown3
      exact ⟨A', c', rfl, h1, h2, hext3, h3, hown3⟩
def takeTo (bs : List Int) (n : Nat) (big : Bool) : Nat → Int
  | 0 => 0
  | k + 1 => takeTo bs n big k + bs.getD k 0 * 2 ^ (shf k n big).toNat
theorem or_add {a b : Int} (i : Nat) (ha : 0 ≤ a) (ha' : a < 2 ^ 64) (hb : 0 ≤ b) (hb' : b < 2 ^ 64)
    (h : ((∃ m, a = m * 2 ^ i) ∧ b < 2 ^ i) ∨ ((∃ m, b = m * 2 ^ i) ∧ a < 2 ^ i)) : bits .or .u64 a b = a + b := by
  rw [u64_or a b ha (by simpa using ha') hb (by simpa using hb')]
  obtain ⟨x, rfl⟩ := Int.eq_ofNat_of_zero_le ha
  obtain ⟨y, rfl⟩ := Int.eq_ofNat_of_zero_le hb
  simp only [Int.toNat_natCast]
  have key : ∀ (x y : Nat), (∃ m, (x : Int) = m * 2 ^ i) → (y : Int) < 2 ^ i → x ||| y = x + y := by
    intro x y ⟨m, hm⟩ hy
    apply nat_join i
    · have : ((x % 2 ^ i : Nat) : Int) = 0 := by
        rw [Int.natCast_emod, hm]
        simp
      omega
    · have : ((2 ^ i : Nat) : Int) = 2 ^ i := by simp
      omega
  rcases h with ⟨h1, h2⟩ | ⟨h1, h2⟩
  · rw [key x y h1 h2]; simp
  · rw [Nat.or_comm, key y x h1 h2]; simp; omega
theorem pow8 (k : Nat) : (2:Int) ^ (8 * (k + 1)) = 2 ^ (8 * k) * 256 := by
  rw [Nat.mul_add, Int.pow_add]; rfl
theorem shf_t (p n : Nat) (h2 : p < n) : (shf p n true).toNat = 8 * (n - 1 - p) := by unfold shf; simp; omega
theorem shf_f (p n : Nat) : (shf p n false).toNat = 8 * p := by unfold shf; simp; omega
theorem takeTo_f {bs : List Int} (hb : Byts bs) (n : Nat) : ∀ k, 0 ≤ takeTo bs n false k ∧ takeTo bs n false k < 2 ^ (8 * k)
  | 0 => by simp [takeTo]
  | k + 1 => by
    obtain ⟨h1, h2⟩ := takeTo_f hb n k
    obtain ⟨b1, b2⟩ := hb.getD k
    rw [takeTo, shf_f, pow8]
    have hp : (0:Int) < 2 ^ (8 * k) := Int.pow_pos (by omega)
    have h3 : bs.getD k 0 * 2 ^ (8 * k) ≤ 255 * 2 ^ (8 * k) := Int.mul_le_mul_of_nonneg_right (by omega) (by omega)
    have h4 : 0 ≤ bs.getD k 0 * 2 ^ (8 * k) := Int.mul_nonneg b1 (by omega)
    omega
theorem takeTo_t {bs : List Int} (hb : Byts bs) (n : Nat) : ∀ k, k ≤ n → 0 ≤ takeTo bs n true k ∧ takeTo bs n true k + 2 ^ (8 * (n - k)) ≤ 2 ^ (8 * n) ∧ ∃ m, takeTo bs n true k = m * 2 ^ (8 * (n - k))
  | 0, _ => ⟨by simp [takeTo], by simp [takeTo], 0, by simp [takeTo]⟩
  | k + 1, hk => by
    obtain ⟨h1, h2, m, h3⟩ := takeTo_t hb n k (by omega)
    obtain ⟨b1, b2⟩ := hb.getD k
    have e1 : n - k = (n - (k + 1)) + 1 := by omega
    have e2 : n - 1 - k = n - (k + 1) := by omega
    rw [takeTo, shf_t _ _ (by omega), e2]
    rw [e1, pow8] at h2 h3
    have hp : (0:Int) < 2 ^ (8 * (n - (k + 1))) := Int.pow_pos (by omega)
    have h5 : bs.getD k 0 * 2 ^ (8 * (n - (k + 1))) ≤ 255 * 2 ^ (8 * (n - (k + 1))) := Int.mul_le_mul_of_nonneg_right (by omega) (by omega)
    have h4 : 0 ≤ bs.getD k 0 * 2 ^ (8 * (n - (k + 1))) := Int.mul_nonneg b1 (by omega)
    refine ⟨by omega, by omega, m * 256 + bs.getD k 0, ?_⟩
    rw [h3, Int.add_mul, Int.mul_assoc m, Int.mul_comm 256]
theorem pow64 (k : Nat) (h : k ≤ 64) : (2:Int) ^ k ≤ 2 ^ 64 := by
  have : (2:Nat) ^ k ≤ 2 ^ 64 := Nat.pow_le_pow_right (by omega) h
  exact_mod_cast this
theorem takeTo_bd {bs : List Int} (hb : Byts bs) (n : Nat) (big : Bool) (k : Nat) (hk : k ≤ n) (hn : n ≤ 8) : 0 ≤ takeTo bs n big k ∧ takeTo bs n big k < 2 ^ 64 := by
  cases big
  · obtain ⟨h1, h2⟩ := takeTo_f hb n k
    have := pow64 (8 * k) (by omega)
    omega
  · obtain ⟨h1, h2, _⟩ := takeTo_t hb n k hk
    have := pow64 (8 * n) (by omega)
    have hp : (0:Int) < 2 ^ (8 * (n - k)) := Int.pow_pos (by omega)
    omega
theorem takeTo_step {bs : List Int} (hb : Byts bs) (n : Nat) (big : Bool) (k : Nat) (hk : k < n) (hn : n ≤ 8) :
    bits .or .u64 (takeTo bs n big k) (IntKind.u64.wrap (bs.getD k 0 * 2 ^ (shf k n big).toNat)) = takeTo bs n big (k + 1) := by
  obtain ⟨b1, b2⟩ := hb.getD k
  obtain ⟨t1, t2⟩ := takeTo_bd hb n big k (by omega) hn
  obtain ⟨u1, u2⟩ := takeTo_bd hb n big (k + 1) (by omega) hn
  have hp : (0:Int) < 2 ^ (shf k n big).toNat := Int.pow_pos (by omega)
  have h4 : 0 ≤ bs.getD k 0 * 2 ^ (shf k n big).toNat := Int.mul_nonneg b1 (by omega)
  have ew : IntKind.u64.wrap (bs.getD k 0 * 2 ^ (shf k n big).toNat) = bs.getD k 0 * 2 ^ (shf k n big).toNat := by
    rw [IntKind.wrap_u64]
    rw [takeTo] at u2
    apply Int.emod_eq_of_lt h4
    omega
  rw [ew]
  rw [takeTo] at u2 ⊢
  cases big
  · obtain ⟨_, h2⟩ := takeTo_f hb n k
    exact or_add (8 * k) t1 t2 h4 (by omega) (.inr ⟨⟨bs.getD k 0, by rw [shf_f]⟩, h2⟩)
  · obtain ⟨_, _, m, h3⟩ := takeTo_t hb n k (by omega)
    refine or_add (8 * (n - k)) t1 t2 h4 (by omega) (.inl ⟨⟨m, h3⟩, ?_⟩)
    rw [shf_t _ _ hk, show n - k = (n - 1 - k) + 1 by omega, pow8]
    have hq : (0:Int) < 2 ^ (8 * (n - 1 - k)) := Int.pow_pos (by omega)
    have h5 : bs.getD k 0 * 2 ^ (8 * (n - 1 - k)) ≤ 255 * 2 ^ (8 * (n - 1 - k)) := Int.mul_le_mul_of_nonneg_right (by omega) (by omega)
    omega
theorem take_anyF (A : Option Addr) (n c : Nat) (bs : List Int) (wd : Nat) (big : Bool) (w : World) (hr : Rd w A n bs) (hn : n ≤ 1000) (hnc : n ≤ c) (hw : isW wd = true) (hle : (wd : Int) ≤ n) :
    Calls Try.prog 26 #[.slice A n c, .int .i64 wd, .bool big] w fun e w' => ∃ A' c', e = .returned (.tuple #[.int .u64 (takeTo bs wd big wd), .slice A' (n - wd) c', .int .i64 0]) ∧ n - wd ≤ c' ∧ c' ≤ maxLen ∧ Ext w w' ∧ Rd w' A' (n - wd) (bs.drop wd) ∧ ∀ ad, A' = some ad → w.heap.size ≤ ad.block := by
  have hw1 : (1 : Int) ≤ wd ∧ (wd : Int) ≤ 8 := by rw [isW_iff] at hw; omega
  obtain ⟨hw2, hw3⟩ := hw1
  have hlt' : ¬ ((n : Int) < wd) := by omega
  go_enter Try.func26, Try.ntmps26
  go_wp2_with (first
    | (go_at_call 31; refine (isWidth_any _ _).mono ?_; rintro e w' ⟨rfl, rfl⟩))
  go_loopw [9, 19] (fun v i wr => ∃ k : Nat, k ≤ wd ∧ i = .int .i64 k ∧ v = .int .u64 (takeTo bs wd big k) ∧ Ext w wr) (fun _ i _ => wd - (intOf i).toNat)
  case atStart => exact ⟨0, by omega, rfl, rfl, Ext.refl _⟩
  case round =>
    obtain ⟨k, hk, rfl, rfl, hext⟩ := hrel
    replace hr := hr.ext hext
    by_cases hlt : (k : Int) < wd
    · obtain ⟨hs1, hs2⟩ := shf_bd k wd big (by omega) hlt hw3
      have hk0 : 0 ≤ (k : Int) := by omega
      have hkn : (k : Int) < n := by omega
      obtain ⟨bb, off, rfl, hb, hcell⟩ := hr.cell (k := k) (by omega)
      obtain ⟨hb1, hb2⟩ := hr.byts.getD k
      obtain ⟨x, hx⟩ : ∃ x, x = bs.getD k 0 := ⟨_, rfl⟩
      rw [← hx] at hcell hb1 hb2
      have HX := Lib.hid hx; clear hx
      obtain ⟨T, hT⟩ : ∃ T, T = takeTo bs wd big k := ⟨_, rfl⟩
      rw [← hT]
      have HT := Lib.hid hT; clear hT
      go_wp2_with fail
      go_quiet ((go_at_call 32; exact quiet_l (shift_any _ _ _ _ (by omega) (by omega) (by omega) (by omega))))
      go_wp2
      go_roundw
      case rel => exact ⟨k + 1, by omega, by go_num, by rw [HT.out, HX.out, takeTo_step hr.byts _ _ _ (by omega) (by omega)], hext.drewN nq⟩
      case measure => simp [intOf]; omega
    · obtain rfl : k = wd := by omega
      have hn' : n - k ≤ 1000 := by omega
      by_cases hcap : c = k
      · have hd := hr.drop (k := k) (cap := c) (by omega) hnc
        rw [if_pos hcap] at hd
        go_wp2_with (go_at_call 34; refine (clone_anyF _ _ _ _ _ hd hn').mono ?_; rintro e w' ⟨A', c', rfl, h1, h2, h3, h4, h5⟩)
        go_ret3
        exact ⟨A', c', rfl, h1, h2, hext.trans h3, h4, fun ad h => Nat.le_trans hext.size (h5 ad h)⟩
      · have hd := hr.drop (k := k) (cap := c) (by omega) hnc
        rw [if_neg hcap] at hd
        go_wp2_with (go_at_call 34; refine (clone_anyF _ _ _ _ _ hd hn').mono ?_; rintro e w' ⟨A', c', rfl, h1, h2, h3, h4, h5⟩)
        go_ret3
        exact ⟨A', c', rfl, h1, h2, hext.trans h3, h4, fun ad h => Nat.le_trans hext.size (h5 ad h)⟩
theorem take_any (A : Option Addr) (n c : Nat) (bs : List Int) (wd : Nat) (big : Bool) (w : World) (hr : Rd w A n bs) (hn : n ≤ 1000) (hnc : n ≤ c) (hw : isW wd = true) (hle : (wd : Int) ≤ n) :
    Calls Try.prog 26 #[.slice A n c, .int .i64 wd, .bool big] w fun e w' => ∃ A' c', e = .returned (.tuple #[.int .u64 (takeTo bs wd big wd), .slice A' (n - wd) c', .int .i64 0]) ∧ n - wd ≤ c' ∧ c' ≤ maxLen ∧ Ext w w' ∧ Rd w' A' (n - wd) (bs.drop wd) := (take_anyF A n c bs wd big w hr hn hnc hw hle).mono fun _ _ ⟨A', c', a, b, d, e, f, _⟩ => ⟨A', c', a, b, d, e, f⟩
def refTo (bs : List Int) (n : Nat) (big : Bool) : Nat → Int
  | 0 => 0
  | k + 1 => refTo bs n big k * 256 + bs.getD (if big then k else n - 1 - k) 0
theorem refTo_bd {bs : List Int} (hb : Byts bs) (n : Nat) (big : Bool) : ∀ k, 0 ≤ refTo bs n big k ∧ refTo bs n big k < 2 ^ (8 * k)
  | 0 => by simp [refTo]
  | k + 1 => by
    obtain ⟨h1, h2⟩ := refTo_bd hb n big k
    obtain ⟨b1, b2⟩ := hb.getD (if big then k else n - 1 - k)
    rw [refTo, pow8]
    omega
theorem refTo_eq (bs : List Int) (n : Nat) (big : Bool) (hn : isW n = true) : refTo bs n big n = takeTo bs n big n := by
  rw [isW_iff] at hn
  have : n = 1 ∨ n = 2 ∨ n = 4 ∨ n = 8 := by omega
  rcases this with rfl | rfl | rfl | rfl <;> cases big <;> simp [refTo, takeTo, shf] <;> omega
theorem refTo_step {bs : List Int} (hb : Byts bs) (n : Nat) (big : Bool) (k : Nat) (hk : k < n) (hn : n ≤ 8) :
    IntKind.u64.wrap (IntKind.u64.wrap (refTo bs n big k * 256) + bs.getD (if big then k else n - 1 - k) 0) = refTo bs n big (k + 1) := by
  obtain ⟨h1, h2⟩ := refTo_bd hb n big (k + 1)
  have h3 := pow64 (8 * (k + 1)) (by omega)
  rw [IntKind.wrap_u64, IntKind.wrap_u64]
  rw [refTo] at h1 h2 ⊢
  omega
theorem rtake_anyF (A : Option Addr) (n c : Nat) (bs : List Int) (wd : Nat) (big : Bool) (w : World) (hr : Rd w A n bs) (hn : n ≤ 1000) (hnc : n ≤ c) (hw : isW wd = true) (hle : (wd : Int) ≤ n) :
    Calls Try.prog 28 #[.slice A n c, .int .i64 wd, .bool big] w fun e w' => ∃ A' c', e = .returned (.tuple #[.int .u64 (takeTo bs wd big wd), .slice A' (n - wd) c', .int .i64 0]) ∧ n - wd ≤ c' ∧ c' ≤ maxLen ∧ Ext w w' ∧ Rd w' A' (n - wd) (bs.drop wd) ∧ ∀ ad, A' = some ad → w.heap.size ≤ ad.block := by
  have hw1 : (1 : Int) ≤ wd ∧ (wd : Int) ≤ 8 := by rw [isW_iff] at hw; omega
  obtain ⟨hw2, hw3⟩ := hw1
  have hlt' : ¬ ((n : Int) < wd) := by omega
  go_enter Try.func28, Try.ntmps28
  go_wp2_with (first
    | (go_at_call 33; refine (width_any _ _).mono ?_; rintro e w' ⟨rfl, rfl⟩))
  go_loop [9, 10] (fun v i => ∃ k : Nat, k ≤ wd ∧ i = .int .i64 k ∧ v = .int .u64 (refTo bs wd big k)) (fun _ i => wd - (intOf i).toNat)
  case atStart => exact ⟨0, by omega, rfl, rfl⟩
  case round =>
    obtain ⟨k, hk, rfl, rfl⟩ := hrel
    by_cases hlt : (k : Int) < wd
    · have hk0 : 0 ≤ (k : Int) := by omega
      obtain ⟨K, hK, hK2⟩ : ∃ K : Nat, K = (if big then k else wd - 1 - k) ∧ (K : Int) < n := ⟨_, rfl, by split <;> omega⟩
      obtain ⟨bb, off, rfl, hb, hcell⟩ := hr.cell (k := K) (by omega)
      obtain ⟨hb1, hb2⟩ := hr.byts.getD K
      have hst := Lib.hid (refTo_step hr.byts wd big k (by omega) (by omega))
      rw [← hK] at hst
      obtain ⟨x, hx⟩ : ∃ x, x = bs.getD K 0 := ⟨_, rfl⟩
      rw [← hx] at hcell hb1 hb2 hst
      obtain ⟨T, hT⟩ : ∃ T, T = refTo bs wd big k := ⟨_, rfl⟩
      rw [← hT] at hst ⊢
      have t1 := refTo_bd hr.byts wd big k
      clear hx hT
      have HK := Lib.hid hK
      cases big
      · have e : ((wd:Int) - 1 - k) = K := by simp at hK; omega
        clear hK
        go_wp2
        go_round
        case rel => exact ⟨k + 1, by omega, by go_num, by rw [← hst.out]⟩
        case measure => simp [intOf]; omega
      · obtain rfl : K = k := by simpa using hK
        clear hK
        go_wp2
        go_round
        case rel => exact ⟨K + 1, by omega, by go_num, by rw [← hst.out]⟩
        case measure => simp [intOf]; omega
    · obtain rfl : k = wd := by omega
      rw [refTo_eq _ _ _ hw]
      have hd := hr.drop (k := k) (cap := c) (by omega) hnc
      by_cases hcap : c = k
      · rw [if_pos hcap] at hd
        go_wp2_with (at_builtin; refine wpList_app el22 rfl _ _ rfl (World.ownsRow_lit _ #[] 0 (Nat.le_refl _) (by simp) rfl) rfl ((hd.ext ((Ext.refl _).alloc _)).shows) rfl (u8s_one _) (by simp only [maxLen]; omega) (by omega) rfl ((Ext.refl _).alloc _) ?_; intro v1 w1 hown1 hext1 hg1 hat1)
        go_ret3
        simp only [Nat.zero_add] at hown1
        obtain ⟨A', c', rfl, h1, h2, h3, h4⟩ := own_rdF (bs := bs.drop k) hown1 hd.byts
        exact ⟨A', c', rfl, by omega, h2, hext1, h3, h4⟩
      · rw [if_neg hcap] at hd
        go_wp2_with (at_builtin; refine wpList_app el22 rfl _ _ rfl (World.ownsRow_lit _ #[] 0 (Nat.le_refl _) (by simp) rfl) rfl ((hd.ext ((Ext.refl _).alloc _)).shows) rfl (u8s_one _) (by simp only [maxLen]; omega) (by omega) rfl ((Ext.refl _).alloc _) ?_; intro v1 w1 hown1 hext1 hg1 hat1)
        go_ret3
        simp only [Nat.zero_add] at hown1
        obtain ⟨A', c', rfl, h1, h2, h3, h4⟩ := own_rdF (bs := bs.drop k) hown1 hd.byts
        exact ⟨A', c', rfl, by omega, h2, hext1, h3, h4⟩
theorem rtake_any (A : Option Addr) (n c : Nat) (bs : List Int) (wd : Nat) (big : Bool) (w : World) (hr : Rd w A n bs) (hn : n ≤ 1000) (hnc : n ≤ c) (hw : isW wd = true) (hle : (wd : Int) ≤ n) :
    Calls Try.prog 28 #[.slice A n c, .int .i64 wd, .bool big] w fun e w' => ∃ A' c', e = .returned (.tuple #[.int .u64 (takeTo bs wd big wd), .slice A' (n - wd) c', .int .i64 0]) ∧ n - wd ≤ c' ∧ c' ≤ maxLen ∧ Ext w w' ∧ Rd w' A' (n - wd) (bs.drop wd) := (rtake_anyF A n c bs wd big w hr hn hnc hw hle).mono fun _ _ ⟨A', c', a, b, d, e, f, _⟩ => ⟨A', c', a, b, d, e, f⟩
theorem put_no (A : Option Addr) (n c : Nat) (v wd : Int) (big : Bool) (w : World) (hw : isW wd = false) :
    Calls Try.prog 23 #[.slice A n c, .int .u64 v, .int .i64 wd, .bool big] w fun e w' => e = .returned (.tuple #[.slice none 0 0, .int .i64 1]) ∧ w = w' := by
  go_enter Try.func23, Try.ntmps23
  go_wp2_with (go_at_call 31; refine (isWidth_any _ _).mono ?_; rintro e w' ⟨rfl, rfl⟩)
  go_ret2
  exact ⟨rfl, rfl⟩
theorem rput_no (A : Option Addr) (n c : Nat) (v wd : Int) (big : Bool) (w : World) (hw : isW wd = false) :
    Calls Try.prog 25 #[.slice A n c, .int .u64 v, .int .i64 wd, .bool big] w fun e w' => e = .returned (.tuple #[.slice none 0 0, .int .i64 1]) ∧ w = w' := by
  go_enter Try.func25, Try.ntmps25
  go_wp2_with (go_at_call 33; refine (width_any _ _).mono ?_; rintro e w' ⟨rfl, rfl⟩)
  go_ret2
  exact ⟨rfl, rfl⟩
theorem take_no1 (A : Option Addr) (n c : Nat) (wd : Int) (big : Bool) (w : World) (hw : isW wd = false) :
    Calls Try.prog 26 #[.slice A n c, .int .i64 wd, .bool big] w fun e w' => e = .returned (.tuple #[.int .u64 0, .slice none 0 0, .int .i64 1]) ∧ w = w' := by
  go_enter Try.func26, Try.ntmps26
  go_wp2_with (go_at_call 31; refine (isWidth_any _ _).mono ?_; rintro e w' ⟨rfl, rfl⟩)
  go_ret3
  exact ⟨rfl, rfl⟩
theorem take_no5 (A : Option Addr) (n c : Nat) (wd : Int) (big : Bool) (w : World) (hw : isW wd = true) (hlt : (n : Int) < wd) :
    Calls Try.prog 26 #[.slice A n c, .int .i64 wd, .bool big] w fun e w' => e = .returned (.tuple #[.int .u64 0, .slice none 0 0, .int .i64 5]) ∧ w = w' := by
  go_enter Try.func26, Try.ntmps26
  go_wp2_with (go_at_call 31; refine (isWidth_any _ _).mono ?_; rintro e w' ⟨rfl, rfl⟩)
  go_ret3
  exact ⟨rfl, rfl⟩
theorem rtake_no1 (A : Option Addr) (n c : Nat) (wd : Int) (big : Bool) (w : World) (hw : isW wd = false) :
    Calls Try.prog 28 #[.slice A n c, .int .i64 wd, .bool big] w fun e w' => e = .returned (.tuple #[.int .u64 0, .slice none 0 0, .int .i64 1]) ∧ w = w' := by
  go_enter Try.func28, Try.ntmps28
  go_wp2_with (go_at_call 33; refine (width_any _ _).mono ?_; rintro e w' ⟨rfl, rfl⟩)
  go_ret3
  exact ⟨rfl, rfl⟩
theorem rtake_no5 (A : Option Addr) (n c : Nat) (wd : Int) (big : Bool) (w : World) (hw : isW wd = true) (hlt : (n : Int) < wd) :
    Calls Try.prog 28 #[.slice A n c, .int .i64 wd, .bool big] w fun e w' => e = .returned (.tuple #[.int .u64 0, .slice none 0 0, .int .i64 5]) ∧ w = w' := by
  go_enter Try.func28, Try.ntmps28
  go_wp2_with (go_at_call 33; refine (width_any _ _).mono ?_; rintro e w' ⟨rfl, rfl⟩)
  go_ret3
  exact ⟨rfl, rfl⟩
def sgn (v n : Int) : Int := if n = 1 then (v + 128) % 256 - 128 else if n = 2 then (v + 32768) % 65536 - 32768 else if n = 4 then (v + 2147483648) % 4294967296 - 2147483648 else (v + 9223372036854775808) % 18446744073709551616 - 9223372036854775808
theorem signed_any (v n : Int) (w : World) (hn : isW n = true) (h0 : 0 ≤ v) (h1 : v < 18446744073709551616) : Calls Try.prog 27 #[.int .u64 v, .int .i64 n] w fun e w' => e = .returned (.tuple #[.int .i64 (sgn v n), .bool true]) ∧ w = w' := by
  have H1 := Lib.hid h1; clear h1
  rw [isW_iff] at hn
  rcases hn with rfl | rfl | rfl | rfl
  all_goals
    go_enter Try.func27, Try.ntmps27
    go_wp2
    go_ret2
    have h1 := H1.out
    simp [sgn, IntKind.wrap_u64]
    simp only [wrap64]
    omega
theorem rsigned_any (v n : Int) (w : World) (hn : isW n = true) (h0 : 0 ≤ v) (h1 : v < 18446744073709551616) : Calls Try.prog 29 #[.int .u64 v, .int .i64 n] w fun e w' => e = .returned (.tuple #[.int .i64 (sgn v n), .bool true]) ∧ w = w' := by
  have H1 := Lib.hid h1; clear h1
  rw [isW_iff] at hn
  rcases hn with rfl | rfl | rfl | rfl
  all_goals
    go_enter Try.func29, Try.ntmps29
    go_wp2
    go_ret2
    have h1 := H1.out
    simp [sgn, IntKind.wrap]
    try simp only [wrap64, wrap32]
    try simp [IntKind.signed, IntKind.bits]
    try split
    all_goals omega
theorem signed_no (v n : Int) (w : World) (hn : isW n = false) : Calls Try.prog 27 #[.int .u64 v, .int .i64 n] w fun e w' => e = .returned (.tuple #[.int .i64 0, .bool false]) ∧ w = w' := by
  go_enter Try.func27, Try.ntmps27
  go_wp2_with (go_at_call 31; refine (isWidth_any _ _).mono ?_; rintro e w' ⟨rfl, rfl⟩)
  go_ret2
  exact ⟨rfl, rfl⟩
theorem rsigned_no (v n : Int) (w : World) (hn : isW n = false) : Calls Try.prog 29 #[.int .u64 v, .int .i64 n] w fun e w' => e = .returned (.tuple #[.int .i64 0, .bool false]) ∧ w = w' := by
  simp only [isW, Bool.or_eq_false_iff] at hn
  obtain ⟨⟨⟨a, b⟩, c⟩, d⟩ := hn
  go_enter Try.func29, Try.ntmps29
  go_wp2
  go_ret2
  exact ⟨rfl, rfl⟩
def half (n : Int) : Int := if n = 1 then 128 else if n = 2 then 32768 else if n = 4 then 2147483648 else 9223372036854775808
def fitsB (v n : Int) (s : Bool) : Bool := isW n && (if s then decide (-half n ≤ v ∧ v < half n) else decide (0 ≤ v ∧ v < 2 * half n))
theorem fits_no (v n : Int) (s : Bool) (w : World) (hn : isW n = false) : Calls Try.prog 22 #[.int .i64 v, .int .i64 n, .bool s] w fun e w' => e = .returned (.bool false) ∧ w = w' := by
  go_enter Try.func22, Try.ntmps22
  go_wp2_with (go_at_call 31; refine (isWidth_any _ _).mono ?_; rintro e w' ⟨rfl, rfl⟩)
  go_ret
  exact ⟨rfl, rfl⟩
theorem rfits_no (v n : Int) (s : Bool) (w : World) (hn : isW n = false) : Calls Try.prog 24 #[.int .i64 v, .int .i64 n, .bool s] w fun e w' => e = .returned (.bool false) ∧ w = w' := by
  go_enter Try.func24, Try.ntmps24
  go_wp2_with (go_at_call 33; refine (width_any _ _).mono ?_; rintro e w' ⟨rfl, rfl⟩)
  go_ret
  exact ⟨rfl, rfl⟩
theorem fits_s (v n : Int) (w : World) (hn : isW n = true) (h0 : -9223372036854775808 ≤ v) (h1 : v < 9223372036854775808) : Calls Try.prog 22 #[.int .i64 v, .int .i64 n, .bool true] w fun e w' => e = .returned (.bool (fitsB v n true)) ∧ w = w' := by
  have H0 := Lib.hid h0; clear h0
  have H1 := Lib.hid h1; clear h1
  go_enter Try.func22, Try.ntmps22
  go_wp2_with (first
    | (go_at_call 31; refine (isWidth_any _ _).mono ?_; rintro e w' ⟨rfl, rfl⟩)
    | (go_at_call 27; refine (signed_any _ _ _ hn (by rw [IntKind.wrap_u64]; omega) (by rw [IntKind.wrap_u64]; omega)).mono ?_; rintro e w' ⟨rfl, rfl⟩))
  go_ret
  have h0 := H0.out
  have h1 := H1.out
  rw [isW_iff] at hn
  rcases hn with rfl | rfl | rfl | rfl
  all_goals
    simp [fitsB, half, isW, sgn, IntKind.wrap_u64]
    rw [Bool.eq_iff_iff]
    simp
    omega
theorem fits_u (v n : Int) (w : World) (hn : isW n = true) (h0 : -9223372036854775808 ≤ v) (h1 : v < 9223372036854775808) : Calls Try.prog 22 #[.int .i64 v, .int .i64 n, .bool false] w fun e w' => e = .returned (.bool (fitsB v n false)) ∧ w = w' := by
  have H0 := Lib.hid h0; clear h0
  have H1 := Lib.hid h1; clear h1
  rw [isW_iff] at hn
  rcases hn with rfl | rfl | rfl | rfl
  all_goals
    go_enter Try.func22, Try.ntmps22
    go_wp2
    all_goals go_ret
    all_goals have h0 := H0.out
    all_goals have h1 := H1.out
    all_goals simp [fitsB, half, isW]
    all_goals try omega
def rsSlots (b n : Nat) : Int := 256 ^ n
theorem rfits_any (v n : Int) (s : Bool) (w : World) (hn : isW n = true) (h0 : -9223372036854775808 ≤ v) (h1 : v < 9223372036854775808) : Calls Try.prog 24 #[.int .i64 v, .int .i64 n, .bool s] w fun e w' => e = .returned (.bool (fitsB v n s)) ∧ w = w' := by
  have H0 := Lib.hid h0; clear h0
  have H1 := Lib.hid h1; clear h1
  by_cases h8 : n = 8
  · subst h8
    cases s
    all_goals
      go_enter Try.func24, Try.ntmps24
      go_wp2
      all_goals go_ret
      all_goals have h0 := H0.out
      all_goals have h1 := H1.out
      all_goals simp [fitsB, half, isW]
      all_goals try omega
  · have hn' : n = 1 ∨ n = 2 ∨ n = 4 := by rw [isW_iff] at hn; omega
    have e8 : (n == 8) = false := by simp; exact h8
    have hb : 1 ≤ n ∧ n ≤ 4 := by omega
    obtain ⟨hb1, hb2⟩ := hb
    go_enter Try.func24, Try.ntmps24
    go_wp2_with (go_at_call 33; refine (width_any _ _).mono ?_; rintro e w' ⟨rfl, rfl⟩)
    go_loop [7, 8] (fun a i => ∃ k : Nat, (k : Int) ≤ n ∧ i = .int .i64 k ∧ a = .int .i64 (256 ^ k)) (fun _ i => n.toNat - (intOf i).toNat)
    case atStart => exact ⟨0, by omega, rfl, rfl⟩
    case round =>
      obtain ⟨k, hk, rfl, rfl⟩ := hrel
      by_cases hlt : (k : Int) < n
      · have hk3 : k = 0 ∨ k = 1 ∨ k = 2 ∨ k = 3 := by omega
        go_wp2
        go_round
        case rel => exact ⟨k + 1, by omega, by go_num, by rcases hk3 with rfl | rfl | rfl | rfl <;> simp [wrap64]⟩
        case measure => simp [intOf]; omega
      · obtain ⟨A, hA⟩ : ∃ A : Int, A = 256 ^ k := ⟨_, rfl⟩
        rw [← hA]
        have hA2 : A = 2 * half n ∧ 256 ≤ A ∧ A ≤ 4294967296 := by
          rcases hn' with rfl | rfl | rfl
          · obtain rfl : k = 1 := by omega
            rw [hA]; decide
          · obtain rfl : k = 2 := by omega
            rw [hA]; decide
          · obtain rfl : k = 4 := by omega
            rw [hA]; decide
        obtain ⟨a1, a2, a3⟩ := hA2
        clear hA
        have HA := Lib.hid a1; clear a1
        cases s
        all_goals
          go_wp2
          all_goals go_ret
          all_goals have h0 := H0.out
          all_goals have h1 := H1.out
          all_goals have ha := HA.out
          all_goals simp [fitsB, hn]
          all_goals have e3 : A.tdiv 2 = A / 2 := Int.tdiv_eq_ediv_of_nonneg (by omega)
          all_goals (try simp only [wrap64] at *)
          all_goals (try rw [e3] at *)
          all_goals first | omega | (rw [Bool.eq_iff_iff]; simp; omega)
theorem fits_any (v n : Int) (s : Bool) (w : World) (hn : isW n = true) (h0 : -9223372036854775808 ≤ v) (h1 : v < 9223372036854775808) : Calls Try.prog 22 #[.int .i64 v, .int .i64 n, .bool s] w fun e w' => e = .returned (.bool (fitsB v n s)) ∧ w = w' := by
  cases s
  · exact fits_u v n w hn h0 h1
  · exact fits_s v n w hn h0 h1
theorem wof (w : Int) (h0 : 0 ≤ w) (h1 : w < 256) : ∃ k : Nat, isW k = true ∧ (k : Int) ≤ 8 ∧ 1 ≤ (k : Int) ∧ ((w % 4 = 0 ∧ k = 1) ∨ (w % 4 = 1 ∧ k = 2) ∨ (w % 4 = 2 ∧ k = 4) ∨ (w % 4 = 3 ∧ k = 8)) := by
  have : w % 4 = 0 ∨ w % 4 = 1 ∨ w % 4 = 2 ∨ w % 4 = 3 := by omega
  rcases this with h | h | h | h
  · exact ⟨1, rfl, by omega, by omega, .inl ⟨h, rfl⟩⟩
  · exact ⟨2, rfl, by omega, by omega, .inr (.inl ⟨h, rfl⟩)⟩
  · exact ⟨4, rfl, by omega, by omega, .inr (.inr (.inl ⟨h, rfl⟩))⟩
  · exact ⟨8, rfl, by omega, by omega, .inr (.inr (.inr ⟨h, rfl⟩))⟩
theorem back_eq (v : Int) (k : Nat) (big : Bool) (hk : isW k = true) (h0 : 0 ≤ v) (h1 : v < 2 ^ 64) : takeTo (putB v k big) k big k = v % (2 * half k) := by
  rw [isW_iff] at hk
  have : k = 1 ∨ k = 2 ∨ k = 4 ∨ k = 8 := by omega
  rcases this with rfl | rfl | rfl | rfl <;> cases big <;> simp [takeTo, putB, shf, List.range_succ, half] <;> omega
theorem fits1 (v : Int) (k : Nat) (hk : isW k = true) (h0 : -9223372036854775808 ≤ v) (h1 : v < 9223372036854775808) : fitsB v k true = (sgn (IntKind.u64.wrap v % (2 * half k)) k == v) := by
  rw [isW_iff] at hk
  have : k = 1 ∨ k = 2 ∨ k = 4 ∨ k = 8 := by omega
  rw [Bool.eq_iff_iff]
  rcases this with rfl | rfl | rfl | rfl <;> simp [fitsB, isW, half, sgn, IntKind.wrap_u64] <;> omega
theorem fits0 (v : Int) (k : Nat) (hk : isW k = true) (h0 : -9223372036854775808 ≤ v) (h1 : v < 9223372036854775808) : fitsB v k false = (decide (0 ≤ v) && (IntKind.u64.wrap v % (2 * half k) == IntKind.u64.wrap v)) := by
  rw [isW_iff] at hk
  have : k = 1 ∨ k = 2 ∨ k = 4 ∨ k = 8 := by omega
  rw [Bool.eq_iff_iff]
  rcases this with rfl | rfl | rfl | rfl <;> simp [fitsB, isW, half, IntKind.wrap_u64] <;> omega
theorem and_mask (v : Int) (k : Nat) (hk : isW k = true) (h0 : 0 ≤ v) (h1 : v < 18446744073709551616) : bits .and .u64 v (2 * half k - 1) = v % (2 * half k) := by
  have key : ∀ i : Nat, i ≤ 64 → bits .and .u64 v (2 ^ i - 1) = v % 2 ^ i := fun i hi => by
    have := bits_mask .u64 64 (by decide) (fun n h h' => by rw [IntKind.wrap_u64]; omega) i hi v h0 (by simpa using h1)
    simpa using this
  rw [isW_iff] at hk
  have : k = 1 ∨ k = 2 ∨ k = 4 ∨ k = 8 := by omega
  rcases this with rfl | rfl | rfl | rfl
  · exact key 8 (by omega)
  · exact key 16 (by omega)
  · exact key 32 (by omega)
  · exact key 64 (by omega)
def vOf : List Int → Int
  | [] => 0
  | b :: bs => b * 256 ^ bs.length + vOf bs
theorem vOf_bd : ∀ {xs : List Int}, Byts xs → 0 ≤ vOf xs ∧ vOf xs < 256 ^ xs.length
  | [], _ => by simp [vOf]
  | b :: bs, h => by
    obtain ⟨h1, h2⟩ := vOf_bd (xs := bs) (fun x hx => h x (List.mem_cons_of_mem _ hx))
    obtain ⟨b1, b2⟩ := h b List.mem_cons_self
    have hp : (0:Int) < 256 ^ bs.length := Int.pow_pos (by omega)
    have h3 : b * 256 ^ bs.length ≤ 255 * 256 ^ bs.length := Int.mul_le_mul_of_nonneg_right (by omega) (by omega)
    have h4 : 0 ≤ b * 256 ^ bs.length := Int.mul_nonneg b1 (by omega)
    simp only [vOf, List.length_cons, Int.pow_succ]
    omega
theorem u8_lt {a b : Int} (ha : 0 ≤ a ∧ a < 256) (hb : 0 ≤ b ∧ b < 256) : (decide (UInt8.ofNat a.toNat < UInt8.ofNat b.toNat) = decide (a < b)) ∧ ((UInt8.ofNat a.toNat == UInt8.ofNat b.toNat) = decide (a = b)) := by
  have e1 : (UInt8.ofNat a.toNat).toNat = a.toNat := by simp; omega
  have e2 : (UInt8.ofNat b.toNat).toNat = b.toNat := by simp; omega
  constructor
  · rw [decide_eq_decide, UInt8.lt_iff_toNat_lt, e1, e2]; omega
  · rw [Bool.eq_iff_iff]
    simp only [beq_iff_eq, decide_eq_true_eq, ← UInt8.toNat_inj, e1, e2]
    omega
theorem order_eq : ∀ {xs ys : List Int}, Byts xs → Byts ys → xs.length = ys.length →
    Op.bytesLess (xs.map fun n => UInt8.ofNat n.toNat) (ys.map fun n => UInt8.ofNat n.toNat) = decide (vOf xs < vOf ys) ∧ ((xs.map fun n => UInt8.ofNat n.toNat) == (ys.map fun n => UInt8.ofNat n.toNat)) = decide (vOf xs = vOf ys)
  | [], [], _, _, _ => by simp [vOf, Op.bytesLess]
  | a :: xs, b :: ys, ha, hb, hl => by
    have hx : Byts xs := fun x hx => ha x (List.mem_cons_of_mem _ hx)
    have hy : Byts ys := fun x hx => hb x (List.mem_cons_of_mem _ hx)
    have hl' : xs.length = ys.length := by simpa using hl
    obtain ⟨i1, i2⟩ := order_eq hx hy hl'
    obtain ⟨x1, x2⟩ := vOf_bd hx
    obtain ⟨y1, y2⟩ := vOf_bd hy
    have a1 := ha a List.mem_cons_self
    have b1 := hb b List.mem_cons_self
    obtain ⟨l1, l2⟩ := u8_lt a1 b1
    rw [← hl'] at y2
    have hp : (0:Int) < 256 ^ xs.length := Int.pow_pos (by omega)
    generalize hP : (256:Int) ^ xs.length = P at *
    simp only [List.map_cons, Op.bytesLess, l1, l2, i1, vOf, ← hl', hP, List.cons_beq_cons, i2]
    have hlt : a < b → a * P + P ≤ b * P := fun h => by
      have : (a + 1) * P ≤ b * P := Int.mul_le_mul_of_nonneg_right (by omega) (by omega)
      rw [Int.add_mul] at this; omega
    have hgt : b < a → b * P + P ≤ a * P := fun h => by
      have : (b + 1) * P ≤ a * P := Int.mul_le_mul_of_nonneg_right (by omega) (by omega)
      rw [Int.add_mul] at this; omega
    constructor
    · rw [Bool.eq_iff_iff]
      simp only [Bool.or_eq_true, Bool.and_eq_true, decide_eq_true_eq]
      rcases Int.lt_trichotomy a b with h | h | h
      · have := hlt h; constructor <;> omega
      · subst h; omega
      · have := hgt h; constructor <;> omega
    · rw [Bool.eq_iff_iff]
      simp only [Bool.and_eq_true, decide_eq_true_eq]
      rcases Int.lt_trichotomy a b with h | h | h
      · have := hlt h; constructor <;> omega
      · subst h; omega
      · have := hgt h; constructor <;> omega
  | [], _ :: _, _, _, h => by simp at h
  | _ :: _, [], _, _, h => by simp at h
theorem vOf_put (v : Int) (k : Nat) (hk : isW k = true) : vOf (putB v k true) = v % (2 * half k) := by
  rw [isW_iff] at hk
  have : k = 1 ∨ k = 2 ∨ k = 4 ∨ k = 8 := by omega
  rcases this with rfl | rfl | rfl | rfl <;> simp [vOf, putB, shf, List.range_succ, half] <;> omega
theorem put_order (a b : Int) (k : Nat) (hk : isW k = true) :
    Op.bytesLess (strOfNums (putB a k true)).toList (strOfNums (putB b k true)).toList = decide (a % (2 * half k) < b % (2 * half k)) ∧ ((strOfNums (putB a k true)).toList == (strOfNums (putB b k true)).toList) = decide (a % (2 * half k) = b % (2 * half k)) := by
  rw [ByteArray.toList_eq, ByteArray.toList_eq, strOfNums_data, strOfNums_data, ← vOf_put a k hk, ← vOf_put b k hk]
  exact order_eq (putB_byts _ _ _) (putB_byts _ _ _) (by rw [putB_len, putB_len])
theorem wof2 (w : Int) (h0 : 0 ≤ w) (h1 : w < 256) : ∃ k : Nat, isW k = true ∧ (k : Int) ≤ 8 ∧ 1 ≤ (k : Int) ∧ wrap64 (2 ^ (w % 4).toNat) = (k : Int) := by
  have : w % 4 = 0 ∨ w % 4 = 1 ∨ w % 4 = 2 ∨ w % 4 = 3 := by omega
  rcases this with h | h | h | h <;> rw [h]
  · exact ⟨1, rfl, by omega, by omega, by simp [wrap64]⟩
  · exact ⟨2, rfl, by omega, by omega, by simp [wrap64]⟩
  · exact ⟨4, rfl, by omega, by omega, by simp [wrap64]⟩
  · exact ⟨8, rfl, by omega, by omega, by simp [wrap64]⟩
theorem putB_get (v : Int) (k : Nat) (big : Bool) (j : Nat) (hj : j < k) : (putB v k big).getD j 0 = v / 2 ^ (shf j k big).toNat % 256 := by
  simp [putB, List.getD, hj]
theorem mirror (v : Int) (k : Nat) (big : Bool) (j : Nat) (hj : j < k) (bs : List Int) (N : Nat) (hN : bs.length = N) : (bs ++ putB v k big).getD (N + k - 1 - j) 0 = (putB v k !big).getD j 0 := by
  rw [putB_get _ _ _ _ hj]
  have e : (bs ++ putB v k big).getD (N + k - 1 - j) 0 = (putB v k big).getD (k - 1 - j) 0 := by
    subst hN
    rw [List.getD_eq_getElem?_getD, List.getD_eq_getElem?_getD, List.getElem?_append_right (by omega)]
    congr 2
    omega
  rw [e, putB_get _ _ _ _ (by omega)]
  congr 3
  unfold shf
  cases big <;> simp <;> omega
theorem takeTo_app (xs ys : List Int) (n : Nat) (big : Bool) : ∀ k, k ≤ xs.length → takeTo (xs ++ ys) n big k = takeTo xs n big k
  | 0, _ => rfl
  | k + 1, h => by
    rw [takeTo, takeTo, takeTo_app xs ys n big k (by omega)]
    congr 2
    rw [List.getD_eq_getElem?_getD, List.getD_eq_getElem?_getD, List.getElem?_append_left (by omega)]
end Go.Proofs.Ytpjficfmmfdbjaa
