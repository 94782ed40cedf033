import Derived.Test.YtkagdklnfljkjaaD
namespace Go.Proofs.Ytkagdklnfljkjaa
open Go.RowKit

theorem wof (w : Int) (h0 : 0 ≤ w) (h1 : w < 256) : ∃ k : Nat, isW k = true ∧ (k : Int) ≤ 8 ∧ 1 ≤ (k : Int) ∧ ((w % 4 = 0 ∧ k = 1) ∨ (w % 4 = 1 ∧ k = 2) ∨ (w % 4 = 2 ∧ k = 4) ∨ (w % 4 = 3 ∧ k = 8)) := by
  have : w % 4 = 0 ∨ w % 4 = 1 ∨ w % 4 = 2 ∨ w % 4 = 3 := by omega
  rcases this with h | h | h | h
  · exact ⟨1, rfl, by omega, by omega, .inl ⟨h, rfl⟩⟩
  · exact ⟨2, rfl, by omega, by omega, .inr (.inl ⟨h, rfl⟩)⟩
  · exact ⟨4, rfl, by omega, by omega, .inr (.inr (.inl ⟨h, rfl⟩))⟩
  · exact ⟨8, rfl, by omega, by omega, .inr (.inr (.inr ⟨h, rfl⟩))⟩

theorem back_eq (v : Int) (k : Nat) (big : Bool) (hk : isW k = true) (h0 : 0 ≤ v) (h1 : v < 2 ^ 64) : takeTo (putB v k big) k big k = v % (2 * half k) := by
  rw [isW_iff] at hk
  have : k = 1 ∨ k = 2 ∨ k = 4 ∨ k = 8 := by omega
  rcases this with rfl | rfl | rfl | rfl <;> cases big <;> simp [takeTo, putB, shf, List.range_succ, half] <;> omega
theorem fits1 (v : Int) (k : Nat) (hk : isW k = true) (h0 : -9223372036854775808 ≤ v) (h1 : v < 9223372036854775808) : fitsB v k true = (sgn (IntKind.u64.wrap v % (2 * half k)) k == v) := by
  rw [isW_iff] at hk
  have : k = 1 ∨ k = 2 ∨ k = 4 ∨ k = 8 := by omega
  rw [Bool.eq_iff_iff]
  rcases this with rfl | rfl | rfl | rfl <;> simp [fitsB, isW, half, sgn, IntKind.wrap_u64] <;> omega
theorem fits0 (v : Int) (k : Nat) (hk : isW k = true) (h0 : -9223372036854775808 ≤ v) (h1 : v < 9223372036854775808) : fitsB v k false = (decide (0 ≤ v) && (IntKind.u64.wrap v % (2 * half k) == IntKind.u64.wrap v)) := by
  rw [isW_iff] at hk
  have : k = 1 ∨ k = 2 ∨ k = 4 ∨ k = 8 := by omega
  rw [Bool.eq_iff_iff]
  rcases this with rfl | rfl | rfl | rfl <;> simp [fitsB, isW, half, IntKind.wrap_u64] <;> omega

set_option maxHeartbeats 800000 in
theorem NumFits_law (w : World) (v : Int) (h0 : -9223372036854775808 ≤ v) (h1 : v < 9223372036854775808) (x : Int) (h2 : 0 ≤ x) (h3 : x < 256) :
    Calls Try.prog 6 #[.int .i64 v, .int .u8 x] w fun e w' => e = .returned (.bool true) ∧ Ext w w' := by
  obtain ⟨k, hk, hk8, hk1, hx⟩ := wof x h2 h3
  have hu0 : 0 ≤ IntKind.u64.wrap v := by rw [IntKind.wrap_u64]; omega
  have hu1 : IntKind.u64.wrap v < 2 ^ 64 := by rw [IntKind.wrap_u64]; omega
  have HB := Lib.hid (back_eq _ k true hk hu0 hu1)
  have F1 := Lib.hid (fits1 v k hk h0 h1)
  have F0 := Lib.hid (fits0 v k hk h0 h1)
  have HU := Lib.hid hu1; clear hu1
  have H0 := Lib.hid h0; clear h0
  have H1 := Lib.hid h1; clear h1
  have e : ∃ m, m = IntKind.u64.wrap v % (2 * half k) ∧ 0 ≤ m ∧ Hid (m < 18446744073709551616) := by
    refine ⟨_, rfl, ?_, ?_⟩
    · apply Int.emod_nonneg; unfold half; split <;> (try split) <;> (try split) <;> omega
    · show _ < _
      have h4 : 0 < 2 * half k := by unfold half; split <;> (try split) <;> (try split) <;> omega
      have h5 : 2 * half k ≤ 18446744073709551616 := by unfold half; split <;> (try split) <;> (try split) <;> omega
      have := Int.emod_lt_of_pos (IntKind.u64.wrap v) h4
      omega
  obtain ⟨m, hm, hm0, hm1⟩ := e
  rw [← hm] at HB F1 F0
  clear hm
  rcases hx with ⟨hx, hk'⟩ | ⟨hx, hk'⟩ | ⟨hx, hk'⟩ | ⟨hx, hk'⟩
  all_goals
    subst hk'
    go_enter Try.func6, Try.ntmps6
    go_wp2_with (first
      | (go_at_call 14; refine (shown_any _).mono ?_; rintro e w5 ⟨rfl, x5⟩)
      | (go_at_call 9; refine (put_any none 0 0 [] _ _ true _ Rd.nil (by omega) hk hu0 HU.out).mono ?_; rintro e w1 ⟨A1, c1, rfl, h1, h2, x1, r1⟩)
      | (go_at_call 12; refine (take_any _ _ _ _ _ true _ r1 (by omega) h1 hk (by omega)).mono ?_; rintro e w3 ⟨A3, c3, he, h5, h6, x3, r3⟩; rw [List.nil_append, HB.out] at he; subst he)
      | (go_at_call 15; refine (signed_any _ _ _ hk hm0 hm1.out).mono ?_; rintro e w' ⟨rfl, rfl⟩)
      | (go_at_call 17; refine (fits_any _ _ _ _ hk H0.out H1.out).mono ?_; rintro e w' ⟨rfl, rfl⟩))
    all_goals go_ret
    all_goals refine ⟨?_, x5.trans (x1.trans x3)⟩
    all_goals have f1 := F1.out
    all_goals have f0 := F0.out
    all_goals simp_all
theorem and_mask (v : Int) (k : Nat) (hk : isW k = true) (h0 : 0 ≤ v) (h1 : v < 18446744073709551616) : bits .and .u64 v (2 * half k - 1) = v % (2 * half k) := by
  have key : ∀ i : Nat, i ≤ 64 → bits .and .u64 v (2 ^ i - 1) = v % 2 ^ i := fun i hi => by
    have := bits_mask .u64 64 (by decide) (fun n h h' => by rw [IntKind.wrap_u64]; omega) i hi v h0 (by simpa using h1)
    simpa using this
  rw [isW_iff] at hk
  have : k = 1 ∨ k = 2 ∨ k = 4 ∨ k = 8 := by omega
  rcases this with rfl | rfl | rfl | rfl
  · exact key 8 (by omega)
  · exact key 16 (by omega)
  · exact key 32 (by omega)
  · exact key 64 (by omega)
def vOf : List Int → Int
  | [] => 0
  | b :: bs => b * 256 ^ bs.length + vOf bs
theorem vOf_bd : ∀ {xs : List Int}, Byts xs → 0 ≤ vOf xs ∧ vOf xs < 256 ^ xs.length
  | [], _ => by simp [vOf]
  | b :: bs, h => by
    obtain ⟨h1, h2⟩ := vOf_bd (xs := bs) (fun x hx => h x (List.mem_cons_of_mem _ hx))
    obtain ⟨b1, b2⟩ := h b List.mem_cons_self
    have hp : (0:Int) < 256 ^ bs.length := Int.pow_pos (by omega)
    have h3 : b * 256 ^ bs.length ≤ 255 * 256 ^ bs.length := Int.mul_le_mul_of_nonneg_right (by omega) (by omega)
    have h4 : 0 ≤ b * 256 ^ bs.length := Int.mul_nonneg b1 (by omega)
    simp only [vOf, List.length_cons, Int.pow_succ]
    omega
theorem u8_lt {a b : Int} (ha : 0 ≤ a ∧ a < 256) (hb : 0 ≤ b ∧ b < 256) : (decide (UInt8.ofNat a.toNat < UInt8.ofNat b.toNat) = decide (a < b)) ∧ ((UInt8.ofNat a.toNat == UInt8.ofNat b.toNat) = decide (a = b)) := by
  have e1 : (UInt8.ofNat a.toNat).toNat = a.toNat := by simp; omega
  have e2 : (UInt8.ofNat b.toNat).toNat = b.toNat := by simp; omega
  constructor
  · rw [decide_eq_decide, UInt8.lt_iff_toNat_lt, e1, e2]; omega
  · rw [Bool.eq_iff_iff]
    simp only [beq_iff_eq, decide_eq_true_eq, ← UInt8.toNat_inj, e1, e2]
    omega
theorem order_eq : ∀ {xs ys : List Int}, Byts xs → Byts ys → xs.length = ys.length →
    Op.bytesLess (xs.map fun n => UInt8.ofNat n.toNat) (ys.map fun n => UInt8.ofNat n.toNat) = decide (vOf xs < vOf ys) ∧ ((xs.map fun n => UInt8.ofNat n.toNat) == (ys.map fun n => UInt8.ofNat n.toNat)) = decide (vOf xs = vOf ys)
  | [], [], _, _, _ => by simp [vOf, Op.bytesLess]
  | a :: xs, b :: ys, ha, hb, hl => by
    have hx : Byts xs := fun x hx => ha x (List.mem_cons_of_mem _ hx)
    have hy : Byts ys := fun x hx => hb x (List.mem_cons_of_mem _ hx)
    have hl' : xs.length = ys.length := by simpa using hl
    obtain ⟨i1, i2⟩ := order_eq hx hy hl'
    obtain ⟨x1, x2⟩ := vOf_bd hx
    obtain ⟨y1, y2⟩ := vOf_bd hy
    have a1 := ha a List.mem_cons_self
    have b1 := hb b List.mem_cons_self
    obtain ⟨l1, l2⟩ := u8_lt a1 b1
    rw [← hl'] at y2
    have hp : (0:Int) < 256 ^ xs.length := Int.pow_pos (by omega)
    generalize hP : (256:Int) ^ xs.length = P at *
    simp only [List.map_cons, Op.bytesLess, l1, l2, i1, vOf, ← hl', hP, List.cons_beq_cons, i2]
    have hlt : a < b → a * P + P ≤ b * P := fun h => by
      have : (a + 1) * P ≤ b * P := Int.mul_le_mul_of_nonneg_right (by omega) (by omega)
      rw [Int.add_mul] at this; omega
    have hgt : b < a → b * P + P ≤ a * P := fun h => by
      have : (b + 1) * P ≤ a * P := Int.mul_le_mul_of_nonneg_right (by omega) (by omega)
      rw [Int.add_mul] at this; omega
    constructor
    · rw [Bool.eq_iff_iff]
      simp only [Bool.or_eq_true, Bool.and_eq_true, decide_eq_true_eq]
      rcases Int.lt_trichotomy a b with h | h | h
      · have := hlt h; constructor <;> omega
      · subst h; omega
      · have := hgt h; constructor <;> omega
    · rw [Bool.eq_iff_iff]
      simp only [Bool.and_eq_true, decide_eq_true_eq]
      rcases Int.lt_trichotomy a b with h | h | h
      · have := hlt h; constructor <;> omega
      · subst h; omega
      · have := hgt h; constructor <;> omega
  | [], _ :: _, _, _, h => by simp at h
  | _ :: _, [], _, _, h => by simp at h
theorem vOf_put (v : Int) (k : Nat) (hk : isW k = true) : vOf (putB v k true) = v % (2 * half k) := by
  rw [isW_iff] at hk
  have : k = 1 ∨ k = 2 ∨ k = 4 ∨ k = 8 := by omega
  rcases this with rfl | rfl | rfl | rfl <;> simp [vOf, putB, shf, List.range_succ, half] <;> omega
theorem put_order (a b : Int) (k : Nat) (hk : isW k = true) :
    Op.bytesLess (strOfNums (putB a k true)).toList (strOfNums (putB b k true)).toList = decide (a % (2 * half k) < b % (2 * half k)) ∧ ((strOfNums (putB a k true)).toList == (strOfNums (putB b k true)).toList) = decide (a % (2 * half k) = b % (2 * half k)) := by
  rw [ByteArray.toList_eq, ByteArray.toList_eq, strOfNums_data, strOfNums_data, ← vOf_put a k hk, ← vOf_put b k hk]
  exact order_eq (putB_byts _ _ _) (putB_byts _ _ _) (by rw [putB_len, putB_len])

theorem wof2 (w : Int) (h0 : 0 ≤ w) (h1 : w < 256) : ∃ k : Nat, isW k = true ∧ (k : Int) ≤ 8 ∧ 1 ≤ (k : Int) ∧ wrap64 (2 ^ (w % 4).toNat) = (k : Int) := by
  have : w % 4 = 0 ∨ w % 4 = 1 ∨ w % 4 = 2 ∨ w % 4 = 3 := by omega
  rcases this with h | h | h | h <;> rw [h]
  · exact ⟨1, rfl, by omega, by omega, by simp [wrap64]⟩
  · exact ⟨2, rfl, by omega, by omega, by simp [wrap64]⟩
  · exact ⟨4, rfl, by omega, by omega, by simp [wrap64]⟩
  · exact ⟨8, rfl, by omega, by omega, by simp [wrap64]⟩
theorem NumOrder_law (w : World) (a : Int) (h0 : 0 ≤ a) (h1 : a < 18446744073709551616) (b : Int) (h2 : 0 ≤ b) (h3 : b < 18446744073709551616) (x : Int) (h4 : 0 ≤ x) (h5 : x < 256) :
    Calls Try.prog 7 #[.int .u64 a, .int .u64 b, .int .u8 x] w fun e w' => e = .returned (.bool true) ∧ Ext w w' := by
  obtain ⟨k, hk, hk8, hk1, hx⟩ := wof2 x h4 h5
  obtain ⟨o1, o2⟩ := put_order a b k hk
  have ma := and_mask a k hk h0 h1
  have mb := and_mask b k hk h2 h3
  have H1 : Hid (a < 2 ^ 64) := h1; clear h1
  have H3 : Hid (b < 2 ^ 64) := h3; clear h3
  generalize a % (2 * half k) = X at *
  generalize b % (2 * half k) = Y at *
  go_enter Try.func7, Try.ntmps7
  go_wp2_with (first
      | (go_at_call 14; (with_reducible refine (shown_any _).mono ?_); rintro e w5 ⟨rfl, x5⟩)
      | (go_at_call 19; (with_reducible refine (mask_any _ _ hk).mono ?_); rintro e w' ⟨rfl, rfl⟩)
      | (go_at_call 9; (with_reducible refine (put_any none 0 0 [] a _ true _ Rd.nil (by omega) hk h0 H1.out).mono ?_); rintro e w1 ⟨A1, c1, rfl, _, _, x1, r1⟩)
      | (go_at_call 9; (with_reducible refine (put_any none 0 0 [] b _ true _ Rd.nil (by omega) hk h2 H3.out).mono ?_); rintro e w2 ⟨A2, c2, rfl, _, _, x2, r2⟩; simp only [Nat.zero_add, List.nil_append] at r1 r2; have s1 := fun c => str (c := c) (r1.ext x2); have s2 := fun c => str (c := c) r2))
  all_goals go_ret
  all_goals refine ⟨?_, x5.trans (x1.trans x2)⟩
  all_goals simp_all
  all_goals (rw [Bool.eq_iff_iff]; simp)
end Go.Proofs.Ytkagdklnfljkjaa
