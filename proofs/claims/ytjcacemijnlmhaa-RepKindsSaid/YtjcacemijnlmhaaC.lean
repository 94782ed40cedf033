import Derived.Test.YtjcacemijnlmhaaB
set_option linter.unusedVariables false
namespace Go.Proofs.Ytjcacemijnlmhaa
open Go.RowKit
/-- What the bytes are: an error, or 0; kind, code, bytes. -/
def TK (bs : List Int) (err kind code : Int) (B : List Int) : Prop :=
  (bs.length = 0 ∧ err = 5 ∧ kind = 0 ∧ code = 0 ∧ B = []) ∨
  (bs.length = 1 ∧ (bs.getD 0 0 = 254 ∨ bs.getD 0 0 = 253) ∧ err = 5 ∧ kind = 0 ∧ code = 0 ∧ B = []) ∨
  (1 ≤ bs.length ∧ bs.getD 0 0 = 255 ∧ err = 0 ∧ kind = 1 ∧ code = 0 ∧ B = (bs.drop 1).take 7) ∨
  (2 ≤ bs.length ∧ bs.getD 0 0 = 254 ∧ err = 0 ∧ kind = 2 ∧ code = bs.getD 1 0 ∧ B = []) ∨
  (2 ≤ bs.length ∧ bs.getD 0 0 = 253 ∧ err = 0 ∧ kind = 3 ∧ code = bs.getD 1 0 ∧ B = (bs.drop 2).take 6) ∨
  (1 ≤ bs.length ∧ bs.getD 0 0 ≤ 191 ∧ err = 0 ∧ kind = 4 ∧ code = bs.getD 0 0 ∧ B = (bs.drop 1).take 7) ∨
  (1 ≤ bs.length ∧ 191 < bs.getD 0 0 ∧ bs.getD 0 0 < 253 ∧ err = 1 ∧ kind = 0 ∧ code = 0 ∧ B = [])
theorem TK.det {bs : List Int} {e k c e' k' c' : Int} {B B' : List Int} (h : TK bs e k c B) (h' : TK bs e' k' c' B') : e = e' ∧ k = k' ∧ c = c' ∧ B = B' := by
  unfold TK at h h'
  generalize bs.getD 0 0 = x at *
  generalize bs.getD 1 0 = y at *
  generalize (bs.drop 1).take 7 = p at *
  generalize (bs.drop 2).take 6 = q at *
  rcases h with h | h | h | h | h | h | h <;> rcases h' with h' | h' | h' | h' | h' | h' | h' <;> first | (exfalso; omega) | (refine ⟨by omega, by omega, by omega, ?_⟩; simp_all)
def TakesR (f : FuncId) : Prop := ∀ (A : Option Addr) (n c : Nat) (bs : List Int) (w : World), Rd w A n bs → n ≤ 20 → n ≤ c →
  Calls Try.prog f #[.slice A n c] w fun e w' => ∃ err kind code B A' m c', e = .returned (.tuple #[.agg #[.int .u8 kind, .int .u8 code, .slice A' m c'], .int .i64 err]) ∧ TK bs err kind code B ∧ Ext w w' ∧ Rd w' A' m B ∧ m ≤ c' ∧ c' ≤ maxLen
theorem upTo_any (A : Option Addr) (n c : Nat) (bs : List Int) (m : Int) (w : World) (hr : Rd w A n bs) (hn : n ≤ 1000) (hnc : n ≤ c) (h0 : 0 ≤ m) (h1 : m ≤ 100) :
    Calls Try.prog 18 #[.slice A n c, .int .i64 m] w fun e w' => ∃ A' c', e = .returned (.slice A' (min n m.toNat) c') ∧ min n m.toNat ≤ c' ∧ c' ≤ maxLen ∧ Ext w w' ∧ Rd w' A' (min n m.toNat) (bs.take m.toNat) ∧ ∀ ad, A' = some ad → w.heap.size ≤ ad.block := by
  obtain ⟨M, rfl⟩ := Int.eq_ofNat_of_zero_le h0
  have ht := hr.take (k := min n M) (by omega)
  have e : bs.take (min n M) = bs.take M := by
    rcases Nat.le_total n M with h | h
    · rw [Nat.min_eq_left h, List.take_of_length_le (by rw [hr.len]; exact Nat.le_refl _), List.take_of_length_le (by rw [hr.len]; exact h)]
    · rw [Nat.min_eq_right h]
  rw [e] at ht
  have hmn : min n M ≤ 1000 := by omega
  by_cases h : (M : Int) < n
  · have em : min n M = M := by omega
    rw [em] at ht hmn
    simp only [Int.toNat_natCast, em]
    clear e em
    have hMc : (M : Int) ≤ c := by omega
    go_enter Try.func18, Try.ntmps18
    go_wp2_with (go_at_call 19; (with_reducible refine (clone_any _ _ _ _ _ ht hmn).mono ?_); rintro e w1 ⟨A', c', rfl, l1, l2, x1, r1, f1⟩)
    go_ret
    exact ⟨A', c', rfl, l1, l2, x1, r1, f1⟩
  · have em : min n M = n := by omega
    rw [em] at ht hmn
    simp only [Int.toNat_natCast, em]
    clear e em
    have hMc : (n : Int) ≤ c := by omega
    go_enter Try.func18, Try.ntmps18
    go_wp2_with (go_at_call 19; (with_reducible refine (clone_any _ _ _ _ _ ht hmn).mono ?_); rintro e w1 ⟨A', c', rfl, l1, l2, x1, r1, f1⟩)
    go_ret
    exact ⟨A', c', rfl, l1, l2, x1, r1, f1⟩
theorem all3 {n c : Nat} {x y : Int} {A : Option Addr} : (#[.int .u8 x, .int .u8 y, .slice A n c] : Array Value).all Value.oneCell' = true := by simp [Value.oneCell']
theorem Rd.drop' {w : World} {b o n k : Nat} {bs : List Int} (h : Rd w (some ⟨b, o, none⟩) n bs) (hk : k ≤ n) (h0 : 0 < k) : Rd w (some ⟨b, o + k, none⟩) (n - k) (bs.drop k) := by
  have := h.drop (k := k) (cap := k + 1 + n) hk (by omega)
  rw [if_neg (by omega)] at this
  simpa [Addr.add, show ¬ k = 0 by omega] using this
theorem take_P (A : Option Addr) (n c : Nat) (bs : List Int) (w : World) (hr : Rd w A n bs) (hn : n ≤ 20) (hnc : n ≤ c) (hpos : 0 < n) (x : Int) (HX : Hid (x = bs.getD 0 0)) (x0 : 0 ≤ x) (x1 : x < 256) (hx : x = 255) : Calls Try.prog 14 #[.slice A n c] w fun e w' => ∃ err kind code B A' m c', e = .returned (.tuple #[.agg #[.int .u8 kind, .int .u8 code, .slice A' m c'], .int .i64 err]) ∧ TK bs err kind code B ∧ Ext w w' ∧ Rd w' A' m B ∧ m ≤ c' ∧ c' ≤ maxLen := by
  have hl := hr.len
  obtain ⟨bb, off, rfl, hbb, hc0⟩ := hr.cell hpos
  simp only [Nat.add_zero] at hc0
  have hn0 : (0 : Int) < n := by omega
  have hne : ((n : Int) == 0) = false := by simp; omega
  have htk : Hid (TK bs 0 1 0 ((bs.drop 1).take 7)) := .inr (.inr (.inl ⟨by omega, by rw [← HX.out, hx], rfl, rfl, rfl, rfl⟩))
  rw [← HX.out, hx] at hc0
  clear HX hx x0 x1
  by_cases h1 : n = 1
  · have e0 : bs.drop 1 = [] := List.drop_eq_nil_of_le (by omega)
    rw [e0] at htk
    clear e0 hl
    subst h1
    by_cases hcap : c = 1
    · subst hcap
      go_enter Try.func14, Try.ntmps14
      go_wp2_with (first
        | (go_at_call 18; (with_reducible refine (upTo_any _ _ _ _ 7 _ (Rd.nil) (by omega) (by omega) (by omega) (by omega)).mono ?_); rintro e w1 ⟨A', c', rfl, l1, l2, x1, r1, f1⟩; have hz := blk_of x1)
        | (refine wpList_strow rfl 24 (.tmp 2) (.tmp 35) rfl hz rfl rfl (by kernel_rfl) rfl all3 ?_; intro w2 hg2 hw2))
      refine bodyPost_ret (results_row2 rfl rfl hg2.out Try.underlying24 rfl (by kernel_rfl)) rfl ⟨0, 1, 0, _, A', _, c', rfl, htk.out, (((Ext.refl _).alloc _).trans x1).of_grown hw2 (fun k hk => by simp at hk; omega), r1.grown hw2 (fun ad e h => by have := f1 ad e; simp at h this; omega), l1, l2⟩
    · go_enter Try.func14, Try.ntmps14
      go_wp2_with (first
        | (go_at_call 18; (with_reducible refine (upTo_any _ _ _ _ 7 _ (Rd.nil) (by omega) (by omega) (by omega) (by omega)).mono ?_); rintro e w1 ⟨A', c', rfl, l1, l2, x1, r1, f1⟩; have hz := blk_of x1)
        | (refine wpList_strow rfl 24 (.tmp 2) (.tmp 35) rfl hz rfl rfl (by kernel_rfl) rfl all3 ?_; intro w2 hg2 hw2))
      refine bodyPost_ret (results_row2 rfl rfl hg2.out Try.underlying24 rfl (by kernel_rfl)) rfl ⟨0, 1, 0, _, A', _, c', rfl, htk.out, (((Ext.refl _).alloc _).trans x1).of_grown hw2 (fun k hk => by simp at hk; omega), r1.grown hw2 (fun ad e h => by have := f1 ad e; simp at h this; omega), l1, l2⟩
  · have hn1 : ((n : Int) == 1) = false := by simp; omega
    have hc1 : ¬ c = 1 := by omega
    have hd := hr.drop' (k := 1) (by omega) (by omega)
    have H1 := Lib.hid h1; clear h1 hl
    go_enter Try.func14, Try.ntmps14
    go_wp2_with (first
      | (go_at_call 18; (with_reducible refine (upTo_any _ _ _ _ 7 _ (hd.ext ((Ext.refl _).alloc _)) (by omega) (by omega) (by omega) (by omega)).mono ?_); rintro e w1 ⟨A', c', rfl, l1, l2, x1, r1, f1⟩; have hz := blk_of x1)
      | (refine wpList_strow rfl 24 (.tmp 2) (.tmp 35) rfl hz rfl rfl (by kernel_rfl) rfl all3 ?_; intro w2 hg2 hw2))
    refine bodyPost_ret (results_row2 rfl rfl hg2.out Try.underlying24 rfl (by kernel_rfl)) rfl ⟨0, 1, 0, _, A', _, c', rfl, htk.out, (((Ext.refl _).alloc _).trans x1).of_grown hw2 (fun k hk => by simp at hk; omega), r1.grown hw2 (fun ad e h => by have := f1 ad e; simp at h this; omega), l1, l2⟩
end Go.Proofs.Ytjcacemijnlmhaa
