import Derived.Test.YtpjficfmmfdbjaaNum
set_option linter.unusedVariables false
set_option linter.unusedSimpArgs false
namespace Go.Proofs.Ytpjficfmmfdbjaa
open Go.RowKit
theorem ret_b {a b : Bool} (h : a = b) : Ending.returned (.bool a) = .returned (.bool b) := by rw [h]
def nameOk (l : List UInt8) : Bool := l.all fun c => decide (32 < c.toNat)
def nameB (s : ByteArray) : Bool := nameOk s.data.toList && decide (1 ≤ s.size) && decide (s.size ≤ 32)
theorem take_snoc (s : ByteArray) (k : Nat) (h : k < s.size) : s.data.toList.take (k + 1) = s.data.toList.take k ++ [s[k]] := by
  rw [List.take_succ_eq_append_getElem (by simpa using h)]; rfl
theorem nameOk_snoc {s : ByteArray} {k : Nat} (h : k < s.size) (ho : nameOk (s.data.toList.take k) = true) (hc : ¬ (s[k].toNat : Int) ≤ 32) : nameOk (s.data.toList.take (k + 1)) = true := by
  rw [take_snoc s k h]
  unfold nameOk at *
  rw [List.all_append, ho]
  simp
  omega
theorem nameOk_bad {s : ByteArray} {k : Nat} (h : k < s.size) (hc : (s[k].toNat : Int) ≤ 32) : nameOk s.data.toList = false := by
  unfold nameOk
  rw [List.all_eq_false]
  refine ⟨s[k], ?_, by simp; omega⟩
  have : s[k] = s.data.toList[k]'(by simpa using h) := rfl
  rw [this]
  exact List.getElem_mem _
theorem mayName_any (s : ByteArray) (w : World) (hs : s.size ≤ maxLen) :
    Calls Try.prog 30 #[.string s] w fun e w' => e = .returned (.bool (nameB s)) ∧ w = w' := by
  unfold maxLen at hs
  go_enter Try.func30, Try.ntmps30
  go_wp2
  go_loop [3, 6] (fun _ i => ∃ k : Nat, k ≤ s.size ∧ i = .int .i64 k ∧ Hid (nameOk (s.data.toList.take k) = true)) (fun _ i => s.size - (intOf i).toNat)
  case atStart => exact ⟨0, Nat.zero_le _, rfl, rfl⟩
  case round =>
    obtain ⟨k, hk, rfl, ho⟩ := hrel
    by_cases hlt : k < s.size
    · have hb := Lib.hid fun h => nameOk_bad hlt h
      have hg := Lib.hid fun h => nameOk_snoc hlt ho.out h
      by_cases hc : (s[k].toNat : Int) ≤ 32
      · have HB := Lib.hid (hb.out hc)
        go_wp2
        go_ret
        exact ⟨ret_b (by unfold nameB; rw [HB.out]; rfl), rfl⟩
      · have HG := Lib.hid (hg.out hc)
        go_wp2
        go_round
        case rel => exact ⟨k + 1, by omega, by go_num, HG.out⟩
        case measure => simp [intOf]; omega
    · obtain rfl : k = s.size := by omega
      have ho' : nameOk s.data.toList = true := by have := ho.out; rwa [List.take_of_length_le (by simp)] at this
      have HO := Lib.hid ho'
      clear ho' ho
      by_cases h1 : (1 : Int) ≤ s.size
      · go_wp2
        go_ret
        exact ⟨ret_b (by unfold nameB; rw [HO.out, Bool.eq_iff_iff]; simp; omega), rfl⟩
      · go_wp2
        go_ret
        exact ⟨ret_b (by unfold nameB; rw [HO.out, Bool.eq_iff_iff]; simp; omega), rfl⟩
def mayS (s : ByteArray) (wd mu : Int) : Bool := nameB s && (wd == 1 || wd == 2 || wd == 4) && decide (-16777216 ≤ mu) && decide (mu ≤ 16777216) && mu != 0
theorem may_any (s : ByteArray) (ar aa wd : Int) (bg sg : Bool) (mu ad : Int) (w : World) (hs : s.size ≤ maxLen) :
    Calls Try.prog 15 #[.agg #[.string s, .int .u8 ar, .int .u32 aa, .int .i64 wd, .bool bg, .bool sg, .int .i32 mu, .int .i32 ad]] w fun e w' => e = .returned (.bool (mayS s wd mu)) ∧ Ext w w' := by
  rcases hn : nameB s with _ | _
  · have HN := Lib.hid hn
    clear hn
    go_enter Try.func15, Try.ntmps15
    go_wp2_with (go_at_call 30; (with_reducible refine (mayName_any _ _ hs).mono ?_); rintro e w1 ⟨rfl, rfl⟩; rw [HN.out])
    go_ret
    exact ⟨ret_b (by simp [mayS, HN.out]), (Ext.refl _).alloc _⟩
  · have HN := Lib.hid hn
    clear hn
    go_enter Try.func15, Try.ntmps15
    go_wp2_with (go_at_call 30; (with_reducible refine (mayName_any _ _ hs).mono ?_); rintro e w1 ⟨rfl, rfl⟩; rw [HN.out])
    all_goals go_ret
    all_goals exact ⟨ret_b (by unfold mayS; rw [HN.out, Bool.eq_iff_iff]; simp; omega), (Ext.refl _).alloc _⟩
end Go.Proofs.Ytpjficfmmfdbjaa
