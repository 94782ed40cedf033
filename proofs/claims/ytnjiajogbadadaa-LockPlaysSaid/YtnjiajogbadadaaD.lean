import Derived.Test.YtnjiajogbadadaaC
set_option linter.unusedVariables false
set_option linter.unusedSimpArgs false
namespace Go.Proofs.Ytnjiajogbadadaa
open Go.RowKit
set_option maxHeartbeats 1000000 in
theorem rkey_any (A : Option Addr) (n c : Nat) (bs : List Int) (res : Int) (w : World) (hr : Rd w A n bs) (hn : n ≤ 1000) (r0 : 0 ≤ res) (r1 : res < 256) :
    Calls Try.prog 16 #[.slice A n c, .int .u8 res] w fun e w' => ∃ A' c', e = .returned (.slice A' n c') ∧ n ≤ c' ∧ c' ≤ maxLen ∧ Ext w w' ∧ Rd w' A' n (keyB res bs) ∧ ∀ ad, A' = some ad → w.heap.size ≤ ad.block := by
  have hl := hr.len
  have HL := Lib.hid hl
  clear hl
  go_enter Try.func16, Try.ntmps16
  go_wp2
  go_loopw [5, 6, 7] (fun o i _ wr => ∃ k : Nat, k ≤ n ∧ i = .int .i64 k ∧ wr.ownsRow w.heap.size 5 1 o k (u8s ((keyB res bs).take k)) ∧ Ext w wr) (fun _ i _ _ => n - (intOf i).toNat)
  case atStart => exact ⟨0, Nat.zero_le _, rfl, by simpa [u8s] using ⟨rfl, .inl ⟨rfl, rfl⟩⟩, Ext.refl w⟩
  case round =>
    obtain ⟨k, hk, rfl, ho, xg⟩ := hrel
    by_cases hlt : k < n
    · have rk := hr.ext xg
      obtain ⟨q, hq⟩ : ∃ q : Nat, q = (k + 1) % n := ⟨_, rfl⟩
      have hqn : q < n := by rw [hq]; exact Nat.mod_lt _ (by omega)
      have hrem : ((k : Int) + 1).tmod n = q := by rw [hq, Int.tmod_eq_emod_of_nonneg (by omega)]; exact (Int.natCast_emod (k + 1) n).symm
      have hrq : ((k : Int) + 1) % n = q := by rw [hq]; exact (Int.natCast_emod (k + 1) n).symm
      obtain ⟨b, off, rfl, hbl, hcl⟩ := rk.cell (k := q) hqn
      have HK := Lib.hid (show keyAt res bs k = bits .xor .u8 (bs[q]?.getD 0) ((37 * res + 11 * k + 90) % 256) by unfold keyAt; rw [HL.out, hq, List.getD_eq_getElem?_getD])
      have HT := Lib.hid (show (keyB res bs).take (k + 1) = (keyB res bs).take k ++ [keyAt res bs k] by rw [List.take_add_one, keyB_get (by rw [HL.out]; exact hlt)]; rfl)
      have HQ := Lib.hid hq
      clear hq rk
      have hmt : (37 * res + 11 * (k : Int) + 90).tmod 256 = (37 * res + 11 * (k : Int) + 90) % 256 := Int.tmod_eq_emod_of_nonneg (by omega)
      have hmm : (37 * res + 11 * (k : Int) + 90) % 256 % 256 = (37 * res + 11 * (k : Int) + 90) % 256 := by omega
      have hne : ((n : Int) == 0) = false := by simp; omega
      go_wp2_with (at_builtin; refine wpList_app el29 rfl _ _ rfl (ho.alloc _) rfl (Shows.new1 _ _ _) rfl (by intro u hu; simp at hu; subst hu; rfl) (by simp only [maxLen]; omega) (by omega) rfl (xg.alloc _) ?_; intro v4 w4 own4 x4 hg4 hat4)
      go_roundw
      case rel => exact ⟨k + 1, by omega, by go_num, by rw [HT.out, u8s_append, HK.out]; exact own4, x4⟩
      case measure => simp [intOf]; omega
    · obtain rfl : k = n := by omega
      rw [List.take_of_length_le (by rw [keyB_len, HL.out]; exact Nat.le_refl _)] at ho
      obtain ⟨T, ct, rfl, lt, mt, rt, qt⟩ := own_rdF ho (keyB_byts hr.byts)
      go_wp2
      go_ret
      exact ⟨_, _, rfl, lt, mt, xg, rt, qt⟩
end Go.Proofs.Ytnjiajogbadadaa
