import Derived.Test.YtjfdcgpnjjhhoaaF
set_option linter.unusedVariables false
set_option linter.unusedSimpArgs false
namespace Go.Proofs.Ytjfdcgpnjjhhoaa
open Go.RowKit
set_option maxHeartbeats 1000000 in
theorem high_any (A : Option Addr) (n c : Nat) (bs : List Int) (w : World) (hr : Rd w A n bs) (hn : n ≤ 1000) :
    Calls Try.prog 18 #[.slice A n c] w fun e w' => e = .returned (.int .u32 (foldTo (dblS 4129) 65535 bs n)) ∧ w = w' := by
  have M0 : Hid ((0:Int) ≤ 4129 ∧ (4129:Int) < 65536) := by show _ ∧ _; decide
  have R0 : Hid ((0:Int) ≤ 65535 ∧ (65535:Int) < 65536) := by show _ ∧ _; decide
  go_enter Try.func18, Try.ntmps18
  go_wp2
  go_loop [3, 4, 5, 6] (fun v0 i _ _ => ∃ k : Nat, k ≤ n ∧ i = .int .i64 k ∧ v0 = .int .u32 (foldTo (dblS 4129) 65535 bs k)) (fun _ i _ _ => n - (intOf i).toNat)
  case atStart => exact ⟨0, Nat.zero_le _, rfl, rfl⟩
  case round =>
    obtain ⟨k, hk, rfl, rfl⟩ := hrel
    by_cases hlt : (k : Int) < n
    · obtain ⟨b, off, rfl, hbl, hcl⟩ := hr.cell (k := k) (by omega)
      obtain ⟨b0, b1⟩ := hr.byts.getD k
      have hfb := foldD_bd M0.out R0.out hr.byts k
      have HF : Hid (foldTo (dblS 4129) 65535 bs (k + 1) = it (dbl1 4129) 8 (bits .xor .u32 (foldTo (dblS 4129) 65535 bs k) (bs.getD k 0 * 256))) := rfl
      generalize foldTo (dblS 4129) 65535 bs k = q at *
      have hgd : bs.getD k 0 = bs[k]?.getD 0 := List.getD_eq_getElem?_getD
      generalize bs.getD k 0 = x at *
      have HG := Lib.hid hgd
      clear hgd
      have hxb : 0 ≤ bits .xor .u32 q (x * 256) ∧ bits .xor .u32 q (x * 256) < 65536 := xor_bd16 hfb (by omega)
      obtain ⟨hfb0, hfb1⟩ := hfb
      go_wp2
      go_loop [3, 5, 6] (fun v0 i _ => ∃ j : Nat, j ≤ 8 ∧ i = .int .i64 j ∧ v0 = .int .u32 (it (dbl1 4129) j (bits .xor .u32 q (x * 256)))) (fun _ i _ => 8 - (intOf i).toNat)
      case atStart => exact ⟨0, by omega, rfl, rfl⟩
      case round =>
        obtain ⟨j, hj, rfl, rfl⟩ := hrel
        by_cases hlt2 : (j : Int) < 8
        · have hb := it_bd (M := 65536) (fun r hr => dbl1_bd M0.out hr) hxb j
          generalize hq : it (dbl1 4129) j (bits .xor .u32 q (x * 256)) = z at hb
          obtain ⟨z0, z1⟩ := hb
          have HQ := Lib.hid hq
          clear hq
          have ht : (z * 2).tmod 65536 = z * 2 % 65536 := Int.tmod_eq_emod_of_nonneg (by omega)
          by_cases h1 : (32768 : Int) ≤ z
          · have HS := Lib.hid (show it (dbl1 4129) (j + 1) (bits .xor .u32 q (x * 256)) = bits .xor .u32 (z * 2 % 65536) 4129 by show dbl1 4129 (it (dbl1 4129) j (bits .xor .u32 q (x * 256))) = _; rw [HQ.out]; unfold dbl1; rw [if_pos h1])
            go_wp2
            go_round
            case rel => exact ⟨j + 1, by omega, by go_num, by rw [HS.out]⟩
            case measure => simp [intOf]; omega
          · have HS := Lib.hid (show it (dbl1 4129) (j + 1) (bits .xor .u32 q (x * 256)) = z * 2 % 65536 by show dbl1 4129 (it (dbl1 4129) j (bits .xor .u32 q (x * 256))) = _; rw [HQ.out]; unfold dbl1; rw [if_neg h1])
            go_wp2
            go_round
            case rel => exact ⟨j + 1, by omega, by go_num, by rw [HS.out]⟩
            case measure => simp [intOf]; omega
        · obtain rfl : j = 8 := by omega
          go_wp2
          go_round
          case rel => exact ⟨k + 1, by omega, by go_num, by rw [HF.out]⟩
          case measure => simp [intOf]; omega
    · obtain rfl : k = n := by omega
      go_wp2
      go_ret
      exact ⟨rfl, rfl⟩

def addTo (bs : List Int) (k : Nat) (big : Bool) : Nat → Int
  | 0 => 0
  | i + 1 => (addTo bs k big i + wordAt bs k big i) % 18446744073709551616
theorem addTo_bd (bs : List Int) (k : Nat) (big : Bool) : ∀ i, 0 ≤ addTo bs k big i ∧ addTo bs k big i < 18446744073709551616
  | 0 => by simp [addTo]
  | i + 1 => by simp only [addTo]; omega
set_option maxHeartbeats 1000000 in
theorem added_any (A : Option Addr) (n c : Nat) (bs : List Int) (k : Nat) (big : Bool) (w : World) (hr : Rd w A n bs) (hn : n ≤ 1000) (hnc : n ≤ c) (hcm : c ≤ maxLen) (hk : k = 1 ∨ k = 2 ∨ k = 4) (hm : n % k = 0) :
    Calls Try.prog 19 #[.slice A n c, .int .i64 k, .bool big] w fun e w' => e = .returned (.int .u64 (addTo bs k big (n / k))) ∧ Ext w w' := by
  have HW := Lib.hid hk
  have HM := Lib.hid hm
  have hk1 : 1 ≤ k := by omega
  have hk4 : k ≤ 4 := by omega
  have hw1 : isW k = true := by rw [isW_iff]; omega
  have HW1 := Lib.hid hw1
  clear hk hm hw1
  go_enter Try.func19, Try.ntmps19
  go_wp2
  go_loopw [7, 8, 9, 10, 11] (fun v7 v8 _ _ _ wr => ∃ i q : Nat, Hid (q = k * i) ∧ q ≤ n ∧ v8 = .int .i64 q ∧ v7 = .int .u64 (addTo bs k big i) ∧ Ext w wr) (fun _ v _ _ _ _ => n - (intOf v).toNat)
  case atStart => exact ⟨0, 0, rfl, Nat.zero_le _, rfl, rfl, Ext.refl _⟩
  case round =>
    obtain ⟨i, q, hq, hqn, rfl, rfl, xr⟩ := hrel
    by_cases hlt : (q : Int) < n
    · have hkn : q + k ≤ n := by
        have h1 := hq.out
        have h3 := HM.out
        obtain ⟨m, hm⟩ : ∃ m, n = k * m := ⟨n / k, (Nat.mul_div_cancel' (Nat.dvd_of_mod_eq_zero h3)).symm⟩
        have h4 : i < m := by
          rcases Nat.lt_or_ge i m with h | h
          · exact h
          · have := Nat.mul_le_mul_left k h
            omega
        have := Nat.mul_le_mul_left k (show i + 1 ≤ m by omega)
        rw [Nat.mul_add] at this
        omega
      have hqk : (q : Int) + k ≤ c := by omega
      have hqk0 : (0 : Int) ≤ (q : Int) + k := by omega
      have hqq : ((q : Int) + k).toNat = q + k := by omega
      have hqd : q + k - q = k := by omega
      have rr := hr.ext xr
      have rd := (rr.drop (k := q) hqn hnc).take (k := k) (by omega)
      obtain ⟨pA, hpA⟩ : ∃ p, (if c = q then A else Option.map (fun x => x.add q) A) = p := ⟨_, rfl⟩
      have rd2 : Rd wr pA k ((bs.drop q).take k) := by rw [← hpA]; exact rd
      have HT : Hid (takeTo ((bs.drop q).take k) k big k = wordAt bs k big i) := by show _ = _; unfold wordAt; rw [hq.out]
      obtain ⟨t0, t1⟩ := wordAt_bd hr.byts big i HW.out
      have t2 : wordAt bs k big i < 18446744073709551616 := by rcases HW.out with h | h | h <;> rw [h] at t1 <;> simp at t1 <;> rw [h] <;> omega
      obtain ⟨a0, a1⟩ := addTo_bd bs k big i
      have HS : Hid (addTo bs k big (i + 1) = (addTo bs k big i + wordAt bs k big i) % 18446744073709551616) := rfl
      clear t1 rd
      generalize addTo bs k big i = r at *
      generalize wordAt bs k big i = x at *
      go_wp2_with (go_at_call 26; (refine (rtake_any _ _ _ _ _ _ _ rd2 (by omega) (by omega) HW1.out (by omega)).mono ?_); rintro e w4 ⟨A4, c4, rfl, _, _, x4, _⟩; rw [HT.out])
      go_roundw
      case rel => exact ⟨i + 1, q + k, by show _ = _; rw [hq.out, Nat.mul_succ], hkn, by go_num, by rw [HS.out, ← IntKind.wrap_u64], xr.trans x4⟩
      case measure => simp [intOf]; omega
    · obtain rfl : q = n := by omega
      have HV : Hid (q / k = i) := by show _ = _; rw [hq.out, Nat.mul_div_cancel_left _ (by omega)]
      go_wp2
      go_ret
      exact ⟨by rw [HV.out]; rfl, xr⟩
end Go.Proofs.Ytjfdcgpnjjhhoaa
