import Derived.Test.YtjfdcgpnjjhhoaaE
set_option linter.unusedVariables false
set_option linter.unusedSimpArgs false
namespace Go.Proofs.Ytjfdcgpnjjhhoaa
open Go.RowKit
theorem wordAt1 (bs : List Int) (big : Bool) (i : Nat) (h : i < bs.length) : wordAt bs 1 big i = bs.getD i 0 := by
  have e : (bs.drop (1 * i)).take 1 = [bs.getD i 0] := by
    rw [Nat.one_mul, List.drop_eq_getElem_cons h, List.take_succ_cons, List.take_zero, List.getD_eq_getElem?_getD, List.getElem?_eq_getElem h]
    rfl
  unfold wordAt
  rw [e]
  cases big <;> simp [takeTo, shf]
def foldTo (S : Int → Int → Int) (s : Int) (bs : List Int) : Nat → Int
  | 0 => s
  | i + 1 => S (foldTo S s bs i) (bs.getD i 0)
theorem fold_eq (y : Way) (big : Bool) (bs : List Int) (hw : y.word = 1) : ∀ i, i ≤ bs.length → sumTo y big bs i = foldTo (stepW y.fn y.m) y.start bs i
  | 0, _ => rfl
  | i + 1, h => by
    show stepW y.fn y.m (sumTo y big bs i) (wordAt bs y.word big i) = stepW y.fn y.m (foldTo (stepW y.fn y.m) y.start bs i) (bs.getD i 0)
    rw [fold_eq y big bs hw i (by omega), hw, wordAt1 bs big i (by omega)]
theorem foldH_bd {b s : Int} {bs : List Int} (hb : 0 ≤ b ∧ b < 4294967296) (hs : 0 ≤ s ∧ s < 4294967296) (hy : Byts bs) : ∀ i, 0 ≤ foldTo (halfS b) s bs i ∧ foldTo (halfS b) s bs i < 4294967296
  | 0 => hs
  | i + 1 => halfS_bd hb (foldH_bd hb hs hy i) (by have := hy.getD i; omega)
theorem foldD_bd {b s : Int} {bs : List Int} (hb : 0 ≤ b ∧ b < 65536) (hs : 0 ≤ s ∧ s < 65536) (hy : Byts bs) : ∀ i, 0 ≤ foldTo (dblS b) s bs i ∧ foldTo (dblS b) s bs i < 65536
  | 0 => hs
  | i + 1 => dblS_bd hb (foldD_bd hb hs hy i) (hy.getD i)
set_option maxHeartbeats 1000000 in
theorem low_any (r m : Int) (A : Option Addr) (n c : Nat) (bs : List Int) (w : World) (hr : Rd w A n bs) (hn : n ≤ 1000) (m0 : 0 ≤ m ∧ m < 4294967296) (r0 : 0 ≤ r ∧ r < 4294967296) :
    Calls Try.prog 17 #[.int .u32 r, .int .u32 m, .slice A n c] w fun e w' => e = .returned (.int .u32 (foldTo (halfS m) r bs n)) ∧ w = w' := by
  have R0 := Lib.hid r0
  have M0 := Lib.hid m0
  clear r0 m0
  go_enter Try.func17, Try.ntmps17
  go_wp2
  go_loop [0, 7, 8, 9] (fun v0 i _ _ => ∃ k : Nat, k ≤ n ∧ i = .int .i64 k ∧ v0 = .int .u32 (foldTo (halfS m) r bs k)) (fun _ i _ _ => n - (intOf i).toNat)
  case atStart => exact ⟨0, Nat.zero_le _, rfl, rfl⟩
  case round =>
    obtain ⟨k, hk, rfl, rfl⟩ := hrel
    by_cases hlt : (k : Int) < n
    · obtain ⟨b, off, rfl, hbl, hcl⟩ := hr.cell (k := k) (by omega)
      obtain ⟨b0, b1⟩ := hr.byts.getD k
      have hfb := foldH_bd M0.out R0.out hr.byts k
      have HF : Hid (foldTo (halfS m) r bs (k + 1) = it (half1 m) 8 (bits .xor .u32 (foldTo (halfS m) r bs k) (bs.getD k 0))) := rfl
      generalize foldTo (halfS m) r bs k = q at *
      have hgd : bs.getD k 0 = bs[k]?.getD 0 := List.getD_eq_getElem?_getD
      generalize bs.getD k 0 = x at *
      have HG := Lib.hid hgd
      clear hgd
      have hxb : 0 ≤ bits .xor .u32 q x ∧ bits .xor .u32 q x < 4294967296 := xor_bd hfb (by omega)
      obtain ⟨hfb0, hfb1⟩ := hfb
      go_wp2
      go_loop [0, 8, 9] (fun v0 i _ => ∃ j : Nat, j ≤ 8 ∧ i = .int .i64 j ∧ v0 = .int .u32 (it (half1 m) j (bits .xor .u32 q x))) (fun _ i _ => 8 - (intOf i).toNat)
      case atStart => exact ⟨0, by omega, rfl, rfl⟩
      case round =>
        obtain ⟨j, hj, rfl, rfl⟩ := hrel
        by_cases hlt2 : (j : Int) < 8
        · have hb := it_bd (M := 4294967296) (fun r hr => half1_bd M0.out hr) hxb j
          generalize hq : it (half1 m) j (bits .xor .u32 q x) = z at hb
          obtain ⟨z0, z1⟩ := hb
          have HQ := Lib.hid hq
          clear hq
          have ht : z.tmod 2 = z % 2 := Int.tmod_eq_emod_of_nonneg z0
          have hd : z.tdiv 2 = z / 2 := Int.tdiv_eq_ediv_of_nonneg z0
          rcases (by omega : z % 2 = 1 ∨ z % 2 = 0) with h1 | h1
          · have HS := Lib.hid (show it (half1 m) (j + 1) (bits .xor .u32 q x) = bits .xor .u32 (z / 2) m by show half1 m (it (half1 m) j (bits .xor .u32 q x)) = _; rw [HQ.out]; unfold half1; rw [if_pos h1])
            go_wp2
            go_round
            case rel => exact ⟨j + 1, by omega, by go_num, by rw [HS.out]⟩
            case measure => simp [intOf]; omega
          · have HS := Lib.hid (show it (half1 m) (j + 1) (bits .xor .u32 q x) = z / 2 by show half1 m (it (half1 m) j (bits .xor .u32 q x)) = _; rw [HQ.out]; unfold half1; rw [if_neg (by omega)])
            go_wp2
            go_round
            case rel => exact ⟨j + 1, by omega, by go_num, by rw [HS.out]⟩
            case measure => simp [intOf]; omega
        · obtain rfl : j = 8 := by omega
          go_wp2
          go_round
          case rel => exact ⟨k + 1, by omega, by go_num, by rw [HF.out]⟩
          case measure => simp [intOf]; omega
    · obtain rfl : k = n := by omega
      go_wp2
      go_ret
      exact ⟨rfl, rfl⟩
end Go.Proofs.Ytjfdcgpnjjhhoaa
