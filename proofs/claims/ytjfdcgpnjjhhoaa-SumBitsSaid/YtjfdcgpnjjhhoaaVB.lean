import Derived.Test.YtjfdcgpnjjhhoaaVA
import Derived.Laws.BitsAllLaws
set_option linter.unusedVariables false
set_option linter.unusedSimpArgs false
namespace Go.Proofs.Ytjfdcgpnjjhhoaa
open Go.RowKit
theorem xor_nat (a b : Nat) (ha : a < 4294967296) (hb : b < 4294967296) : bits .xor .u32 (a : Int) (b : Int) = ((a ^^^ b : Nat) : Int) := by
  rw [u32_xor _ _ (by omega) (by omega) (by omega) (by omega), Int.toNat_natCast, Int.toNat_natCast]
theorem xor_lt32 {a b : Nat} (ha : a < 4294967296) (hb : b < 4294967296) : a ^^^ b < 4294967296 := Nat.xor_lt_two_pow (n := 32) ha hb
theorem xor_lt16 {a b : Nat} (ha : a < 65536) (hb : b < 65536) : a ^^^ b < 65536 := Nat.xor_lt_two_pow (n := 16) ha hb
theorem hf_lt {p v : Nat} (hp : p < 4294967296) (hv : v < 4294967296) : hf p v < 4294967296 := by
  unfold hf; split
  · exact xor_lt32 (by omega) hp
  · omega
theorem half1_nat {p v : Nat} (hp : p < 4294967296) (hv : v < 4294967296) : half1 (p : Int) (v : Int) = (hf p v : Nat) := by
  unfold half1 hf
  by_cases h : v % 2 = 1
  · rw [if_pos (by omega), if_pos h, show ((v : Int) / 2) = ((v / 2 : Nat) : Int) by rfl]
    exact xor_nat _ _ (by omega) hp
  · rw [if_neg (by omega), if_neg h]; rfl
theorem it_half {p v : Nat} (hp : p < 4294967296) (hv : v < 4294967296) : ∀ n, it (half1 (p : Int)) n (v : Int) = (hfN p n v : Nat) ∧ hfN p n v < 4294967296
  | 0 => ⟨rfl, hv⟩
  | n + 1 => by
    obtain ⟨h1, h2⟩ := it_half hp hv n
    refine ⟨?_, hf_lt hp h2⟩
    show half1 (p : Int) (it (half1 (p : Int)) n v) = _
    rw [h1, half1_nat hp h2]; rfl
theorem byts_nat {bs : List Int} (h : Byts bs) : ∀ i : Nat, ∃ b : Nat, bs.getD i 0 = (b : Int) ∧ (bs.getD i 0).toNat = b ∧ b < 256 := fun i => by
  obtain ⟨h0, h1⟩ := h.getD i
  exact ⟨(bs.getD i 0).toNat, by omega, rfl, by omega⟩
theorem take_s (l : List Int) (i : Nat) (hi : i < l.length) : (l.map Int.toNat).take (i + 1) = (l.map Int.toNat).take i ++ [(l.getD i 0).toNat] := by
  rw [List.take_add_one, List.getElem?_map, List.getD_eq_getElem?_getD, List.getElem?_eq_getElem hi]
  rfl
theorem fold_half {p s : Nat} (hp : p < 4294967296) (hs : s < 4294967296) {bs : List Int} (hb : Byts bs) : ∀ i, i ≤ bs.length → foldTo (halfS (p : Int)) (s : Int) bs i = (remN p s ((bs.map Int.toNat).take i) : Nat) ∧ remN p s ((bs.map Int.toNat).take i) < 4294967296
  | 0, _ => ⟨by simp [foldTo, remN], by simpa [remN] using hs⟩
  | i + 1, h => by
    obtain ⟨h1, h2⟩ := fold_half hp hs hb i (by omega)
    obtain ⟨b, e1, e2, e3⟩ := byts_nat hb i
    have ex : remN p s ((bs.map Int.toNat).take (i + 1)) = hfN p 8 (remN p s ((bs.map Int.toNat).take i) ^^^ b) := by
      rw [take_s _ _ (by omega), e2]
      unfold remN
      rw [List.foldl_append]; rfl
    obtain ⟨h3, h4⟩ := it_half hp (xor_lt32 h2 (show b < 4294967296 by omega)) 8
    rw [ex]
    refine ⟨?_, h4⟩
    show halfS (p : Int) (foldTo (halfS (p : Int)) (s : Int) bs i) (bs.getD i 0) = _
    rw [h1, e1]
    unfold halfS
    rw [xor_nat _ _ h2 (by omega)]
    exact h3
theorem db_lt {v : Nat} (hv : v < 65536) : db v < 65536 := by
  unfold db; split
  · exact xor_lt16 (by omega) (by omega)
  · omega
theorem dbl1_nat {v : Nat} (hv : v < 65536) : dbl1 4129 (v : Int) = (db v : Nat) := by
  unfold dbl1 db
  by_cases h : 32768 ≤ v
  · rw [if_pos (by omega), if_pos h, show ((v : Int) * 2 % 65536) = ((v * 2 % 65536 : Nat) : Int) by omega]
    exact xor_nat _ 4129 (by omega) (by omega)
  · rw [if_neg (by omega), if_neg h]; omega
theorem it_dbl {v : Nat} (hv : v < 65536) : ∀ n, it (dbl1 4129) n (v : Int) = (dbN n v : Nat) ∧ dbN n v < 65536
  | 0 => ⟨rfl, hv⟩
  | n + 1 => by
    obtain ⟨h1, h2⟩ := it_dbl hv n
    refine ⟨?_, db_lt h2⟩
    show dbl1 4129 (it (dbl1 4129) n v) = _
    rw [h1, dbl1_nat h2]; rfl
theorem fold_dbl {s : Nat} (hs : s < 65536) {bs : List Int} (hb : Byts bs) : ∀ i, i ≤ bs.length → foldTo (dblS 4129) (s : Int) bs i = (remD s ((bs.map Int.toNat).take i) : Nat) ∧ remD s ((bs.map Int.toNat).take i) < 65536
  | 0, _ => ⟨by simp [foldTo, remD], by simpa [remD] using hs⟩
  | i + 1, h => by
    obtain ⟨h1, h2⟩ := fold_dbl hs hb i (by omega)
    obtain ⟨b, e1, e2, e3⟩ := byts_nat hb i
    have ex : remD s ((bs.map Int.toNat).take (i + 1)) = dbN 8 (remD s ((bs.map Int.toNat).take i) ^^^ (b * 256)) := by
      rw [take_s _ _ (by omega), e2]
      unfold remD
      rw [List.foldl_append, List.foldl_cons, List.foldl_nil]
    have hb2 : b * 256 < 65536 := by omega
    have h34 := it_dbl (xor_lt16 h2 hb2) 8
    rw [ex]
    refine ⟨?_, h34.2⟩
    show dblS 4129 (foldTo (dblS 4129) (s : Int) bs i) (bs.getD i 0) = _
    rw [h1, e1]
    unfold dblS
    rw [show ((b : Int) * 256) = ((b * 256 : Nat) : Int) by omega, xor_nat _ _ (by omega) (by omega)]
    exact h34.1
theorem sumV_half {p s t : Nat} (hp : p < 4294967296) (hs : s < 4294967296) (big : Bool) {bs : List Int} (hb : Byts bs) : sumV ⟨1, s, 28, p, t⟩ big bs = bits .xor .u32 (remN p s (bs.map Int.toNat) : Nat) t ∧ remN p s (bs.map Int.toNat) < 4294967296 := by
  obtain ⟨h1, h2⟩ := fold_half hp hs hb bs.length (Nat.le_refl _)
  rw [List.take_of_length_le (by simp)] at h1 h2
  refine ⟨?_, h2⟩
  unfold sumV
  rw [fold_eq _ big bs rfl _ (by simp), Nat.div_one, ← h1]
  rfl
theorem sumV_dbl (big : Bool) {bs : List Int} (hb : Byts bs) : sumV ⟨1, 65535, 29, 4129, 0⟩ big bs = bits .xor .u32 (remD 65535 (bs.map Int.toNat) : Nat) 0 ∧ remD 65535 (bs.map Int.toNat) < 65536 := by
  obtain ⟨h1, h2⟩ := fold_dbl (show 65535 < 65536 by omega) hb bs.length (Nat.le_refl _)
  rw [List.take_of_length_le (by simp)] at h1 h2
  refine ⟨?_, h2⟩
  unfold sumV
  rw [fold_eq _ big bs rfl _ (by simp), Nat.div_one, ← h1]
  rfl
theorem xor_turn {a b t : Nat} (ha : a < 4294967296) (hb : b < 4294967296) (ht : t < 4294967296) : bits .xor .u32 (a : Int) (t : Int) = bits .xor .u32 (b : Int) (t : Int) ↔ a = b := by
  rw [xor_nat a t ha ht, xor_nat b t hb ht]
  constructor
  · intro h
    have h := Int.ofNat_inj.1 h
    have e := congrArg (· ^^^ t) h
    simpa [Nat.xor_assoc] using e
  · rintro rfl; rfl
/-- a byte as it counts for the kind. -/
def cv (kind : Int) (b : Int) : Nat := if kind = 8 then rev8 b.toNat else b.toNat
def wd (kind : Int) : Nat := if kind = 9 then 32 else 16
theorem map_nat_lt {bs : List Int} (hb : Byts bs) : ∀ b ∈ bs.map Int.toNat, b < 256 := by
  intro b h
  obtain ⟨c, hc, rfl⟩ := List.mem_map.1 h
  have := hb c hc
  omega
theorem sums_tell {kind : Int} (hk : kind = 7 ∨ kind = 8 ∨ kind = 9) {y : Way} (hy : wayK kind = some y) {xs ys : List Int} (hx : Byts xs) (hys : Byts ys) (hl : xs.length = ys.length) {first T : Nat} (hT : T < 2 ^ wd kind) (hf : first ≤ 8 * xs.length)
    (h : bigN (ys.map (cv kind)) = bigN (xs.map (cv kind)) ^^^ (T <<< first)) (b1 b2 : Bool) : sumV y b1 xs = sumV y b2 ys ↔ T = 0 := by
  rcases hk with rfl | rfl | rfl
  · obtain rfl : y = ⟨1, (0 : Nat), 28, (40961 : Nat), (0 : Nat)⟩ := by have : wayK 7 = some ⟨1, 0, 28, 40961, 0⟩ := rfl; rw [this] at hy; injection hy with hy; exact hy.symm
    obtain ⟨e1, l1⟩ := sumV_half (p := 40961) (s := 0) (t := 0) (by omega) (by omega) b1 hx
    obtain ⟨e2, l2⟩ := sumV_half (p := 40961) (s := 0) (t := 0) (by omega) (by omega) b2 hys
    rw [e1, e2, xor_turn l1 l2 (by omega)]
    have hc : cv 7 = Int.toNat := by funext b; rfl
    rw [hc] at h
    exact rem_tells (w := 15) (by decide) (by decide) (by simpa using hl) hT (by simpa using hf) h
  · obtain rfl : y = ⟨1, 65535, 29, 4129, 0⟩ := by have : wayK 8 = some ⟨1, 65535, 29, 4129, 0⟩ := rfl; rw [this] at hy; injection hy with hy; exact hy.symm
    obtain ⟨e1, l1⟩ := sumV_dbl b1 hx
    obtain ⟨e2, l2⟩ := sumV_dbl b2 hys
    have e0 := xor_turn (a := remD 65535 (xs.map Int.toNat)) (b := remD 65535 (ys.map Int.toNat)) (t := 0) (by omega) (by omega) (by omega)
    rw [e1, e2]
    refine Iff.trans e0 ?_
    have hc : cv 8 = rev8 ∘ Int.toNat := by funext b; rfl
    rw [hc, ← List.map_map, ← List.map_map] at h
    exact rem_tellsD (map_nat_lt hx) (map_nat_lt hys) (by simpa using hl) hT (by simpa using hf) h
  · obtain rfl : y = ⟨1, (4294967295 : Nat), 28, (3988292384 : Nat), (4294967295 : Nat)⟩ := by have : wayK 9 = some ⟨1, 4294967295, 28, 3988292384, 4294967295⟩ := rfl; rw [this] at hy; injection hy with hy; exact hy.symm
    obtain ⟨e1, l1⟩ := sumV_half (p := 3988292384) (s := 4294967295) (t := 4294967295) (by omega) (by omega) b1 hx
    obtain ⟨e2, l2⟩ := sumV_half (p := 3988292384) (s := 4294967295) (t := 4294967295) (by omega) (by omega) b2 hys
    rw [e1, e2, xor_turn l1 l2 (by omega)]
    have hc : cv 9 = Int.toNat := by funext b; rfl
    rw [hc] at h
    exact rem_tells (w := 31) (by decide) (by decide) (by simpa using hl) hT (by simpa using hf) h
/-- one bit of the burst. -/
theorem xor8_nat (a b : Nat) (ha : a < 256) (hb : b < 256) : bits .xor .u8 (a : Int) (b : Int) = ((a ^^^ b : Nat) : Int) := by
  rw [u8_xor _ _ (by omega) (by omega) (by omega) (by omega), Int.toNat_natCast, Int.toNat_natCast]
def flip (kind : Int) (ys : List Int) (j : Nat) : List Int := ys.set (j / 8) (bits .xor .u8 (ys.getD (j / 8) 0) ((2 ^ (if kind = 8 then 7 - j % 8 else j % 8) : Nat) : Int))
theorem flip_facts (kind : Int) {ys : List Int} (hb : Byts ys) {j : Nat} (hj : j < 8 * ys.length) :
    Byts (flip kind ys j) ∧ (flip kind ys j).length = ys.length ∧ bigN ((flip kind ys j).map (cv kind)) = bigN (ys.map (cv kind)) ^^^ 2 ^ j := by
  obtain ⟨b, e1, e2, e3⟩ := byts_nat hb (j / 8)
  have hq : j / 8 < ys.length := by omega
  have hg : ys[j / 8]? = some (b : Int) := by
    rw [List.getD_eq_getElem?_getD, List.getElem?_eq_getElem hq] at e1
    rw [List.getElem?_eq_getElem hq]; exact congrArg some e1
  obtain ⟨t, ht⟩ : ∃ t, t = if kind = 8 then 7 - j % 8 else j % 8 := ⟨_, rfl⟩
  have ht8 : t < 8 := by rw [ht]; split <;> omega
  have hp : 2 ^ t < 256 := Nat.lt_of_lt_of_le (Nat.pow_lt_pow_right (by omega) ht8) (by decide)
  have hx : b ^^^ 2 ^ t < 256 := Nat.xor_lt_two_pow (n := 8) e3 hp
  unfold flip
  rw [← ht, e1, xor8_nat b _ e3 hp]
  refine ⟨?_, by simp, ?_⟩
  · intro c hc
    rcases List.mem_or_eq_of_mem_set hc with h | rfl
    · exact hb c h
    · omega
  · rw [List.map_set]
    have hgm : (ys.map (cv kind))[j / 8]? = some (cv kind b) := by rw [List.getElem?_map, hg]; rfl
    have hs := bigN_set (ys.map (cv kind)) (j / 8) (j % 8) (cv kind b) hgm
    rw [show 8 * (j / 8) + j % 8 = j by omega] at hs
    rw [← hs]
    congr 2
    unfold cv
    rw [Int.toNat_natCast, Int.toNat_natCast]
    by_cases hk : kind = 8
    · rw [if_pos hk] at ht
      rw [if_pos hk, if_pos hk, ht]
      exact rev8_flip b e3 _ (by omega)
    · rw [if_neg hk] at ht
      rw [if_neg hk, if_neg hk, ht]
theorem burst_eq (x first T i : Nat) : (x ^^^ (T <<< first)) ^^^ 2 ^ (first + i) = x ^^^ ((T ^^^ 2 ^ i) <<< first) := by
  rw [Nat.xor_assoc, Nat.shiftLeft_xor_distrib, Nat.shiftLeft_eq (2 ^ i), ← Nat.pow_add, Nat.add_comm first i]
end Go.Proofs.Ytjfdcgpnjjhhoaa
