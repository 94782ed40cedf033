import Derived.Test.YtjfdcgpnjjhhoaaF
set_option linter.unusedVariables false
set_option linter.unusedSimpArgs false
namespace Go.Proofs.Ytjfdcgpnjjhhoaa
open Go.RowKit
def hf (p v : Nat) : Nat := if v % 2 = 1 then v / 2 ^^^ p else v / 2
def hfN (p : Nat) : Nat → Nat → Nat
  | 0, v => v
  | n + 1, v => hf p (hfN p n v)
theorem xor_mid (a b c d : Nat) : (a ^^^ b) ^^^ (c ^^^ d) = (a ^^^ c) ^^^ (b ^^^ d) := by
  rw [Nat.xor_assoc, Nat.xor_assoc, ← Nat.xor_assoc b c d, Nat.xor_comm b c, Nat.xor_assoc]
theorem hf_xor (p a b : Nat) : hf p (a ^^^ b) = hf p a ^^^ hf p b := by
  unfold hf
  have h := @Nat.xor_mod_two_eq_one a b
  rw [Nat.xor_div_two]
  by_cases ha : a % 2 = 1 <;> by_cases hb : b % 2 = 1
  · rw [if_neg (by rw [h]; simp [ha, hb]), if_pos ha, if_pos hb, xor_mid, Nat.xor_self, Nat.xor_zero]
  · rw [if_pos (by rw [h]; simp [ha, hb]), if_pos ha, if_neg hb, Nat.xor_assoc, Nat.xor_assoc, Nat.xor_comm (b / 2)]
  · rw [if_pos (by rw [h]; simp [ha, hb]), if_neg ha, if_pos hb, Nat.xor_assoc]
  · rw [if_neg (by rw [h]; simp [ha, hb]), if_neg ha, if_neg hb]
theorem hfN_xor (p a b : Nat) : ∀ n, hfN p n (a ^^^ b) = hfN p n a ^^^ hfN p n b
  | 0 => rfl
  | n + 1 => by simp only [hfN]; rw [hfN_xor p a b n, hf_xor]
theorem hfN_add (p v a : Nat) : ∀ b, hfN p (b + a) v = hfN p b (hfN p a v)
  | 0 => by rw [Nat.zero_add]; rfl
  | b + 1 => by rw [show b + 1 + a = (b + a) + 1 by omega]; simp only [hfN]; rw [hfN_add p v a b]
theorem hf_two (p v : Nat) : hf p (2 * v) = v := by
  unfold hf
  rw [if_neg (by omega)]
  omega
theorem hfN_pow (p v : Nat) : ∀ n, hfN p n (v <<< n) = v
  | 0 => by simp [hfN]
  | n + 1 => by
    rw [hfN_add p _ 1 n]
    have e : hfN p 1 (v <<< (n + 1)) = v <<< n := by
      show hf p (v <<< (n + 1)) = _
      rw [show v <<< (n + 1) = 2 * (v <<< n) by rw [Nat.shiftLeft_eq, Nat.shiftLeft_eq, Nat.pow_succ]; rw [← Nat.mul_assoc, Nat.mul_comm]]
      exact hf_two p _
    rw [e, hfN_pow p v n]
theorem hf_zero (p : Nat) : hf p 0 = 0 := by simp [hf]
theorem hfN_zero (p : Nat) : ∀ n, hfN p n 0 = 0
  | 0 => rfl
  | n + 1 => by simp only [hfN]; rw [hfN_zero p n, hf_zero]
theorem hf_inj {p w v : Nat} (hp : 2 ^ w ≤ p) (hp2 : p < 2 ^ (w + 1)) (hv : v < 2 ^ (w + 1)) : hf p v < 2 ^ (w + 1) ∧ (hf p v = 0 → v = 0) := by
  have hd : v / 2 < 2 ^ w := by rw [Nat.pow_succ] at hv; omega
  unfold hf
  split
  · refine ⟨Nat.xor_lt_two_pow (by rw [Nat.pow_succ]; omega) hp2, fun h => ?_⟩
    have : v / 2 = p := by
      have e : (v / 2 ^^^ p) ^^^ p = p := by rw [h, Nat.zero_xor]
      rw [Nat.xor_assoc, Nat.xor_self, Nat.xor_zero] at e
      exact e
    omega
  · exact ⟨by rw [Nat.pow_succ]; omega, fun h => by omega⟩
theorem hfN_inj {p w v : Nat} (hp : 2 ^ w ≤ p) (hp2 : p < 2 ^ (w + 1)) (hv : v < 2 ^ (w + 1)) : ∀ n, hfN p n v < 2 ^ (w + 1) ∧ (hfN p n v = 0 → v = 0)
  | 0 => ⟨hv, fun h => h⟩
  | n + 1 => by
    obtain ⟨h1, h2⟩ := hfN_inj hp hp2 hv n
    obtain ⟨h3, h4⟩ := hf_inj hp hp2 h1
    exact ⟨h3, fun h => h2 (h4 h)⟩
/-- bytes as one number, the first lowest. -/
def bigN : List Nat → Nat
  | [] => 0
  | b :: l => b ^^^ (bigN l <<< 8)
/-- the remainder, byte by byte. -/
def remN (p r : Nat) (l : List Nat) : Nat := l.foldl (fun r b => hfN p 8 (r ^^^ b)) r
theorem remN_cons (p r b : Nat) (l : List Nat) : remN p r (b :: l) = remN p (hfN p 8 (r ^^^ b)) l := List.foldl_cons ..
theorem remN_eq (p : Nat) : ∀ (l : List Nat) (r : Nat), remN p r l = hfN p (8 * l.length) (r ^^^ bigN l)
  | [], r => by show r = hfN p 0 (r ^^^ 0); rw [Nat.xor_zero]; rfl
  | b :: l, r => by
    rw [remN_cons, remN_eq p l, bigN, List.length_cons, show 8 * (l.length + 1) = 8 * l.length + 8 by omega, hfN_add, ← Nat.xor_assoc, hfN_xor p (r ^^^ b) (bigN l <<< 8) 8, hfN_pow]
theorem bigN_set : ∀ (l : List Nat) (q t : Nat) (b : Nat), l[q]? = some b → bigN (l.set q (b ^^^ 2 ^ t)) = bigN l ^^^ 2 ^ (8 * q + t)
  | [], q, t, b, h => by simp at h
  | a :: l, 0, t, b, h => by
    simp at h; subst h
    simp only [List.set_cons_zero, bigN, Nat.mul_zero, Nat.zero_add]
    rw [Nat.xor_assoc, Nat.xor_comm (2 ^ t), ← Nat.xor_assoc]
  | a :: l, q + 1, t, b, h => by
    simp only [List.set_cons_succ, bigN]
    rw [bigN_set l q t b (by simpa using h), Nat.shiftLeft_xor_distrib, ← Nat.xor_assoc]
    congr 1
    rw [Nat.shiftLeft_eq, ← Nat.pow_add]
    congr 1; omega
/-- remainders tell a burst. -/
theorem rem_tells {p w s : Nat} (hp : 2 ^ w ≤ p) (hp2 : p < 2 ^ (w + 1)) {x y : List Nat} (hl : x.length = y.length) {first T : Nat} (hT : T < 2 ^ (w + 1)) (hf : first ≤ 8 * x.length) (h : bigN y = bigN x ^^^ (T <<< first)) :
    remN p s x = remN p s y ↔ T = 0 := by
  rw [remN_eq, remN_eq, ← hl, h, ← Nat.xor_assoc, hfN_xor p (s ^^^ bigN x)]
  have e : hfN p (8 * x.length) (T <<< first) = hfN p (8 * x.length - first) T := by
    rw [show 8 * x.length = (8 * x.length - first) + first by omega, hfN_add, hfN_pow]
    congr 1; omega
  rw [e]
  constructor
  · intro h
    refine (hfN_inj hp hp2 hT (8 * x.length - first)).2 ?_
    have q := congrArg (fun z => hfN p (8 * x.length) (s ^^^ bigN x) ^^^ z) h
    simp only [← Nat.xor_assoc, Nat.xor_self, Nat.zero_xor] at q
    exact q.symm
  · rintro rfl
    rw [hfN_zero, Nat.xor_zero]
/-- one bit more. -/
theorem burst_step {T i : Nat} (hT : T < 2 ^ i) : T ^^^ 2 ^ i < 2 ^ (i + 1) ∧ T ^^^ 2 ^ i ≠ 0 := by
  refine ⟨Nat.xor_lt_two_pow (by rw [Nat.pow_succ]; omega) (by rw [Nat.pow_succ]; have := Nat.two_pow_pos i; omega), fun h => ?_⟩
  have e : (T ^^^ 2 ^ i) ^^^ 2 ^ i = 2 ^ i := by rw [h, Nat.zero_xor]
  rw [Nat.xor_assoc, Nat.xor_self, Nat.xor_zero] at e
  omega
/-- mirrored. -/
def Mir (a b : Nat) : Prop := a < 65536 ∧ b < 65536 ∧ ∀ i, i < 16 → a.testBit i = b.testBit (15 - i)
theorem Mir.xor {a b c d : Nat} (h : Mir a b) (k : Mir c d) : Mir (a ^^^ c) (b ^^^ d) :=
  ⟨Nat.xor_lt_two_pow (n := 16) h.1 k.1, Nat.xor_lt_two_pow (n := 16) h.2.1 k.2.1, fun i hi => by rw [Nat.testBit_xor, Nat.testBit_xor, h.2.2 i hi, k.2.2 i hi]⟩
theorem Mir.inj {a b c : Nat} (h : Mir a c) (k : Mir b c) : a = b := by
  apply Nat.eq_of_testBit_eq
  intro i
  by_cases hi : i < 16
  · rw [h.2.2 i hi, k.2.2 i hi]
  · rw [Nat.testBit_lt_two_pow (Nat.lt_of_lt_of_le (show a < 2 ^ 16 from h.1) (Nat.pow_le_pow_right (by omega) (show 16 ≤ i by omega))), Nat.testBit_lt_two_pow (Nat.lt_of_lt_of_le (show b < 2 ^ 16 from k.1) (Nat.pow_le_pow_right (by omega) (show 16 ≤ i by omega)))]
theorem Mir.inj2 {a b c : Nat} (h : Mir c a) (k : Mir c b) : a = b := by
  apply Nat.eq_of_testBit_eq
  intro i
  by_cases hi : i < 16
  · have h1 := h.2.2 (15 - i) (by omega)
    have k1 := k.2.2 (15 - i) (by omega)
    rw [show 15 - (15 - i) = i by omega] at h1 k1
    rw [← h1, ← k1]
  · rw [Nat.testBit_lt_two_pow (Nat.lt_of_lt_of_le (show a < 2 ^ 16 from h.2.1) (Nat.pow_le_pow_right (by omega) (show 16 ≤ i by omega))), Nat.testBit_lt_two_pow (Nat.lt_of_lt_of_le (show b < 2 ^ 16 from k.2.1) (Nat.pow_le_pow_right (by omega) (show 16 ≤ i by omega)))]
def db (v : Nat) : Nat := if 32768 ≤ v then v * 2 % 65536 ^^^ 4129 else v * 2 % 65536
def dbN : Nat → Nat → Nat
  | 0, v => v
  | n + 1, v => db (dbN n v)
theorem mir_c : Mir 4129 33800 := ⟨by decide, by decide, by decide⟩
theorem mir_half {a b : Nat} (h : Mir a b) : Mir (a * 2 % 65536) (b / 2) := by
  refine ⟨Nat.mod_lt _ (by omega), by have := h.2.1; omega, fun i hi => ?_⟩
  rw [Nat.testBit_div_two, show (65536 : Nat) = 2 ^ 16 by rfl, Nat.testBit_mod_two_pow, show a * 2 = a * 2 ^ 1 by rfl, Nat.testBit_mul_two_pow]
  by_cases h0 : i = 0
  · subst h0
    simp
    exact Nat.testBit_lt_two_pow h.2.1
  · have h1 := h.2.2 (i - 1) (by omega)
    rw [show 15 - (i - 1) = 15 - i + 1 by omega] at h1
    simp [hi, show 1 ≤ i by omega, h1]
theorem mir_top {a b : Nat} (h : Mir a b) : 32768 ≤ a ↔ b % 2 = 1 := by
  have h1 := h.2.2 15 (by omega)
  rw [show 15 - 15 = 0 by rfl, Nat.testBit_zero] at h1
  have h2 : a.testBit 15 = decide (32768 ≤ a) := by
    have := h.1
    rw [Nat.testBit_eq_decide_div_mod_eq]
    rw [decide_eq_decide]
    omega
  rw [h2] at h1
  constructor
  · intro q; simpa [q] using h1.symm
  · intro q; simpa [q] using h1
theorem mir_step {a b : Nat} (h : Mir a b) : Mir (db a) (hf 33800 b) := by
  unfold db hf
  have ht := mir_top h
  by_cases q : 32768 ≤ a
  · rw [if_pos q, if_pos (ht.1 q)]; exact (mir_half h).xor mir_c
  · rw [if_neg q, if_neg (fun e => q (ht.2 e))]; exact mir_half h
theorem mir_steps {a b : Nat} (h : Mir a b) : ∀ n, Mir (dbN n a) (hfN 33800 n b)
  | 0 => h
  | n + 1 => mir_step (mir_steps h n)
/-- a byte mirrored. -/
def rev8 (b : Nat) : Nat := b % 2 * 128 + b / 2 % 2 * 64 + b / 4 % 2 * 32 + b / 8 % 2 * 16 + b / 16 % 2 * 8 + b / 32 % 2 * 4 + b / 64 % 2 * 2 + b / 128 % 2
theorem mir_byte : ∀ b, b < 256 → Mir (b * 256) (rev8 b) := by
  intro b hb
  have : ∀ b : Fin 256, (b.val * 256 < 65536 ∧ rev8 b.val < 65536 ∧ ∀ i : Fin 16, (b.val * 256).testBit i.val = (rev8 b.val).testBit (15 - i.val)) := by decide +kernel
  obtain ⟨h1, h2, h3⟩ := this ⟨b, hb⟩
  exact ⟨h1, h2, fun i hi => h3 ⟨i, hi⟩⟩
theorem rev8_flip : ∀ b, b < 256 → ∀ t, t < 8 → rev8 (b ^^^ 2 ^ (7 - t)) = rev8 b ^^^ 2 ^ t := by
  intro b hb t ht
  have : ∀ b : Fin 256, ∀ t : Fin 8, rev8 (b.val ^^^ 2 ^ (7 - t.val)) = rev8 b.val ^^^ 2 ^ t.val := by decide +kernel
  exact this ⟨b, hb⟩ ⟨t, ht⟩
def remD (r : Nat) (l : List Nat) : Nat := l.foldl (fun r b => dbN 8 (r ^^^ (b * 256))) r
theorem remD_cons (r b : Nat) (l : List Nat) : remD r (b :: l) = remD (dbN 8 (r ^^^ (b * 256))) l := List.foldl_cons ..
theorem mir_rem : ∀ (l : List Nat) (r q : Nat), (∀ b ∈ l, b < 256) → Mir r q → Mir (remD r l) (remN 33800 q (l.map rev8))
  | [], r, q, _, h => h
  | b :: l, r, q, hl, h => by
    rw [List.map_cons, remD_cons, remN_cons]
    exact mir_rem l _ _ (fun c hc => hl c (by simp [hc])) (mir_steps (h.xor (mir_byte b (hl b (by simp)))) 8)
theorem mir_ones : Mir 65535 65535 := ⟨by decide, by decide, by decide⟩
theorem rem_tellsD {x y : List Nat} (hx : ∀ b ∈ x, b < 256) (hy : ∀ b ∈ y, b < 256) (hl : x.length = y.length) {first T : Nat} (hT : T < 2 ^ 16) (hf : first ≤ 8 * x.length) (h : bigN (y.map rev8) = bigN (x.map rev8) ^^^ (T <<< first)) :
    remD 65535 x = remD 65535 y ↔ T = 0 := by
  rw [← rem_tells (p := 33800) (w := 15) (s := 65535) (by decide) (by decide) (x := x.map rev8) (y := y.map rev8) (by simp [hl]) hT (by simpa using hf) h]
  have m1 := mir_rem x 65535 65535 hx mir_ones
  have m2 := mir_rem y 65535 65535 hy mir_ones
  constructor
  · intro e; rw [e] at m1; exact m1.inj2 m2
  · intro e; rw [e] at m1; exact m1.inj m2
end Go.Proofs.Ytjfdcgpnjjhhoaa
