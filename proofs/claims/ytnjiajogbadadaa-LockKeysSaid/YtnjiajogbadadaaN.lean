import Derived.Test.YtnjiajogbadadaaL
set_option linter.unusedVariables false
namespace Go.Proofs.Ytnjiajogbadadaa
open Go.RowKit
theorem and_one {r a : Int} (hr : 0 ≤ r ∧ r < 256) (ha : oneR a = true) : bits .and .u8 (bits .and .u8 r 13) a = bits .and .u8 r a := by
  have h13 := and_bd hr (b := 13) (by omega)
  have hc : a = 1 ∨ a = 4 ∨ a = 8 := by simp [oneR] at ha; omega
  rw [u8_and r 13 hr.1 hr.2 (by omega) (by omega)]
  rcases hc with rfl | rfl | rfl <;> (rw [u8_and _ _ (by omega) (by have : r.toNat &&& Int.toNat 13 ≤ r.toNat := Nat.and_le_left; omega) (by omega) (by omega), u8_and r _ hr.1 hr.2 (by omega) (by omega)]; simp only [Int.toNat_natCast, Nat.and_assoc]; rfl)
def FCase (mode ask res : Int) (m : Nat) (o : LOut) : Prop :=
  (mode ≠ 0 ∧ mode ≠ 1 ∧ o.n = 0 ∧ o.part.length = 0 ∧ o.err = 1) ∨
  (mode = 0 ∧ oneR ask = false ∧ o.n = 0 ∧ o.part.length = 0 ∧ o.err = 1) ∨
  (mode = 0 ∧ oneR ask = true ∧ m < 1 ∧ o.n = 0 ∧ o.part.length = 0 ∧ o.err = 1) ∨
  (mode = 0 ∧ oneR ask = true ∧ 20 < m ∧ o.n = 0 ∧ o.part.length = 0 ∧ o.err = 1) ∨
  (mode = 1 ∧ o.n = 0 ∧ o.part.length = 0 ∧ o.err = 90) ∨
  (mode = 0 ∧ oneR ask = true ∧ 1 ≤ m ∧ m ≤ 20 ∧ bits .and .u8 res ask = 0 ∧ o.n = 0 ∧ o.part.length = 0 ∧ o.err = 0 ∧ o.st.seed = []) ∨
  (mode = 0 ∧ oneR ask = true ∧ 1 ≤ m ∧ m ≤ 20 ∧ bits .and .u8 res ask ≠ 0 ∧ o.n = m ∧ o.err = 0 ∧ o.st.lk = bits .and .u8 res 13)
theorem fcase {mode ask res : Int} {ys : List Int} {m : Nat} (hl : ys.length = m) (hr : 0 ≤ res ∧ res < 256) : FCase mode ask res m ((LSt.new res).doSeed mode ask ys) := by
  unfold FCase LSt.doSeed
  by_cases h0 : mode = 0
  · rw [if_pos h0]
    rcases ho : oneR ask with _ | _
    · rw [if_pos (Or.inl rfl)]
      exact .inr (.inl ⟨h0, rfl, rfl, rfl, rfl⟩)
    · by_cases h1 : m < 1
      · rw [if_pos (Or.inr (Or.inl (by omega)))]
        exact .inr (.inr (.inl ⟨h0, rfl, h1, rfl, rfl, rfl⟩))
      · by_cases h2 : 20 < m
        · rw [if_pos (Or.inr (Or.inr (by omega)))]
          exact .inr (.inr (.inr (.inl ⟨h0, rfl, h2, rfl, rfl, rfl⟩)))
        · rw [if_neg (by simp; exact ⟨by intro e; subst e; simp at hl; omega, by omega⟩)]
          have e : bits .and .u8 (LSt.new res).lk ask = bits .and .u8 res ask := and_one hr ho
          rw [e]
          by_cases hz : bits .and .u8 res ask = 0
          · rw [if_pos hz]
            exact .inr (.inr (.inr (.inr (.inr (.inl ⟨h0, rfl, by omega, by omega, hz, rfl, rfl, rfl, rfl⟩)))))
          · rw [if_neg hz]
            exact .inr (.inr (.inr (.inr (.inr (.inr ⟨h0, rfl, by omega, by omega, hz, by simp [LSt.part, LSt.clear, hl], rfl, rfl⟩)))))
  · rw [if_neg h0]
    by_cases h1 : mode = 1
    · rw [if_pos h1, if_pos (show (LSt.new res).told = (LSt.new res).seed.length from rfl)]
      exact .inr (.inr (.inr (.inr (.inl ⟨h1, rfl, rfl, rfl⟩))))
    · rw [if_neg h1]
      exact .inl ⟨h0, h1, rfl, rfl, rfl⟩
theorem unl_empty {s : LSt} (h : s.seed = []) : s.doUnlock 0 [] = ⟨s.clear, 90⟩ := by
  simp [LSt.doUnlock, mayC, h]
set_option maxHeartbeats 2000000 in
theorem LockFree_law (w : World) (res ask mode : Int) (A : Option Addr) (n c : Nat) (bs : List Int) (rd : Rd w A n bs) (le : n ≤ c) (cm : c ≤ maxLen) (r0 : 0 ≤ res) (r1 : res < 256) (a0 : 0 ≤ ask) (a1 : ask < 256) (m0 : 0 ≤ mode) (m1 : mode < 256) :
    Calls Try.prog 6 #[.int .u8 res, .int .u8 ask, .int .u8 mode, .slice A n c] w fun e w' => e = .returned (.bool true) ∧ Ext w w' := by
  obtain ⟨m, hm0⟩ : ∃ m, m = min n 30 := ⟨_, rfl⟩
  have rdm := rd.take (k := m) (by omega)
  have hmc : m ≤ c := by omega
  have hml : m ≤ maxLen := by omega
  have hmin : (if (30 : Int) < n then (30 : Int) else n) = m := by rw [hm0]; split <;> omega
  clear hm0 rd
  generalize bs.take m = ys at rdm
  have hlen := Lib.hid rdm.len
  go_enter Try.func6, Try.ntmps6
  go_upto_region 3 with (go_at_call 8; (refine (shown_any _).mono ?_); rintro e w1 ⟨rfl, x1⟩)
  go_upto_region 6 with (first
    | (go_at_call 9; (refine (new_cn res _ ⟨r0, r1⟩).mono ?_); rintro e w2 ⟨g, F, rfl, L2, x2, f2⟩)
    | (go_at_call 19; (refine (locked_cn _ _ _ _ L2).mono ?_); rintro e w3 ⟨rfl, rfl⟩; rw [show (LSt.new res).lk = bits .and .u8 res 13 from rfl]))
  have rd2 := rdm.ext (x1.trans x2)
  have hF : 0 < m → ∀ ad, A = some ad → ¬ F ad.block := fun h0 ad e hf => by
    obtain ⟨ad', e', hb, _⟩ := (rdm.ext x1).shows.2 h0
    rw [e] at e'; injection e' with e'; subst e'
    have := f2 _ hf
    omega
  have hf := Lib.hid (fcase (mode := mode) (ask := ask) (res := res) hlen.out ⟨r0, r1⟩)
  obtain ⟨o, ho⟩ : ∃ o, o = (LSt.new res).doSeed mode ask ys := ⟨_, rfl⟩
  rw [← ho] at hf
  have HO := Lib.hid ho
  clear ho
  go_upto_region 7 with (go_at_call 12; (refine (seed_any _ _ _ _ _ _ _ _ _ _ rd2 hF hml ⟨a0, a1⟩ L2).mono ?_); rw [← HO.out]; rintro e w4 ⟨A4, c4, F4, rfl, L4, k4, r4, l4, m4, f4, q4⟩)
  have hx : Ext w w4 := (x1.trans x2).kept k4 (fun i hi => by have := f2 i hi; have := x1.size; omega)
  have hf4 : ∀ i, F4 i → w.heap.size ≤ i := fun i hi => (f4 i hi).elim (fun h => by have := f2 i h; have := x1.size; omega) (fun h => by have := (x1.trans x2).size; omega)
  clear r4 l4 m4 q4 f4 k4 hF rd2 L2 f2
  rcases hf.out with ⟨g0, g1, e1, e2, e3⟩ | ⟨rfl, g1, e1, e2, e3⟩ | ⟨rfl, g1, g2, e1, e2, e3⟩ | ⟨rfl, g1, g2, e1, e2, e3⟩ | ⟨rfl, e1, e2, e3⟩ | ⟨rfl, g1, g2, g3, g4, e1, e2, e3, e4⟩ | ⟨rfl, g1, g2, g3, g4, e1, e2, e3⟩
  · have b1 : (1 : Int) < mode := by omega
    clear g0 g1
    go_wp2
    all_goals go_ret
    all_goals exact ⟨by simp, hx⟩
  · have hn : ask ≠ 1 ∧ ask ≠ 4 ∧ ask ≠ 8 := by simpa [oneR, and_assoc] using g1
    have b1 : (ask == 1) = false := by simpa using hn.1
    have b4 : (ask == 4) = false := by simpa using hn.2.1
    have b8 : (ask == 8) = false := by simpa using hn.2.2
    clear g1 hn
    go_wp2
    all_goals go_ret
    all_goals exact ⟨by simp, hx⟩
  · have g2' : (m : Int) < 1 := by omega
    have hc : ask = 1 ∨ ask = 4 ∨ ask = 8 := by simp [oneR] at g1; omega
    clear g1 g2
    rcases hc with rfl | rfl | rfl
    all_goals
      go_wp2
      go_ret
      exact ⟨by simp, hx⟩
  · have g2' : (20 : Int) < m := by omega
    have g3' : ¬ (m : Int) < 1 := by omega
    have hc : ask = 1 ∨ ask = 4 ∨ ask = 8 := by simp [oneR] at g1; omega
    clear g1 g2
    rcases hc with rfl | rfl | rfl
    all_goals
      go_wp2
      go_ret
      exact ⟨by simp, hx⟩
  · go_wp2
    all_goals go_ret
    all_goals exact ⟨by simp, hx⟩
  · have g2' : ¬ (m : Int) < 1 := by omega
    have g3' : ¬ (20 : Int) < m := by omega
    have hc : ask = 1 ∨ ask = 4 ∨ ask = 8 := by simp [oneR] at g1; omega
    have hu := unlock_any _ _ F4 0 none 0 0 [] _ L4 Rd.nil
    rw [unl_empty e4] at hu
    have HU := Lib.hid hu
    clear hu e4 g1 g2 g3
    rcases hc with rfl | rfl | rfl
    all_goals
      go_wp2_with (go_at_call 14; (refine HU.out.mono ?_); rintro e w6 ⟨rfl, F6, L6, k6, f6⟩)
      go_ret
      exact ⟨by simp, hx.kept k6 hf4⟩
  · have g2' : ¬ (m : Int) < 1 := by omega
    have g3' : ¬ (20 : Int) < m := by omega
    have hc : ask = 1 ∨ ask = 4 ∨ ask = 8 := by simp [oneR] at g1; omega
    have b0 : (bits .and .u8 res ask == 0) = false := by simpa using g4
    have HE := Lib.hid e3
    clear g1 g2 g3 g4 e3
    rcases hc with rfl | rfl | rfl
    all_goals
      go_wp2_with (go_at_call 19; (refine (locked_cn _ _ _ _ L4).mono ?_); rintro e w6 ⟨rfl, rfl⟩; rw [HE.out])
      go_ret
      exact ⟨by simp, hx⟩
end Go.Proofs.Ytnjiajogbadadaa
