import Derived.Test.YtnjiajogbadadaaP
set_option linter.unusedVariables false
namespace Go.Proofs.Ytnjiajogbadadaa
open Go.RowKit
def LSt.st (a r : Int) (ys : List Int) (t : Nat) (k : List Int) : LSt := ⟨a, a, ys, r, t, k⟩
theorem st_first {a r : Int} {ys : List Int} {m : Nat} (ho : oneR r = true) (hz : bits .and .u8 a r ≠ 0) (hl : ys.length = m) (h1 : 1 ≤ m) (h2 : m ≤ 20) :
    (⟨a, a, [], 0, 0, []⟩ : LSt).doSeed 0 r ys = ⟨LSt.st a r ys (min m 6) [], m, ys.take (min m 6), 0⟩ := by
  have e : ys ≠ [] := by intro e; subst e; simp at hl; omega
  simp [LSt.doSeed, ho, hz, e, hl, show ¬ 20 < m by omega, LSt.part, LSt.st, LSt.clear, partN]
  omega
theorem st_next {a r : Int} {ys : List Int} {m t : Nat} (hl : ys.length = m) (hk : t < m) (x : Int) :
    (LSt.st a r ys t []).doSeed 1 x [] = ⟨LSt.st a r ys (t + min (m - t) 6) [], ((m - t : Nat) : Int), (ys.drop t).take (min (m - t) 6), 0⟩ := by
  simp [LSt.doSeed, LSt.part, LSt.st, hl, partN, show ¬ t = m by omega]
theorem st_step {a r : Int} {ys K : List Int} {m q : Nat} (hl : ys.length = m) (hk : K.length = m) (hq : q + 6 < m) :
    (LSt.st a r ys m (K.take q)).doUnlock ((m - q : Nat) : Int) ((K.drop q).take 6) = ⟨LSt.st a r ys m (K.take (q + 6)), 0⟩ := by
  have e1 : (K.take q).length = q := by rw [List.length_take]; omega
  have e2 : ((K.drop q).take 6).length = 6 := by rw [List.length_take, List.length_drop]; omega
  have em : mayC m m q ((m - q : Nat) : Int) 6 = true := by
    simp [mayC]
    exact ⟨by omega, by intros; omega⟩
  unfold LSt.doUnlock
  simp only [LSt.st, hl, e1, e2]
  rw [em]
  simp [show q + 6 < m from hq, List.take_add]
theorem st_last {a r : Int} {ys K : List Int} {m q : Nat} (hl : ys.length = m) (hk : K.length = m) (hq : q < m) (h6 : m ≤ q + 6) :
    (LSt.st a r ys m (K.take q)).doUnlock ((m - q : Nat) : Int) (K.drop q) = (if K = keyB r ys then ⟨⟨a, bits .andNot .u8 a r, [], 0, 0, []⟩, 0⟩ else ⟨⟨a, a, [], 0, 0, []⟩, 91⟩) := by
  have e1 : (K.take q).length = q := by rw [List.length_take]; omega
  have e2 : (K.drop q).length = m - q := by rw [List.length_drop]; omega
  have em : mayC m m q ((m - q : Nat) : Int) (m - q) = true := by
    simp [mayC]
    exact ⟨by omega, by intros; omega⟩
  unfold LSt.doUnlock
  simp only [LSt.st, hl, e1, e2]
  rw [em]
  simp [show ¬ q + (m - q) < m by omega, LSt.clear]
theorem kept_step {w wr w' : World} {F F' : Nat → Prop} (h : Kept F w wr) (k : Kept F' wr w') (hf : ∀ i, F' i → F i ∨ w.heap.size ≤ i) : Kept F w w' :=
  h.trans k fun i hi e => (hf i e).elim id (fun e => by omega)
theorem fp_step {w wr : World} {F F' F'' : Nat → Prop} (hs : w.heap.size ≤ wr.heap.size) (hf : ∀ i, F' i → F i ∨ w.heap.size ≤ i) (hf' : ∀ i, F'' i → F' i ∨ wr.heap.size ≤ i) : ∀ i, F'' i → F i ∨ w.heap.size ≤ i :=
  fun i hi => (hf' i hi).elim (hf i) (fun h => .inr (by omega))
set_option maxRecDepth 100000 in
set_option maxHeartbeats 8000000 in
theorem whole_any (a r : Int) (g : Nat) (F : Nat → Prop) (sA : Option Addr) (m sc : Nat) (ys : List Int) (kA : Option Addr) (kc : Nat) (K : List Int) (w : World) (hL : LkC w g ⟨a, a, [], 0, 0, []⟩ F)
    (ho : oneR r = true) (hz : bits .and .u8 a r ≠ 0) (hr : 0 ≤ r ∧ r < 256) (h1 : 1 ≤ m) (h2 : m ≤ 20) (hs : Rd w sA m ys) (hk : Rd w kA m K) (hkc : m ≤ kc) (hF : ∀ ad, sA = some ad → ¬ F ad.block) (hFk : ∀ ad, kA = some ad → ¬ F ad.block) (o : UOut) (HO : Hid (o = if K = keyB r ys then ⟨⟨a, bits .andNot .u8 a r, [], 0, 0, []⟩, 0⟩ else ⟨⟨a, a, [], 0, 0, []⟩, 91⟩)) :
    Calls Try.prog 21 #[.pointer (some ⟨g, 0, none⟩), .int .u8 r, .slice sA m sc, .slice kA m kc] w (UnlPost w g F o) := by
  have HL := Lib.hid hs.len
  have HK := Lib.hid hk.len
  have HQ := Lib.hid (st_first ho hz hs.len h1 h2)
  obtain ⟨d, hd⟩ : ∃ d, d = min m 6 := ⟨_, rfl⟩
  have hpl : Hid ((ys.take (min m 6)).length = d) := by show _ = _; rw [List.length_take, HL.out]; omega
  have hdm : d ≤ m := by omega
  have hdp : 0 < d := by omega
  have hd6 : d ≤ 6 := by omega
  have HD := Lib.hid hd
  have HFk := Lib.hid hFk
  clear hd ho hz
  go_enter Try.func21, Try.ntmps21
  go_upto_region 2 with (go_at_call 12; (refine (seed_any _ _ _ _ _ _ _ _ ys _ hs (fun _ => hF) (le_max (by omega)) hr hL).mono ?_); rw [HQ.out]; rintro e w4 ⟨A4, c4, F4, rfl, L4, k4, r4, l4, m4, f4, q4⟩; rw [hpl.out])
  have kr4 := hk.kept k4 hFk
  have kin : ∀ ad, kA = some ad → ad.block < w.heap.size ∧ ¬ F ad.block := fun ad e => ⟨by
    obtain ⟨ad', e', hb, _⟩ := hk.shows.2 h1
    rw [e] at e'; injection e' with e'; subst e'; exact hb, HFk.out ad e⟩
  have KIN := Lib.hid kin
  clear kin hFk hs hk q4 r4 l4 m4
  go_wp2
  go_loopw [9, 10, 11] (fun v9 v10 v11 wr => ∃ (t nb dd : Nat) (F' : Nat → Prop) (bA : Option Addr) (bc : Nat), Hid (nb = min dd 6) ∧ Hid (t = (m - dd) + nb) ∧ Hid (dd ≤ m ∧ 0 < dd) ∧ v9 = .int .i64 dd ∧ v10 = .slice bA nb bc ∧ v11 = .int .i64 0 ∧ LkC wr g (LSt.st a r ys t []) F' ∧ Kept F w wr ∧ (∀ i, F' i → F i ∨ w.heap.size ≤ i) ∧ Rd wr kA m K) (fun v9 _ _ _ => (intOf v9).toNat)
  case atStart => exact ⟨d, d, m, F4, A4, c4, HD.out, by show _ = _; omega, ⟨Nat.le_refl _, h1⟩, rfl, rfl, rfl, by have := HD.out; rw [← this] at L4; exact L4, k4, f4, kr4⟩
  case round =>
    obtain ⟨t, nb, dd, F', bA, bc, hnb, ht, hdd, rfl, rfl, rfl, LG, kG, fG, rK⟩ := hrel
    clear k4 f4 kr4 L4
    have hnb1 := hnb.out
    have ht1 := ht.out
    obtain ⟨hdd1, hdd2⟩ := hdd.out
    have hnbp : (0 : Int) < nb := by omega
    by_cases hlt : nb < dd
    · have hltI : (nb : Int) < dd := by omega
      have htm : t < m := by omega
      have HX := Lib.hid (st_next (a := a) (r := r) HL.out htm r)
      obtain ⟨d2, hd2⟩ : ∃ d2, d2 = m - t := ⟨_, rfl⟩
      obtain ⟨n2, hn2⟩ : ∃ n2, n2 = min d2 6 := ⟨_, rfl⟩
      have hpl2 : Hid (((ys.drop t).take (min (m - t) 6)).length = n2) := by show _ = _; rw [List.length_take, List.length_drop, HL.out]; omega
      have hd2m : d2 < dd := by omega
      have HD2 := Lib.hid hd2
      have HN2 := Lib.hid hn2
      clear hnb1 ht1 hd2 hn2 hlt
      go_wp2_with (go_at_call 12; (refine (seed_any _ _ _ _ _ _ _ _ [] _ Rd.nil (fun h => absurd h (by omega)) (by simp) hr LG).mono ?_); rw [HX.out]; rintro e w5 ⟨A5, c5, F5, rfl, L5, k5, r5, l5, m5, f5, q5⟩; rw [hpl2.out, ← HD2.out] )
      go_roundw
      case rel =>
        refine ⟨t + n2, n2, d2, F5, A5, c5, HN2.out, ?_, ?_, rfl, rfl, rfl, ?_, kept_step kG k5 fG, fp_step kG.size fG f5, rK.kept k5 (fun ad e h => (fG _ h).elim (KIN.out ad e).2 (fun h => by have := (KIN.out ad e).1; omega))⟩
        · show _ = _
          have := HD2.out
          omega
        · have := HD2.out
          exact ⟨by omega, by omega⟩
        · rw [HN2.out, HD2.out]
          exact L5
      case measure => simp [intOf]; omega
    · have hltI : ¬ (nb : Int) < dd := by omega
      have htm : t = m := by omega
      subst htm
      clear hnb1 ht1 hlt hnb ht hdd
      go_wp2
      go_loopw [3, 11] (fun v3 v11 wr => ∃ (q n' c' : Nat) (A' : Option Addr) (F' : Nat → Prop), Hid (q + n' = t ∧ 0 < n') ∧ v3 = .slice A' n' c' ∧ n' ≤ c' ∧ v11 = .int .i64 0 ∧ Rd wr A' n' (K.drop q) ∧ (∀ ad, A' = some ad → ad.block < w.heap.size ∧ ¬ F ad.block) ∧ LkC wr g (LSt.st a r ys t (K.take q)) F' ∧ Kept F w wr ∧ (∀ i, F' i → F i ∨ w.heap.size ≤ i)) (fun v _ _ => match v with | .slice _ n' _ => n' | _ => 0)
      case atStart => exact ⟨0, t, kc, kA, F', ⟨Nat.zero_add _, h1⟩, rfl, hkc, rfl, by simpa using rK, KIN.out, LG, kG, fG⟩
      case round =>
        clear LG kG fG rK
        obtain ⟨q, n', c', A', F2, hq, rfl, hnc, rfl, rK, kin, LG, kG, fG⟩ := hrel
        obtain ⟨hq1, hq2⟩ := hq.out
        have hn26 : n' ≤ 20 := by omega
        by_cases h6 : 6 < n'
        · have h6I : (6 : Int) < n' := by omega
          have h6c : (6 : Int) ≤ c' := by omega
          have HS := Lib.hid (st_step (a := a) (r := r) (q := q) HL.out HK.out (by omega))
          have hn' : t - q = n' := by omega
          rw [hn'] at HS
          have rk6 := rK.take (k := 6) (by omega)
          have rd6 := rK.drop (k := 6) (by omega) hnc
          obtain ⟨pA, hpA⟩ : ∃ p, (if c' = 6 then A' else Option.map (fun x => x.add 6) A') = p := ⟨_, rfl⟩
          have rd7 : Rd wr pA (n' - 6) (K.drop (q + 6)) := by rw [← hpA, ← List.drop_drop]; exact rd6
          have kin7 : ∀ ad, pA = some ad → ad.block < w.heap.size ∧ ¬ F ad.block := by
            intro ad e
            rw [← hpA] at e
            split at e
            · exact kin ad e
            · rcases A' with _ | a0
              · cases e
              · simp at e
                subst e
                rw [block_add]
                exact kin a0 rfl
          have KIN7 := Lib.hid kin7
          clear kin7 rd6 hn' kin
          go_wp2_with (go_at_call 14; (refine (unlock_any _ _ _ _ _ _ _ _ _ LG rk6).mono ?_); rw [HS.out]; rintro e w7 ⟨rfl, F7, L7, k7, f7⟩)
          go_roundw
          case rel => exact ⟨q + 6, n' - 6, c' - 6, pA, F7, ⟨by omega, by omega⟩, by rw [← hpA, if_neg (by omega)]; rcases A' with _ | a0 <;> simp [Addr.add], by omega, rfl, rd7.kept k7 (fun ad e h => (fG _ h).elim (KIN7.out ad e).2 (fun h => by have := (KIN7.out ad e).1; omega)), KIN7.out, L7, kept_step kG k7 fG, fp_step kG.size fG f7⟩
          case measure => simp; omega
        · have h6I : ¬ (6 : Int) < n' := by omega
          have HS := Lib.hid (st_last (a := a) (r := r) (q := q) HL.out HK.out (by omega) (by omega))
          have hn' : t - q = n' := by omega
          rw [hn', ← HO.out] at HS
          clear hn' kin
          have hu := unlock_any g _ F2 n' A' n' c' _ wr LG rK
          rw [HS.out] at hu
          have HU := Lib.hid hu
          clear hu
          go_wp2_with (go_at_call 14; (refine (HU.out).mono ?_); rintro e w7 ⟨rfl, F7, L7, k7, f7⟩)
          go_ret
          exact ⟨rfl, F7, L7, kept_step kG k7 fG, fp_step kG.size fG f7⟩
end Go.Proofs.Ytnjiajogbadadaa
