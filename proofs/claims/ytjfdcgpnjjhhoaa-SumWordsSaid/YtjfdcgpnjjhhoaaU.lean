import Derived.Test.YtjfdcgpnjjhhoaaT
import Derived.ArgAppend
set_option linter.unusedVariables false
namespace Go.Proofs.Ytjfdcgpnjjhhoaa
open Go.RowKit
theorem own_grow {w w' : World} {base : Nat} {e : TypeId} {size n : Nat} {v : Value} {xs : List Value} {row : Option Nat} (h : w.ownsRow base e size v n xs) (hg : w.grownBy w' row) (hne : ∀ b, v.ownBlock = some b → some b ≠ row) : w'.ownsRow base e size v n xs :=
  h.kept hg (by
    rcases hb : v.ownBlock with _ | b
    · exact .inl rfl
    · exact .inr (hne b hb))
theorem own_sz {w : World} {base : Nat} {e : TypeId} {size : Nat} {v : Value} {n : Nat} {xs : List Value} (h : w.ownsRow base e size v n xs) {b : Nat} (hb : v.ownBlock = some b) : b < w.heap.size := own_lt h hb
/-- append onto a slice that came in and has no room. -/
theorem wpList_app_full {w : World} {ops : Array Oper} {rest : List Oper} {o : Oper} {a : Act} {Q : Exit → Act → World → Prop} (hg : o.guard = none) (s x : Operand) (hop : o.op = Op.call { callee := Callee.builtin Builtin.append, args := #[s, x], argTypes := #[22, 22] })
    {A : Option Addr} {n : Nat} {bs : List Int} (hr : Rd w A n bs) (hs : a.eval s = .slice A n n) (hn : n ≤ 1000)
    {g c : Nat} {b : Int} (hx : a.eval x = .slice (some ⟨g, 0, none⟩) 1 c) (hc : w.cell? ⟨g, 0, none⟩ = some (.int .u8 b))
    (hK : ∀ A' c' w', n + 1 ≤ c' → Ext w w' → wpList Try.prog ops Q rest (a.put o.dst (.slice A' (n + 1) c')) w') : wpList Try.prog ops Q (o :: rest) a w := by
  obtain ⟨i, hi, hz, hsize, hby⟩ := el22.info
  refine wpList_append_grows w hg s x 22 hop 5 i (.int .u8 0) 1 1 Try.underlying22 hi hz hsize hby rfl (by omega) A n n (u8s bs) hs ?_ hr.shows.1 ?_ ⟨g, 0, none⟩ 1 c [.int .u8 b] hx rfl ?_ (one1 _ _) (by omega) (le_max (by omega)) (by omega) ?_
  · intro e
    rcases Nat.eq_zero_or_pos n with h | h
    · exact ⟨h, h⟩
    · obtain ⟨_, h, _⟩ := hr.shows.2 h
      rw [e] at h
      cases h
  · intro ad e j u hj
    rcases Nat.eq_zero_or_pos n with h | h
    · subst h
      have := hr.shows.zero
      rw [this] at hj
      simp at hj
    · obtain ⟨ad', h, _, hcc⟩ := hr.shows.2 h
      rw [e] at h
      injection h with h
      subst h
      exact hcc j u hj
  · intro j u hj
    rcases j with _ | j
    · simp at hj
      subst hj
      simpa [Addr.add] using hc
    · simp at hj
  · intro v' w' own hg'
    obtain ⟨A', c', rfl, l', _, _⟩ := own_form own
    exact hK A' c' w' l' (Ext.of_grown (Ext.refl w) hg' (fun k e => by cases e))
set_option maxRecDepth 100000 in
set_option maxHeartbeats 8000000 in
theorem SumWords_law (w : World) (A : Option Addr) (n c : Nat) (bs : List Int) (rdA : Rd w A n bs) (leA : n ≤ c) (cmA : c ≤ maxLen) :
    Calls Try.prog 6 #[.slice A n c] w fun e w' => e = .returned (.bool true) ∧ Ext w w' := by
  have FA := fun W => Lib.hid (few_any A n c W leA cmA)
  have ra := rdA.take (k := min n 300) (by omega)
  have ha : min n 300 ≤ 300 ∧ min n 300 ≤ c := by omega
  clear rdA
  generalize min n 300 = n1 at *
  generalize bs.take n1 = b1 at *
  obtain ⟨ha1, ha2⟩ := ha
  obtain ⟨dn, hdn⟩ : ∃ dn, dn = n1 / 2 := ⟨_, rfl⟩
  obtain ⟨q, hq⟩ : ∃ q, q = 2 * dn := ⟨_, rfl⟩
  have hqn : q ≤ n1 := by omega
  have hd1 : (n1 : Int).tdiv 2 = dn := by rw [Int.tdiv_eq_ediv_of_nonneg (by omega), hdn]; rfl
  have hp1 : (dn : Int) * 2 = q := by omega
  have rx := ra.take (k := q) hqn
  clear ra
  generalize b1.take q = X at *
  have hqc : q ≤ c := by omega
  have hq300 : q ≤ 300 := by omega
  have hqcI : (q : Int) ≤ c := by omega
  have lX := rx.len
  obtain ⟨p, r, ⟨p0, p1⟩, ⟨r0, r1⟩, V1, V2, V3, V4, V5⟩ := words_facts rx.byts lX hq hq300
  have HV1 := Lib.hid V1
  have HV2 := Lib.hid V2
  have HV3 := Lib.hid V3
  have HV4 := Lib.hid V4
  have HV5 := Lib.hid V5
  have LX := Lib.hid lX
  have HQD := Lib.hid hq
  have hdn300 : dn ≤ 300 := by omega
  clear V1 V2 V3 V4 V5 lX hdn hq
  go_enter Try.func6, Try.ntmps6
  go_upto_region 2 with (go_at_call 12; (refine (shown_any _).mono ?_); rintro e w1 ⟨rfl, x1⟩)
  go_upto_region 3 with (go_at_call 10; (refine ((FA _).out).mono ?_); rintro e w2 ⟨rfl, rfl⟩)
  go_upto_region 4 with (fail)
  have rx1 := rx.ext x1
  go_wp2
  go_loopw [5, 6, 7, 8, 32] (fun v5 v6 _ _ i wr => ∃ k : Nat, k ≤ q ∧ i = .int .i64 k ∧ wr.ownsRow w1.heap.size 5 1 v5 ((k + 1) / 2) (u8s (evens X k)) ∧ wr.ownsRow w1.heap.size 5 1 v6 (k / 2) (u8s (odds X k)) ∧ (∀ b, v5.ownBlock = some b → v6.ownBlock ≠ some b) ∧ Ext w1 wr) (fun _ _ _ _ i _ => q - (intOf i).toNat)
  case atStart => exact ⟨0, Nat.zero_le _, rfl, ⟨rfl, .inl ⟨rfl, rfl⟩⟩, ⟨rfl, .inl ⟨rfl, rfl⟩⟩, (fun b e => nomatch e), Ext.refl _⟩
  case round =>
    obtain ⟨k, hk, rfl, o5, o6, hne, xg⟩ := hrel
    by_cases hlt : k < q
    · have rk := rx1.ext xg
      obtain ⟨bb, off, rfl, hbl, hcl⟩ := rk.cell (k := k) hlt
      have hltI : (k : Int) < q := by omega
      clear rk
      by_cases hev : k % 2 = 0
      · have hmt : (k : Int).tmod 2 = 0 := by have := tmod_nat k 2; rw [hev] at this; exact this
        have HE : Hid (evens X (k + 1) = evens X k ++ [X.getD k 0]) := by show _ = _; simp only [evens]; rw [if_pos hev]
        have HO : Hid (odds X (k + 1) = odds X k) := by show _ = _; simp only [odds]; rw [if_pos hev, List.append_nil]
        have h1 : (k + 1 + 1) / 2 = (k + 1) / 2 + 1 := by omega
        have h2 : (k + 1) / 2 = k / 2 := by omega
        have H1 := Lib.hid h1
        have H2 := Lib.hid h2
        clear h1 h2 hev
        go_wp2_with (at_builtin; refine wpList_app el22 rfl _ _ rfl (o5.alloc _) rfl (Shows.new1 _ _ _) rfl (one1 _ _) (le_max (by omega)) (by omega) rfl (xg.alloc _) ?_; intro v4 w4 own4 x4 hg4 hat4)
        go_roundw
        case rel =>
          refine ⟨k + 1, by omega, by go_num, by rw [H1.out, HE.out, u8s_append]; exact own4, ?_, ?_, x4⟩
          · rw [H2.out, HO.out]
            exact own_grow (o6.alloc _) hg4 (fun b e1 e2 => hne b e2.symm e1)
          · intro b e1 e2
            rcases hat4 with e4 | e4
            · exact hne b (by rw [← e4]; exact e1) e2
            · rw [e4] at e1
              have := own_sz o6 e2
              injection e1 with e1
              simp at e1
              omega
        case measure => simp [intOf]; omega
      · have hev1 : k % 2 = 1 := by omega
        have hmt : (k : Int).tmod 2 = 1 := by have := tmod_nat k 2; rw [hev1] at this; exact this
        have HE : Hid (evens X (k + 1) = evens X k) := by show _ = _; simp only [evens]; rw [if_neg hev, List.append_nil]
        have HO : Hid (odds X (k + 1) = odds X k ++ [X.getD k 0]) := by show _ = _; simp only [odds]; rw [if_neg hev]
        have h1 : (k + 1 + 1) / 2 = (k + 1) / 2 := by omega
        have h2 : (k + 1) / 2 = k / 2 + 1 := by omega
        have H1 := Lib.hid h1
        have H2 := Lib.hid h2
        clear h1 h2 hev hev1
        go_wp2_with (at_builtin; refine wpList_app el22 rfl _ _ rfl (o6.alloc _) rfl (Shows.new1 _ _ _) rfl (one1 _ _) (le_max (by omega)) (by omega) rfl (xg.alloc _) ?_; intro v4 w4 own4 x4 hg4 hat4)
        go_roundw
        case rel =>
          refine ⟨k + 1, by omega, by go_num, ?_, by rw [H2.out, HO.out, u8s_append]; exact own4, ?_, x4⟩
          · rw [H1.out, HE.out]
            exact own_grow (o5.alloc _) hg4 (fun b e1 e2 => hne b e1 e2.symm)
          · intro b e1 e2
            rcases hat4 with e4 | e4
            · exact hne b e1 (by rw [← e4]; exact e2)
            · rw [e4] at e2
              have := own_sz o5 e1
              injection e2 with e2
              simp at e2
              omega
        case measure => simp [intOf]; omega
    · obtain rfl : k = q := by omega
      obtain ⟨A5, c5, rfl, l5, m5, r5⟩ := own_rd o5 (evens_byts rx.byts k)
      obtain ⟨A6, c6, rfl, l6, m6, r6⟩ := own_rd o6 (odds_byts rx.byts k)
      have hm2 : k % 2 = 0 := by have := HQD.out; omega
      have HM2 := Lib.hid hm2
      have rxg := rx1.ext xg
      have xx := x1.trans xg
      have hwa : Hid (wayK 5 = some ⟨2, 0, 27, 4294967295, 0⟩) := rfl
      have hwb : Hid (wayK 3 = some ⟨1, 0, 27, 4294967295, 0⟩) := rfl
      have hm3 : (k + 1) % 2 ≠ 0 := by omega
      have HM3 := Lib.hid hm3
      have h11 : (k + 1) / 2 ≤ 300 := by omega
      have h12 : k / 2 ≤ 300 := by omega
      clear hm2 hm3 o5 o6 hne hk hlt
      go_upto_region 13 with (go_at_call 9; (refine (of_any _ _ _ _ _ _ _ rxg (by omega) hqc cmA _ hwa.out HM2.out).mono ?_); rintro e w20 ⟨rfl, x20⟩; rw [HV1.out])
      go_upto_region 14 with (go_at_call 9; (refine (of_any _ _ _ _ _ _ _ (rxg.ext x20) (by omega) hqc cmA _ hwa.out HM2.out).mono ?_); rintro e w21 ⟨rfl, x21⟩; rw [HV2.out])
      have y21 := x20.trans x21
      go_upto_region 15 with (go_at_call 9; (refine (of_any _ _ _ _ _ _ _ (r5.ext y21) (by omega) l5 m5 _ hwb.out (Nat.mod_one _)).mono ?_); rintro e w22 ⟨rfl, x22⟩; rw [HV3.out])
      have y22 := y21.trans x22
      go_upto_region 16 with (go_at_call 9; (refine (of_any _ _ _ _ _ _ _ (r6.ext y22) (by omega) l6 m6 _ hwb.out (Nat.mod_one _)).mono ?_); rintro e w23 ⟨rfl, x23⟩; rw [HV4.out])
      have y23 := y22.trans x23
      go_upto_region 17 with (go_at_call 9; (refine (of_any _ _ _ _ _ _ _ (rxg.ext y23) (by omega) hqc cmA _ hwb.out (Nat.mod_one _)).mono ?_); rintro e w24 ⟨rfl, x24⟩; rw [HV5.out])
      have y24 := y23.trans x24
      have rx24 := rxg.ext y24
      have one24 := fun W : World => blk_cell (i := 0) (heap_alloc_new W (.cells #[.int .u8 1] 5)) rfl
      have ONE := fun W => Lib.hid (one24 W)
      clear one24
      go_upto_region 18 with (first
        | (at_builtin; refine wpList_app_full rfl _ _ rfl (rx24.ext ((Ext.refl _).alloc _)) rfl (by omega) rfl ((ONE _).out) ?_; intro A25 c25 w25 l25 x25)
        | (go_at_call 9; (refine (of_short 5 _ hwa.out _ _ _ _ _ (le_max (by omega)) HM3.out).mono ?_); rintro e w26 ⟨rfl, x26⟩))
      have y26 := xx.trans (y24.trans ((((Ext.refl w24).alloc _).trans x25).trans x26))
      go_wp2
      go_ret
      exact ⟨by simp, y26⟩
end Go.Proofs.Ytjfdcgpnjjhhoaa
