import Derived.Test.YtjgmnbfadnlikaaRB
set_option linter.unusedVariables false
set_option linter.unusedSimpArgs false
namespace Go.Proofs.Ytjgmnbfadnlikaa
open Go.RowKit
theorem own_nil1 {w : World} {b : Nat} : w.ownsRow b 5 1 (.slice none 0 0) ([] : List Int).length (u8s []) := ⟨rfl, .inl ⟨rfl, rfl⟩⟩
/-- the reference's area, by cases, in names. -/
theorem r_area_yes {w : World} {g : Nat} {s : MS} {va : Tg → Value} {T : Nat → Option Tg} (h : MemR w g s va T) {who : Int} (hw : who = 1 ∨ who = 2) {area : Nat} (h4 : area < 256) (ha : area ≤ s.segs.length) {v : Value} (hv : va (s.vt who area) = v) {b : Bool} (hb : (!s.may who area) = b) :
    Calls Try.prog 29 #[.pointer (some ⟨g, 0, none⟩), .int .u8 who, .int .u8 (area : Int)] w fun e w' => e = .returned (.tuple #[v, .bool b, .bool true]) ∧ w = w' := by
  have := r_area_any h hw h4
  rw [if_neg (by omega), hv, hb] at this
  exact this
theorem r_area_none {w : World} {g : Nat} {s : MS} {va : Tg → Value} {T : Nat → Option Tg} (h : MemR w g s va T) {who : Int} (hw : who = 1 ∨ who = 2) {area : Nat} (h4 : area < 256) (ha : ¬ area ≤ s.segs.length) :
    Calls Try.prog 29 #[.pointer (some ⟨g, 0, none⟩), .int .u8 who, .int .u8 (area : Int)] w fun e w' => e = .returned (.tuple #[.slice none 0 0, .bool false, .bool false]) ∧ w = w' := by
  have := r_area_any h hw h4
  rw [if_pos (by omega)] at this
  exact this
set_option maxHeartbeats 2000000 in
theorem r_read_any {w : World} {g : Nat} {s : MS} {va : Tg → Value} {T : Nat → Option Tg} (h : MemR w g s va T) (who : Int) (area at_ : Nat) (n : Int) (ha : area < 256) (hat : at_ < 4294967296) (hn : n < 9223372036854775808) :
    Calls Try.prog 14 #[.pointer (some ⟨g, 0, none⟩), .int .u8 who, .int .u8 (area : Int), .int .u32 (at_ : Int), .int .i64 n] w fun e w' => Ext w w' ∧ ∃ v, e = .returned (.tuple #[v, .int .i64 (s.err who area at_ n)]) ∧ w'.ownsRow w.heap.size 5 1 v (s.rd who area at_ n).length (u8s (s.rd who area at_ n)) := by
  have hrd0 : s.err who area at_ n ≠ 0 → s.rd who area at_ n = [] := fun h => by unfold MS.rd; rw [if_neg h]
  by_cases hw : who = 1 ∨ who = 2
  · have hw1 : ¬ who < 1 := by omega
    have hw2 : ¬ 2 < who := by omega
    by_cases h2 : n < 0
    · have he : s.err who area at_ n = 1 := by unfold MS.err; rw [if_pos (.inr h2)]
      rw [hrd0 (by omega), he]
      clear hrd0 he hw h hn
      go_enter Try.func14, Try.ntmps14
      go_wp2
      go_ret2
      exact ⟨Ext.refl _, _, rfl, own_nil1⟩
    · have hne : ¬ (¬ (who = 1 ∨ who = 2) ∨ n < 0) := fun h => h.elim (fun h => h hw) h2
      have HW := Lib.hid hw
      by_cases h3 : area ≤ s.segs.length
      · obtain ⟨m, rfl⟩ : ∃ m : Nat, n = m := ⟨n.toNat, by omega⟩
        have hL := vb_len h.ok who area
        have hO := rb_own h who h3
        have hB := vb_byts h.ok who area
        obtain ⟨A, c, hv, hLc, hcm⟩ := own_form hO
        obtain ⟨b, hb⟩ : ∃ b, (!s.may who area) = b := ⟨_, rfl⟩
        have HA := Lib.hid (r_area_yes h hw ha h3 hv hb)
        obtain ⟨L, hLE⟩ : ∃ L, L = (s.vb who area).length := ⟨_, rfl⟩
        rw [hv] at hO
        have r : Rd w A (s.vb who area).length (s.vb who area) := ⟨Shows.of_own hO, hB⟩
        rw [← hLE] at r HA hL hLc
        by_cases h5 : L < m
        · have he : s.err who area at_ m = 80 := by unfold MS.err; rw [if_neg hne, if_neg (by omega), if_pos (by omega)]
          rw [hrd0 (by omega), he]
          have d1 : (L : Int) < m := by omega
          clear hrd0 he hw h hn hne hO hB hv hcm hb hLE r h3 HW
          go_enter Try.func14, Try.ntmps14
          go_wp2_with (go_at_call 29; (refine HA.out.mono ?_); rintro e w1 ⟨rfl, rfl⟩)
          go_ret2
          exact ⟨Ext.refl _, _, rfl, own_nil1⟩
        · have d1 : ¬ (L : Int) < m := by omega
          obtain ⟨z, hz⟩ : ∃ z, z = L - m := ⟨_, rfl⟩
          have hzI : (L : Int) - m = (z : Int) := by omega
          by_cases h6 : L < at_ + m
          · have he : s.err who area at_ m = 80 := by unfold MS.err; rw [if_neg hne, if_neg (by omega), if_pos (by omega)]
            rw [hrd0 (by omega), he]
            have d2 : (z : Int) < at_ := by omega
            have z63 : z < 9223372036854775808 := by omega
            have a63 : at_ < 9223372036854775808 := by omega
            clear hrd0 he hw h hn hne hO hB hv hcm hb hLE r h3 HW hz
            have uz := wri z z63
            have ua := wri at_ a63
            clear z63 a63
            go_enter Try.func14, Try.ntmps14
            go_wp2_with (go_at_call 29; (refine HA.out.mono ?_); rintro e w1 ⟨rfl, rfl⟩)
            go_ret2
            exact ⟨Ext.refl _, _, rfl, own_nil1⟩
          · have he : s.err who area at_ m = 0 := by unfold MS.err; rw [if_neg hne, if_neg (by omega), if_neg (by omega)]
            have hrd : s.rd who area at_ m = ((s.vb who area).drop at_).take m := by unfold MS.rd; rw [if_pos he, Int.toNat_natCast]
            have r1 := (r.drop (k := at_) (by omega) hLc).take (k := m) (by omega)
            rw [hrd, he]
            obtain ⟨B, hBE⟩ : ∃ B, B = ((s.vb who area).drop at_).take m := ⟨_, rfl⟩
            rw [← hBE] at r1 ⊢
            have d2 : ¬ (z : Int) < at_ := by omega
            have z63 : z < 9223372036854775808 := by omega
            have a63 : at_ < 9223372036854775808 := by omega
            obtain ⟨q, hq⟩ : ∃ q, q = at_ + m := ⟨_, rfl⟩
            have hadd : (at_ : Int) + m = (q : Int) := by omega
            have b6 : q < 9223372036854775808 := by omega
            have c1 : at_ ≤ q := by omega
            have c2 : q ≤ c := by omega
            have c3 : q - at_ = m := by omega
            have c5 : (at_ : Int) ≤ q := by omega
            have c6 : (q : Int) ≤ c := by omega
            obtain ⟨pA, hpA⟩ : ∃ p, (if c = at_ then A else Option.map (fun x => x.add at_) A) = p := ⟨_, rfl⟩
            rw [hpA] at r1
            have hm1 : m ≤ 100000 := by omega
            have HR1 := Lib.hid r1
            clear hrd0 he hrd hBE hw h hn hne hO hB hv hcm hb hLE r h3 HW hz hq
            have uz := wri z z63
            have ua := wri at_ a63
            have uq := wri q b6
            clear z63 a63 b6 r1
            go_enter Try.func14, Try.ntmps14
            go_upto_region 6 with (go_at_call 29; (refine HA.out.mono ?_); rintro e w1 ⟨rfl, rfl⟩)
            go_wp2_with (at_builtin; refine wpList_app el37 rfl _ _ rfl (World.ownsRow_made w #[] 0 (Nat.le_refl _) (by simp) rfl) rfl (HR1.out.shows.ext ((Ext.refl w).alloc _)) rfl (u8s_one _) (le_max (by omega)) (by omega) rfl ((Ext.refl w).alloc _) ?_; intro v9 w9 hown9 x9 hg9 hat9; simp only [List.nil_append, Nat.zero_add] at hown9)
            go_ret2
            exact ⟨x9, _, rfl, by rw [HR1.out.len]; exact hown9⟩
      · have he : s.err who area at_ n = 80 := by unfold MS.err; rw [if_neg hne, if_pos (by omega)]
        rw [hrd0 (by omega), he]
        have HA := Lib.hid (r_area_none h hw ha h3)
        clear hrd0 he hw h hn hne h3 HW
        go_enter Try.func14, Try.ntmps14
        go_wp2_with (go_at_call 29; (refine HA.out.mono ?_); rintro e w1 ⟨rfl, rfl⟩)
        go_ret2
        exact ⟨Ext.refl _, _, rfl, own_nil1⟩
  · have he : s.err who area at_ n = 1 := by unfold MS.err; rw [if_pos (.inl hw)]
    rw [hrd0 (by omega), he]
    by_cases hw1 : who < 1
    · clear hrd0 he hw h hn
      go_enter Try.func14, Try.ntmps14
      go_wp2
      go_ret2
      exact ⟨Ext.refl _, _, rfl, own_nil1⟩
    · have hw2 : 2 < who := by omega
      clear hrd0 he hw h hn
      go_enter Try.func14, Try.ntmps14
      go_wp2
      go_ret2
      exact ⟨Ext.refl _, _, rfl, own_nil1⟩
set_option maxHeartbeats 1000000 in
theorem r_page_no1 {w : World} {g : Nat} {s : MS} {va : Tg → Value} {T : Nat → Option Tg} (h : MemR w g s va T) (seg : Int) (hn : ¬ (0 ≤ seg ∧ seg < s.segs.length)) : Calls Try.prog 18 #[.pointer (some ⟨g, 0, none⟩), .int .u8 1, .int .i64 seg] w fun e w' => e = .returned (.tuple #[.int .i64 0, .int .i64 82]) ∧ w = w' := by
  obtain ⟨rA, rc, sA, sc, eA, ec, hr, hs, he, h1, h2, h3, K⟩ := h.row3
  obtain ⟨k0, k1, k2⟩ := cells3 K
  generalize s.segs.length = sn at *
  by_cases h0 : seg < 0
  · clear h hr hs he K k0 k2 hn
    go_enter Try.func18, Try.ntmps18
    go_wp2
    go_ret2
    exact ⟨rfl, rfl⟩
  · have h5 : (sn : Int) ≤ seg := by omega
    have h6 : ¬ seg < (sn : Int) := by omega
    clear h hr hs he K k0 k2 hn
    go_enter Try.func18, Try.ntmps18
    go_wp2
    go_ret2
    exact ⟨rfl, rfl⟩
theorem r_page_yes1 {w : World} {g : Nat} {s : MS} {va : Tg → Value} {T : Nat → Option Tg} (h : MemR w g s va T) (i : Nat) {q : Sg} (hq : s.segs[i]? = some q) : Calls Try.prog 18 #[.pointer (some ⟨g, 0, none⟩), .int .u8 1, .int .i64 (i : Int)] w fun e w' => e = .returned (.tuple #[.int .i64 (q.a : Int), .int .i64 0]) ∧ w = w' := by
  obtain ⟨rA, rc, sA, sc, eA, ec, hr, hs, he, h1, h2, h3, K⟩ := h.row3
  obtain ⟨k0, k1, k2⟩ := cells3 K
  obtain ⟨sg, eg, rfl, rfl, m0, m1, m2, _, _⟩ := h.at_ hq hs he
  have hil := (List.getElem?_eq_some_iff.1 hq).1
  generalize s.segs.length = sn at *
  have hlt : (i : Int) < sn := by omega
  have hge : ¬ (sn : Int) ≤ i := by omega
  have hn0 : ¬ (i : Int) < 0 := by omega
  clear h hr hs he K k0 hq m0
  go_enter Try.func18, Try.ntmps18
  go_wp2
  go_ret2
  exact ⟨rfl, rfl⟩
set_option maxHeartbeats 1000000 in
theorem r_page_no2 {w : World} {g : Nat} {s : MS} {va : Tg → Value} {T : Nat → Option Tg} (h : MemR w g s va T) (seg : Int) (hn : ¬ (0 ≤ seg ∧ seg < s.segs.length)) : Calls Try.prog 18 #[.pointer (some ⟨g, 0, none⟩), .int .u8 2, .int .i64 seg] w fun e w' => e = .returned (.tuple #[.int .i64 0, .int .i64 82]) ∧ w = w' := by
  obtain ⟨rA, rc, sA, sc, eA, ec, hr, hs, he, h1, h2, h3, K⟩ := h.row3
  obtain ⟨k0, k1, k2⟩ := cells3 K
  generalize s.segs.length = sn at *
  by_cases h0 : seg < 0
  · clear h hr hs he K k0 k2 hn
    go_enter Try.func18, Try.ntmps18
    go_wp2
    go_ret2
    exact ⟨rfl, rfl⟩
  · have h5 : (sn : Int) ≤ seg := by omega
    have h6 : ¬ seg < (sn : Int) := by omega
    clear h hr hs he K k0 k2 hn
    go_enter Try.func18, Try.ntmps18
    go_wp2
    go_ret2
    exact ⟨rfl, rfl⟩
theorem r_page_yes2 {w : World} {g : Nat} {s : MS} {va : Tg → Value} {T : Nat → Option Tg} (h : MemR w g s va T) (i : Nat) {q : Sg} (hq : s.segs[i]? = some q) : Calls Try.prog 18 #[.pointer (some ⟨g, 0, none⟩), .int .u8 2, .int .i64 (i : Int)] w fun e w' => e = .returned (.tuple #[.int .i64 (q.x : Int), .int .i64 0]) ∧ w = w' := by
  obtain ⟨rA, rc, sA, sc, eA, ec, hr, hs, he, h1, h2, h3, K⟩ := h.row3
  obtain ⟨k0, k1, k2⟩ := cells3 K
  obtain ⟨sg, eg, rfl, rfl, m0, m1, m2, _, _⟩ := h.at_ hq hs he
  have hil := (List.getElem?_eq_some_iff.1 hq).1
  generalize s.segs.length = sn at *
  have hlt : (i : Int) < sn := by omega
  have hge : ¬ (sn : Int) ≤ i := by omega
  have hn0 : ¬ (i : Int) < 0 := by omega
  clear h hr hs he K k0 hq m0
  go_enter Try.func18, Try.ntmps18
  go_wp2
  go_ret2
  exact ⟨rfl, rfl⟩
theorem r_page_any {w : World} {g : Nat} {s : MS} {va : Tg → Value} {T : Nat → Option Tg} (h : MemR w g s va T) (who seg : Int) : Calls Try.prog 18 #[.pointer (some ⟨g, 0, none⟩), .int .u8 who, .int .i64 seg] w fun e w' => e = .returned (.tuple #[.int .i64 (s.pg who seg).1, .int .i64 (s.pg who seg).2]) ∧ w = w' := by
  unfold MS.pg
  by_cases h1 : who = 1 ∨ who = 2
  · rw [if_neg (fun h => h h1)]
    by_cases h2 : 0 ≤ seg ∧ seg < s.segs.length
    · rw [if_neg (fun h => h h2)]
      obtain ⟨i, rfl⟩ : ∃ i : Nat, seg = i := ⟨seg.toNat, by omega⟩
      obtain ⟨q, hq⟩ : ∃ q, s.segs[i]? = some q := ⟨_, List.getElem?_eq_getElem (by omega)⟩
      simp only [Int.toNat_natCast, hq]
      rcases h1 with rfl | rfl
      · exact r_page_yes1 h i hq
      · exact r_page_yes2 h i hq
    · rw [if_pos h2]
      rcases h1 with rfl | rfl
      · exact r_page_no1 h seg h2
      · exact r_page_no2 h seg h2
  · rw [if_pos h1]
    clear h
    by_cases hw1 : who < 1
    · clear h1
      go_enter Try.func18, Try.ntmps18
      go_wp2
      go_ret2
      exact ⟨rfl, rfl⟩
    · have hw2 : 2 < who := by omega
      clear h1
      go_enter Try.func18, Try.ntmps18
      go_wp2
      go_ret2
      exact ⟨rfl, rfl⟩
end Go.Proofs.Ytjgmnbfadnlikaa
