import Derived.Test.YtjgmnbfadnlikaaC
set_option linter.unusedVariables false
set_option linter.unusedSimpArgs false
namespace Go.Proofs.Ytjgmnbfadnlikaa
open Go.RowKit
theorem el37 : Elem Try.prog 37 5 1 1 (.int .u8 0) := Elem.mk' Try.underlying37 (by kernel_rfl) rfl (by omega)
theorem eqn_none (n c : Nat) (W : World) : (binOp .eql 37 (.slice none n c) (.slice none 0 0)).run Try.prog W = .ok (.bool true) W := by kernel_rfl
theorem eqn_some (ad : Addr) (n c : Nat) (W : World) : (binOp .eql 37 (.slice (some ad) n c) (.slice none 0 0)).run Try.prog W = .ok (.bool false) W := by kernel_rfl
theorem cl_any {w : World} {A : Option Addr} {n : Nat} (c : Nat) {bs : List Int} (hr : Rd w A n bs) (hn : n ≤ 100000) :
    Calls Try.prog 31 #[.slice A n c] w fun e w' => ∃ v, e = .returned v ∧ Ext w w' ∧ w'.ownsRow w.heap.size 5 1 v n (u8s bs) := by
  rcases A with _ | ad
  · have h0 : n = 0 := by
      rcases Nat.eq_zero_or_pos n with h | h
      · exact h
      · obtain ⟨_, e, _⟩ := hr.shows.2 h; cases e
    subst h0
    have hb : bs = [] := List.eq_nil_of_length_eq_zero hr.len
    subst hb
    have hen := eqn_none
    go_enter Try.func31, Try.ntmps31
    go_wp2
    go_ret
    exact ⟨_, rfl, Ext.refl w, ⟨rfl, .inl ⟨rfl, rfl⟩⟩⟩
  · have hs := hr.shows
    have hes := eqn_some
    go_enter Try.func31, Try.ntmps31
    go_wp2_with (at_builtin; refine wpList_app el37 rfl _ _ rfl (World.ownsRow_made w #[] 0 (Nat.le_refl _) (by simp) rfl) rfl (hs.ext ((Ext.refl w).alloc _)) rfl (u8s_one _) (le_max (by omega)) (by omega) rfl ((Ext.refl w).alloc _) ?_; intro v9 w9 hown9 x9 hg9 hat9; simp only [List.nil_append, Nat.zero_add] at hown9)
    go_ret
    exact ⟨_, rfl, x9, hown9⟩
theorem find_any {w : World} {g : Nat} {s : MS} {va : Tg → Value} {T : Nat → Option Tg} (h : MemC w g s va T) (who : Int) (area at_ : Nat) (n : Int) (ha : area < 256) (hat : at_ < 4294967296) (hn : n < 9223372036854775808) :
    Calls Try.prog 32 #[.pointer (some ⟨g, 0, none⟩), .int .u8 who, .int .u8 (area : Int), .int .u32 (at_ : Int), .int .i64 n] w fun e w' => Ext w w' ∧ ∃ v b, e = .returned (.tuple #[v, .bool b, .int .i64 (s.err who area at_ n)]) ∧
      (s.err who area at_ n ≠ 0 → v = .slice none 0 0 ∧ b = false) ∧
      (s.err who area at_ n = 0 → (who = 1 ∨ who = 2) ∧ 0 ≤ n ∧ area ≤ s.segs.length ∧ at_ + n.toNat ≤ (s.vb who area).length ∧ b = s.may who area ∧ ∃ A c, va (s.vt who area) = .slice A (s.vb who area).length c ∧ (s.vb who area).length ≤ c ∧ v = .slice (if c = at_ then A else Option.map (fun x => x.add at_) A) n.toNat (c - at_)) := by
  by_cases hw : who = 1 ∨ who = 2
  · by_cases h2 : n < 0
    · have he : s.err who area at_ n = 1 := by unfold MS.err; rw [if_pos (.inr h2)]
      rw [he]
      refine (find_arg1 who area at_ n hw h2).mono ?_
      rintro e w' ⟨rfl, rfl⟩
      exact ⟨Ext.refl _, _, _, rfl, fun _ => ⟨rfl, rfl⟩, fun h => by omega⟩
    · have hne : ¬ (¬ (who = 1 ∨ who = 2) ∨ n < 0) := fun h => h.elim (fun h => h hw) h2
      by_cases h3 : s.segs.length < area
      · have he : s.err who area at_ n = 80 := by unfold MS.err; rw [if_neg hne, if_pos h3]
        rw [he]
        refine (find_area h who area at_ n hw h2 h3 ha).mono ?_
        rintro e w' ⟨rfl, rfl⟩
        exact ⟨Ext.refl _, _, _, rfl, fun _ => ⟨rfl, rfl⟩, fun h => by omega⟩
      · obtain ⟨m, rfl⟩ : ∃ m : Nat, n = m := ⟨n.toNat, by omega⟩
        have hmm : m < 9223372036854775808 := by omega
        have hL := vb_len h.ok who area
        have hO := vb_own h who (area := area) (by omega)
        obtain ⟨A, c, hv, hLc, _⟩ := own_form hO
        obtain ⟨sA, sc, hsv, _, _⟩ := own_form h.seg
        have K := h.row
        -- both, by whose area
        have key : (((s.vb who area).length < at_ + m) → Calls Try.prog 32 #[.pointer (some ⟨g, 0, none⟩), .int .u8 who, .int .u8 (area : Int), .int .u32 (at_ : Int), .int .i64 (m : Int)] w fun e w' => e = .returned (.tuple #[.slice none 0 0, .bool false, .int .i64 80]) ∧ Ext w w') ∧
            ((at_ + m ≤ (s.vb who area).length) → Calls Try.prog 32 #[.pointer (some ⟨g, 0, none⟩), .int .u8 who, .int .u8 (area : Int), .int .u32 (at_ : Int), .int .i64 (m : Int)] w fun e w' => e = .returned (.tuple #[.slice (if c = at_ then A else Option.map (fun x => x.add at_) A) m (c - at_), .bool (s.may who area), .int .i64 0]) ∧ Ext w w') := by
          by_cases h0 : area = 0
          · subst h0
            have ev : s.vt who 0 = (1, 0, 0) := by unfold MS.vt; rw [if_pos rfl]
            have em : s.may who 0 = true := by unfold MS.may; rw [if_pos rfl]
            rw [ev] at hv
            rw [hv, hsv] at K
            rw [em]
            constructor
            · intro he
              rcases hw with rfl | rfl
              · refine (find_ram_end1 at_ m hat hmm hL he K).mono ?_
                rintro e w' ⟨rfl, rfl⟩; exact ⟨rfl, Ext.refl _⟩
              · refine (find_ram_end2 at_ m hat hmm hL he K).mono ?_
                rintro e w' ⟨rfl, rfl⟩; exact ⟨rfl, Ext.refl _⟩
            · intro he
              rcases hw with rfl | rfl
              · refine (find_ram_ok1 at_ m hat hmm hL he hLc K).mono ?_
                rintro e w' ⟨rfl, rfl⟩; exact ⟨rfl, Ext.refl _⟩
              · refine (find_ram_ok2 at_ m hat hmm hL he hLc K).mono ?_
                rintro e w' ⟨rfl, rfl⟩; exact ⟨rfl, Ext.refl _⟩
          · obtain ⟨q, hq⟩ : ∃ q, s.segs[area - 1]? = some q := ⟨_, List.getElem?_eq_getElem (by omega)⟩
            have ev : s.vt who area = (4, area - 1, q.see who) := by unfold MS.vt; rw [if_neg h0, hq]
            have em : s.may who area = (q.see who != 0) := by unfold MS.may; rw [if_neg h0, hq]
            rw [ev] at hv
            rw [em]
            have hsee := (h.ok.g q (List.mem_of_getElem? hq)).see who
            obtain ⟨P, pc, u, hpv, _, _, hu, hcell⟩ := own_at (h.pg hq) hsee
            rw [pgRow_get va _ _ hsee] at hu
            injection hu with hu
            subst hu
            rw [hv] at hcell
            obtain ⟨sg, sc', hsg, _, _, _, hr⟩ := own_mid (vals := [va (3, area - 1, 0), .int .i64 (q.a : Int), .int .i64 (q.x : Int)]) h.seg (i := area - 1) (by omega) (by simp) (by simp) (fun j u hj => segRow_get va 0 s.segs (area - 1) q j u hq (by simpa using hj))
            rw [hpv] at hr
            rw [hsv] at hsg K
            injection hsg with e1 e2 e3
            subst e1 e3
            have hra := own_form h.ram
            obtain ⟨rA, rc, hrv, _, _⟩ := hra
            rw [hrv] at K
            constructor
            · intro he
              rcases hw with rfl | rfl
              · exact find_seg_end1 at_ m hat hmm hL he K (i := area - 1) (by omega) h.ok.n (by omega) hr hsee hcell rfl
              · exact find_seg_end2 at_ m hat hmm hL he K (i := area - 1) (by omega) h.ok.n (by omega) hr hsee hcell rfl
            · intro he
              rcases hw with rfl | rfl
              · exact find_seg_ok1 at_ m hat hmm hL he hLc K (i := area - 1) (by omega) h.ok.n (by omega) hr hsee hcell rfl
              · exact find_seg_ok2 at_ m hat hmm hL he hLc K (i := area - 1) (by omega) h.ok.n (by omega) hr hsee hcell rfl
        by_cases h4 : (s.vb who area).length < at_ + m
        · have he : s.err who area at_ m = 80 := by unfold MS.err; rw [if_neg hne, if_neg h3, if_pos (by omega)]
          rw [he]
          refine (key.1 h4).mono ?_
          rintro e w' ⟨rfl, x⟩
          exact ⟨x, _, _, rfl, fun _ => ⟨rfl, rfl⟩, fun h => by omega⟩
        · have he : s.err who area at_ m = 0 := by unfold MS.err; rw [if_neg hne, if_neg h3, if_neg (by omega)]
          rw [he]
          refine (key.2 (by omega)).mono ?_
          rintro e w' ⟨rfl, x⟩
          exact ⟨x, _, _, rfl, fun h => by omega, fun _ => ⟨hw, by omega, by omega, by simp; omega, rfl, A, c, hv, hLc, by simp⟩⟩
  · have he : s.err who area at_ n = 1 := by unfold MS.err; rw [if_pos (.inl hw)]
    rw [he]
    refine (find_arg0 who area at_ n (fun e => hw (.inl e)) (fun e => hw (.inr e))).mono ?_
    rintro e w' ⟨rfl, rfl⟩
    exact ⟨Ext.refl _, _, _, rfl, fun _ => ⟨rfl, rfl⟩, fun h => by omega⟩
end Go.Proofs.Ytjgmnbfadnlikaa
