import Derived.Test.YtjgmnbfadnlikaaE
set_option linter.unusedVariables false
set_option linter.unusedSimpArgs false
namespace Go.Proofs.Ytjgmnbfadnlikaa
open Go.RowKit
def MS.rd (s : MS) (who : Int) (area at_ : Nat) (n : Int) : List Int := if s.err who area at_ n = 0 then ((s.vb who area).drop at_).take n.toNat else []
theorem mem_rd {w : World} {g : Nat} {s : MS} {va : Tg → Value} {T : Nat → Option Tg} (h : MemC w g s va T) (who : Int) {area at_ m : Nat} {A : Option Addr} {c : Nat} (ha : area ≤ s.segs.length) (hfit : at_ + m ≤ (s.vb who area).length)
    (hv : va (s.vt who area) = .slice A (s.vb who area).length c) (hc : (s.vb who area).length ≤ c) : Rd w (if c = at_ then A else Option.map (fun x => x.add at_) A) m (((s.vb who area).drop at_).take m) := by
  have hO := vb_own h who ha
  rw [hv] at hO
  have r : Rd w A (s.vb who area).length (s.vb who area) := ⟨Shows.of_own hO, vb_byts h.ok who area⟩
  exact (r.drop (k := at_) (by omega) hc).take (k := m) (by omega)
set_option maxHeartbeats 1000000 in
theorem read_any {w : World} {g : Nat} {s : MS} {va : Tg → Value} {T : Nat → Option Tg} (h : MemC w g s va T) (who : Int) (area at_ : Nat) (n : Int) (ha : area < 256) (hat : at_ < 4294967296) (hn : n < 9223372036854775808) :
    Calls Try.prog 23 #[.pointer (some ⟨g, 0, none⟩), .int .u8 who, .int .u8 (area : Int), .int .u32 (at_ : Int), .int .i64 n] w fun e w' => Ext w w' ∧ ∃ v, e = .returned (.tuple #[v, .int .i64 (s.err who area at_ n)]) ∧ w'.ownsRow w.heap.size 5 1 v (s.rd who area at_ n).length (u8s (s.rd who area at_ n)) := by
  have hf := find_any h who area at_ n ha hat hn
  have HH := Lib.hid h
  by_cases he : s.err who area at_ n = 0
  · have hrd : s.rd who area at_ n = ((s.vb who area).drop at_).take n.toNat := by unfold MS.rd; rw [if_pos he]
    rw [he] at hf ⊢
    obtain ⟨B, hB⟩ : ∃ B, B = ((s.vb who area).drop at_).take n.toNat := ⟨_, rfl⟩
    rw [hrd, ← hB]
    have HB := Lib.hid hB
    have HF := Lib.hid hf
    clear hf h he hrd hB
    go_enter Try.func23, Try.ntmps23
    go_wp2_with (first
      | (go_at_call 32; (refine HF.out.mono ?_); rintro e w1 ⟨x1, v, b, rfl, -, hk⟩; obtain ⟨hw, h0, h1, h2, rfl, A, c, hv, hlc, rfl⟩ := hk rfl; have r1 := mem_rd (HH.out.ext x1) who h1 h2 hv hlc; have hl := vb_len HH.out.ok who area; rw [← HB.out] at r1; generalize (if c = at_ then A else Option.map (fun x => x.add at_) A) = pA at r1 ⊢)
      | (go_at_call 31; (refine (cl_any _ r1 (by omega)).mono ?_); rintro e w2 ⟨v2, rfl, x2, own2⟩))
    go_ret2
    refine ⟨x1.trans x2, _, rfl, ?_⟩
    rw [r1.len]
    exact own_base own2 x1.size
  · have hrd : s.rd who area at_ n = [] := by unfold MS.rd; rw [if_neg he]
    rw [hrd]
    obtain ⟨er, her⟩ : ∃ er, er = s.err who area at_ n := ⟨_, rfl⟩
    rw [← her] at he hf ⊢
    have hb : (er == 0) = false := by simpa using he
    have HF := Lib.hid hf
    clear hf h her
    go_enter Try.func23, Try.ntmps23
    go_wp2_with (go_at_call 32; (refine HF.out.mono ?_); rintro e w1 ⟨x1, v, b, rfl, hk, -⟩; obtain ⟨rfl, rfl⟩ := hk he)
    go_ret2
    exact ⟨x1, _, rfl, ⟨rfl, .inl ⟨rfl, rfl⟩⟩⟩
def MS.wre (s : MS) (who : Int) (area at_ : Nat) (n : Nat) : Int := if s.err who area at_ n ≠ 0 then s.err who area at_ n else if s.may who area = false ∧ 0 < n then 81 else 0
def MS.wr (s : MS) (who : Int) (area at_ : Nat) (bs : List Int) : MS := if s.wre who area at_ bs.length = 0 then s.put who area at_ bs else s
theorem size5 : (Try.prog.info? 5).map (·.size) = some 1 := by kernel_rfl
theorem at_off {c at_ g : Nat} (h : at_ < c) : (if c = at_ then some (⟨g, 0, none⟩ : Addr) else Option.map (fun x => x.add at_) (some (⟨g, 0, none⟩ : Addr))) = some ⟨g, at_, none⟩ := by
  rw [if_neg (by omega)]
  simp [Addr.add_mid]
set_option maxHeartbeats 1000000 in
theorem write_any {w : World} {g : Nat} {s : MS} {va : Tg → Value} {T : Nat → Option Tg} (h : MemC w g s va T) (who : Int) (area at_ : Nat) {bA : Option Addr} {m : Nat} (c : Nat) {bs : List Int} (hr : Rd w bA m bs) (ha : area < 256) (hat : at_ < 4294967296) (hm : m ≤ 100000) :
    Calls Try.prog 22 #[.pointer (some ⟨g, 0, none⟩), .int .u8 who, .int .u8 (area : Int), .int .u32 (at_ : Int), .slice bA m c] w fun e w' => e = .returned (.int .i64 (s.wre who area at_ m)) ∧ MemC w' g (s.wr who area at_ bs) va T ∧ Kept (fun b => T b ≠ none) w w' := by
  have hf := find_any h who area at_ m ha hat (by omega)
  have hlen := hr.len
  have HH := Lib.hid h
  by_cases he : s.err who area at_ m = 0
  · by_cases h8 : s.may who area = false ∧ 0 < m
    · have hre : s.wre who area at_ m = 81 := by unfold MS.wre; rw [if_neg (fun h => h he), if_pos h8]
      have hwr : s.wr who area at_ bs = s := by unfold MS.wr; rw [hlen, if_neg (by omega)]
      rw [hre, hwr]
      rw [he] at hf
      obtain ⟨hmay, hm0⟩ := h8
      have HF := Lib.hid hf
      have HM := Lib.hid hmay
      clear hf h he hre hwr hlen hmay
      have hm0' : (0 : Int) < m := by omega
      go_enter Try.func22, Try.ntmps22
      go_wp2_with (go_at_call 32; (refine HF.out.mono ?_); rintro e w1 ⟨x1, v, b, rfl, -, hk⟩; obtain ⟨hw, h0, h1, h2, rfl, A, c, hv, hlc, rfl⟩ := hk rfl; rw [HM.out]; generalize (if c = at_ then A else Option.map (fun x => x.add at_) A) = pA)
      go_ret
      exact ⟨rfl, HH.out.ext x1, .of_ext x1⟩
    · have hre : s.wre who area at_ m = 0 := by unfold MS.wre; rw [if_neg (fun h => h he), if_neg h8]
      have hwr : s.wr who area at_ bs = s.put who area at_ bs := by unfold MS.wr; rw [hlen, if_pos hre]
      rw [hre, hwr]
      rw [he] at hf
      obtain ⟨my, hmy⟩ : ∃ b, b = s.may who area := ⟨_, rfl⟩
      rw [← hmy] at hf h8
      have HF := Lib.hid hf
      have HL := Lib.hid hlen
      have HR := Lib.hid hr
      have HM := Lib.hid hmy
      clear hf h he hre hwr hlen hr hmy
      rcases my with _ | _
      · have hm0 : m = 0 := by
          rcases Nat.eq_zero_or_pos m with h | h
          · exact h
          · exact absurd ⟨rfl, h⟩ h8
        subst hm0
        go_enter Try.func22, Try.ntmps22
        go_upto_region 6 with (go_at_call 32; (refine HF.out.mono ?_); rintro e w1 ⟨x1, v, b, rfl, -, hk⟩; obtain ⟨hw, h0, h1, h2, rfl, A, c, hv, hlc, rfl⟩ := hk rfl; generalize hpA : (if c = at_ then A else Option.map (fun x => x.add at_) A) = pA)
        simp only [Int.toNat_natCast] at h2
        have own1 := vb_own (HH.out.ext x1) who h1
        go_wp2_with (refine wpList_copyO rfl _ _ _ _ rfl 5 Try.underlying37 size5 rfl rfl (off := at_) (Nat.min_self _).symm own1 h2 (fun h => by omega) (HR.out.ext x1).shows (u8s_one _) ?_; intro w2 own2 gr2)
        go_ret
        rw [hv] at own1
        have hfull : (u8s bs).take 0 = u8s bs := by rw [List.eq_nil_of_length_eq_zero HL.out]; rfl
        rw [hfull] at own2
        have hput := put_mem (HH.out.ext x1) who h1 HR.out.byts (by rw [HL.out]; exact h2) own2 gr2
        exact ⟨rfl, hput.1, (Kept.of_ext x1).trans' hput.2⟩
      · go_enter Try.func22, Try.ntmps22
        go_upto_region 6 with (go_at_call 32; (refine HF.out.mono ?_); rintro e w1 ⟨x1, v, b, rfl, -, hk⟩; obtain ⟨hw, h0, h1, h2, rfl, A, c, hv, hlc, rfl⟩ := hk rfl; generalize hpA : (if c = at_ then A else Option.map (fun x => x.add at_) A) = pA)
        simp only [Int.toNat_natCast] at h2 ⊢
        have own1 := vb_own (HH.out.ext x1) who h1
        have hdp : 0 < m → ∀ g' c', va (s.vt who area) = .slice (some ⟨g', 0, none⟩) (s.vb who area).length c' → pA = some ⟨g', at_, none⟩ := by
          intro h g' c' e
          rw [hv] at e
          injection e with e1 e2 e3
          subst e1 e3
          rw [← hpA, at_off (by omega)]
        go_wp2_with (refine wpList_copyO rfl _ _ _ _ rfl 5 Try.underlying37 size5 rfl rfl (off := at_) (Nat.min_self _).symm own1 h2 hdp (HR.out.ext x1).shows (u8s_one _) ?_; intro w2 own2 gr2)
        go_ret
        have hfull : (u8s bs).take m = u8s bs := List.take_of_length_le (by simp [u8s, HL.out])
        rw [hfull] at own2
        have hput := put_mem (HH.out.ext x1) who h1 HR.out.byts (by rw [HL.out]; exact h2) own2 gr2
        exact ⟨rfl, hput.1, (Kept.of_ext x1).trans' hput.2⟩
  · obtain ⟨er, her⟩ : ∃ er, er = s.err who area at_ m := ⟨_, rfl⟩
    have hre : s.wre who area at_ m = er := by unfold MS.wre; rw [if_pos he, her]
    have hwr : s.wr who area at_ bs = s := by unfold MS.wr; rw [hlen, hre, if_neg (by rw [her]; exact he)]
    rw [hre, hwr]
    rw [← her] at he hf
    have hb : (er == 0) = false := by simpa using he
    have HF := Lib.hid hf
    clear hf h her hre hwr hlen
    go_enter Try.func22, Try.ntmps22
    go_wp2_with (go_at_call 32; (refine HF.out.mono ?_); rintro e w1 ⟨x1, v, b, rfl, hk, -⟩; obtain ⟨rfl, rfl⟩ := hk he)
    go_ret
    exact ⟨rfl, HH.out.ext x1, .of_ext x1⟩
end Go.Proofs.Ytjgmnbfadnlikaa
