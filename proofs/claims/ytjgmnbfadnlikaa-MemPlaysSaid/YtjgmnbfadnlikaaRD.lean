import Derived.Test.YtjgmnbfadnlikaaRC
set_option linter.unusedVariables false
set_option linter.unusedSimpArgs false
namespace Go.Proofs.Ytjgmnbfadnlikaa
open Go.RowKit
theorem gtrans {a b c : World} {row : Option Nat} (h : a.grownBy b row) (k : b.grownBy c row) : a.grownBy c row := ⟨k.os.trans h.os, k.tape.trans h.tape, k.output.trans h.output, Nat.le_trans h.size k.size, fun i hi hn => (k.block i (Nat.lt_of_lt_of_le hi h.size) hn).trans (h.block i hi hn)⟩
theorem splice_get {α : Type} (l b : List α) (n : Nat) (h : n + b.length ≤ l.length) (j : Nat) : (splice l n b)[j]? = if n ≤ j ∧ j < n + b.length then b[j - n]? else l[j]? := by
  unfold splice
  simp only [List.getElem?_append, List.length_append, List.length_take, List.getElem?_take, List.getElem?_drop]
  repeat' split
  all_goals first
    | rfl
    | omega
    | (congr 1; omega)
theorem splice_step {α : Type} {l bs : List α} {n k : Nat} {x : α} (hx : bs[k]? = some x) (h : n + bs.length ≤ l.length) : (splice l n (bs.take k)).set (n + k) x = splice l n (bs.take (k + 1)) := by
  have hk := (List.getElem?_eq_some_iff.1 hx).1
  apply List.ext_getElem?
  intro j
  have h1 : (bs.take k).length = k := by rw [List.length_take]; omega
  have h2 : (bs.take (k + 1)).length = k + 1 := by rw [List.length_take]; omega
  have h3 : (splice l n (bs.take k)).length = l.length := length_splice _ _ _ (by omega)
  rw [List.getElem?_set, splice_get _ _ _ (by omega), splice_get _ _ _ (by omega), h1, h2, h3]
  simp only [List.getElem?_take]
  by_cases e : n + k = j
  · subst e
    rw [if_pos rfl, if_pos (by omega), if_pos (by omega), if_pos (by omega), Nat.add_sub_cancel_left, hx]
  · rw [if_neg e]
    by_cases a : n ≤ j ∧ j < n + k
    · rw [if_pos a, if_pos (by omega), if_pos (by omega), if_pos (by omega)]
    · rw [if_neg a, if_neg (by omega)]
theorem rseg_off {s : MS} {va : Tg → Value} {i : Nat} {q q' : Sg} (hq : s.segs[i]? = some q) (hl : q'.pages.length = q.pages.length) (ha : q'.a = q.a) (hx : q'.x = q.x) (t : Tg) (ht : ∀ k, t = (4, i, k) → q'.pages[k]? = q.pages[k]?) :
    rspec (s.seg i q') va t = rspec s va t := by
  have hm := seg_off (va := va) hq hl ha hx t ht
  have hn : (s.seg i q').segs.length = s.segs.length := by simp [MS.seg]
  obtain ⟨a, b, c⟩ := t
  match a with
  | 0 => rfl
  | 1 => exact hm
  | 2 => simp only [rspec, hn]
  | 3 => exact hm
  | 4 => exact hm
  | 5 => simp only [rspec, hn, MS.seg, seeRow_same s.segs i q q' hq ha hx, List.length_set]
  | n + 6 => rfl
theorem rput_mem {w w' : World} {g : Nat} {s : MS} {va : Tg → Value} {T : Nat → Option Tg} (h : MemR w g s va T) (who : Int) {area at_ : Nat} {bs : List Int} (ha : area ≤ s.segs.length) (hb : Byts bs) (hfit : at_ + bs.length ≤ (s.vb who area).length)
    (hv : w'.ownsRow 0 5 1 (va (s.vt who area)) (s.vb who area).length (splice (u8s (s.vb who area)) at_ (u8s bs))) (hg : w.grownBy w' (va (s.vt who area)).ownBlock) :
    MemR w' g (s.put who area at_ bs) va T ∧ Kept (fun b => T b ≠ none) w w' := by
  rw [u8s_splice] at hv
  have hsl : (splice (s.vb who area) at_ bs).length = (s.vb who area).length := length_splice _ _ _ hfit
  by_cases h0 : area = 0
  · subst h0
    have ev : s.vt who 0 = (1, 0, 0) := by unfold MS.vt; rw [if_pos rfl]
    have eb : s.vb who 0 = s.ram := by unfold MS.vb; rw [if_pos rfl]
    have ep : s.put who 0 at_ bs = { s with ram := splice s.ram at_ bs } := by unfold MS.put; rw [if_pos rfl]
    rw [ev] at hg
    rw [ev, eb] at hv
    rw [eb] at hsl
    rw [ep]
    have htag := h.O.tag (1, 0, 0) _ rfl
    refine ⟨⟨h.O.set (t0 := (1, 0, 0)) (p0 := ⟨5, 1, s.ram.length, u8s (splice s.ram at_ bs)⟩) (.of_grown hg (fun b e => htag b e)) hv htag ?_ ?_, h.g0, ⟨by rw [hsl]; exact h.ok.r, splice_byts h.ok.rb hb _, h.ok.n, h.ok.g⟩⟩, .of_grown hg (fun b e => by rw [htag b e]; simp)⟩
    · rintro ⟨a, b, c⟩ ht p hp
      match a with
      | 0 => exact hp
      | 1 =>
        simp only [rspec, mspec] at hp
        split at hp
        · rename_i e; exact absurd (by rw [e]) ht
        · cases hp
      | 2 => exact hp
      | 3 => exact hp
      | 4 => exact hp
      | 5 => exact hp
      | n + 6 => exact hp
    · intro p hp
      simp only [rspec, mspec, if_true] at hp
      injection hp with hp
      rw [← hp, hsl]
  · obtain ⟨q, hq⟩ : ∃ q, s.segs[area - 1]? = some q := ⟨_, List.getElem?_eq_getElem (by omega)⟩
    have hk := h.ok.g q (List.mem_of_getElem? hq)
    have hsee := hk.see who
    have hpg : q.pages[q.see who]? = some (q.pages.getD (q.see who) []) := by rw [List.getD_eq_getElem?_getD, List.getElem?_eq_getElem hsee]; rfl
    have ev : s.vt who area = (4, area - 1, q.see who) := by unfold MS.vt; rw [if_neg h0, hq]
    have eb : s.vb who area = q.pages.getD (q.see who) [] := by unfold MS.vb; rw [if_neg h0, hq]
    have ep : s.put who area at_ bs = s.seg (area - 1) { q with pages := q.pages.set (q.see who) (splice (q.pages.getD (q.see who) []) at_ bs) } := by unfold MS.put; rw [if_neg h0, hq]
    rw [ev] at hg
    rw [ev, eb] at hv
    rw [eb] at hsl
    rw [ep]
    obtain ⟨pg, hpgE⟩ : ∃ pg, pg = q.pages.getD (q.see who) [] := ⟨_, rfl⟩
    rw [← hpgE] at hv hsl hpg ⊢
    have hpl := hk.pl _ (List.mem_of_getElem? hpg)
    have hpb := hk.pb _ (List.mem_of_getElem? hpg)
    have htag := h.O.tag (4, area - 1, q.see who) ⟨5, 1, pg.length, u8s pg⟩ (by simp [rspec, mspec, hq, hpg])
    refine ⟨⟨h.O.set (t0 := (4, area - 1, q.see who)) (p0 := ⟨5, 1, pg.length, u8s (splice pg at_ bs)⟩) (.of_grown hg (fun b e => htag b e)) hv htag ?_ ?_, h.g0, seg_ok h.ok (page_set_ok hk (by rw [hsl, hpl]) (splice_byts hpb hb _))⟩, .of_grown hg (fun b e => by rw [htag b e]; simp)⟩
    · intro t ht p hp
      rw [← hp]
      refine (rseg_off (q' := { q with pages := q.pages.set (q.see who) (splice pg at_ bs) }) hq (by simp) rfl rfl t (fun k e => ?_)).symm
      have hne : q.see who ≠ k := fun e2 => ht (by rw [e, e2])
      simp [List.getElem?_set, hne]
    · intro p hp
      rw [rspec_m _ _ (.inr (.inr rfl)), seg_on hq (p := splice pg at_ bs) (by simp [List.getElem?_set, hsee])] at hp
      injection hp with hp
      rw [← hp, hsl]
set_option maxRecDepth 100000 in
set_option maxHeartbeats 4000000 in
theorem r_write_any {w : World} {g : Nat} {s : MS} {va : Tg → Value} {T : Nat → Option Tg} (h : MemR w g s va T) (who : Int) (area at_ : Nat) {bA : Option Addr} {m : Nat} (c : Nat) {bs : List Int} (hr : Rd w bA m bs) (hd : ∀ ad, bA = some ad → 0 < m → T ad.block = none) (ha : area < 256) (hat : at_ < 4294967296) (hm : m ≤ 100000) :
    Calls Try.prog 15 #[.pointer (some ⟨g, 0, none⟩), .int .u8 who, .int .u8 (area : Int), .int .u32 (at_ : Int), .slice bA m c] w fun e w' => e = .returned (.int .i64 (s.wre who area at_ m)) ∧ MemR w' g (s.wr who area at_ bs) va T ∧ Kept (fun b => T b ≠ none) w w' := by
  have hlen := hr.len
  have hwr0 : s.wre who area at_ m ≠ 0 → s.wr who area at_ bs = s := fun h => by unfold MS.wr; rw [hlen, if_neg h]
  by_cases hw : who = 1 ∨ who = 2
  · have hw1 : ¬ who < 1 := by omega
    have hw2 : ¬ 2 < who := by omega
    have hne : ¬ (¬ (who = 1 ∨ who = 2) ∨ (m : Int) < 0) := fun h => h.elim (fun h => h hw) (fun h => by omega)
    by_cases h3 : area ≤ s.segs.length
    · have hL := vb_len h.ok who area
      have hO := rb_own h who h3
      obtain ⟨A, cc, hv, hLc, hcm⟩ := own_form hO
      obtain ⟨b, hb⟩ : ∃ b, (!s.may who area) = b := ⟨_, rfl⟩
      have HA := Lib.hid (r_area_yes h hw ha h3 hv hb)
      obtain ⟨L, hLE⟩ : ∃ L, L = (s.vb who area).length := ⟨_, rfl⟩
      rw [← hLE] at HA hL hLc
      by_cases h5 : L < m
      · have he0 : s.err who area at_ m = 80 := by unfold MS.err; rw [if_neg hne, if_neg (by omega), if_pos (by omega)]
        have he : s.wre who area at_ m = 80 := by unfold MS.wre; rw [if_pos (by omega)]; exact he0
        rw [hwr0 (by omega), he]
        have d1 : (L : Int) < m := by omega
        have HH := Lib.hid h
        clear hwr0 he0 he hw h hne hO hv hcm hb hLE h3 hlen hr hd
        go_enter Try.func15, Try.ntmps15
        go_wp2_with (go_at_call 29; (refine HA.out.mono ?_); rintro e w1 ⟨rfl, rfl⟩)
        go_ret
        exact ⟨rfl, HH.out, Kept.refl _ _⟩
      · have d1 : ¬ (L : Int) < m := by omega
        obtain ⟨z, hz⟩ : ∃ z, z = L - m := ⟨_, rfl⟩
        have hzI : (L : Int) - m = (z : Int) := by omega
        have z63 : z < 9223372036854775808 := by omega
        have a63 : at_ < 9223372036854775808 := by omega
        by_cases h6 : L < at_ + m
        · have he0 : s.err who area at_ m = 80 := by unfold MS.err; rw [if_neg hne, if_neg (by omega), if_pos (by omega)]
          have he : s.wre who area at_ m = 80 := by unfold MS.wre; rw [if_pos (by omega)]; exact he0
          rw [hwr0 (by omega), he]
          have d2 : (z : Int) < at_ := by omega
          have HH := Lib.hid h
          clear hwr0 he0 he hw h hne hO hv hcm hb hLE h3 hlen hr hd hz
          have uz := wri z z63
          have ua := wri at_ a63
          clear z63 a63
          go_enter Try.func15, Try.ntmps15
          go_wp2_with (go_at_call 29; (refine HA.out.mono ?_); rintro e w1 ⟨rfl, rfl⟩)
          go_ret
          exact ⟨rfl, HH.out, Kept.refl _ _⟩
        · have he0 : True := trivial
          have he : s.err who area at_ m = 0 := by unfold MS.err; rw [if_neg hne, if_neg (by omega), if_neg (by omega)]
          have d2 : ¬ (z : Int) < at_ := by omega
          by_cases h8 : s.may who area = false ∧ 0 < m
          · have hre : s.wre who area at_ m = 81 := by unfold MS.wre; rw [if_neg (fun h => h he), if_pos h8]
            rw [hwr0 (by omega), hre]
            have hbt : b = true := by rw [← hb, h8.1]; rfl
            subst hbt
            have m0 : (0 : Int) < m := by omega
            have HH := Lib.hid h
            clear hwr0 he0 he hw h hne hO hv hcm hb hLE h3 hlen hr hd hz h8 hre
            have uz := wri z z63
            have ua := wri at_ a63
            clear z63 a63
            go_enter Try.func15, Try.ntmps15
            go_wp2_with (go_at_call 29; (refine HA.out.mono ?_); rintro e w1 ⟨rfl, rfl⟩)
            go_ret
            exact ⟨rfl, HH.out, Kept.refl _ _⟩
          · have hre : s.wre who area at_ m = 0 := by unfold MS.wre; rw [if_neg (fun h => h he), if_neg h8]
            have hwr : s.wr who area at_ bs = s.put who area at_ bs := by unfold MS.wr; rw [hlen, if_pos hre]
            rw [hwr, hre]
            have hbm : b = false ∨ (b = true ∧ ¬ (0 : Int) < m) := by
              rcases hmy : s.may who area with _ | _
              · exact .inr ⟨by rw [← hb, hmy]; rfl, fun h => h8 ⟨hmy, by omega⟩⟩
              · exact .inl (by rw [← hb, hmy]; rfl)
            have HH := Lib.hid h
            have HR := Lib.hid hr
            have HD := Lib.hid hd
            have HO := Lib.hid hO
            have HV := Lib.hid hv
            have HL := Lib.hid hLE
            have hfit : at_ + m ≤ L := by omega
            have L10 : L ≤ 1024 := hL
            have h3' := Lib.hid h3
            have htagT : ∀ b, (va (s.vt who area)).ownBlock = some b → T b ≠ none := fun b e => by
              have hv' : ∃ p, rspec s va (s.vt who area) = some p := by
                unfold MS.vt
                by_cases h0 : area = 0
                · rw [if_pos h0]; exact ⟨_, rfl⟩
                · rw [if_neg h0]
                  obtain ⟨q, hq⟩ : ∃ q, s.segs[area - 1]? = some q := ⟨_, List.getElem?_eq_getElem (by omega)⟩
                  rw [hq]
                  have hs := (h.ok.g q (List.mem_of_getElem? hq)).see who
                  exact ⟨_, by simp [rspec, mspec, hq, List.getElem?_eq_getElem hs]; rfl⟩
              obtain ⟨p, hp⟩ := hv'
              rw [h.O.tag _ p hp b e]; simp
            have HTG := Lib.hid htagT
            clear hwr0 he0 he hw h hne hO hv hcm hb hLE h3 hr hd hz h8 hre hwr htagT
            have uz := wri z z63
            have ua := wri at_ a63
            clear z63
            have HLN := Lib.hid hlen
            clear hlen
            go_enter Try.func15, Try.ntmps15
            go_upto_region 6 with (go_at_call 29; (refine HA.out.mono ?_); rintro e w1 ⟨rfl, rfl⟩)
            clear uz d2 hzI d1 hw1 hw2
            rcases hbm with rfl | ⟨rfl, hm0⟩
            · go_wp2
              go_loopw [14] (fun v wq => ∃ (k : Nat), v = .int .i64 k ∧ k ≤ m ∧ wq.ownsRow 0 5 1 (va (s.vt who area)) (s.vb who area).length (splice (u8s (s.vb who area)) at_ ((u8s bs).take k)) ∧ w.grownBy wq (va (s.vt who area)).ownBlock) (fun v _ => m - (intOf v).toNat)
              case atStart => exact ⟨0, rfl, Nat.zero_le _, by simpa [splice] using HO.out, ⟨rfl, rfl, rfl, Nat.le_refl _, fun _ _ _ => rfl⟩⟩
              case round =>
                obtain ⟨k, rfl, hk, own, gr⟩ := hrel
                by_cases hlt : k < m
                · have hkm : (k : Int) < m := by omega
                  have hml : bs.length = m := HLN.out
                  have kp : Kept (fun b => T b ≠ none) w wr := .of_grown gr (fun b e => HTG.out b e)
                  obtain ⟨bb, off, hbA, _, hcell⟩ := (HR.out.kept kp (fun ad e h => h (HD.out ad e (by omega)))).cell hlt
                  obtain ⟨x, hx⟩ : ∃ x, x = bs.getD k 0 := ⟨_, rfl⟩
                  have hxk : (u8s bs)[k]? = some (.int .u8 x) := by rw [hx]; simp [u8s, List.getD_eq_getElem?_getD, List.getElem?_eq_getElem (show k < bs.length by omega)]
                  rw [← hx] at hcell
                  obtain ⟨B, c2, e, own2, gr2, hfz, hc, hBl⟩ := own_set own (i := at_ + k) (by have := HL.out; omega) (.int .u8 x)
                  rw [splice_step hxk (by simp [u8s, hml]; have := HL.out; omega)] at own2
                  rw [HV.out] at e
                  injection e with e1 e2 e3
                  have hcu : ∃ u, wr.cell? ⟨B, at_ + k, none⟩ = some u := by
                    rw [hc]
                    exact ⟨_, List.getElem?_eq_getElem (by have h1 := own.1; have := HL.out; omega)⟩
                  obtain ⟨u, hu⟩ := hcu
                  obtain ⟨z, hz⟩ : ∃ z, z = at_ + k := ⟨_, rfl⟩
                  rw [← hz] at hu hfz own2 gr2
                  have hzI : (at_ : Int) + k = (z : Int) := by omega
                  have hzl : z < L := by omega
                  have hzl2 : (z : Int) < L := by omega
                  have z63 : z < 9223372036854775808 := by omega
                  have HOW := Lib.hid own2
                  have HG2 := Lib.hid gr2
                  have HG1 := Lib.hid gr
                  have HE := Lib.hid (show (va (s.vt who area)).ownBlock = some B by rw [HV.out, e1]; rfl)
                  subst e1 hbA
                  clear own own2 gr gr2 kp hx hxk hc hz e2 e3 hml
                  have uz := wri z z63
                  clear z63
                  go_wp2
                  go_roundw
                  case rel => exact ⟨k + 1, by go_num, by omega, HOW.out, gtrans HG1.out (by rw [HE.out]; exact HG2.out)⟩
                  case measure => simp [intOf]; omega
                · obtain rfl : k = m := by omega
                  have hml : bs.length = k := HLN.out
                  rw [List.take_of_length_le (by simp [u8s, hml])] at own
                  have hres := rput_mem HH.out who h3'.out HR.out.byts (by rw [hml]; have := HL.out; omega) own gr
                  have HRS := Lib.hid hres
                  clear own gr hres hml
                  go_wp2
                  go_ret
                  exact ⟨rfl, HRS.out⟩
            · go_wp2
              go_loopw [14] (fun v wq => ∃ (k : Nat), v = .int .i64 k ∧ k ≤ m ∧ wq.ownsRow 0 5 1 (va (s.vt who area)) (s.vb who area).length (splice (u8s (s.vb who area)) at_ ((u8s bs).take k)) ∧ w.grownBy wq (va (s.vt who area)).ownBlock) (fun v _ => m - (intOf v).toNat)
              case atStart => exact ⟨0, rfl, Nat.zero_le _, by simpa [splice] using HO.out, ⟨rfl, rfl, rfl, Nat.le_refl _, fun _ _ _ => rfl⟩⟩
              case round =>
                obtain ⟨k, rfl, hk, own, gr⟩ := hrel
                by_cases hlt : k < m
                · omega
                · obtain rfl : k = m := by omega
                  have hml : bs.length = k := HLN.out
                  rw [List.take_of_length_le (by simp [u8s, hml])] at own
                  have hres := rput_mem HH.out who h3'.out HR.out.byts (by rw [hml]; have := HL.out; omega) own gr
                  have HRS := Lib.hid hres
                  clear own gr hres hml
                  go_wp2
                  go_ret
                  exact ⟨rfl, HRS.out⟩
    · have he0 : s.err who area at_ m = 80 := by unfold MS.err; rw [if_neg hne, if_pos (by omega)]
      have he : s.wre who area at_ m = 80 := by unfold MS.wre; rw [if_pos (by omega)]; exact he0
      rw [hwr0 (by omega), he]
      have HA := Lib.hid (r_area_none h hw ha h3)
      have HH := Lib.hid h
      clear hwr0 he0 he hw h hne h3 hlen hr hd
      go_enter Try.func15, Try.ntmps15
      go_wp2_with (go_at_call 29; (refine HA.out.mono ?_); rintro e w1 ⟨rfl, rfl⟩)
      go_ret
      exact ⟨rfl, HH.out, Kept.refl _ _⟩
  · have he0 : s.err who area at_ m = 1 := by unfold MS.err; rw [if_pos (.inl hw)]
    have he : s.wre who area at_ m = 1 := by unfold MS.wre; rw [if_pos (by omega)]; exact he0
    rw [hwr0 (by omega), he]
    have HH := Lib.hid h
    by_cases hw1 : who < 1
    · clear hwr0 he0 he hw h hlen hr hd
      go_enter Try.func15, Try.ntmps15
      go_wp2
      go_ret
      exact ⟨rfl, HH.out, Kept.refl _ _⟩
    · have hw2 : 2 < who := by omega
      clear hwr0 he0 he hw h hlen hr hd
      go_enter Try.func15, Try.ntmps15
      go_wp2
      go_ret
      exact ⟨rfl, HH.out, Kept.refl _ _⟩
end Go.Proofs.Ytjgmnbfadnlikaa
